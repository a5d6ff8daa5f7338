import PyProof.Rows.All
import Wide.All
import OpenK.AllK
import Wide.FinOn
import HandS.ForMost
import HandS.ForExc
import HandS.Evl
import HandS.IsInst
import HandS.Wide
import HandS.TupAny
import HandS.Flow
import HandS.Style
import HandS.ExcValue
import HandS.ExcIs
import HandS.TupMul
import HandS.TupLe
import HandS.Iter
import HandS.ExcCtx
import PyProof.ReprRoads
import KE.KRevSl
import PyProof.ReprLen
import HandS.HotCalls
import HandS.SetFor
import HandS.SortInts
import HandS.Strs
import HandS.Sort
import HandS.Zip
import HandS.TryMany
import HandS.Star
import KE.GoesEnum
import KE.GoesMore
import KE.KTupSum
import HandS.TupSets
import HandS.Dict
import HandS.More
import KE.KSortTupUse
import HandS.DictComp
import HandS.FStr
import HandS.NoneIn
import PyProof.Rows.SortShellAny
import PySem.Challenge.RW_fairarcs_k10_ranges_of_large_rings
set_option Elab.async false
set_option linter.all false
set_option maxRecDepth 100000
set_option maxHeartbeats 4000000
/-! # A data layer over the hand layer: values as data, lists that are changed as cells of a store -/
namespace DL
open PySem PySem.Spec PyProof.Rows L2 Evl

/-- data: a value with what hangs on it; scr: the script; obj: a thing of a known type; opq: any value -/
inductive D where
  | non | bl (b : Bool) | int (i : Int) | str (x : Str) | lst (xs : List D) | tup (xs : List D) | scr (ns : List Int) | obj (t : Value) (v : V) | opq (v : V) | fdic (ks : List Int) (ds : List D)

/-- an own exception that is held: made, or caught -/
def ExK (cls : Value) (a : Addr) : HO := .ext fun h => ∃ (oe : Obj) (vs : Array Value), h.get? a = some oe ∧ oe.cls = cls ∧ oe.dict = none ∧ oe.data = .fields vs
theorem exK_ok {P : Program} {w : World} {H : Hp} {h : Heap} {a : Addr} {cls : Value} {oe : Obj} {vs : Array Value} (e : h.get? a = some oe) (c : oe.cls = cls) (d : oe.dict = none) (f : oe.data = .fields vs) : ObjOk P w H h a (ExK cls a) :=
  ⟨⟨oe, vs, e, c, d, f⟩, ⟨oe, e⟩, fun _ _ ⟨o, v, q, r⟩ k => ⟨o, v, k o q, r⟩⟩
/-- a thing's type; an own exception held as a value too -/
inductive TyD (K : PySem.W.Frag) (H : Hp) : V → Value → Prop
  | x {v : V} {t : Value} : TyX K H v t → TyD K H v t
  | exc {a C : Addr} : H a = some (ExK (.ref C) a) → ExcC K C → TyD K H (.ref a) (.ref C)
/-- a dict of ints -/
def kvI (ks : List Int) (vs : List V) : List (Key × V) := (ks.zip vs).map fun p => (Sum.inl p.1, p.2)
mutual
inductive Dn (K : PySem.W.Frag) (G : Hp) : V → D → Prop
  | non : Dn K G .non .non
  | bl (b : Bool) : Dn K G (.bl b) (.bl b)
  | int (i : Int) : Dn K G (.int i) (.int i)
  | str (x : Str) : Dn K G (.str x) (.str x)
  | lst {a : Addr} {vs : List V} {xs : List D} : G a = some (.lst vs) → DnAll K G vs xs → Dn K G (.ref a) (.lst xs)
  | tup {a : Addr} {vs : List V} {xs : List D} : SqT K G a vs → DnAll K G vs xs → Dn K G (.ref a) (.tup xs)
  | scr {a : Addr} {ns : List Int} : SqL K G a (ns.map V.int) → Dn K G (.ref a) (.scr ns)
  | obj {t : Value} {v : V} : TyD K G v t → (t = .type "dict" → ∃ a, v = .ref a ∧ G a = some (.dT [])) → Dn K G v (.obj t v)
  | opq (v : V) : Dn K G v (.opq v)
  | fdic {a : Addr} {o : Obj} {ks : List Int} {vs : List V} {xs : List D} : G a = some (.frz o (.dK (kvI ks vs))) → vs.length = ks.length → DnAll K G vs xs → Dn K G (.ref a) (.fdic ks xs)
inductive DnAll (K : PySem.W.Frag) (G : Hp) : List V → List D → Prop
  | nil : DnAll K G [] []
  | cons {v : V} {vs : List V} {x : D} {xs : List D} : Dn K G v x → DnAll K G vs xs → DnAll K G (v :: vs) (x :: xs)
end

theorem tyOf_mono {K : PySem.W.Frag} {G G' : Hp} (e : Ex G G') {v : V} {t : Value} (h : TyOf K G v t) : TyOf K G' v t := by
  cases h with
  | non => exact .non
  | bl b => exact .bl b
  | int i => exact .int i
  | str x => exact .str x
  | flt x => exact .flt x
  | lst h => exact .lst (e _ _ h)
  | frz h => exact .frz (e _ _ h)
  | tup h => exact .tup (e _ _ h)
  | dK h => exact .dK (e _ _ h)
  | dT h => exact .dT (e _ _ h)
  | ins h a b c d f => exact .ins (e _ _ h) a b c d f
theorem tyX_mono {K : PySem.W.Frag} {G G' : Hp} (e : Ex G G') {v : V} {t : Value} (h : TyX K G v t) : TyX K G' v t := by
  cases h with
  | base h => exact .base (tyOf_mono e h)
  | byt b => exact .byt b
  | set h => exact .set (e _ _ h)
  | kList a b => exact .kList a b
  | kTuple a b => exact .kTuple a b
  | kDict a b => exact .kDict a b
  | fTuple h => exact .fTuple (e _ _ h)
  | fDict h => exact .fDict (e _ _ h)

theorem tyD_mono {K : PySem.W.Frag} {G G' : Hp} (e : Ex G G') {v : V} {t : Value} (h : TyD K G v t) : TyD K G' v t := by
  cases h with
  | x h => exact .x (tyX_mono e h)
  | exc h c => exact .exc (e _ _ h) c
mutual
theorem Dn.mono {K : PySem.W.Frag} {G G' : Hp} (e : Ex G G') : ∀ {v : V} {d : D}, Dn K G v d → Dn K G' v d
  | _, _, .non => .non
  | _, _, .bl b => .bl b
  | _, _, .int i => .int i
  | _, _, .str x => .str x
  | _, _, .lst h a => .lst (e _ _ h) (DnAll.mono e a)
  | _, _, .tup h a => .tup (ex_t e h) (DnAll.mono e a)
  | _, _, .scr h => .scr (ex_l e h)
  | _, _, .obj h i => .obj (tyD_mono e h) fun z => let ⟨a, e1, e2⟩ := i z; ⟨a, e1, e _ _ e2⟩
  | _, _, .opq v => .opq v
  | _, _, .fdic h l a => .fdic (e _ _ h) l (DnAll.mono e a)
theorem DnAll.mono {K : PySem.W.Frag} {G G' : Hp} (e : Ex G G') : ∀ {vs : List V} {xs : List D}, DnAll K G vs xs → DnAll K G' vs xs
  | _, _, .nil => .nil
  | _, _, .cons h t => .cons (Dn.mono e h) (DnAll.mono e t)
end
section
variable {K : PySem.W.Frag} {G : Hp}
theorem DnAll.length : ∀ {vs : List V} {xs : List D}, DnAll K G vs xs → vs.length = xs.length
  | _, _, .nil => rfl
  | _, _, .cons _ t => by rw [List.length_cons, List.length_cons, DnAll.length t]
theorem DnAll.append : ∀ {vs ws : List V} {xs ys : List D}, DnAll K G vs xs → DnAll K G ws ys → DnAll K G (vs ++ ws) (xs ++ ys)
  | _, _, _, _, .nil, s => s
  | _, _, _, _, .cons h t, s => .cons h (DnAll.append t s)
theorem DnAll.get : ∀ {vs : List V} {xs : List D} {i : Nat} {x : D}, DnAll K G vs xs → xs[i]? = some x → ∃ v, vs[i]? = some v ∧ Dn K G v x
  | _, _, _, _, .nil, e => by simp at e
  | _, _, 0, _, .cons h _, e => by
    simp at e
    subst e
    exact ⟨_, rfl, h⟩
  | _, _, i + 1, x, .cons _ t, e => by
    obtain ⟨u, h1, h2⟩ := DnAll.get (i := i) (x := x) t (by simpa using e)
    exact ⟨u, by simpa using h1, h2⟩
theorem DnAll.getV : ∀ {vs : List V} {xs : List D} {i : Nat} {v : V}, DnAll K G vs xs → vs[i]? = some v → ∃ x, xs[i]? = some x ∧ Dn K G v x
  | _, _, _, _, .nil, e => by simp at e
  | _, _, 0, _, .cons h _, e => by
    simp at e
    subst e
    exact ⟨_, rfl, h⟩
  | _, _, i + 1, x, .cons _ t, e => by
    obtain ⟨u, h1, h2⟩ := DnAll.getV (i := i) (v := x) t (by simpa using e)
    exact ⟨u, by simpa using h1, h2⟩
theorem DnAll.set {v : V} {x : D} (h : Dn K G v x) : ∀ {vs : List V} {xs : List D} (i : Nat), DnAll K G vs xs → DnAll K G (vs.set i v) (xs.set i x)
  | _, _, _, .nil => .nil
  | _, _, 0, .cons _ t => .cons h t
  | _, _, i + 1, .cons q t => .cons q (DnAll.set h i t)
theorem DnAll.take : ∀ {vs : List V} {xs : List D} (n : Nat), DnAll K G vs xs → DnAll K G (vs.take n) (xs.take n)
  | _, _, 0, _ => .nil
  | _, _, _ + 1, .nil => .nil
  | _, _, n + 1, .cons h t => .cons h (DnAll.take n t)
theorem DnAll.drop : ∀ {vs : List V} {xs : List D} (n : Nat), DnAll K G vs xs → DnAll K G (vs.drop n) (xs.drop n)
  | _, _, 0, h => h
  | _, _, _ + 1, .nil => .nil
  | _, _, n + 1, .cons _ t => DnAll.drop n t
theorem DnAll.reverse : ∀ {vs : List V} {xs : List D}, DnAll K G vs xs → DnAll K G vs.reverse xs.reverse
  | _, _, .nil => .nil
  | _, _, .cons h t => by
    rw [List.reverse_cons, List.reverse_cons]
    exact (DnAll.reverse t).append (.cons h .nil)
theorem DnAll.rep {vs : List V} {xs : List D} (h : DnAll K G vs xs) : ∀ n : Nat, DnAll K G (List.replicate n vs).flatten (List.replicate n xs).flatten
  | 0 => .nil
  | n + 1 => by
    rw [List.replicate_succ, List.replicate_succ, List.flatten_cons, List.flatten_cons]
    exact h.append (DnAll.rep h n)
theorem DnAll.ints : ∀ {vs : List V} {ns : List Int}, DnAll K G vs (ns.map D.int) → vs = ns.map V.int
  | [], [], _ => rfl
  | [], _ :: _, h => by cases h
  | _ :: _, [], h => by cases h
  | _ :: _, _ :: _, .cons h t => by
    cases h
    rw [DnAll.ints t]
    rfl
theorem DnAll.strs : ∀ {vs : List V} {ns : List Str}, DnAll K G vs (ns.map D.str) → vs = ns.map V.str
  | [], [], _ => rfl
  | [], _ :: _, h => by cases h
  | _ :: _, [], h => by cases h
  | _ :: _, _ :: _, .cons h t => by
    cases h
    rw [DnAll.strs t]
    rfl
theorem DnAll.bls : ∀ {vs : List V} {ns : List Bool}, DnAll K G vs (ns.map D.bl) → vs = ns.map V.bl
  | [], [], _ => rfl
  | [], _ :: _, h => by cases h
  | _ :: _, [], h => by cases h
  | _ :: _, _ :: _, .cons h t => by
    cases h
    rw [DnAll.bls t]
    rfl
theorem DnAll.ofInts : ∀ ns : List Int, DnAll K G (ns.map V.int) (ns.map D.int)
  | [] => .nil
  | n :: ns => .cons (.int n) (DnAll.ofInts ns)
end

/-! ### the store of cells that are changed -/
inductive OC where
  | lst (xs : List D)
  | dic (kds : List (Int × D))
abbrev Ow := Addr → Option OC
def OcOk (K : PySem.W.Frag) (G H : Hp) (p : Addr) : OC → Prop
  | .lst xs => ∃ vs, H p = some (.lst vs) ∧ DnAll K G vs xs
  | .dic kds => ∃ vs, H p = some (.dK (kvI (kds.map (·.1)) vs)) ∧ DnAll K G vs (kds.map (·.2))
theorem OcOk.keep {K : PySem.W.Frag} {G G' H H' : Hp} {p : Addr} {c : OC} (h : OcOk K G H p c) (e : Ex G G') (hp : H' p = H p) : OcOk K G' H' p c := by
  cases c with
  | lst xs =>
    obtain ⟨vs, a, b⟩ := h
    exact ⟨vs, by rw [hp]; exact a, b.mono e⟩
  | dic kds =>
    obtain ⟨vs, a, b⟩ := h
    exact ⟨vs, by rw [hp]; exact a, b.mono e⟩
theorem OcOk.there {K : PySem.W.Frag} {G H : Hp} {p : Addr} {c : OC} (h : OcOk K G H p c) : H p ≠ none := by
  cases c with
  | lst xs =>
    obtain ⟨vs, a, _⟩ := h
    rw [a]
    exact fun z => by cases z
  | dic kds =>
    obtain ⟨vs, a, _⟩ := h
    rw [a]
    exact fun z => by cases z
def oset (O : Ow) (p : Addr) (c : OC) : Ow := fun b => if b = p then some c else O b
theorem oset_same {O : Ow} {p : Addr} {c : OC} : oset O p c p = some c := by
  unfold oset
  rw [if_pos rfl]
theorem oset_ne {O : Ow} {p q : Addr} {c : OC} (h : q ≠ p) : oset O p c q = O q := by
  unfold oset
  rw [if_neg h]
theorem oset_oset {O : Ow} {p : Addr} {c c' : OC} : oset (oset O p c) p c' = oset O p c' := by
  funext b
  unfold oset
  split <;> rfl
structure Ok (K : PySem.W.Frag) (G H : Hp) (O : Ow) : Prop where
  ex : Ex G H
  own : ∀ p c, O p = some c → G p = none ∧ OcOk K G H p c
structure Stp (G H : Hp) (O : Ow) (G' H' : Hp) (O' : Ow) : Prop where
  g : Ex G G'
  gn : ∀ p, H p ≠ none → G p = none → O p = none → G' p = none
  h : ∀ p o, H p = some o → O p = none → H' p = some o
  hd : ∀ p, H p ≠ none → H' p ≠ none
  o : ∀ p, H p ≠ none → O p = none → O' p = none
def Sub (O O' : Ow) : Prop := ∀ p c, O p = some c → O' p = some c
section
variable {K : PySem.W.Frag} {G H G' H' G2 H2 : Hp} {O O' O2 : Ow}
theorem Stp.refl : Stp G H O G H O := ⟨Ex.refl G, fun _ _ h _ => h, fun _ _ h _ => h, fun _ h => h, fun _ _ h => h⟩
theorem Stp.trans (a : Stp G H O G' H' O') (b : Stp G' H' O' G2 H2 O2) : Stp G H O G2 H2 O2 where
  g := a.g.trans b.g
  gn := fun p h1 h2 h3 => b.gn p (a.hd p h1) (a.gn p h1 h2 h3) (a.o p h1 h3)
  h := fun p o h1 h2 => b.h p o (a.h p o h1 h2) (a.o p (fun z => by rw [z] at h1; cases h1) h2)
  hd := fun p h => b.hd p (a.hd p h)
  o := fun p h1 h2 => b.o p (a.hd p h1) (a.o p h1 h2)
theorem Ok.there (k : Ok K G H O) {p : Addr} {c : OC} (h : O p = some c) : H p ≠ none := by
  exact (k.own p c h).2.there
theorem Ok.none_of (k : Ok K G H O) {p : Addr} (h : H p = none) : O p = none := by
  cases e : O p with
  | none => rfl
  | some c => exact absurd h (k.there e)
theorem Ok.gnone (k : Ok K G H O) {p : Addr} (h : H p = none) : G p = none := fresh_back k.ex h
theorem Ok.sub (k : Ok K G H O') (s : Sub O O') : Ok K G H O := ⟨k.ex, fun p c h => k.own p c (s p c h)⟩
theorem Stp.sub (a : Stp G H O G' H' O') (s : Sub O2 O') : Stp G H O G' H' O2 := ⟨a.g, a.gn, a.h, a.hd, fun p h1 h2 => by
  cases e : O2 p with
  | none => rfl
  | some c =>
    have z := s p c e
    rw [a.o p h1 h2] at z
    cases z⟩
theorem Sub.refl (O : Ow) : Sub O O := fun _ _ h => h
theorem Sub.trans {O O' O2 : Ow} (a : Sub O O') (b : Sub O' O2) : Sub O O2 := fun p c h => b p c (a p c h)
theorem Sub.new {O : Ow} {p : Addr} {c : OC} (h : O p = none) : Sub O (oset O p c) := fun q c' e => by
  rw [oset_ne (fun z => by rw [z, h] at e; cases e)]
  exact e
/-- a new object that is data at once -/
theorem frozen (k : Ok K G H O) {p : Addr} {o : HO} (hp : H p = none) : Ok K (upd G p o) (upd H p o) O ∧ Stp G H O (upd G p o) (upd H p o) O ∧ Ex G (upd G p o) := by
  have gp := k.gnone hp
  refine ⟨⟨fun a u e => ?_, fun q c h => ?_⟩, ⟨Ex.new gp, fun q h1 h2 h3 => ?_, fun q u h1 _ => ?_, fun q h1 => ?_, fun _ _ h => h⟩, Ex.new gp⟩
  · by_cases z : a = p
    · subst z
      rw [upd_same] at e ⊢
      exact e
    · rw [upd_ne z] at e ⊢
      exact k.ex a u e
  · obtain ⟨g1, g2⟩ := k.own q c h
    have hq := k.there h
    have ne : q ≠ p := fun z => hq (by rw [z]; exact hp)
    exact ⟨by rw [upd_ne ne]; exact g1, g2.keep (Ex.new gp) (upd_ne ne)⟩
  · have ne : q ≠ p := fun z => h1 (by rw [z]; exact hp)
    rw [upd_ne ne]
    exact h2
  · rw [upd_ne (ne_of_none h1 hp)]
    exact h1
  · by_cases z : q = p
    · rw [z, upd_same]
      exact fun z => by cases z
    · rw [upd_ne z]
      exact h1
/-- a new cell that will be changed -/
theorem owned (k : Ok K G H O) {p : Addr} {vs : List V} {xs : List D} (hp : H p = none) (a : DnAll K G vs xs) : Ok K G (upd H p (.lst vs)) (oset O p (.lst xs)) ∧ Stp G H O G (upd H p (.lst vs)) (oset O p (.lst xs)) := by
  have gp := k.gnone hp
  refine ⟨⟨k.ex.mut gp, fun q c h => ?_⟩, ⟨Ex.refl G, fun _ _ h _ => h, fun q u h1 _ => ?_, fun q h1 => ?_, fun q h1 h2 => ?_⟩⟩
  · by_cases z : q = p
    · subst z
      rw [oset_same] at h
      cases h
      exact ⟨gp, vs, upd_same, a⟩
    · rw [oset_ne z] at h
      obtain ⟨g1, g2⟩ := k.own q c h
      exact ⟨g1, g2.keep (Ex.refl G) (upd_ne z)⟩
  · rw [upd_ne (ne_of_none h1 hp)]
    exact h1
  · by_cases z : q = p
    · rw [z, upd_same]
      exact fun z => by cases z
    · rw [upd_ne z]
      exact h1
  · rw [oset_ne (fun z => h1 (by rw [z]; exact hp))]
    exact h2
/-- a cell is changed -/
theorem rewritten (k : Ok K G H O) {p : Addr} {c : OC} {vs : List V} {xs : List D} (hp : O p = some c) (a : DnAll K G vs xs) : Ok K G (upd H p (.lst vs)) (oset O p (.lst xs)) ∧ Stp G H O G (upd H p (.lst vs)) (oset O p (.lst xs)) := by
  have gp := (k.own p c hp).1
  refine ⟨⟨k.ex.mut gp, fun q c h => ?_⟩, ⟨Ex.refl G, fun _ _ h _ => h, fun q u h1 h2 => ?_, fun q h1 => ?_, fun q h1 h2 => ?_⟩⟩
  · by_cases z : q = p
    · subst z
      rw [oset_same] at h
      cases h
      exact ⟨gp, vs, upd_same, a⟩
    · rw [oset_ne z] at h
      obtain ⟨g1, g2⟩ := k.own q c h
      exact ⟨g1, g2.keep (Ex.refl G) (upd_ne z)⟩
  · rw [upd_ne (fun z => by rw [z, hp] at h2; cases h2)]
    exact h1
  · by_cases z : q = p
    · rw [z, upd_same]
      exact fun z => by cases z
    · rw [upd_ne z]
      exact h1
  · rw [oset_ne (fun z => by rw [z, hp] at h2; cases h2)]
    exact h2
/-- a new dict that will be changed -/
theorem ownedD (k : Ok K G H O) {p : Addr} {vs : List V} {kds : List (Int × D)} (hp : H p = none) (a : DnAll K G vs (kds.map (·.2))) : Ok K G (upd H p (.dK (kvI (kds.map (·.1)) vs))) (oset O p (.dic kds)) ∧ Stp G H O G (upd H p (.dK (kvI (kds.map (·.1)) vs))) (oset O p (.dic kds)) := by
  have gp := k.gnone hp
  refine ⟨⟨k.ex.mut gp, fun q c h => ?_⟩, ⟨Ex.refl G, fun _ _ h _ => h, fun q u h1 _ => ?_, fun q h1 => ?_, fun q h1 h2 => ?_⟩⟩
  · by_cases z : q = p
    · subst z
      rw [oset_same] at h
      cases h
      exact ⟨gp, vs, upd_same, a⟩
    · rw [oset_ne z] at h
      obtain ⟨g1, g2⟩ := k.own q c h
      exact ⟨g1, g2.keep (Ex.refl G) (upd_ne z)⟩
  · rw [upd_ne (ne_of_none h1 hp)]
    exact h1
  · by_cases z : q = p
    · rw [z, upd_same]
      exact fun z => by cases z
    · rw [upd_ne z]
      exact h1
  · rw [oset_ne (fun z => h1 (by rw [z]; exact hp))]
    exact h2
/-- a dict is changed -/
theorem rewrittenD (k : Ok K G H O) {p : Addr} {c : OC} {vs : List V} {kds : List (Int × D)} (hp : O p = some c) (a : DnAll K G vs (kds.map (·.2))) : Ok K G (upd H p (.dK (kvI (kds.map (·.1)) vs))) (oset O p (.dic kds)) ∧ Stp G H O G (upd H p (.dK (kvI (kds.map (·.1)) vs))) (oset O p (.dic kds)) := by
  have gp := (k.own p c hp).1
  refine ⟨⟨k.ex.mut gp, fun q c h => ?_⟩, ⟨Ex.refl G, fun _ _ h _ => h, fun q u h1 h2 => ?_, fun q h1 => ?_, fun q h1 h2 => ?_⟩⟩
  · by_cases z : q = p
    · subst z
      rw [oset_same] at h
      cases h
      exact ⟨gp, vs, upd_same, a⟩
    · rw [oset_ne z] at h
      obtain ⟨g1, g2⟩ := k.own q c h
      exact ⟨g1, g2.keep (Ex.refl G) (upd_ne z)⟩
  · rw [upd_ne (fun z => by rw [z, hp] at h2; cases h2)]
    exact h1
  · by_cases z : q = p
    · rw [z, upd_same]
      exact fun z => by cases z
    · rw [upd_ne z]
      exact h1
  · rw [oset_ne (fun z => by rw [z, hp] at h2; cases h2)]
    exact h2
/-- a cell becomes data -/
def odel (O : Ow) (p : Addr) : Ow := fun b => if b = p then none else O b
theorem froze (k : Ok K G H O) {p : Addr} {xs : List D} (hp : O p = some (.lst xs)) : ∃ G', Ex G G' ∧ Ok K G' H (odel O p) ∧ Stp G H O G' H (odel O p) ∧ Dn K G' (.ref p) (.lst xs) := by
  obtain ⟨gp, vs, e, a⟩ := k.own p _ hp
  have en : Ex G (upd G p (.lst vs)) := Ex.new gp
  refine ⟨upd G p (.lst vs), en, ⟨fun b u h => ?_, fun q c h => ?_⟩, ⟨en, fun q h1 h2 h3 => ?_, fun _ _ h _ => h, fun _ h => h, fun q h1 h2 => ?_⟩, .lst upd_same (DnAll.mono en a)⟩
  · by_cases z : b = p
    · subst z
      rw [upd_same] at h
      rw [e]
      exact h
    · rw [upd_ne z] at h
      exact k.ex b u h
  · have ne : q ≠ p := fun z => by
      subst z
      unfold odel at h
      rw [if_pos rfl] at h
      cases h
    unfold odel at h
    rw [if_neg ne] at h
    obtain ⟨g1, g2⟩ := k.own q c h
    exact ⟨by rw [upd_ne ne]; exact g1, g2.keep en rfl⟩
  · have ne : q ≠ p := fun z => by
      subst z
      rw [hp] at h3
      cases h3
    rw [upd_ne ne]
    exact h2
  · unfold odel
    split
    · rfl
    · exact h2
/-- a dict is locked, and becomes data -/
theorem frozeD (k : Ok K G H O) {p : Addr} {kds : List (Int × D)} (hp : O p = some (.dic kds)) : ∃ vs, H p = some (.dK (kvI (kds.map (·.1)) vs)) ∧ ∀ o : Obj, ∃ G', Ex G G' ∧ Ok K G' (upd H p (.frz o (.dK (kvI (kds.map (·.1)) vs)))) (odel O p) ∧ Stp G H O G' (upd H p (.frz o (.dK (kvI (kds.map (·.1)) vs)))) (odel O p) ∧ Dn K G' (.ref p) (.fdic (kds.map (·.1)) (kds.map (·.2))) := by
  obtain ⟨gp, vs, e, a⟩ := k.own p _ hp
  refine ⟨vs, e, fun o => ?_⟩
  have en : Ex G (upd G p (.frz o (.dK (kvI (kds.map (·.1)) vs)))) := Ex.new gp
  have hl := a.length
  rw [List.length_map] at hl
  refine ⟨upd G p (.frz o (.dK (kvI (kds.map (·.1)) vs))), en, ⟨fun b u h => ?_, fun q c h => ?_⟩, ⟨en, fun q h1 h2 h3 => ?_, fun q u h1 h2 => ?_, fun q h => ?_, fun q h1 h2 => ?_⟩, .fdic upd_same (by rw [List.length_map]; exact hl) (DnAll.mono en a)⟩
  · by_cases z : b = p
    · subst z
      rw [upd_same] at h ⊢
      exact h
    · rw [upd_ne z] at h ⊢
      exact k.ex b u h
  · have ne : q ≠ p := fun z => by
      subst z
      unfold odel at h
      rw [if_pos rfl] at h
      cases h
    unfold odel at h
    rw [if_neg ne] at h
    obtain ⟨g1, g2⟩ := k.own q c h
    exact ⟨by rw [upd_ne ne]; exact g1, g2.keep en (upd_ne ne)⟩
  · have ne : q ≠ p := fun z => by
      subst z
      rw [hp] at h3
      cases h3
    rw [upd_ne ne]
    exact h2
  · have ne : q ≠ p := fun z => by
      subst z
      rw [hp] at h2
      cases h2
    rw [upd_ne ne]
    exact h1
  · by_cases z : q = p
    · subst z
      rw [upd_same]
      exact fun z => by cases z
    · rw [upd_ne z]
      exact h
  · unfold odel
    split
    · rfl
    · exact h2
end
end DL
namespace DL
open PySem PySem.Spec PyProof.Rows L2 Evl

/-! ### the slots, by data -/
abbrev Ds := List (Option D)
structure Rep (K : PySem.W.Frag) (G : Hp) (σ : L2.St) (ds : Ds) : Prop where
  len : σ.length = ds.length
  val : ∀ (i : Nat) (d : D), ds[i]? = some (some d) → ∃ v, σ[i]? = some (some v) ∧ Dn K G v d
section
variable {K : PySem.W.Frag} {G G' H H' : Hp} {O O' : Ow} {σ σ' : L2.St} {ds ds' : Ds}
theorem Rep.mono (r : Rep K G σ ds) (e : Ex G G') : Rep K G' σ ds := ⟨r.len, fun i d h => by
  obtain ⟨v, h1, h2⟩ := r.val i d h
  exact ⟨v, h1, h2.mono e⟩⟩
theorem Rep.set (r : Rep K G σ ds) {v : V} {d : D} (h : Dn K G v d) (i : Nat) : Rep K G (σ.set i (some v)) (ds.set i (some d)) := by
  refine ⟨by rw [List.length_set, List.length_set, r.len], fun j x hj => ?_⟩
  by_cases e : i = j
  · subst e
    by_cases l : i < ds.length
    · rw [List.getElem?_set_self l] at hj
      cases hj
      refine ⟨v, ?_, h⟩
      rw [List.getElem?_set_self (by rw [r.len]; exact l)]
    · rw [List.getElem?_eq_none (by rw [List.length_set]; omega)] at hj
      cases hj
  · rw [List.getElem?_set_ne e] at hj
    obtain ⟨w, h1, h2⟩ := r.val j x hj
    exact ⟨w, by rw [List.getElem?_set_ne e]; exact h1, h2⟩
/-- less is known -/
def Less (ds' ds : Ds) : Prop := ds'.length = ds.length ∧ ∀ (i : Nat) (d : D), ds'[i]? = some (some d) → ds[i]? = some (some d)
theorem Rep.less (r : Rep K G σ ds) (l : Less ds' ds) : Rep K G σ ds' := ⟨by rw [r.len, l.1], fun i d h => r.val i d (l.2 i d h)⟩
end
def dwipe (ds : Ds) : List Nat → Ds
  | [] => ds
  | v :: vs => (dwipe ds vs).set v none
theorem rep_wipe {K : PySem.W.Frag} {G : Hp} {σ : L2.St} {ds : Ds} (r : Rep K G σ ds) : ∀ vs : List Nat, Rep K G (wipe σ vs) (dwipe ds vs)
  | [] => r
  | v :: vs => by
    have q := rep_wipe r vs
    refine ⟨by show ((wipe σ vs).set v none).length = ((dwipe ds vs).set v none).length; rw [List.length_set, List.length_set, q.len], fun i d h => ?_⟩
    have h' : ((dwipe ds vs).set v none)[i]? = some (some d) := h
    by_cases e : v = i
    · subst e
      by_cases l : v < (dwipe ds vs).length
      · rw [List.getElem?_set_self l] at h'
        cases h'
      · rw [List.getElem?_eq_none (by rw [List.length_set]; omega)] at h'
        cases h'
    · rw [List.getElem?_set_ne e] at h'
      obtain ⟨w, h1, h2⟩ := q.val i d h'
      exact ⟨w, by show ((wipe σ vs).set v none)[i]? = _; rw [List.getElem?_set_ne e]; exact h1, h2⟩
theorem wipe_set (σ : L2.St) (i : Nat) (x : Option V) : ∀ vs : List Nat, wipe (σ.set i x) vs = if i ∈ vs then wipe σ vs else (wipe σ vs).set i x
  | [] => by
    rw [if_neg (List.not_mem_nil)]
    rfl
  | v :: vs => by
    show (wipe (σ.set i x) vs).set v none = _
    rw [wipe_set σ i x vs]
    by_cases e : i = v
    · subst e
      rw [if_pos List.mem_cons_self]
      show _ = (wipe σ vs).set i none
      split
      · rfl
      · rw [List.set_set]
    · by_cases h : i ∈ vs
      · rw [if_pos h, if_pos (List.mem_cons_of_mem _ h)]
        rfl
      · rw [if_neg h, if_neg (fun z => by
          rcases List.mem_cons.mp z with z | z
          · exact e z
          · exact h z)]
        show _ = ((wipe σ vs).set v none).set i x
        rw [List.set_comm _ _ e]

/-! ### exceptions, by data -/
structure Xc where
  cls : Value
  pay : Option (Str × D) := none
def Pay (K : PySem.W.Frag) (G H : Hp) (dd : Option Addr) : Option (Str × D) → Prop
  | none => dd = none
  | some (f, x) => ∃ a v, dd = some a ∧ H a = some (.xd [(f, v)]) ∧ Dn K G v x
abbrev EX := Xc → Ds → Ow → Prop

/-! ### what follows -/
abbrev DK := D → Ow → Prop
def Cont (K : PySem.W.Frag) (G H : Hp) (O : Ow) (k : DK) (Q : VK) : Prop := ∀ d O' v G' H', k d O' → Stp G H O G' H' O' → Ok K G' H' O' → Dn K G' v d → Q v H'
def ContB (K : PySem.W.Frag) (G H : Hp) (O : Ow) (k : Bool → Ow → Prop) (Q : Bool → Hp → Prop) : Prop := ∀ b O' G' H', k b O' → Stp G H O G' H' O' → Ok K G' H' O' → Q b H'
def ContA (K : PySem.W.Frag) (G H : Hp) (O : Ow) (k : List D → Ow → Prop) (Q : List V → Hp → Prop) : Prop := ∀ xs O' vs G' H', k xs O' → Stp G H O G' H' O' → Ok K G' H' O' → DnAll K G' vs xs → Q vs H'
def ContG (K : PySem.W.Frag) (G H : Hp) (O : Ow) (k : Ds → Ow → Prop) (Q : L2.St → Hp → Prop) : Prop := ∀ ds O' σ G' H', k ds O' → Stp G H O G' H' O' → Ok K G' H' O' → Rep K G' σ ds → Q σ H'
def ContX (K : PySem.W.Frag) (G H : Hp) (O : Ow) (W : WX) (ex : EX) : Prop := ∀ c ds O' σ dd G' H', ex c ds O' → Stp G H O G' H' O' → Ok K G' H' O' → Rep K G' σ ds → Pay K G' H' dd c.pay → W c.cls dd σ H'
section
variable {K : PySem.W.Frag} {G H G' H' : Hp} {O O' : Ow}
theorem Cont.after {k : DK} {Q : VK} (c : Cont K G H O k Q) (s : Stp G H O G' H' O') : Cont K G' H' O' k Q := fun d O2 v G2 H2 a b => c d O2 v G2 H2 a (s.trans b)
theorem ContB.after {k : Bool → Ow → Prop} {Q : Bool → Hp → Prop} (c : ContB K G H O k Q) (s : Stp G H O G' H' O') : ContB K G' H' O' k Q := fun d O2 G2 H2 a b => c d O2 G2 H2 a (s.trans b)
theorem ContA.after {k : List D → Ow → Prop} {Q : List V → Hp → Prop} (c : ContA K G H O k Q) (s : Stp G H O G' H' O') : ContA K G' H' O' k Q := fun d O2 v G2 H2 a b => c d O2 v G2 H2 a (s.trans b)
theorem ContG.after {k : Ds → Ow → Prop} {Q : L2.St → Hp → Prop} (c : ContG K G H O k Q) (s : Stp G H O G' H' O') : ContG K G' H' O' k Q := fun d O2 v G2 H2 a b => c d O2 v G2 H2 a (s.trans b)
theorem ContX.after {W : WX} {ex : EX} (c : ContX K G H O W ex) (s : Stp G H O G' H' O') : ContX K G' H' O' W ex := fun d ds O2 v dd G2 H2 a b => c d ds O2 v dd G2 H2 a (s.trans b)
end

/-! ### readings by data, and what they lift to -/
abbrev DT := Ds → Ow → DK → Prop
abbrev DB := Ds → Ow → (Bool → Ow → Prop) → Prop
abbrev DA := Ds → Ow → (List D → Ow → Prop) → Prop
def LiftE (K : PySem.W.Frag) (W : WX) (ex : EX) (te : TE) (t : DT) : Prop := ∀ ds O k, t ds O k → ∀ G H σ Q, Ok K G H O → Rep K G σ ds → ContX K G H O W ex → Cont K G H O k Q → te σ H Q
def LiftB (K : PySem.W.Frag) (W : WX) (ex : EX) (te : TT) (t : DB) : Prop := ∀ ds O k, t ds O k → ∀ G H σ Q, Ok K G H O → Rep K G σ ds → ContX K G H O W ex → ContB K G H O k Q → te σ H Q
def LiftA (K : PySem.W.Frag) (W : WX) (ex : EX) (te : TA) (t : DA) : Prop := ∀ ds O k, t ds O k → ∀ G H σ Q, Ok K G H O → Rep K G σ ds → ContX K G H O W ex → ContA K G H O k Q → te σ H Q
def DE (X : Cx) (W : WX) (ex : EX) (e : Expr) (t : DT) : Prop := ∃ te, PE X e te ∧ LiftE X.K W ex te t
def DTe (X : Cx) (W : WX) (ex : EX) (e : Expr) (t : DB) : Prop := ∃ te, PT X e te ∧ LiftB X.K W ex te t
def DW (X : Cx) (W : WX) (ex : EX) (e : Expr) (t : DB) : Prop := ∃ te, PW X e te ∧ LiftB X.K W ex te t
def DAs (X : Cx) (W : WX) (ex : EX) (es : List Expr) (t : DA) : Prop := ∃ te, PA X es te ∧ LiftA X.K W ex te t

def dVar (i : Nat) : DT := fun ds O k => match ds[i]? with
  | some (some d) => k d O
  | _ => False
def dC (d : D) : DT := fun _ O k => k d O
def dNil : DA := fun _ O k => k [] O
def dCons (t : DT) (u : DA) : DA := fun ds O k => t ds O fun x O1 => u ds O1 fun xs O2 => k (x :: xs) O2
abbrev DR2 := D → D → Ow → DK → Prop
abbrev DR1 := D → Ow → DK → Prop
abbrev DRC := List D → Ow → DK → Prop
def dOp (r : DR2) (t u : DT) : DT := fun ds O k => t ds O fun x O1 => u ds O1 fun y O2 => r x y O2 k
def dUn (r : DR1) (t : DT) : DT := fun ds O k => t ds O fun x O1 => r x O1 k
def dCB (r : DRC) (t : DA) : DT := fun ds O k => t ds O fun xs O1 => r xs O1 k
def LiftR (K : PySem.W.Frag) (r : R2) (q : DR2) : Prop := ∀ x y O k, q x y O k → ∀ G H v u Q, Ok K G H O → Dn K G v x → Dn K G u y → Cont K G H O k Q → r v u H Q
def LiftU (K : PySem.W.Frag) (r : V → Hp → VK → Prop) (q : DR1) : Prop := ∀ x O k, q x O k → ∀ G H v Q, Ok K G H O → Dn K G v x → Cont K G H O k Q → r v H Q
def LiftC (K : PySem.W.Frag) (r : List V → Hp → VK → Prop) (q : DRC) : Prop := ∀ xs O k, q xs O k → ∀ G H vs Q, Ok K G H O → DnAll K G vs xs → Cont K G H O k Q → r vs H Q
section
variable {K : PySem.W.Frag} {W : WX} {ex : EX}
theorem l_var (i : Nat) : LiftE K W ex (tVar i) (dVar i) := by
  intro ds O k h G H σ Q ok r _ c
  unfold dVar at h
  split at h
  · rename_i d e
    obtain ⟨v, e1, h1⟩ := r.val i d e
    exact ⟨v, e1, c d O v G H h Stp.refl ok h1⟩
  · exact h.elim
theorem l_c {v : V} {d : D} (hd : ∀ G, Dn K G v d) : LiftE K W ex (tC v) (dC d) := fun ds O k h G H σ Q ok _ _ c => c d O v G H h Stp.refl ok (hd G)
theorem l_op {ta tb : TE} {t u : DT} {r : R2} {q : DR2} (hr : LiftR K r q) (ha : LiftE K W ex ta t) (hb : LiftE K W ex tb u) : LiftE K W ex (tOp r ta tb) (dOp q t u) := fun ds O k h G H σ Q ok rp x c =>
  ha ds O _ h G H σ _ ok rp x fun d O1 v G1 H1 h1 s1 ok1 d1 => hb ds O1 _ h1 G1 H1 σ _ ok1 (rp.mono s1.g) (x.after s1) fun e O2 w G2 H2 h2 s2 ok2 d2 =>
    hr d e O2 k h2 G2 H2 v w Q ok2 (d1.mono s2.g) d2 (c.after (s1.trans s2))
theorem l_un {ta : TE} {t : DT} {r : V → Hp → VK → Prop} {q : DR1} (hr : LiftU K r q) (ha : LiftE K W ex ta t) : LiftE K W ex (tUn r ta) (dUn q t) := fun ds O k h G H σ Q ok rp x c =>
  ha ds O _ h G H σ _ ok rp x fun d O1 v G1 H1 h1 s1 ok1 d1 => hr d O1 k h1 G1 H1 v Q ok1 d1 (c.after s1)
theorem l_nil : LiftA K W ex tNil dNil := fun ds O k h G H σ Q ok _ _ c => c [] O [] G H h Stp.refl ok .nil
theorem l_cons {ta : TE} {tr : TA} {t : DT} {u : DA} (ha : LiftE K W ex ta t) (hr : LiftA K W ex tr u) : LiftA K W ex (tCons ta tr) (dCons t u) := fun ds O k h G H σ Q ok rp x c =>
  ha ds O _ h G H σ _ ok rp x fun d O1 v G1 H1 h1 s1 ok1 d1 => hr ds O1 _ h1 G1 H1 σ _ ok1 (rp.mono s1.g) (x.after s1) fun xs O2 vs G2 H2 h2 s2 ok2 d2 =>
    c _ O2 _ G2 H2 h2 (s1.trans s2) ok2 (.cons (d1.mono s2.g) d2)
theorem l_cb {ta : TA} {t : DA} {r : List V → Hp → VK → Prop} {q : DRC} (hr : LiftC K r q) (ha : LiftA K W ex ta t) : LiftE K W ex (tCB r ta) (dCB q t) := fun ds O k h G H σ Q ok rp x c =>
  ha ds O _ h G H σ _ ok rp x fun xs O1 vs G1 H1 h1 s1 ok1 d1 => hr xs O1 k h1 G1 H1 vs Q ok1 d1 (c.after s1)
end

/-! ### names, constants, displays -/
section
variable {X : Cx} {W : WX} {ex : EX} {a b c : Expr} {pos : Pos} {t u : DT}
theorem de_var (i : Nat) {x : Str} (hN : X.N[i]? = some x := by rfl) (hv : Vis X.env.scope x := by first | exact Or.inl rfl | exact Or.inr (Or.inl rfl) | exact Or.inr (Or.inr rfl)) (hd : (x == ("__debug__" : Str)) = false := by decide)
    (hcd : (x == ("__classdict__" : Str)) = false := by decide) : DE X W ex (.Name x pos) (dVar i) := ⟨_, pe_var hN hv hd hcd, l_var i⟩
theorem de_int {i j} : DE X W ex (.Constant (.int i) j pos) (dC (.int i)) := ⟨_, pe_int, l_c fun _ => .int i⟩
theorem de_bl {b j} : DE X W ex (.Constant (.bool b) j pos) (dC (.bl b)) := ⟨_, pe_bl, l_c fun _ => .bl b⟩
theorem de_non {j} : DE X W ex (.Constant .none j pos) (dC .non) := ⟨_, pe_non, l_c fun _ => .non⟩
theorem de_str {x j} : DE X W ex (.Constant (.str x) j pos) (dC (.str x)) := ⟨_, pe_str, l_c fun _ => .str x⟩
/-- a module's name as a value: a text, an int, a def, a class -/
theorem de_glob {x : Str} {v : V} {d : D} {w : Value} (hm : X.mg x = some w) (r : RelV v w) (hd : ∀ G, Dn X.K G v d) (hg : Gl X x := by rfl) (hdb : (x == ("__debug__" : Str)) = false := by decide) : DE X W ex (.Name x pos) (dC d) := ⟨_, pe_glob hg hm r hdb, l_c hd⟩
/-- a built-in class as a value -/
theorem de_ty {x : Str} {n : String} (hm : X.mg x = none) (hv : bootBuiltins x = some (.type n)) (hg : Gl X x := by rfl) (hn : x ≠ "__name__" := by decide) (hd : (x == ("__debug__" : Str)) = false := by decide) : DE X W ex (.Name x pos) (dC (.opq (.ty n))) := ⟨_, pe_bltn (v := .ty n) hg hm hv rfl hn hd, l_c fun _ => .opq _⟩
theorem da_nil : DAs X W ex [] dNil := ⟨_, pa_nil, l_nil⟩
theorem da_cons {es : List Expr} {u : DA} (ha : DE X W ex a t) (hr : DAs X W ex es u) (he : starEach (a :: es) X.env = (false, eval a X.env) :: starEach es X.env := by rfl) : DAs X W ex (a :: es) (dCons t u) := by
  obtain ⟨ta, h1, l1⟩ := ha
  obtain ⟨tr, h2, l2⟩ := hr
  exact ⟨_, pa_cons h1 h2 he, l_cons l1 l2⟩
def dTup (t : DA) : DT := fun ds O k => t ds O fun xs O1 => xs.length ≤ sizeLine ∧ k (.tup xs) O1
/-- a list that stays as it is | a list that will be changed -/
def dLst (t : DA) : DT := fun ds O k => t ds O fun xs O1 => xs.length ≤ sizeLine ∧ k (.lst xs) O1
def dLstO (t : DA) : DT := fun ds O k => t ds O fun xs O1 => xs.length ≤ sizeLine ∧ ∀ p, O1 p = none → k (.opq (.ref p)) (oset O1 p (.lst xs))
theorem de_tup {es : List Expr} {t : DA} {x1} (h : DAs X W ex es t) : DE X W ex (.Tuple es x1 pos) (dTup t) := by
  obtain ⟨ta, h1, l1⟩ := h
  refine ⟨_, pe_tup h1, fun ds O k h G H σ Q ok rp x c => l1 ds O _ h G H σ _ ok rp x fun xs O1 vs G1 H1 ⟨hz, h1⟩ s1 ok1 d1 => ⟨by rw [d1.length]; exact hz, fun p hp => ?_⟩⟩
  obtain ⟨ok2, s2, e2⟩ := frozen (o := .tup vs) ok1 hp
  exact c _ O1 _ _ _ h1 (s1.trans s2) ok2 (.tup (SqT.of upd_same) (d1.mono e2))
theorem de_lst {es : List Expr} {t : DA} (h : DAs X W ex es t) : DE X W ex (.List es pos) (dLst t) := by
  obtain ⟨ta, h1, l1⟩ := h
  refine ⟨_, pe_lst h1, fun ds O k h G H σ Q ok rp x c => l1 ds O _ h G H σ _ ok rp x fun xs O1 vs G1 H1 ⟨hz, h1⟩ s1 ok1 d1 => ⟨by rw [d1.length]; exact hz, fun p hp => ?_⟩⟩
  obtain ⟨ok2, s2, e2⟩ := frozen (o := .lst vs) ok1 hp
  exact c _ O1 _ _ _ h1 (s1.trans s2) ok2 (.lst upd_same (d1.mono e2))
theorem de_lstO {es : List Expr} {t : DA} (h : DAs X W ex es t) : DE X W ex (.List es pos) (dLstO t) := by
  obtain ⟨ta, h1, l1⟩ := h
  refine ⟨_, pe_lst h1, fun ds O k h G H σ Q ok rp x c => l1 ds O _ h G H σ _ ok rp x fun xs O1 vs G1 H1 ⟨hz, h1⟩ s1 ok1 d1 => ⟨by rw [d1.length]; exact hz, fun p hp => ?_⟩⟩
  obtain ⟨ok2, s2⟩ := owned ok1 hp d1
  exact c _ _ _ _ _ (h1 p (ok1.none_of hp)) (s1.trans s2) ok2 (.opq _)
end
end DL
namespace DL
open PySem PySem.Spec PyProof.Rows L2 Evl

/-! ### a cell read as what it holds now -/
def res (O : Ow) : D → D
  | .opq (.ref p) => match O p with
    | some (.lst xs) => .lst xs
    | _ => .opq (.ref p)
  | d => d
theorem res_cases (O : Ow) (d : D) : res O d = d ∨ ∃ p xs, d = .opq (.ref p) ∧ O p = some (.lst xs) ∧ res O d = .lst xs := by
  cases d with
  | opq v =>
    cases v with
    | ref p =>
      cases q : O p with
      | none =>
        refine .inl ?_
        simp only [res, q]
      | some c =>
        cases c with
        | lst ys =>
          refine .inr ⟨p, ys, rfl, q, ?_⟩
          simp only [res, q]
        | dic kds =>
          refine .inl ?_
          simp only [res, q]
    | _ => exact .inl rfl
  | _ => exact .inl rfl
theorem res_tupD {O : Ow} {d : D} {xs : List D} (e : res O d = .tup xs) : d = .tup xs := by
  rcases res_cases O d with h | ⟨p, ys, _, _, h⟩
  · rw [h] at e
    exact e
  · rw [h] at e
    cases e
section
variable {K : PySem.W.Frag} {G H : Hp} {O : Ow} {v : V} {d : D}
theorem res_lst (ok : Ok K G H O) (h : Dn K G v d) {xs : List D} (e : res O d = .lst xs) : ∃ a vs, v = .ref a ∧ H a = some (.lst vs) ∧ DnAll K G vs xs := by
  rcases res_cases O d with q | ⟨p, ys, rfl, ho, q⟩
  · rw [q] at e
    subst e
    cases h with
    | lst h1 h2 => exact ⟨_, _, rfl, ok.ex _ _ h1, h2⟩
  · rw [q] at e
    cases e
    cases h
    obtain ⟨_, vs, h1, h2⟩ := ok.own p _ ho
    exact ⟨p, vs, rfl, h1, h2⟩
theorem res_nl {O : Ow} {d e : D} (h : res O d = e) (n : ∀ xs, e ≠ .lst xs) : d = e := by
  rcases res_cases O d with q | ⟨p, ys, _, _, q⟩
  · rw [← h, q]
  · rw [q] at h
    exact absurd h.symm (n ys)
theorem res_tup (ok : Ok K G H O) (h : Dn K G v d) {xs : List D} (e : res O d = .tup xs) : ∃ a vs, v = .ref a ∧ SqT K H a vs ∧ DnAll K G vs xs := by
  have q := res_nl e (fun _ z => by cases z)
  subst q
  cases h with
  | tup h1 h2 => exact ⟨_, _, rfl, ex_t ok.ex h1, h2⟩
theorem res_scr (ok : Ok K G H O) (h : Dn K G v d) {ns : List Int} (e : res O d = .scr ns) : ∃ a, v = .ref a ∧ SqL K H a (ns.map V.int) := by
  have q := res_nl e (fun _ z => by cases z)
  subst q
  cases h with
  | scr h1 => exact ⟨_, rfl, ex_l ok.ex h1⟩
theorem res_non (h : Dn K G v d) (e : res O d = .non) : v = .non := by
  have q := res_nl e (fun _ z => by cases z)
  subst q
  cases h
  rfl
theorem res_bl (h : Dn K G v d) {b : Bool} (e : res O d = .bl b) : v = .bl b := by
  have q := res_nl e (fun _ z => by cases z)
  subst q
  cases h
  rfl
theorem res_int (h : Dn K G v d) {i : Int} (e : res O d = .int i) : v = .int i := by
  have q := res_nl e (fun _ z => by cases z)
  subst q
  cases h
  rfl
theorem res_str (h : Dn K G v d) {x : Str} (e : res O d = .str x) : v = .str x := by
  have q := res_nl e (fun _ z => by cases z)
  subst q
  cases h
  rfl
end

/-! ### data as the library's data -/
mutual
def D.py : D → PyData
  | .non => .none
  | .bl b => .bool b
  | .int i => .int i
  | .str x => .str x
  | .lst xs => .list (D.pyAll xs)
  | .tup xs => .tuple (D.pyAll xs)
  | .scr ns => .list (ns.map .int)
  | .obj _ _ => .dict []
  | .opq _ => .none
  | .fdic _ _ => .none
def D.pyAll : List D → List PyData
  | [] => []
  | x :: xs => x.py :: D.pyAll xs
end
mutual
def D.pure : D → Bool
  | .lst xs => D.pureAll xs
  | .tup xs => D.pureAll xs
  | .obj _ _ => false
  | .opq _ => false
  | .scr _ => false
  | .fdic _ _ => false
  | _ => true
def D.pureAll : List D → Bool
  | [] => true
  | x :: xs => x.pure && D.pureAll xs
end
section
variable {K : PySem.W.Frag} {G H : Hp}
mutual
theorem Dn.py (e : Ex G H) : ∀ {v : V} {d : D}, Dn K G v d → d.pure = true → Dp K H v d.py
  | _, _, .non, _ => .non
  | _, _, .bl b, _ => .bl b
  | _, _, .int b, _ => .int b
  | _, _, .str b, _ => .str b
  | _, _, .lst h a, p => by
    unfold D.pure at p
    unfold D.py
    exact .lst (SqL.of (e _ _ h)) (DnAll.py e a p)
  | _, _, .tup h a, p => by
    unfold D.pure at p
    unfold D.py
    exact .tup (ex_t e h) (DnAll.py e a p)
  | _, _, .scr _, p => by unfold D.pure at p; cases p
  | _, _, .obj _ _, p => by unfold D.pure at p; cases p
  | _, _, .opq _, p => by unfold D.pure at p; cases p
  | _, _, .fdic _ _ _, p => by unfold D.pure at p; cases p
theorem DnAll.py (e : Ex G H) : ∀ {vs : List V} {xs : List D}, DnAll K G vs xs → D.pureAll xs = true → DpAll K H vs (D.pyAll xs)
  | _, _, .nil, _ => by
    unfold D.pyAll
    exact .nil
  | _, _, .cons h t, p => by
    unfold D.pureAll at p
    rw [Bool.and_eq_true] at p
    unfold D.pyAll
    exact .cons (Dn.py e h p.1) (DnAll.py e t p.2)
end
theorem res_py {O : Ow} {v : V} {d : D} (ok : Ok K G H O) (h : Dn K G v d) (p : (res O d).pure = true) : Dp K H v (res O d).py := by
  cases q : res O d with
  | lst xs =>
    obtain ⟨a, vs, rfl, h1, h2⟩ := res_lst ok h q
    rw [q] at p
    unfold D.pure at p
    unfold D.py
    exact .lst (SqL.of h1) (DnAll.py ok.ex h2 p)
  | tup xs =>
    obtain ⟨a, vs, rfl, h1, h2⟩ := res_tup ok h q
    rw [q] at p
    unfold D.pure at p
    unfold D.py
    exact .tup h1 (DnAll.py ok.ex h2 p)
  | non =>
    rw [res_non h q]
    exact .non
  | bl b =>
    rw [res_bl h q]
    exact .bl b
  | int b =>
    rw [res_int h q]
    exact .int b
  | str b =>
    rw [res_str h q]
    exact .str b
  | scr _ => rw [q] at p; unfold D.pure at p; cases p
  | obj _ _ => rw [q] at p; unfold D.pure at p; cases p
  | opq _ => rw [q] at p; unfold D.pure at p; cases p
  | fdic _ _ => rw [q] at p; unfold D.pure at p; cases p
end
/-- fit for == : pure, not too deep -/
def D.ok (d : D) : Bool := d.pure && SeqAt.shaped d.py
def deq (x y : D) : Bool := PyData.eqv x.py y.py

/-! ### two-place operations -/
section
variable {X : Cx}
def qAdd : DR2 := fun x y O k => match res O x, res O y with
  | .int i, .int j => k (.int (i + j)) O
  | .str a, .str b => a.length + b.length ≤ sizeLine ∧ k (.str (a ++ b)) O
  | .lst a, .lst b => a.length + b.length ≤ sizeLine ∧ k (.lst (a ++ b)) O
  | .tup a, .tup b => a.length + b.length ≤ sizeLine ∧ k (.tup (a ++ b)) O
  | _, _ => False
def hAdd (K : PySem.W.Frag) : R2 := fun x y H Q => rI0 (fun i j => .int (i + j)) x y H Q ∨ (∃ i j, x = .str i ∧ y = .str j ∧ i.length + j.length ≤ sizeLine ∧ Q (.str (i ++ j)) H) ∨ rCat x y H Q ∨ rCatA K x y H Q
theorem op_addAll : OpR X (binaryOp .Add) (hAdd X.K) := OpR.or op_add (OpR.or op_add_str (OpR.or op_cat op_catA))
theorem lr_add {K : PySem.W.Frag} : LiftR K (hAdd K) qAdd := by
  intro x y O k h G H v u Q ok hx hy c
  unfold qAdd at h
  split at h
  · rename_i i j e1 e2
    rw [res_int hx e1, res_int hy e2]
    exact .inl ⟨i, j, rfl, rfl, c _ O _ G H h Stp.refl ok (.int _)⟩
  · rename_i i j e1 e2
    rw [res_str hx e1, res_str hy e2]
    exact .inr (.inl ⟨i, j, rfl, rfl, h.1, c _ O _ G H h.2 Stp.refl ok (.str _)⟩)
  · rename_i i j e1 e2
    obtain ⟨a, vs, rfl, a1, a2⟩ := res_lst ok hx e1
    obtain ⟨b, ws, rfl, b1, b2⟩ := res_lst ok hy e2
    refine .inr (.inr (.inl ⟨a, b, vs, ws, rfl, rfl, a1, b1, by rw [a2.length, b2.length]; exact h.1, fun p hp => ?_⟩))
    obtain ⟨ok2, s2, e2⟩ := frozen (o := .lst (vs ++ ws)) ok hp
    exact c _ O _ _ _ h.2 s2 ok2 (.lst upd_same ((a2.append b2).mono e2))
  · rename_i i j e1 e2
    obtain ⟨a, vs, rfl, a1, a2⟩ := res_tup ok hx e1
    obtain ⟨b, ws, rfl, b1, b2⟩ := res_tup ok hy e2
    have ga : ∃ vs', vs' = vs := ⟨_, rfl⟩
    refine .inr (.inr (.inr ⟨a, b, vs, ws, rfl, rfl, a1, b1, by rw [a2.length, b2.length]; exact h.1, fun z => ?_, fun _ z => ?_, fun _ _ p hp => ?_⟩))
    · subst z
      cases a2
      have e3 := res_tupD e2
      subst e3
      exact c _ O _ G H h.2 Stp.refl ok hy
    · subst z
      cases b2
      rw [List.append_nil] at h
      have e3 := res_tupD e1
      subst e3
      exact c _ O _ G H h.2 Stp.refl ok hx
    · obtain ⟨ok2, s2, e2⟩ := frozen (o := .tup (vs ++ ws)) ok hp
      exact c _ O _ _ _ h.2 s2 ok2 (.tup (SqT.of upd_same) ((a2.append b2).mono e2))
  · exact h.elim
/-- two ints in, under C, a value out -/
def qII (C : Int → Int → Prop) (g : Int → Int → D) : DR2 := fun x y O k => match x, y with
  | .int i, .int j => C i j ∧ k (g i j) O
  | _, _ => False
theorem lr_II {K : PySem.W.Frag} {C : Int → Int → Prop} {g : Int → Int → V} {g' : Int → Int → D} (hg : ∀ G i j, Dn K G (g i j) (g' i j)) : LiftR K (rI C g) (qII C g') := by
  intro x y O k h G H v u Q ok hx hy c
  unfold qII at h
  split at h
  · rename_i i j
    cases hx
    cases hy
    exact ⟨i, j, rfl, rfl, h.1, c _ O _ G H h.2 Stp.refl ok (hg _ _ _)⟩
  · exact h.elim
def qI0 (g : Int → Int → D) : DR2 := fun x y O k => match x, y with
  | .int i, .int j => k (g i j) O
  | _, _ => False
theorem lr_I0 {K : PySem.W.Frag} {g : Int → Int → V} {g' : Int → Int → D} (hg : ∀ G i j, Dn K G (g i j) (g' i j)) : LiftR K (rI0 g) (qI0 g') := by
  intro x y O k h G H v u Q ok hx hy c
  unfold qI0 at h
  split at h
  · rename_i i j
    cases hx
    cases hy
    exact ⟨i, j, rfl, rfl, c _ O _ G H h Stp.refl ok (hg _ _ _)⟩
  · exact h.elim
def CPowW (i j : Int) : Prop := 0 ≤ j ∧ (Builtin.Int.intBits i : Int) * j ≤ 2 ^ 27
theorem op_powW : OpR X (binaryOp .Pow) (rI CPowW fun i j => .int (i ^ j.toNat)) := opI fun _ _ _ _ _ _ _ hc q => pow_int hc.1 hc.2 q
/-- * : ints, texts, lists, tuples by an int -/
def qMul : DR2 := fun x y O k => match res O x, res O y with
  | .int i, .int j => CMulW i j ∧ k (.int (i * j)) O
  | .str a, .int n => MulOk a n ∧ k (.str (Txt.mul a n)) O
  | .lst a, .int n => -(2 ^ 63) ≤ n ∧ n < 2 ^ 63 ∧ a.length * n.toNat ≤ sizeLine ∧ k (.lst (List.replicate n.toNat a).flatten) O
  | .tup a, .int n => a ≠ [] ∧ 2 ≤ n ∧ n ≤ 1000 ∧ a.length ≤ 1000 ∧ k (.tup (List.replicate n.toNat a).flatten) O
  | _, _ => False
theorem op_mulS : OpR X (binaryOp .Mult) (fun x y H Q => ∃ a n, x = .str a ∧ y = .int n ∧ MulOk a n ∧ Q (.str (Txt.mul a n)) H) := by
  intro pins s σ H x y v u Q I rx ry h
  obtain ⟨a, n, rfl, rfl, hm, q⟩ := h
  obtain ⟨t, rfl⟩ := rx
  obtain ⟨t', rfl⟩ := ry
  exact SB.mul hm fun t2 k => ⟨.str _, H, I.tok _, ⟨_, rfl⟩, q⟩
def hMul (K : PySem.W.Frag) : R2 := fun x y H Q => rI CMulW (fun i j => .int (i * j)) x y H Q ∨ (∃ a n, x = .str a ∧ y = .int n ∧ MulOk a n ∧ Q (.str (Txt.mul a n)) H) ∨ rRep x y H Q ∨ rRepT K x y H Q
theorem op_mulAll : OpR X (binaryOp .Mult) (hMul X.K) := OpR.or op_mulW (OpR.or op_mulS (OpR.or op_rep op_repT))
theorem lr_mul {K : PySem.W.Frag} : LiftR K (hMul K) qMul := by
  intro x y O k h G H v u Q ok hx hy c
  unfold qMul at h
  split at h
  · rename_i i j e1 e2
    rw [res_int hx e1, res_int hy e2]
    exact .inl ⟨i, j, rfl, rfl, h.1, c _ O _ G H h.2 Stp.refl ok (.int _)⟩
  · rename_i i j e1 e2
    rw [res_str hx e1, res_int hy e2]
    exact .inr (.inl ⟨i, j, rfl, rfl, h.1, c _ O _ G H h.2 Stp.refl ok (.str _)⟩)
  · rename_i i j e1 e2
    obtain ⟨a, vs, rfl, a1, a2⟩ := res_lst ok hx e1
    rw [res_int hy e2]
    refine .inr (.inr (.inl ⟨a, j, vs, rfl, rfl, a1, h.1, h.2.1, by rw [a2.length]; exact h.2.2.1, fun p hp => ?_⟩))
    obtain ⟨ok2, s2, e2⟩ := frozen (o := .lst (List.replicate j.toNat vs).flatten) ok hp
    exact c _ O _ _ _ h.2.2.2 s2 ok2 (.lst upd_same ((a2.rep _).mono e2))
  · rename_i i j e1 e2
    obtain ⟨a, vs, rfl, a1, a2⟩ := res_tup ok hx e1
    rw [res_int hy e2]
    refine .inr (.inr (.inr ⟨a, j, vs, rfl, rfl, a1, fun z => h.1 ?_, h.2.1, h.2.2.1, by rw [a2.length]; exact h.2.2.2.1, fun p hp => ?_⟩))
    · subst z
      cases a2
      rfl
    · obtain ⟨ok2, s2, e2⟩ := frozen (o := .tup (List.replicate j.toNat vs).flatten) ok hp
      exact c _ O _ _ _ h.2.2.2.2 s2 ok2 (.tup (SqT.of upd_same) ((a2.rep _).mono e2))
  · exact h.elim
/-! ### comparisons -/
def qEq (neg : Bool) : DR2 := fun x y O k => (res O x).ok = true ∧ (res O y).ok = true ∧ k (.bl (if neg then !deq (res O x) (res O y) else deq (res O x) (res O y))) O
theorem lr_eq {K : PySem.W.Frag} : LiftR K (rEqD K) (qEq false) := by
  intro x y O k h G H v u Q ok hx hy c
  obtain ⟨h1, h2, h3⟩ := h
  unfold D.ok at h1 h2
  rw [Bool.and_eq_true] at h1 h2
  exact ⟨_, _, res_py ok hx h1.1, res_py ok hy h2.1, h1.2, h2.2, c _ O _ G H h3 Stp.refl ok (.bl _)⟩
theorem lr_ne {K : PySem.W.Frag} : LiftR K (rNeD K) (qEq true) := by
  intro x y O k h G H v u Q ok hx hy c
  obtain ⟨h1, h2, h3⟩ := h
  unfold D.ok at h1 h2
  rw [Bool.and_eq_true] at h1 h2
  exact ⟨_, _, res_py ok hx h1.1, res_py ok hy h2.1, h1.2, h2.2, c _ O _ G H h3 Stp.refl ok (.bl _)⟩
/-- is, is not: None, True, False -/
def isD : D → D → Option Bool
  | .opq _, _ => none
  | .obj _ _, _ => none
  | .non, .non => some true
  | _, .non => some false
  | .bl a, .bl b => some (decide (a = b))
  | _, _ => none
def qIs (neg : Bool) : DR2 := fun x y O k => match isD x y with
  | some b => k (.bl (if neg then !b else b)) O
  | none => False
def hIs (neg : Bool) : R2 := fun x y H Q => (y = .non ∧ Q (.bl (if neg then !decide (x = .non) else decide (x = .non))) H) ∨ (∃ a b : Bool, x = .bl a ∧ y = .bl b ∧ Q (.bl (if neg then !decide (a = b) else decide (a = b))) H)
theorem op_isAll : OpR X (compareOp .Is) (hIs false) := OpR.or op_isN op_isBl
theorem op_isnotAll : OpR X (compareOp .IsNot) (hIs true) := OpR.or op_notN op_notBl
theorem isD_ok {K : PySem.W.Frag} {G : Hp} {x y : D} {v u : V} {b : Bool} (e : isD x y = some b) (hx : Dn K G v x) (hy : Dn K G u y) : (u = .non ∧ decide (v = .non) = b) ∨ ∃ i j : Bool, v = .bl i ∧ u = .bl j ∧ decide (i = j) = b := by
  cases hy <;> cases hx <;> first
    | (have e' : none = some b := e; cases e'; done)
    | (have e' : some true = some b := e; cases e'; exact .inl ⟨rfl, decide_eq_true rfl⟩)
    | (have e' : some false = some b := e; cases e'; exact .inl ⟨rfl, decide_eq_false (fun z => by cases z)⟩)
    | (have e' : some (decide _) = some b := e; cases e'; exact .inr ⟨_, _, rfl, rfl, rfl⟩)
theorem lr_is {K : PySem.W.Frag} (neg : Bool) : LiftR K (hIs neg) (qIs neg) := by
  intro x y O k h G H v u Q ok hx hy c
  unfold qIs at h
  split at h
  · rename_i b e
    rcases isD_ok e hx hy with ⟨rfl, z⟩ | ⟨i, j, rfl, rfl, z⟩
    · subst z
      exact .inl ⟨rfl, c _ O _ G H h Stp.refl ok (.bl _)⟩
    · subst z
      exact .inr ⟨i, j, rfl, rfl, c _ O _ G H h Stp.refl ok (.bl _)⟩
  · exact h.elim
/-- a text among written texts; anything flat among them -/
def strsOf : List D → Option (List Str)
  | [] => some []
  | .str x :: r => (strsOf r).map fun l => x :: l
  | _ :: _ => none
theorem strsOf_eq : ∀ {xs : List D} {ss : List Str}, strsOf xs = some ss → xs = ss.map D.str
  | [], _, e => by cases e; rfl
  | d :: r, ss, e => by
    cases d with
    | str x =>
      have e' : (strsOf r).map (fun l => x :: l) = some ss := e
      cases q : strsOf r with
      | none => rw [q] at e'; cases e'
      | some l =>
        rw [q] at e'
        cases e'
        rw [strsOf_eq q]
        rfl
    | _ => cases e
def itemsIn (O : Ow) (d : D) : Option (List D) := match res O d with
  | .lst xs => some xs
  | .tup xs => some xs
  | _ => none
def qIn (neg : Bool) : DR2 := fun x y O k => match x, (itemsIn O y).bind strsOf with
  | .str s, some ss => k (.bl (if neg then !decide (s ∈ ss) else decide (s ∈ ss))) O
  | _, _ => False
theorem inV_str (s : Str) : ∀ ss : List Str, inV (.str s) (ss.map V.str) = decide (s ∈ ss)
  | [] => by simp [inV]
  | t :: ss => by
    have ih := inV_str s ss
    unfold inV at ih ⊢
    rw [List.map_cons, List.any_cons, ih]
    by_cases e : t = s
    · subst e
      have : eqV (.str t) (.str t) = true := by simp [eqV]
      rw [this]
      simp
    · have : eqV (.str t) (.str s) = false := by simp [eqV, e]
      rw [this]
      have e' : ¬ s = t := fun z => e z.symm
      simp [e']
theorem flat_strs : ∀ ss : List Str, (ss.map V.str).all flatV = true
  | [] => rfl
  | s :: ss => by
    rw [List.map_cons, List.all_cons, flat_strs ss]
    rfl
theorem lr_in {K : PySem.W.Frag} (neg : Bool) : LiftR K (rIn K neg) (qIn neg) := by
  intro x y O k h G H v u Q ok hx hy c
  unfold qIn at h
  split at h
  · rename_i s ss e
    cases hx
    cases q : itemsIn O y with
    | none => rw [q] at e; cases e
    | some xs =>
      rw [q] at e
      have e' : strsOf xs = some ss := e
      have ex := strsOf_eq e'
      subst ex
      have fin : ∀ vs, DnAll K G vs (ss.map D.str) → (vs = ss.map V.str) := fun vs a => a.strs
      unfold itemsIn at q
      split at q
      · rename_i ys r
        cases q
        obtain ⟨a, vs, rfl, a1, a2⟩ := res_lst ok hy r
        have z := a2.strs
        subst z
        exact ⟨a, _, rfl, .inl (SqL.of a1), rfl, flat_strs ss, by rw [inV_str]; exact c _ O _ G H h Stp.refl ok (.bl _)⟩
      · rename_i ys r
        cases q
        obtain ⟨a, vs, rfl, a1, a2⟩ := res_tup ok hy r
        have z := a2.strs
        subst z
        exact ⟨a, _, rfl, .inr a1, rfl, flat_strs ss, by rw [inV_str]; exact c _ O _ G H h Stp.refl ok (.bl _)⟩
      · cases q
  · exact h.elim
end
end DL
namespace DL
open PySem PySem.Spec PyProof.Rows L2 Evl

section
variable {K : PySem.W.Frag} {W : WX} {ex : EX} {G H : Hp} {O : Ow}
theorem cut_all {vs : List V} {xs : List D} (h : DnAll K G vs xs) (lo hi : Option Int) : DnAll K G (cutV vs lo hi) ((xs.drop (HT.sIx xs.length 0 lo)).take (HT.sIx xs.length xs.length hi - HT.sIx xs.length 0 lo)) := by
  unfold cutV
  rw [h.length]
  exact (h.drop _).take _
end
/-- a part of a list -/
def cutL {α : Type} (xs : List α) (lo hi : Option Int) : List α := (xs.drop (HT.sIx xs.length 0 lo)).take (HT.sIx xs.length xs.length hi - HT.sIx xs.length 0 lo)

/-! ### subscripts -/
def qIx : DR2 := fun x y O k => match res O x, y with
  | .lst xs, .int i => (match atI xs i with | some d => k d O | none => False)
  | .tup xs, .int i => (match atI xs i with | some d => k d O | none => False)
  | .scr ns, .int i => (match atI ns i with | some n => k (.int n) O | none => False)
  | .str s, .int i => s.length ≤ sizeLine ∧ (match atI s.cps.toList i with | some c => k (.str ⟨#[c]⟩) O | none => False)
  | _, _ => False
theorem atI_all {K : PySem.W.Frag} {G : Hp} {vs : List V} {xs : List D} (h : DnAll K G vs xs) {i : Int} {d : D} (e : atI xs i = some d) : ∃ v, atI vs i = some v ∧ Dn K G v d := by
  unfold atI at e ⊢
  rw [h.length]
  cases q : ixN xs.length i with
  | none => rw [q] at e; cases e
  | some j =>
    rw [q] at e
    exact h.get e
theorem atI_ints {ns : List Int} {i n : Int} (e : atI ns i = some n) : atI (ns.map V.int) i = some (.int n) := by
  unfold atI at e ⊢
  rw [List.length_map]
  cases q : ixN ns.length i with
  | none => rw [q] at e; cases e
  | some j =>
    rw [q] at e
    have e' : ns[j]? = some n := e
    show (ns.map V.int)[j]? = _
    rw [List.getElem?_map, e']
    rfl
theorem lr_ix {K : PySem.W.Frag} : LiftR K (rIx K) qIx := by
  intro x y O k h G H v u Q ok hx hy c
  unfold qIx at h
  split at h
  · rename_i xs i e1
    cases hy
    split at h
    · rename_i d e
      obtain ⟨a, vs, rfl, a1, a2⟩ := res_lst ok hx e1
      obtain ⟨w, h1, h2⟩ := atI_all a2 e
      exact .inl ⟨a, vs, i, w, rfl, rfl, SqL.of a1, h1, c _ O _ G H h Stp.refl ok h2⟩
    · exact h.elim
  · rename_i xs i e1
    cases hy
    split at h
    · rename_i d e
      obtain ⟨a, vs, rfl, a1, a2⟩ := res_tup ok hx e1
      obtain ⟨w, h1, h2⟩ := atI_all a2 e
      exact .inr (.inl ⟨a, vs, i, w, rfl, rfl, a1, h1, c _ O _ G H h Stp.refl ok h2⟩)
    · exact h.elim
  · rename_i xs i e1
    cases hy
    split at h
    · rename_i d e
      obtain ⟨a, rfl, a1⟩ := res_scr ok hx e1
      exact .inl ⟨a, _, i, .int d, rfl, rfl, a1, atI_ints e, c _ O _ G H h Stp.refl ok (.int _)⟩
    · exact h.elim
  · rename_i s i e1
    cases hy
    obtain ⟨hz, h⟩ := h
    split at h
    · rename_i d e
      rw [res_str hx e1]
      exact .inr (.inr ⟨s, i, d, rfl, rfl, hz, e, c _ O _ G H h Stp.refl ok (.str _)⟩)
    · exact h.elim
  · exact h.elim

/-! ### slices -/
abbrev DO := Ds → Ow → (Option Int → Ow → Prop) → Prop
def LiftO (K : PySem.W.Frag) (W : WX) (ex : EX) (te : TO) (t : DO) : Prop := ∀ ds O k, t ds O k → ∀ G H σ Q, Ok K G H O → Rep K G σ ds → ContX K G H O W ex → (∀ i O' G' H', k i O' → Stp G H O G' H' O' → Ok K G' H' O' → Q i H') → te σ H Q
def dNoPart : DO := fun _ O k => k none O
def dPart (t : DT) : DO := fun ds O k => t ds O fun x O1 => match x with
  | .int i => k (some i) O1
  | _ => False
def qSl : D → Option Int → Option Int → Ow → DK → Prop := fun x lo hi O k => match res O x with
  | .lst xs => k (.lst (cutL xs lo hi)) O
  | .tup xs => k (.tup (cutL xs lo hi)) O
  | .scr ns => k (.lst ((cutL ns lo hi).map D.int)) O
  | .str s => s.length ≤ sizeLine ∧ k (.str (cutS s lo hi)) O
  | _ => False
def dSl (t : DT) (lo hi : DO) : DT := fun ds O k => t ds O fun x O1 => lo ds O1 fun l O2 => hi ds O2 fun u O3 => qSl x l u O3 k
def hSl (K : PySem.W.Frag) : V → Option Int → Option Int → Hp → VK → Prop := fun x lo hi H Q => rSlL K x lo hi H Q ∨ rSlA K x lo hi H Q ∨ rSlS x lo hi H Q
section
variable {X : Cx} {K : PySem.W.Frag} {W : WX} {ex : EX}
theorem sl_all : SlR X (hSl X.K) := SlR.or sl_list (SlR.or sl_tupA sl_str)
theorem lo_none : LiftO K W ex tNoPart dNoPart := fun ds O k h G H σ Q ok _ _ c => c none O G H h Stp.refl ok
theorem lo_part {te : TE} {t : DT} (ht : LiftE K W ex te t) : LiftO K W ex (tPart te) (dPart t) := fun ds O k h G H σ Q ok rp x c =>
  ht ds O _ h G H σ _ ok rp x fun d O1 v G1 H1 h1 s1 ok1 d1 => by
    cases d1 with
    | int i => exact ⟨i, rfl, c (some i) O1 G1 H1 h1 s1 ok1⟩
    | _ => exact False.elim h1
theorem l_qsl {x : D} {lo hi : Option Int} {O : Ow} {k : DK} (h : qSl x lo hi O k) {G H : Hp} {v : V} {Q : VK} (ok : Ok K G H O) (hx : Dn K G v x) (c : Cont K G H O k Q) : hSl K v lo hi H Q := by
  unfold qSl at h
  split at h
  · rename_i xs e1
    obtain ⟨a, vs, rfl, a1, a2⟩ := res_lst ok hx e1
    refine .inl ⟨a, vs, rfl, SqL.of a1, fun p hp => ?_⟩
    obtain ⟨ok2, s2, e2⟩ := frozen (o := .lst (cutV vs lo hi)) ok hp
    exact c _ O _ _ _ h s2 ok2 (.lst upd_same ((cut_all a2 lo hi).mono e2))
  · rename_i xs e1
    obtain ⟨a, vs, rfl, a1, a2⟩ := res_tup ok hx e1
    have e3 := res_tupD e1
    refine .inr (.inl ⟨a, vs, rfl, a1, fun z => ?_, fun _ p hp => ?_⟩)
    · rw [a2.length] at z
      have e4 : cutL xs lo hi = xs := by
        unfold cutL
        rw [z.1, z.2, List.drop_zero, Nat.sub_zero, List.take_length]
      rw [e4] at h
      subst e3
      exact c _ O _ G H h Stp.refl ok hx
    · obtain ⟨ok2, s2, e2⟩ := frozen (o := .tup (cutV vs lo hi)) ok hp
      exact c _ O _ _ _ h s2 ok2 (.tup (SqT.of upd_same) ((cut_all a2 lo hi).mono e2))
  · rename_i ns e1
    obtain ⟨a, rfl, a1⟩ := res_scr ok hx e1
    refine .inl ⟨a, _, rfl, a1, fun p hp => ?_⟩
    obtain ⟨ok2, s2, e2⟩ := frozen (o := .lst (cutV (ns.map V.int) lo hi)) ok hp
    refine c _ O _ _ _ h s2 ok2 (.lst upd_same (DnAll.mono e2 ?_))
    have q : cutV (ns.map V.int) lo hi = (cutL ns lo hi).map V.int := by
      unfold cutV cutL
      rw [List.length_map, List.map_take, List.map_drop]
    rw [q]
    exact DnAll.ofInts _
  · rename_i s e1
    rw [res_str hx e1]
    exact .inr (.inr ⟨s, rfl, h.1, c _ O _ G H h.2 Stp.refl ok (.str _)⟩)
  · exact h.elim
theorem l_sl {te : TE} {tl th : TO} {t : DT} {lo hi : DO} (ht : LiftE K W ex te t) (hl : LiftO K W ex tl lo) (hh : LiftO K W ex th hi) : LiftE K W ex (tSl (hSl K) te tl th) (dSl t lo hi) := fun ds O k h G H σ Q ok rp x c =>
  ht ds O _ h G H σ _ ok rp x fun d O1 v G1 H1 h1 s1 ok1 d1 => hl ds O1 _ h1 G1 H1 σ _ ok1 (rp.mono s1.g) (x.after s1) fun i O2 G2 H2 h2 s2 ok2 => hh ds O2 _ h2 G2 H2 σ _ ok2 ((rp.mono s1.g).mono s2.g) ((x.after s1).after s2) fun j O3 G3 H3 h3 s3 ok3 =>
    l_qsl h3 ok3 ((d1.mono s2.g).mono s3.g) (c.after ((s1.trans s2).trans s3))
end

/-! ### truth -/
def qTru (x : D) (O : Ow) (k : Bool → Ow → Prop) : Prop := match res O x with
  | .non => k false O
  | .bl b => k b O
  | .int i => k (i != 0) O
  | .str s => s.length ≤ sizeLine ∧ k ((s.length : Int) != 0) O
  | .lst xs => k (!xs.isEmpty) O
  | .tup xs => k (!xs.isEmpty) O
  | _ => False
theorem empty_all {K : PySem.W.Frag} {G : Hp} {vs : List V} {xs : List D} (h : DnAll K G vs xs) : (!vs.isEmpty) = !xs.isEmpty := by
  cases h <;> rfl
theorem l_tru {K : PySem.W.Frag} {x : D} {O : Ow} {k : Bool → Ow → Prop} (h : qTru x O k) {G H : Hp} {v : V} (ok : Ok K G H O) (hx : Dn K G v x) : ∃ b, TruV K v H b ∧ k b O := by
  unfold qTru at h
  split at h
  · rename_i e
    rw [res_non hx e]
    exact ⟨false, rfl, h⟩
  · rename_i b e
    rw [res_bl hx e]
    exact ⟨b, rfl, h⟩
  · rename_i b e
    rw [res_int hx e]
    exact ⟨_, rfl, h⟩
  · rename_i b e
    rw [res_str hx e]
    exact ⟨_, ⟨h.1, rfl⟩, h.2⟩
  · rename_i xs e
    obtain ⟨a, vs, rfl, a1, a2⟩ := res_lst ok hx e
    exact ⟨_, .inl ⟨vs, SqL.of a1, rfl⟩, by rw [empty_all a2]; exact h⟩
  · rename_i xs e
    obtain ⟨a, vs, rfl, a1, a2⟩ := res_tup ok hx e
    exact ⟨_, .inr (.inl ⟨vs, a1, rfl⟩), by rw [empty_all a2]; exact h⟩
  · exact h.elim

/-! ### the terms -/
def dTru (t : DT) : DB := fun ds O k => t ds O fun x O1 => qTru x O1 k
def dTst (t : DT) : DB := fun ds O k => t ds O fun x O1 => match x with
  | .bl b => k b O1
  | _ => False
def dAnd (t u : DB) : DB := fun ds O k => t ds O fun b O1 => if b = true then u ds O1 k else k false O1
def dOr (t u : DB) : DB := fun ds O k => t ds O fun b O1 => if b = true then k true O1 else u ds O1 k
def dNot (t : DB) : DB := fun ds O k => t ds O fun b O1 => k (!b) O1
def dAndV (t u : DT) : DT := fun ds O k => t ds O fun x O1 => match x with
  | .bl true => u ds O1 k
  | .bl false => k (.bl false) O1
  | _ => False
def dOrV (t u : DT) : DT := fun ds O k => t ds O fun x O1 => match x with
  | .bl true => k (.bl true) O1
  | .bl false => u ds O1 k
  | _ => False
def dNotV (t : DT) : DT := fun ds O k => t ds O fun x O1 => match x with
  | .bl b => k (.bl (!b)) O1
  | _ => False
def dIf (c : DB) (t u : DT) : DT := fun ds O k => c ds O fun b O1 => if b = true then t ds O1 k else u ds O1 k
def dChain (q q' : DR2) (t u v : DT) : DT := fun ds O k => t ds O fun x O1 => u ds O1 fun y O2 => q x y O2 fun z O3 => match z with
  | .bl true => v ds O3 fun w O4 => q' y w O4 k
  | .bl false => k (.bl false) O3
  | _ => False
section
variable {X : Cx} {W : WX} {ex : EX} {a b c : Expr} {pos : Pos} {t u v : DT} {tb ub : DB}
theorem de_bin {op : Operator} {r : R2} {q : DR2} (ho : OpR X (binaryOp op) r) (hl : LiftR X.K r q) (ha : DE X W ex a t) (hb : DE X W ex b u) : DE X W ex (.BinOp a op b pos) (dOp q t u) := by
  obtain ⟨ta, h1, l1⟩ := ha
  obtain ⟨tb, h2, l2⟩ := hb
  exact ⟨_, pe_op ho h1 h2, l_op hl l1 l2⟩
theorem de_add (ha : DE X W ex a t) (hb : DE X W ex b u) : DE X W ex (.BinOp a .Add b pos) (dOp qAdd t u) := de_bin op_addAll lr_add ha hb
abbrev qSub : DR2 := qI0 fun i j => .int (i - j)
theorem de_sub (ha : DE X W ex a t) (hb : DE X W ex b u) : DE X W ex (.BinOp a .Sub b pos) (dOp qSub t u) := de_bin op_sub (lr_I0 fun _ _ _ => .int _) ha hb
theorem de_mul (ha : DE X W ex a t) (hb : DE X W ex b u) : DE X W ex (.BinOp a .Mult b pos) (dOp qMul t u) := de_bin op_mulAll lr_mul ha hb
abbrev qDiv : DR2 := qII CDivW fun i j => .int (i / j)
theorem de_fdiv (ha : DE X W ex a t) (hb : DE X W ex b u) : DE X W ex (.BinOp a .FloorDiv b pos) (dOp qDiv t u) := de_bin op_fdivW (lr_II fun _ _ _ => .int _) ha hb
abbrev qMod : DR2 := qII (fun _ j => 0 < j) fun i j => .int (i % j)
theorem de_mod (ha : DE X W ex a t) (hb : DE X W ex b u) : DE X W ex (.BinOp a .Mod b pos) (dOp qMod t u) := de_bin op_mod (lr_II fun _ _ _ => .int _) ha hb
abbrev qPow : DR2 := qII CPowW fun i j => .int (i ^ j.toNat)
theorem de_pow (ha : DE X W ex a t) (hb : DE X W ex b u) : DE X W ex (.BinOp a .Pow b pos) (dOp qPow t u) := de_bin op_powW (lr_II fun _ _ _ => .int _) ha hb
def qNeg : DR1 := fun x O k => match x with
  | .int i => k (.int (-i)) O
  | _ => False
theorem de_neg (ha : DE X W ex a t) : DE X W ex (.UnaryOp .USub a pos) (dUn qNeg t) := by
  obtain ⟨ta, h1, l1⟩ := ha
  refine ⟨_, pe_un un_neg h1, l_un ?_ l1⟩
  intro x O k h G H v Q ok hx c
  cases hx with
  | int i => exact ⟨i, rfl, c _ O _ G H h Stp.refl ok (.int _)⟩
  | _ => exact False.elim h
theorem de_cmp {op : CmpOp} {r : R2} {q : DR2} (ho : OpR X (compareOp op) r) (hl : LiftR X.K r q) (ha : DE X W ex a t) (hb : DE X W ex b u) (hm : behindInMarks op b = false) : DE X W ex (.Compare a [op] [b] pos) (dOp q t u) := by
  obtain ⟨ta, h1, l1⟩ := ha
  obtain ⟨tb, h2, l2⟩ := hb
  exact ⟨_, pe_cmpR ho h1 h2 hm, l_op hl l1 l2⟩
abbrev qLt : DR2 := qI0 fun i j => .bl (decide (i < j))
abbrev qLe : DR2 := qI0 fun i j => .bl (decide (i ≤ j))
abbrev qGt : DR2 := qI0 fun i j => .bl (decide (j < i))
abbrev qGe : DR2 := qI0 fun i j => .bl (decide (j ≤ i))
theorem de_lt (ha : DE X W ex a t) (hb : DE X W ex b u) : DE X W ex (.Compare a [.Lt] [b] pos) (dOp qLt t u) := de_cmp op_lt (lr_I0 fun _ _ _ => .bl _) ha hb (nomark _)
theorem de_le (ha : DE X W ex a t) (hb : DE X W ex b u) : DE X W ex (.Compare a [.LtE] [b] pos) (dOp qLe t u) := de_cmp op_le (lr_I0 fun _ _ _ => .bl _) ha hb (nomark _)
theorem de_gt (ha : DE X W ex a t) (hb : DE X W ex b u) : DE X W ex (.Compare a [.Gt] [b] pos) (dOp qGt t u) := de_cmp op_gt (lr_I0 fun _ _ _ => .bl _) ha hb (nomark _)
theorem de_ge (ha : DE X W ex a t) (hb : DE X W ex b u) : DE X W ex (.Compare a [.GtE] [b] pos) (dOp qGe t u) := de_cmp op_ge (lr_I0 fun _ _ _ => .bl _) ha hb (nomark _)
theorem de_eq {k : Nat} (hr : Room k X.A) (ha : DE X W ex a t) (hb : DE X W ex b u) : DE X W ex (.Compare a [.Eq] [b] pos) (dOp (qEq false) t u) := de_cmp (op_eqD (by have := hr.un; omega)) lr_eq ha hb (nomark _)
theorem de_ne {k : Nat} (hr : Room k X.A) (ha : DE X W ex a t) (hb : DE X W ex b u) : DE X W ex (.Compare a [.NotEq] [b] pos) (dOp (qEq true) t u) := de_cmp (op_neD (by have := hr.un; omega)) lr_ne ha hb (nomark _)
theorem de_is (ha : DE X W ex a t) (hb : DE X W ex b u) : DE X W ex (.Compare a [.Is] [b] pos) (dOp (qIs false) t u) := de_cmp op_isAll (lr_is false) ha hb (nomark _)
theorem de_isnot (ha : DE X W ex a t) (hb : DE X W ex b u) : DE X W ex (.Compare a [.IsNot] [b] pos) (dOp (qIs true) t u) := de_cmp op_isnotAll (lr_is true) ha hb (nomark _)
theorem de_in (ha : DE X W ex a t) (hb : DE X W ex b u) (hm : behindInMarks .In b = false := by with_unfolding_all rfl) : DE X W ex (.Compare a [.In] [b] pos) (dOp (qIn false) t u) := de_cmp op_in_seq (lr_in false) ha hb hm
theorem de_notin (ha : DE X W ex a t) (hb : DE X W ex b u) (hm : behindInMarks .NotIn b = false := by with_unfolding_all rfl) : DE X W ex (.Compare a [.NotIn] [b] pos) (dOp (qIn true) t u) := de_cmp op_notIn_seq (lr_in true) ha hb hm
theorem l_chain {K : PySem.W.Frag} {ta tb tc : TE} {r r' : R2} {q q' : DR2} (hr : LiftR K r q) (hr' : LiftR K r' q') (ha : LiftE K W ex ta t) (hb : LiftE K W ex tb u) (hc : LiftE K W ex tc v) : LiftE K W ex (tChain r r' ta tb tc) (dChain q q' t u v) := fun ds O k h G H σ Q ok rp x c =>
  ha ds O _ h G H σ _ ok rp x fun d O1 w1 G1 H1 h1 s1 ok1 d1 => hb ds O1 _ h1 G1 H1 σ _ ok1 (rp.mono s1.g) (x.after s1) fun e O2 w2 G2 H2 h2 s2 ok2 d2 =>
    hr d e O2 _ h2 G2 H2 w1 w2 _ ok2 (d1.mono s2.g) d2 fun z O3 w3 G3 H3 h3 s3 ok3 d3 => by
      cases d3 with
      | bl b =>
        refine ⟨b, rfl, ?_⟩
        cases b with
        | true =>
          show tc σ H3 _
          exact hc ds O3 _ h3 G3 H3 σ _ ok3 (((rp.mono s1.g).mono s2.g).mono s3.g) (((x.after s1).after s2).after s3) fun f O4 w4 G4 H4 h4 s4 ok4 d4 =>
            hr' e f O4 k h4 G4 H4 w2 w4 Q ok4 ((d2.mono s3.g).mono s4.g) d4 (c.after (((s1.trans s2).trans s3).trans s4))
        | false =>
          show Q _ _
          exact c _ O3 _ G3 H3 h3 ((s1.trans s2).trans s3) ok3 (.bl _)
      | _ => exact False.elim h3
theorem de_chain {op op' : CmpOp} {r r' : R2} {q q' : DR2} (ho : OpR X (compareOp op) r) (hl : LiftR X.K r q) (ho' : OpR X (compareOp op') r') (hl' : LiftR X.K r' q') (ha : DE X W ex a t) (hb : DE X W ex b u) (hc : DE X W ex c v) (hm : lastMarks [op, op'] [b, c] = false := by with_unfolding_all rfl) :
    DE X W ex (.Compare a [op, op'] [b, c] pos) (dChain q q' t u v) := by
  obtain ⟨ta, h1, l1⟩ := ha
  obtain ⟨tb, h2, l2⟩ := hb
  obtain ⟨tc, h3, l3⟩ := hc
  exact ⟨_, pe_chain ho ho' h1 h2 h3 hm, l_chain hl hl' l1 l2 l3⟩
theorem or_le : OpR X (compareOp .LtE) (rI0 fun i j => .bl (decide (i ≤ j))) := op_le
theorem lq_le {K : PySem.W.Frag} : LiftR K (rI0 fun i j => .bl (decide (i ≤ j))) qLe := lr_I0 fun _ _ _ => .bl _
theorem lq_lt {K : PySem.W.Frag} : LiftR K (rI0 fun i j => .bl (decide (i < j))) qLt := lr_I0 fun _ _ _ => .bl _
theorem de_ix (ha : DE X W ex a t) (hb : DE X W ex b u) (hp : PlainIx b := by exact fun _ _ => rfl) : DE X W ex (.Subscript a b pos) (dOp qIx t u) := by
  obtain ⟨ta, h1, l1⟩ := ha
  obtain ⟨tb, h2, l2⟩ := hb
  exact ⟨_, pe_ix ix_seq h1 h2 hp, l_op lr_ix l1 l2⟩
def DOe (X : Cx) (W : WX) (ex : EX) (e : Option Expr) (t : DO) : Prop := ∃ te, PO X e te ∧ LiftO X.K W ex te t
theorem do_none : DOe X W ex none dNoPart := ⟨_, po_none, lo_none⟩
theorem do_some (ha : DE X W ex a t) : DOe X W ex (some a) (dPart t) := by
  obtain ⟨ta, h1, l1⟩ := ha
  exact ⟨_, po_some h1, lo_part l1⟩
theorem de_slice {lo hi : Option Expr} {l h : DO} {p2 : Pos} (ha : DE X W ex a t) (hl : DOe X W ex lo l) (hh : DOe X W ex hi h) : DE X W ex (.Subscript a (.Slice lo hi none p2) pos) (dSl t l h) := by
  obtain ⟨ta, h1, l1⟩ := ha
  obtain ⟨tl, h2, l2⟩ := hl
  obtain ⟨th, h3, l3⟩ := hh
  exact ⟨_, pe_slice sl_all h1 h2 h3, l_sl l1 l2 l3⟩
/-! tests -/
theorem dt_val (ha : DE X W ex a t) (he : ∀ whole, isTrue a X.env whole = (do let v ← whole; standAt a.pos; holding [v] (truthy v)) := by intro _; rfl) : DTe X W ex a (dTru t) := by
  obtain ⟨ta, h1, l1⟩ := ha
  refine ⟨_, pt_truth h1 he, fun ds O k h G H σ Q ok rp x c => l1 ds O _ h G H σ _ ok rp x fun d O1 v G1 H1 h1 s1 ok1 d1 => ?_⟩
  obtain ⟨b, t1, k1⟩ := l_tru h1 ok1 d1
  exact ⟨b, t1, c b O1 G1 H1 k1 s1 ok1⟩
theorem l_tst {K : PySem.W.Frag} {ta : TE} (l1 : LiftE K W ex ta t) : LiftB K W ex (tTest ta) (dTst t) := fun ds O k h G H σ Q ok rp x c => l1 ds O _ h G H σ _ ok rp x fun d O1 v G1 H1 h1 s1 ok1 d1 => by
  cases d1 with
  | bl b => exact ⟨b, rfl, c b O1 G1 H1 h1 s1 ok1⟩
  | _ => exact False.elim h1
theorem dt_cmp {op : CmpOp} {r : R2} {q : DR2} (ho : OpR X (compareOp op) r) (hl : LiftR X.K r q) (ha : DE X W ex a t) (hb : DE X W ex b u) (hm : behindInMarks op b = false) : DTe X W ex (.Compare a [op] [b] pos) (dTst (dOp q t u)) := by
  obtain ⟨ta, h1, l1⟩ := ha
  obtain ⟨tb, h2, l2⟩ := hb
  exact ⟨_, pt_cmpR ho h1 h2 hm, l_tst (l_op hl l1 l2)⟩
theorem dt_lt (ha : DE X W ex a t) (hb : DE X W ex b u) : DTe X W ex (.Compare a [.Lt] [b] pos) (dTst (dOp qLt t u)) := dt_cmp op_lt (lr_I0 fun _ _ _ => .bl _) ha hb (nomark _)
theorem dt_le (ha : DE X W ex a t) (hb : DE X W ex b u) : DTe X W ex (.Compare a [.LtE] [b] pos) (dTst (dOp qLe t u)) := dt_cmp op_le (lr_I0 fun _ _ _ => .bl _) ha hb (nomark _)
theorem dt_gt (ha : DE X W ex a t) (hb : DE X W ex b u) : DTe X W ex (.Compare a [.Gt] [b] pos) (dTst (dOp qGt t u)) := dt_cmp op_gt (lr_I0 fun _ _ _ => .bl _) ha hb (nomark _)
theorem dt_ge (ha : DE X W ex a t) (hb : DE X W ex b u) : DTe X W ex (.Compare a [.GtE] [b] pos) (dTst (dOp qGe t u)) := dt_cmp op_ge (lr_I0 fun _ _ _ => .bl _) ha hb (nomark _)
theorem dt_eq {k : Nat} (hr : Room k X.A) (ha : DE X W ex a t) (hb : DE X W ex b u) : DTe X W ex (.Compare a [.Eq] [b] pos) (dTst (dOp (qEq false) t u)) := dt_cmp (op_eqD (by have := hr.un; omega)) lr_eq ha hb (nomark _)
theorem dt_ne {k : Nat} (hr : Room k X.A) (ha : DE X W ex a t) (hb : DE X W ex b u) : DTe X W ex (.Compare a [.NotEq] [b] pos) (dTst (dOp (qEq true) t u)) := dt_cmp (op_neD (by have := hr.un; omega)) lr_ne ha hb (nomark _)
theorem dt_is (ha : DE X W ex a t) (hb : DE X W ex b u) : DTe X W ex (.Compare a [.Is] [b] pos) (dTst (dOp (qIs false) t u)) := dt_cmp op_isAll (lr_is false) ha hb (nomark _)
theorem dt_isnot (ha : DE X W ex a t) (hb : DE X W ex b u) : DTe X W ex (.Compare a [.IsNot] [b] pos) (dTst (dOp (qIs true) t u)) := dt_cmp op_isnotAll (lr_is true) ha hb (nomark _)
theorem dt_in (ha : DE X W ex a t) (hb : DE X W ex b u) (hm : behindInMarks .In b = false := by with_unfolding_all rfl) : DTe X W ex (.Compare a [.In] [b] pos) (dTst (dOp (qIn false) t u)) := dt_cmp op_in_seq (lr_in false) ha hb hm
theorem dt_notin (ha : DE X W ex a t) (hb : DE X W ex b u) (hm : behindInMarks .NotIn b = false := by with_unfolding_all rfl) : DTe X W ex (.Compare a [.NotIn] [b] pos) (dTst (dOp (qIn true) t u)) := dt_cmp op_notIn_seq (lr_in true) ha hb hm
theorem dt_chain {op op' : CmpOp} {r r' : R2} {q q' : DR2} (ho : OpR X (compareOp op) r) (hl : LiftR X.K r q) (ho' : OpR X (compareOp op') r') (hl' : LiftR X.K r' q') (ha : DE X W ex a t) (hb : DE X W ex b u) (hc : DE X W ex c v) (hm : lastMarks [op, op'] [b, c] = false := by with_unfolding_all rfl) :
    DTe X W ex (.Compare a [op, op'] [b, c] pos) (dTst (dChain q q' t u v)) := by
  obtain ⟨ta, h1, l1⟩ := ha
  obtain ⟨tb, h2, l2⟩ := hb
  obtain ⟨tc, h3, l3⟩ := hc
  exact ⟨_, pt_chain ho ho' h1 h2 h3 hm, l_tst (l_chain hl hl' l1 l2 l3)⟩
theorem dw_and1 (ha : DTe X W ex a tb) : DW X W ex (.BoolOp .And [a] pos) tb := by
  obtain ⟨ta, h1, l1⟩ := ha
  exact ⟨_, pw_and1 h1, l1⟩
theorem dw_or1 (ha : DTe X W ex a tb) : DW X W ex (.BoolOp .Or [a] pos) tb := by
  obtain ⟨ta, h1, l1⟩ := ha
  exact ⟨_, pw_or1 h1, l1⟩
theorem l_and {K : PySem.W.Frag} {ta tc : TT} (l1 : LiftB K W ex ta tb) (l2 : LiftB K W ex tc ub) : LiftB K W ex (tAnd ta tc) (dAnd tb ub) := fun ds O k h G H σ Q ok rp x c => l1 ds O _ h G H σ _ ok rp x fun b O1 G1 H1 h1 s1 ok1 => by
  cases b with
  | true =>
    show tc σ H1 Q
    exact l2 ds O1 k h1 G1 H1 σ Q ok1 (rp.mono s1.g) (x.after s1) (c.after s1)
  | false =>
    show Q false H1
    exact c false O1 G1 H1 h1 s1 ok1
theorem l_or {K : PySem.W.Frag} {ta tc : TT} (l1 : LiftB K W ex ta tb) (l2 : LiftB K W ex tc ub) : LiftB K W ex (tOr ta tc) (dOr tb ub) := fun ds O k h G H σ Q ok rp x c => l1 ds O _ h G H σ _ ok rp x fun b O1 G1 H1 h1 s1 ok1 => by
  cases b with
  | true =>
    show Q true H1
    exact c true O1 G1 H1 h1 s1 ok1
  | false =>
    show tc σ H1 Q
    exact l2 ds O1 k h1 G1 H1 σ Q ok1 (rp.mono s1.g) (x.after s1) (c.after s1)
theorem dw_and {rest : List Expr} (ha : DTe X W ex a tb) (hb : DW X W ex (.BoolOp .And (b :: rest) pos) ub) : DW X W ex (.BoolOp .And (a :: b :: rest) pos) (dAnd tb ub) := by
  obtain ⟨ta, h1, l1⟩ := ha
  obtain ⟨tc, h2, l2⟩ := hb
  exact ⟨_, pw_and h1 h2, l_and l1 l2⟩
theorem dw_or {rest : List Expr} (ha : DTe X W ex a tb) (hb : DW X W ex (.BoolOp .Or (b :: rest) pos) ub) : DW X W ex (.BoolOp .Or (a :: b :: rest) pos) (dOr tb ub) := by
  obtain ⟨ta, h1, l1⟩ := ha
  obtain ⟨tc, h2, l2⟩ := hb
  exact ⟨_, pw_or h1 h2, l_or l1 l2⟩
theorem dt_w (ha : DW X W ex a tb) : DTe X W ex a tb := by
  obtain ⟨ta, h1, l1⟩ := ha
  exact ⟨_, h1.pt, l1⟩
theorem dt_not (ha : DTe X W ex a tb) : DTe X W ex (.UnaryOp .Not a pos) (dNot tb) := by
  obtain ⟨ta, h1, l1⟩ := ha
  exact ⟨_, pt_not h1, fun ds O k h G H σ Q ok rp x c => l1 ds O _ h G H σ _ ok rp x fun b O1 G1 H1 h1 s1 ok1 => c _ O1 G1 H1 h1 s1 ok1⟩
/-! as values -/
theorem de_one {op : BoolOp} (ha : DE X W ex a t) : DE X W ex (.BoolOp op [a] pos) t := by
  obtain ⟨ta, h1, l1⟩ := ha
  exact ⟨_, pe_one h1, l1⟩
theorem de_and {rest : List Expr} (ha : DE X W ex a t) (hb : DE X W ex (.BoolOp .And (b :: rest) pos) u) : DE X W ex (.BoolOp .And (a :: b :: rest) pos) (dAndV t u) := by
  obtain ⟨ta, h1, l1⟩ := ha
  obtain ⟨tc, h2, l2⟩ := hb
  refine ⟨_, pe_and h1 h2, fun ds O k h G H σ Q ok rp x c => l1 ds O _ h G H σ _ ok rp x fun d O1 v G1 H1 h1 s1 ok1 d1 => ?_⟩
  cases d1 with
  | bl b =>
    refine ⟨b, rfl, ?_⟩
    cases b with
    | true =>
      show tc σ H1 Q
      exact l2 ds O1 k h1 G1 H1 σ Q ok1 (rp.mono s1.g) (x.after s1) (c.after s1)
    | false => exact c _ O1 _ G1 H1 h1 s1 ok1 (.bl _)
  | _ => exact False.elim h1
theorem de_or {rest : List Expr} (ha : DE X W ex a t) (hb : DE X W ex (.BoolOp .Or (b :: rest) pos) u) : DE X W ex (.BoolOp .Or (a :: b :: rest) pos) (dOrV t u) := by
  obtain ⟨ta, h1, l1⟩ := ha
  obtain ⟨tc, h2, l2⟩ := hb
  refine ⟨_, pe_or h1 h2, fun ds O k h G H σ Q ok rp x c => l1 ds O _ h G H σ _ ok rp x fun d O1 v G1 H1 h1 s1 ok1 d1 => ?_⟩
  cases d1 with
  | bl b =>
    refine ⟨b, rfl, ?_⟩
    cases b with
    | false =>
      show tc σ H1 Q
      exact l2 ds O1 k h1 G1 H1 σ Q ok1 (rp.mono s1.g) (x.after s1) (c.after s1)
    | true => exact c _ O1 _ G1 H1 h1 s1 ok1 (.bl _)
  | _ => exact False.elim h1
theorem de_not (ha : DE X W ex a t) : DE X W ex (.UnaryOp .Not a pos) (dNotV t) := by
  obtain ⟨ta, h1, l1⟩ := ha
  refine ⟨_, pe_not h1, fun ds O k h G H σ Q ok rp x c => l1 ds O _ h G H σ _ ok rp x fun d O1 v G1 H1 h1 s1 ok1 d1 => ?_⟩
  cases d1 with
  | bl b => exact ⟨b, rfl, c _ O1 _ G1 H1 h1 s1 ok1 (.bl _)⟩
  | _ => exact False.elim h1
theorem de_ifexp (hc : DTe X W ex c tb) (ha : DE X W ex a t) (hb : DE X W ex b u) : DE X W ex (.IfExp c a b pos) (dIf tb t u) := by
  obtain ⟨tc, h0, l0⟩ := hc
  obtain ⟨ta, h1, l1⟩ := ha
  obtain ⟨tb, h2, l2⟩ := hb
  refine ⟨_, pe_ifExp h0 h1 h2, fun ds O k h G H σ Q ok rp x c => l0 ds O _ h G H σ _ ok rp x fun b O1 G1 H1 h1 s1 ok1 => ?_⟩
  cases b with
  | true => exact l1 ds O1 k h1 G1 H1 σ Q ok1 (rp.mono s1.g) (x.after s1) (c.after s1)
  | false => exact l2 ds O1 k h1 G1 H1 σ Q ok1 (rp.mono s1.g) (x.after s1) (c.after s1)
end
end DL
namespace DL
open PySem PySem.Spec PyProof.Rows L2 Evl

/-! ### calls of built-ins -/
section
variable {X : Cx} {W : WX} {ex : EX} {e : Expr} {es : List Expr} {pos p : Pos} {x : Str} {t : DA}
theorem de_blt {id : String} {r : List V → Hp → VK → Prop} {q : DRC} (hr : CallR X (.builtin id) r) (hl : LiftC X.K r q) (hm : X.mg x = none) (hb : bootBuiltins x = some (.builtin id)) (ha : DAs X W ex (e :: es) t) (hg : Gl X x := by rfl)
    (hn : x ≠ "__name__" := by decide) (hdb : (x == ("__debug__" : Str)) = false := by decide) (he : starEach (e :: es) X.env = (false, eval e X.env) :: starEach es X.env := by rfl) (hpl : (backTo pos (starEach es X.env)).any (·.1) = false := by rfl) :
    DE X W ex (.Call (.Name x p) (e :: es) [] pos) (dCB q t) := by
  obtain ⟨ta, h1, l1⟩ := ha
  exact ⟨_, pe_callB hr hg hm hb h1 hn hdb he hpl, l_cb hl l1⟩
theorem de_bty {T : String} {r : List V → Hp → VK → Prop} {q : DRC} (hr : CallR X (.type T) r) (hl : LiftC X.K r q) (hm : X.mg x = none) (hb : bootBuiltins x = some (.type T)) (ha : DAs X W ex (e :: es) t) (hg : Gl X x := by rfl)
    (hn : x ≠ "__name__" := by decide) (hdb : (x == ("__debug__" : Str)) = false := by decide) (he : starEach (e :: es) X.env = (false, eval e X.env) :: starEach es X.env := by rfl) (hpl : (backTo pos (starEach es X.env)).any (·.1) = false := by rfl) :
    DE X W ex (.Call (.Name x p) (e :: es) [] pos) (dCB q t) := by
  obtain ⟨ta, h1, l1⟩ := ha
  exact ⟨_, pe_callTy hr hg hm hb h1 hn hdb he hpl, l_cb hl l1⟩
end
/-- ints in a list -/
def intsOf : List D → Option (List Int)
  | [] => some []
  | .int x :: r => (intsOf r).map fun l => x :: l
  | _ :: _ => none
theorem intsOf_eq : ∀ {xs : List D} {ns : List Int}, intsOf xs = some ns → xs = ns.map D.int
  | [], _, e => by cases e; rfl
  | d :: r, ss, e => by
    cases d with
    | int x =>
      have e' : (intsOf r).map (fun l => x :: l) = some ss := e
      cases q : intsOf r with
      | none => rw [q] at e'; cases e'
      | some l =>
        rw [q] at e'
        cases e'
        rw [intsOf_eq q]
        rfl
    | _ => cases e
theorem intsOf_map : ∀ ns : List Int, intsOf (ns.map D.int) = some ns
  | [] => rfl
  | n :: ns => by
    show (intsOf (ns.map D.int)).map (fun l => n :: l) = _
    rw [intsOf_map ns]
    rfl
def blsOf : List D → Option (List Bool)
  | [] => some []
  | .bl x :: r => (blsOf r).map fun l => x :: l
  | _ :: _ => none
theorem blsOf_eq : ∀ {xs : List D} {ns : List Bool}, blsOf xs = some ns → xs = ns.map D.bl
  | [], _, e => by cases e; rfl
  | d :: r, ss, e => by
    cases d with
    | bl x =>
      have e' : (blsOf r).map (fun l => x :: l) = some ss := e
      cases q : blsOf r with
      | none => rw [q] at e'; cases e'
      | some l =>
        rw [q] at e'
        cases e'
        rw [blsOf_eq q]
        rfl
    | _ => cases e
theorem blsOf_map : ∀ ns : List Bool, blsOf (ns.map D.bl) = some ns
  | [] => rfl
  | n :: ns => by
    show (blsOf (ns.map D.bl)).map (fun l => n :: l) = _
    rw [blsOf_map ns]
    rfl
theorem strsOf_map : ∀ ns : List Str, strsOf (ns.map D.str) = some ns
  | [] => rfl
  | n :: ns => by
    show (strsOf (ns.map D.str)).map (fun l => n :: l) = _
    rw [strsOf_map ns]
    rfl
def listOf (O : Ow) (d : D) : Option (List D) := match res O d with
  | .lst xs => some xs
  | _ => none
theorem listOf_ok {K : PySem.W.Frag} {G H : Hp} {O : Ow} {v : V} {d : D} (ok : Ok K G H O) (h : Dn K G v d) {xs : List D} (e : listOf O d = some xs) : ∃ a vs, v = .ref a ∧ H a = some (.lst vs) ∧ DnAll K G vs xs := by
  unfold listOf at e
  split at e
  · rename_i ys q
    cases e
    exact res_lst ok h q
  · cases e

/-! the readings of built-ins -/
def qLen : DRC := fun xs O k => match xs with
  | [d] => (match res O d with
    | .lst xs => k (.int (xs.length : Int)) O
    | .tup xs => k (.int (xs.length : Int)) O
    | .scr ns => k (.int (ns.length : Int)) O
    | .str s => s.length ≤ sizeLine ∧ k (.int (s.length : Int)) O
    | _ => False)
  | _ => False
def qAbs : DRC := fun xs O k => match xs with
  | [.int i] => k (.int (if i < 0 then -i else i)) O
  | _ => False
def qMax2 : DRC := fun xs O k => match xs with
  | [.int i, .int j] => k (.int (max i j)) O
  | _ => False
def qMin2 : DRC := fun xs O k => match xs with
  | [.int i, .int j] => k (.int (min i j)) O
  | _ => False
def qSum : DRC := fun xs O k => match xs with
  | [d] => (match (listOf O d).bind intsOf with
    | some ns => k (.int ns.sum) O
    | none => False)
  | _ => False
def qAll : DRC := fun xs O k => match xs with
  | [d] => (match (listOf O d).bind blsOf with
    | some ns => k (.bl (ns.all id)) O
    | none => False)
  | _ => False
def qAny : DRC := fun xs O k => match xs with
  | [d] => (match (listOf O d).bind blsOf with
    | some ns => k (.bl (ns.any id)) O
    | none => False)
  | _ => False
def qInt : DRC := fun xs O k => match xs with
  | [.int i] => k (.int i) O
  | [.bl b] => k (.int (if b then 1 else 0)) O
  | _ => False
def qMaxL : DRC := fun xs O k => match xs with
  | [d] => (match (listOf O d).bind intsOf with
    | some ns => 0 < ns.length ∧ ∀ m, m ∈ ns → (∀ y, y ∈ ns → y ≤ m) → k (.int m) O
    | none => False)
  | _ => False
def qMinL : DRC := fun xs O k => match xs with
  | [d] => (match (listOf O d).bind intsOf with
    | some ns => 0 < ns.length ∧ ∀ m, m ∈ ns → (∀ y, y ∈ ns → m ≤ y) → k (.int m) O
    | none => False)
  | _ => False
/-- tuple(x) -/
def qTuple : DRC := fun xs O k => match xs with
  | [d] => (match res O d with
    | .lst xs => k (.tup xs) O
    | .tup xs => k (.tup xs) O
    | _ => False)
  | _ => False
/-- list(x): that stays | that will be changed -/
def qList : DRC := fun xs O k => match xs with
  | [d] => (match res O d with
    | .lst xs => k (.lst xs) O
    | .tup xs => k (.lst xs) O
    | .scr ns => k (.lst (ns.map D.int)) O
    | _ => False)
  | _ => False
def qListO : DRC := fun xs O k => match xs with
  | [d] => (match res O d with
    | .lst xs => ∀ p, O p = none → k (.opq (.ref p)) (oset O p (.lst xs))
    | .tup xs => ∀ p, O p = none → k (.opq (.ref p)) (oset O p (.lst xs))
    | .scr ns => ∀ p, O p = none → k (.opq (.ref p)) (oset O p (.lst (ns.map D.int)))
    | _ => False)
  | _ => False
section
variable {K : PySem.W.Frag}
theorem one_of {G : Hp} {vs : List V} {d : D} (h : DnAll K G vs [d]) : ∃ v, vs = [v] ∧ Dn K G v d := by
  cases h with
  | cons h t =>
    cases t
    exact ⟨_, rfl, h⟩
theorem two_of {G : Hp} {vs : List V} {d e : D} (h : DnAll K G vs [d, e]) : ∃ v u, vs = [v, u] ∧ Dn K G v d ∧ Dn K G u e := by
  cases h with
  | cons h t =>
    obtain ⟨u, rfl, h2⟩ := one_of t
    exact ⟨_, _, rfl, h, h2⟩
theorem lc_len : LiftC K (fun xs H Q => ∃ x n, xs = [x] ∧ LenV K x H n ∧ Q (.int n) H) qLen := by
  intro xs O k h G H vs Q ok hx c
  unfold qLen at h
  split at h
  · rename_i d
    obtain ⟨v, rfl, hd⟩ := one_of hx
    split at h
    · rename_i ys e
      obtain ⟨a, vs, rfl, a1, a2⟩ := res_lst ok hd e
      exact ⟨_, vs.length, rfl, .inl ⟨vs, SqL.of a1, rfl⟩, by rw [a2.length]; exact c _ O _ G H h Stp.refl ok (.int _)⟩
    · rename_i ys e
      obtain ⟨a, vs, rfl, a1, a2⟩ := res_tup ok hd e
      exact ⟨_, vs.length, rfl, .inr ⟨vs, a1, rfl⟩, by rw [a2.length]; exact c _ O _ G H h Stp.refl ok (.int _)⟩
    · rename_i ys e
      obtain ⟨a, rfl, a1⟩ := res_scr ok hd e
      exact ⟨_, ys.length, rfl, .inl ⟨_, a1, by rw [List.length_map]⟩, c _ O _ G H h Stp.refl ok (.int _)⟩
    · rename_i s e
      rw [res_str hd e]
      exact ⟨_, s.length, rfl, ⟨h.1, rfl⟩, c _ O _ G H h.2 Stp.refl ok (.int _)⟩
    · exact h.elim
  · exact h.elim
theorem lc_abs : LiftC K (fun xs H Q => ∃ i, xs = [.int i] ∧ Q (.int (if i < 0 then -i else i)) H) qAbs := by
  intro xs O k h G H vs Q ok hx c
  unfold qAbs at h
  split at h
  · rename_i d
    obtain ⟨v, rfl, hd⟩ := one_of hx
    cases hd
    exact ⟨_, rfl, c _ O _ G H h Stp.refl ok (.int _)⟩
  · exact h.elim
theorem lc_max2 : LiftC K (fun xs H Q => ∃ i j, xs = [.int i, .int j] ∧ Q (.int (if j > i then j else i)) H) qMax2 := by
  intro xs O k h G H vs Q ok hx c
  unfold qMax2 at h
  split at h
  · rename_i i j
    obtain ⟨v, u, rfl, hd, he⟩ := two_of hx
    cases hd
    cases he
    have e : (if j > i then j else i) = max i j := by
      split <;> omega
    exact ⟨i, j, rfl, by rw [e]; exact c _ O _ G H h Stp.refl ok (.int _)⟩
  · exact h.elim
theorem lc_min2 : LiftC K (fun xs H Q => ∃ i j, xs = [.int i, .int j] ∧ Q (.int (if j < i then j else i)) H) qMin2 := by
  intro xs O k h G H vs Q ok hx c
  unfold qMin2 at h
  split at h
  · rename_i i j
    obtain ⟨v, u, rfl, hd, he⟩ := two_of hx
    cases hd
    cases he
    have e : (if j < i then j else i) = min i j := by
      split <;> omega
    exact ⟨i, j, rfl, by rw [e]; exact c _ O _ G H h Stp.refl ok (.int _)⟩
  · exact h.elim
theorem ints_of {G H : Hp} {O : Ow} {v : V} {d : D} (ok : Ok K G H O) (h : Dn K G v d) {ns : List Int} (e : (listOf O d).bind intsOf = some ns) : ∃ a, v = .ref a ∧ SqL K H a (ns.map V.int) := by
  cases q : listOf O d with
  | none => rw [q] at e; cases e
  | some xs =>
    rw [q] at e
    obtain ⟨a, vs, rfl, a1, a2⟩ := listOf_ok ok h q
    have z := intsOf_eq (show intsOf xs = some ns from e)
    subst z
    rw [a2.ints] at a1
    exact ⟨a, rfl, SqL.of a1⟩
theorem bls_of {G H : Hp} {O : Ow} {v : V} {d : D} (ok : Ok K G H O) (h : Dn K G v d) {ns : List Bool} (e : (listOf O d).bind blsOf = some ns) : ∃ a, v = .ref a ∧ SqL K H a (ns.map V.bl) := by
  cases q : listOf O d with
  | none => rw [q] at e; cases e
  | some xs =>
    rw [q] at e
    obtain ⟨a, vs, rfl, a1, a2⟩ := listOf_ok ok h q
    have z := blsOf_eq (show blsOf xs = some ns from e)
    subst z
    rw [a2.bls] at a1
    exact ⟨a, rfl, SqL.of a1⟩
theorem lc_sum : LiftC K (rSum K) qSum := by
  intro xs O k h G H vs Q ok hx c
  unfold qSum at h
  split at h
  · obtain ⟨v, rfl, hd⟩ := one_of hx
    split at h
    · rename_i ns e
      obtain ⟨a, rfl, a1⟩ := ints_of ok hd e
      exact ⟨a, ns, rfl, a1, c _ O _ G H h Stp.refl ok (.int _)⟩
    · exact h.elim
  · exact h.elim
theorem lc_all : LiftC K (rAll K) qAll := by
  intro xs O k h G H vs Q ok hx c
  unfold qAll at h
  split at h
  · obtain ⟨v, rfl, hd⟩ := one_of hx
    split at h
    · rename_i ns e
      obtain ⟨a, rfl, a1⟩ := bls_of ok hd e
      exact ⟨a, ns, rfl, a1, c _ O _ G H h Stp.refl ok (.bl _)⟩
    · exact h.elim
  · exact h.elim
theorem lc_any : LiftC K (rAny K) qAny := by
  intro xs O k h G H vs Q ok hx c
  unfold qAny at h
  split at h
  · obtain ⟨v, rfl, hd⟩ := one_of hx
    split at h
    · rename_i ns e
      obtain ⟨a, rfl, a1⟩ := bls_of ok hd e
      exact ⟨a, ns, rfl, a1, c _ O _ G H h Stp.refl ok (.bl _)⟩
    · exact h.elim
  · exact h.elim
theorem lc_maxL : LiftC K (rMax K) qMaxL := by
  intro xs O k h G H vs Q ok hx c
  unfold qMaxL at h
  split at h
  · obtain ⟨v, rfl, hd⟩ := one_of hx
    split at h
    · rename_i ns e
      obtain ⟨a, rfl, a1⟩ := ints_of ok hd e
      exact ⟨a, ns, rfl, a1, h.1, fun m m1 m2 => c _ O _ G H (h.2 m m1 m2) Stp.refl ok (.int _)⟩
    · exact h.elim
  · exact h.elim
theorem lc_minL : LiftC K (rMin K) qMinL := by
  intro xs O k h G H vs Q ok hx c
  unfold qMinL at h
  split at h
  · obtain ⟨v, rfl, hd⟩ := one_of hx
    split at h
    · rename_i ns e
      obtain ⟨a, rfl, a1⟩ := ints_of ok hd e
      exact ⟨a, ns, rfl, a1, h.1, fun m m1 m2 => c _ O _ G H (h.2 m m1 m2) Stp.refl ok (.int _)⟩
    · exact h.elim
  · exact h.elim
theorem lc_int : LiftC K (fun xs H Q => (∃ i, xs = [.int i] ∧ Q (.int i) H) ∨ ∃ k, xs = [.bl k] ∧ Q (.int (if k then 1 else 0)) H) qInt := by
  intro xs O k h G H vs Q ok hx c
  unfold qInt at h
  split at h
  · obtain ⟨v, rfl, hd⟩ := one_of hx
    cases hd
    exact .inl ⟨_, rfl, c _ O _ G H h Stp.refl ok (.int _)⟩
  · obtain ⟨v, rfl, hd⟩ := one_of hx
    cases hd
    exact .inr ⟨_, rfl, c _ O _ G H h Stp.refl ok (.int _)⟩
  · exact h.elim
theorem lc_tuple : LiftC K (fun xs H Q => ∃ p ys, xs = [.ref p] ∧ ((SqL K H p ys ∧ ∀ l, H l = none → Q (.ref l) (upd H l (.tup ys))) ∨ (SqT K H p ys ∧ Q (.ref p) H))) qTuple := by
  intro xs O k h G H vs Q ok hx c
  unfold qTuple at h
  split at h
  · rename_i d
    obtain ⟨v, rfl, hd⟩ := one_of hx
    split at h
    · rename_i ys e
      obtain ⟨a, vs, rfl, a1, a2⟩ := res_lst ok hd e
      refine ⟨a, vs, rfl, .inl ⟨SqL.of a1, fun p hp => ?_⟩⟩
      obtain ⟨ok2, s2, e2⟩ := frozen (o := .tup vs) ok hp
      exact c _ O _ _ _ h s2 ok2 (.tup (SqT.of upd_same) (a2.mono e2))
    · rename_i ys e
      obtain ⟨a, vs, rfl, a1, a2⟩ := res_tup ok hd e
      have e3 := res_tupD e
      subst e3
      exact ⟨a, vs, rfl, .inr ⟨a1, c _ O _ G H h Stp.refl ok hd⟩⟩
    · exact h.elim
  · exact h.elim
theorem lc_list : LiftC K (fun xs H Q => ∃ p ys, xs = [.ref p] ∧ (SqL K H p ys ∨ SqT K H p ys) ∧ ∀ l, H l = none → Q (.ref l) (upd H l (.lst ys))) qList := by
  intro xs O k h G H vs Q ok hx c
  unfold qList at h
  split at h
  · rename_i d
    obtain ⟨v, rfl, hd⟩ := one_of hx
    have fin : ∀ {ys : List D} {vs : List V}, DnAll K G vs ys → k (.lst ys) O → ∀ l, H l = none → Q (.ref l) (upd H l (.lst vs)) := fun {ys vs} a2 h p hp => by
      obtain ⟨ok2, s2, e2⟩ := frozen (o := .lst vs) ok hp
      exact c _ O _ _ _ h s2 ok2 (.lst upd_same (a2.mono e2))
    split at h
    · rename_i ys e
      obtain ⟨a, vs, rfl, a1, a2⟩ := res_lst ok hd e
      exact ⟨a, vs, rfl, .inl (SqL.of a1), fin a2 h⟩
    · rename_i ys e
      obtain ⟨a, vs, rfl, a1, a2⟩ := res_tup ok hd e
      exact ⟨a, vs, rfl, .inr a1, fin a2 h⟩
    · rename_i ys e
      obtain ⟨a, rfl, a1⟩ := res_scr ok hd e
      exact ⟨a, _, rfl, .inl a1, fin (DnAll.ofInts _) h⟩
    · exact h.elim
  · exact h.elim
theorem lc_listO : LiftC K (fun xs H Q => ∃ p ys, xs = [.ref p] ∧ (SqL K H p ys ∨ SqT K H p ys) ∧ ∀ l, H l = none → Q (.ref l) (upd H l (.lst ys))) qListO := by
  intro xs O k h G H vs Q ok hx c
  unfold qListO at h
  split at h
  · rename_i d
    obtain ⟨v, rfl, hd⟩ := one_of hx
    have fin : ∀ {ys : List D} {vs : List V}, DnAll K G vs ys → (∀ p, O p = none → k (.opq (.ref p)) (oset O p (.lst ys))) → ∀ l, H l = none → Q (.ref l) (upd H l (.lst vs)) := fun {ys vs} a2 h p hp => by
      obtain ⟨ok2, s2⟩ := owned ok hp a2
      exact c _ _ _ _ _ (h p (ok.none_of hp)) s2 ok2 (.opq _)
    split at h
    · rename_i ys e
      obtain ⟨a, vs, rfl, a1, a2⟩ := res_lst ok hd e
      exact ⟨a, vs, rfl, .inl (SqL.of a1), fin a2 h⟩
    · rename_i ys e
      obtain ⟨a, vs, rfl, a1, a2⟩ := res_tup ok hd e
      exact ⟨a, vs, rfl, .inr a1, fin a2 h⟩
    · rename_i ys e
      obtain ⟨a, rfl, a1⟩ := res_scr ok hd e
      exact ⟨a, _, rfl, .inl a1, fin (DnAll.ofInts _) h⟩
    · exact h.elim
  · exact h.elim
end

/-! ### isinstance -/
def D.ty : D → Option Value
  | .non => some (.type "NoneType")
  | .bl _ => some (.type "bool")
  | .int _ => some (.type "int")
  | .str _ => some (.type "str")
  | .lst _ => some (.type "list")
  | .tup _ => some (.type "tuple")
  | .scr _ => some (.type "list")
  | .obj t _ => some t
  | .opq _ => none
  | .fdic _ _ => none
theorem ty_ok {K : PySem.W.Frag} {G H : Hp} {O : Ow} {v : V} {d : D} (ok : Ok K G H O) (h : Dn K G v d) {t : Value} (e : (res O d).ty = some t) : TyD K H v t := by
  cases q : res O d with
  | non => rw [q] at e; cases e; rw [res_non h q]; exact .x <| .base .non
  | bl b => rw [q] at e; cases e; rw [res_bl h q]; exact .x <| .base (.bl _)
  | int b => rw [q] at e; cases e; rw [res_int h q]; exact .x <| .base (.int _)
  | str b => rw [q] at e; cases e; rw [res_str h q]; exact .x <| .base (.str _)
  | lst xs =>
    rw [q] at e
    cases e
    obtain ⟨a, vs, rfl, a1, a2⟩ := res_lst ok h q
    exact .x <| .base (.lst a1)
  | tup xs =>
    rw [q] at e
    cases e
    obtain ⟨a, vs, rfl, a1, a2⟩ := res_tup ok h q
    rcases a1 with (z | ⟨o, z⟩) | ⟨o, its, n, z, z1, _⟩
    · exact .x <| .base (.tup z)
    · exact .x <| .fTuple z
    · exact .x <| .kTuple z z1
  | scr ns =>
    rw [q] at e
    cases e
    obtain ⟨a, rfl, a1⟩ := res_scr ok h q
    rcases a1 with (z | ⟨o, z⟩) | ⟨o, its, n, z, z1, _⟩
    · exact .x <| .base (.lst z)
    · exact .x <| .base (.frz z)
    · exact .x <| .kList z z1
  | obj t' v' =>
    rw [q] at e
    cases e
    have z := res_nl q (fun _ z => by cases z)
    subst z
    cases h with
    | obj h _ => exact tyD_mono ok.ex h
  | opq v' => rw [q] at e; cases e
  | fdic _ _ => rw [q] at e; cases e
theorem tyD_type {K : PySem.W.Frag} {H : Hp} {v : V} {m : String} (h : TyD K H v (.type m)) : TyX K H v (.type m) := by
  cases h with
  | x h => exact h
/-- isinstance(x, c) for a built-in class -/
def qIsi : DRC := fun xs O k => match xs with
  | [d, .opq (.ty n)] => (match (res O d).ty with
    | some (.type m) => (match kitB m n with | some b => k (.bl b) O | none => False)
    | _ => False)
  | _ => False
def kitAnyB (m : String) : List String → Option Bool
  | [] => some false
  | n :: ns => match kitB m n with
    | some true => some true
    | some false => kitAnyB m ns
    | none => none
def tysOf : List D → Option (List String)
  | [] => some []
  | .opq (.ty x) :: r => (tysOf r).map fun l => x :: l
  | _ :: _ => none
theorem tysOf_eq : ∀ {xs : List D} {ns : List String}, tysOf xs = some ns → xs = ns.map (fun n => D.opq (.ty n))
  | [], _, e => by cases e; rfl
  | d :: r, ss, e => by
    cases d with
    | opq v =>
      cases v with
      | ty x =>
        have e' : (tysOf r).map (fun l => x :: l) = some ss := e
        cases q : tysOf r with
        | none => rw [q] at e'; cases e'
        | some l =>
          rw [q] at e'
          cases e'
          rw [tysOf_eq q]
          rfl
      | _ => cases e
    | _ => cases e
def qIsiT : DRC := fun xs O k => match xs with
  | [d, .tup cs] => (match (res O d).ty, tysOf cs with
    | some (.type m), some ns => (match kitAnyB m ns with | some b => k (.bl b) O | none => False)
    | _, _ => False)
  | _ => False
section
variable {K : PySem.W.Frag}
theorem lc_isi : LiftC K (rIsi K) qIsi := by
  intro xs O k h G H vs Q ok hx c
  unfold qIsi at h
  split at h
  · rename_i d n
    obtain ⟨v, u, rfl, hd, he⟩ := two_of hx
    split at h
    · rename_i m e
      split at h
      · rename_i b eb
        cases he
        exact ⟨v, .ty n, .type m, .type n, b, rfl, .ty n, tyD_type (ty_ok ok hd e), kit_ty eb, c _ O _ G H h Stp.refl ok (.bl _)⟩
      · exact h.elim
    · exact h.elim
  · exact h.elim
theorem tys_all {G : Hp} : ∀ {vs : List V} {ns : List String}, DnAll K G vs (ns.map fun n => D.opq (.ty n)) → Paired ClsV vs (ns.map Value.type)
  | [], [], _ => .nil
  | [], _ :: _, h => by cases h
  | _ :: _, [], h => by cases h
  | _ :: _, _ :: _, .cons h t => by
    cases h
    exact .cons (.ty _) (tys_all t)
theorem kitAny_ok {m : String} : ∀ {ns : List String} {b : Bool}, kitAnyB m ns = some b → PySem.W.kitAny K (.type m) (ns.map Value.type) = some b
  | [], b, e => by
    cases e
    rfl
  | n :: ns, b, e => by
    unfold kitAnyB at e
    split at e
    · rename_i q
      cases e
      exact kitAny_cons (kit_ty q) (fun z => by cases z) fun _ => rfl
    · rename_i q
      exact kitAny_cons (kit_ty q) (fun _ => kitAny_ok e) fun z => by cases z
    · cases e
theorem lc_isiT : LiftC K (fun xs H Q => ∃ (x : V) (tp : Addr) (cs : List V) (t : Value) (us : List Value) (b : Bool), xs = [x, .ref tp] ∧ SqT K H tp cs ∧ Paired ClsV cs us ∧ TyX K H x t ∧ PySem.W.kitAny K t us = some b ∧ Q (.bl b) H) qIsiT := by
  intro xs O k h G H vs Q ok hx c
  unfold qIsiT at h
  split at h
  · rename_i d cs
    obtain ⟨v, u, rfl, hd, he⟩ := two_of hx
    split at h
    · rename_i m ns e1 e2
      split at h
      · rename_i b eb
        have z := tysOf_eq e2
        subst z
        cases he with
        | tup q1 q2 =>
          exact ⟨v, _, _, .type m, _, b, rfl, ex_t ok.ex q1, tys_all q2, tyD_type (ty_ok ok hd e1), kitAny_ok eb, c _ O _ G H h Stp.refl ok (.bl _)⟩
      · exact h.elim
    · exact h.elim
  · exact h.elim
end
section
variable {X : Cx}
theorem call_isiTS : CallR X (.builtin "isinstance") (fun xs H Q => ∃ (x : V) (tp : Addr) (cs : List V) (t : Value) (us : List Value) (b : Bool), xs = [x, .ref tp] ∧ SqT X.K H tp cs ∧ Paired ClsV cs us ∧ TyX X.K H x t ∧ PySem.W.kitAny X.K t us = some b ∧ Q (.bl b) H) := by
  intro pins s σ H xs us Q I r h
  obtain ⟨x, tp, cs, t, ws, b, rfl, hT, k, ty, e, q⟩ := h
  obtain ⟨u1, u2, rfl, r1, r2⟩ := vals2 r
  cases (show u2 = Value.ref tp from r2)
  obtain ⟨P, Z, p, hx⟩ := kit_of I r1 ty
  obtain ⟨its, rv, ⟨o, h1, h2, n, h3⟩, _⟩ := I.tuple hT
  have e3 := ClsV.all k rv
  subst e3
  obtain ⟨oc, od, dt, sl⟩ := o
  simp only at h2 h3
  subst h2 h3
  exact PySem.W.kia_tup Z I.kIn p h1 e hx fun tk => ⟨.bl b, H, I.tok tk, rfl, q⟩
end
theorem kit_tab : kitB "int" "int" = some true ∧ kitB "bool" "int" = some true ∧ kitB "bool" "bool" = some true ∧ kitB "int" "bool" = some false := by decide +kernel

/-! ### methods of built-in values -/
def tyD (T : String) : D → Bool
  | .str _ => T == "str"
  | .lst _ => T == "list"
  | .scr _ => T == "list"
  | _ => false
def dMeth (T : String) (q : D → List D → Ow → DK → Prop) (t : DT) (u : DA) : DT := fun ds O k => t ds O fun x O1 => tyD T (res O1 x) = true ∧ u ds O1 fun xs O2 => q x xs O2 k
def LiftM (K : PySem.W.Frag) (r : V → List V → Hp → VK → Prop) (q : D → List D → Ow → DK → Prop) : Prop := ∀ x xs O k, q x xs O k → ∀ G H v vs Q, Ok K G H O → Dn K G v x → DnAll K G vs xs → Cont K G H O k Q → r v vs H Q
theorem tyD_ok {K : PySem.W.Frag} {T : String} {G H : Hp} {O : Ow} {v : V} {d : D} (ok : Ok K G H O) (h : Dn K G v d) (e : tyD T (res O d) = true) : tyV K T v H := by
  cases q : res O d with
  | str b =>
    rw [q] at e
    rw [res_str h q]
    exact (eq_of_beq (show (T == "str") = true from e) : T = "str")
  | lst xs =>
    rw [q] at e
    obtain ⟨a, vs, rfl, a1, a2⟩ := res_lst ok h q
    exact .inl ⟨eq_of_beq (show (T == "list") = true from e), vs, SqL.of a1⟩
  | scr ns =>
    rw [q] at e
    obtain ⟨a, rfl, a1⟩ := res_scr ok h q
    exact .inl ⟨eq_of_beq (show (T == "list") = true from e), _, a1⟩
  | _ => rw [q] at e; cases e
section
variable {X : Cx} {W : WX} {ex : EX} {o e : Expr} {es : List Expr} {apos cpos : Pos} {t : DT} {u : DA} {name : Str} {T id : String} {r : V → List V → Hp → VK → Prop} {q : D → List D → Ow → DK → Prop}
theorem de_meth (hA : PlainAttrs T) (hS : Slot T name id) (hT : typeOf (.builtin id) = pure (.type "method_descriptor")) (hr : MtR X id r) (hl : LiftM X.K r q) (ho : DE X W ex o t) (ha : DAs X W ex (e :: es) u)
    (h1 : attributeBase o name X.env (eval o X.env) = eval o X.env := by rfl)
    (h2 : ((backTo cpos (starEach (e :: es) X.env)).all (fun x => !x.1) && (backToKw cpos (keywordEach [] X.env)).all (fun x => x.1.isSome) && decide ((e :: es).length + ([] : List Keyword).length + (if ([] : List Keyword).isEmpty = true then 0 else 1) < 30)) = true := by rfl)
    (h3 : (apos.endLine == cpos.line) = true := by rfl)
    (he : starEach (e :: es) X.env = (false, eval e X.env) :: starEach es X.env := by rfl) (hpl : (backTo cpos (starEach es X.env)).any (·.1) = false := by rfl) :
    DE X W ex (.Call (.Attribute o name apos) (e :: es) [] cpos) (dMeth T q t u) := by
  obtain ⟨ta, p1, l1⟩ := ho
  obtain ⟨tb, p2, l2⟩ := ha
  refine ⟨_, pe_bm hA hS hT hr p1 p2 h1 h2 h3 he hpl, fun ds O k h G H σ Q ok rp x c => l1 ds O _ h G H σ _ ok rp x fun d O1 v G1 H1 h1 s1 ok1 d1 => ⟨tyD_ok ok1 d1 h1.1, ?_⟩⟩
  exact l2 ds O1 _ h1.2 G1 H1 σ _ ok1 (rp.mono s1.g) (x.after s1) fun xs O2 vs G2 H2 h2 s2 ok2 d2 => hl d xs O2 k h2 G2 H2 v vs Q ok2 (d1.mono s2.g) d2 (c.after (s1.trans s2))
def qAppend : D → List D → Ow → DK → Prop := fun x xs O k => match x, xs with
  | .opq (.ref p), [y] => (match O p with
    | some (.lst ys) => ys.length < sizeLine ∧ k .non (oset O p (.lst (ys ++ [y])))
    | _ => False)
  | _, _ => False
theorem lm_append {K : PySem.W.Frag} : LiftM K rAppend qAppend := by
  intro x xs O k h G H v vs Q ok hx hxs c
  unfold qAppend at h
  split at h
  · rename_i p y
    cases hx
    obtain ⟨u, rfl, hy⟩ := one_of hxs
    split at h
    · rename_i ys e
      obtain ⟨_, ws, w1, w2⟩ := ok.own p _ e
      obtain ⟨ok2, s2⟩ := rewritten (vs := ws ++ [u]) (xs := ys ++ [y]) ok e (w2.append (.cons hy .nil))
      exact ⟨p, ws, u, rfl, rfl, w1, by rw [w2.length]; exact h.1, c _ _ _ _ _ h.2 s2 ok2 .non⟩
    · exact h.elim
  · exact h.elim
def qCount : D → List D → Ow → DK → Prop := fun x xs O k => match x, xs with
  | .str a, [.str b] => k (.int (Txt.count a b)) O
  | _, _ => False
theorem lm_count {K : PySem.W.Frag} : LiftM K (fun x xs H Q => ∃ a b, x = .str a ∧ xs = [.str b] ∧ Q (.int (Txt.count a b)) H) qCount := by
  intro x xs O k h G H v vs Q ok hx hxs c
  unfold qCount at h
  split at h
  · cases hx
    obtain ⟨u, rfl, hy⟩ := one_of hxs
    cases hy
    exact ⟨_, _, rfl, rfl, c _ O _ G H h Stp.refl ok (.int _)⟩
  · exact h.elim
def qJoin : D → List D → Ow → DK → Prop := fun x xs O k => match x, xs with
  | .str a, [d] => (match (itemsIn O d).bind strsOf with
    | some ys => (ys.map (·.length)).sum + ys.length * a.length ≤ 16777216 ∧ k (.str (Txt.join a ys)) O
    | none => False)
  | _, _ => False
theorem lm_join {K : PySem.W.Frag} : LiftM K (fun x xs H Q => ∃ a p, ∃ ys : List Str, x = .str a ∧ xs = [.ref p] ∧ (SqL K H p (ys.map V.str) ∨ SqT K H p (ys.map V.str)) ∧ (ys.map (·.length)).sum + ys.length * a.length ≤ 16777216 ∧ Q (.str (Txt.join a ys)) H) qJoin := by
  intro x xs O k h G H v vs Q ok hx hxs c
  unfold qJoin at h
  split at h
  · cases hx
    obtain ⟨u, rfl, hy⟩ := one_of hxs
    split at h
    · rename_i ss e
      cases q : itemsIn O _ with
      | none => rw [q] at e; cases e
      | some xs =>
        rw [q] at e
        have ex := strsOf_eq (show strsOf xs = some ss from e)
        subst ex
        unfold itemsIn at q
        split at q
        · rename_i ys r
          cases q
          obtain ⟨a, vs, rfl, a1, a2⟩ := res_lst ok hy r
          have z := a2.strs
          subst z
          exact ⟨_, a, ss, rfl, rfl, .inl (SqL.of a1), h.1, c _ O _ G H h.2 Stp.refl ok (.str _)⟩
        · rename_i ys r
          cases q
          obtain ⟨a, vs, rfl, a1, a2⟩ := res_tup ok hy r
          have z := a2.strs
          subst z
          exact ⟨_, a, ss, rfl, rfl, .inr a1, h.1, c _ O _ G H h.2 Stp.refl ok (.str _)⟩
        · cases q
    · exact h.elim
  · exact h.elim
end
end DL
namespace DL
open PySem PySem.Spec PyProof.Rows L2 Evl

/-! ### statements -/
structure DEnds where
  nx : Ds → Ow → Prop
  rt : DK
  bk : Ds → Ow → Prop := fun _ _ => False
  ct : Ds → Ow → Prop := fun _ _ => False
abbrev DSr := DEnds → Ds → Ow → Prop
structure ContS (K : PySem.W.Frag) (G H : Hp) (O : Ow) (E : DEnds) (D : Ends) : Prop where
  nx : ContG K G H O E.nx D.nx
  rt : Cont K G H O E.rt D.rt
  bk : ContG K G H O E.bk D.bk
  ct : ContG K G H O E.ct D.ct
theorem ContS.after {K : PySem.W.Frag} {G H G' H' : Hp} {O O' : Ow} {E : DEnds} {D : Ends} (c : ContS K G H O E D) (s : Stp G H O G' H' O') : ContS K G' H' O' E D := ⟨c.nx.after s, c.rt.after s, c.bk.after s, c.ct.after s⟩
def LiftS (K : PySem.W.Frag) (W : WX) (ex : EX) (ts : TS) (t : DSr) : Prop := ∀ E ds O, t E ds O → ∀ G H σ D, Ok K G H O → Rep K G σ ds → ContX K G H O W ex → ContS K G H O E D → ts D σ H
def DSt (X : Cx) (W : WX) (ex : EX) (st : Stmt) (t : DSr) : Prop := ∃ ts, PS X st ts ∧ LiftS X.K W ex ts t
def DSs (X : Cx) (W : WX) (ex : EX) (st : List Stmt) (t : DSr) : Prop := ∃ ts, PSs X st ts ∧ LiftS X.K W ex ts t
/-! targets -/
abbrev DG := D → Ds → Ow → (Ds → Ow → Prop) → Prop
abbrev DGs := List D → Ds → Ow → (Ds → Ow → Prop) → Prop
def Tch (is : List Nat) (σ σ' : L2.St) : Prop := ∀ vs : List Nat, (∀ i ∈ is, i ∈ vs) → wipe σ' vs = wipe σ vs
theorem Tch.trans {is js : List Nat} {σ σ' σ2 : L2.St} (a : Tch is σ σ') (b : Tch js σ' σ2) : Tch (is ++ js) σ σ2 := fun vs h => (b vs fun i hi => h i (List.mem_append_right _ hi)).trans (a vs fun i hi => h i (List.mem_append_left _ hi))
def LiftG (K : PySem.W.Frag) (W : WX) (ex : EX) (is : List Nat) (g : TG) (t : DG) : Prop := ∀ x ds O k, t x ds O k → ∀ G H σ v Q, Ok K G H O → Rep K G σ ds → ContX K G H O W ex → Dn K G v x → (∀ ds' O' σ' G' H', k ds' O' → Stp G H O G' H' O' → Ok K G' H' O' → Rep K G' σ' ds' → Tch is σ σ' → Q σ' H') → g v σ H Q
def LiftGs (K : PySem.W.Frag) (W : WX) (ex : EX) (is : List Nat) (g : TGs) (t : DGs) : Prop := ∀ xs ds O k, t xs ds O k → ∀ G H σ vs Q, Ok K G H O → Rep K G σ ds → ContX K G H O W ex → DnAll K G vs xs → (∀ ds' O' σ' G' H', k ds' O' → Stp G H O G' H' O' → Ok K G' H' O' → Rep K G' σ' ds' → Tch is σ σ' → Q σ' H') → g vs σ H Q
def DGt (X : Cx) (W : WX) (ex : EX) (is : List Nat) (tg : Expr) (t : DG) : Prop := ∃ g, PG X tg g ∧ LiftG X.K W ex is g t
def DGts (X : Cx) (W : WX) (ex : EX) (is : List Nat) (tgs : List Expr) (t : DGs) : Prop := ∃ g, PGs X tgs g ∧ LiftGs X.K W ex is g t
def dgName (i : Nat) : DG := fun x ds O k => k (ds.set i (some x)) O
def dgNil : DGs := fun xs ds O k => match xs with
  | [] => k ds O
  | _ => False
def dgCons (t : DG) (u : DGs) : DGs := fun xs ds O k => match xs with
  | x :: r => t x ds O fun ds' O' => u r ds' O' k
  | _ => False
def dgTup (n : Nat) (t : DGs) : DG := fun x ds O k => match x with
  | .tup xs => xs.length = n ∧ t xs ds O k
  | _ => False
/-- xs[i] = .. -/
def dgSub (t u : DT) : DG := fun x ds O k => t ds O fun o O1 => u ds O1 fun i O2 => match o, i with
  | .opq (.ref p), .int j => (match O2 p with
    | some (.lst ys) => (match ixN ys.length j with
      | some m => k ds (oset O2 p (.lst (ys.set m x)))
      | none => False)
    | _ => False)
  | _, _ => False
section
variable {X : Cx} {W : WX} {ex : EX} {pos : Pos}
theorem dg_name (i : Nat) {x : Str} (hN : X.N.Nodup) (hi : X.N[i]? = some x := by rfl) (hx : Loc X.env.scope x := by first | exact Or.inl rfl | exact Or.inr rfl) (hf : X.fn x = true ∨ X.env.scope.names.lookup x = some .local := by first | exact .inl rfl | exact .inr rfl | assumption) : DGt X W ex [i] (.Name x pos) (dgName i) := by
  refine ⟨_, pg_name hN hi hx hf, fun y ds O k h G H σ v Q ok rp x hv c => c _ O _ G H h Stp.refl ok (rp.set hv i) fun vs hm => ?_⟩
  rw [wipe_set, if_pos (hm i List.mem_cons_self)]
theorem dg_nil : DGts X W ex [] [] dgNil := by
  refine ⟨_, pgs_nil, fun xs ds O k h G H σ vs Q ok rp x hv c => ?_⟩
  cases hv with
  | nil => exact ⟨rfl, c ds O σ G H h Stp.refl ok rp fun _ _ => rfl⟩
  | cons _ _ => exact h.elim
theorem dg_cons {is js : List Nat} {e : Expr} {es : List Expr} {t : DG} {u : DGs} (h1 : DGt X W ex is e t) (h2 : DGts X W ex js es u) (hs : (assignEach (e :: es) X.env).map (·.2) = assign e X.env :: (assignEach es X.env).map (·.2) := by rfl) : DGts X W ex (is ++ js) (e :: es) (dgCons t u) := by
  obtain ⟨g, p1, l1⟩ := h1
  obtain ⟨g2, p2, l2⟩ := h2
  refine ⟨_, pgs_cons p1 p2 hs, fun xs ds O k h G H σ vs Q ok rp x hv c => ?_⟩
  cases hv with
  | nil => exact h.elim
  | cons hv ht => exact ⟨_, _, rfl, l1 _ ds O _ h G H σ _ _ ok rp x hv fun ds' O' σ' G' H' h' s' ok' rp' t' => l2 _ ds' O' k h' G' H' σ' _ _ ok' rp' (x.after s') (ht.mono s'.g) fun ds2 O2 σ2 G2 H2 h2 s2 ok2 rp2 t2 => c ds2 O2 σ2 G2 H2 h2 (s'.trans s2) ok2 rp2 (t'.trans t2)⟩
theorem dg_tup {is : List Nat} {es : List Expr} {k : Nat} {t : DGs} {n : Nat} (hc : X.calm = true) (h : DGts X W ex is es t) (hn : (assignEach es X.env).length = n := by rfl) (hst : (assignEach es X.env).findIdx? (·.1) = none := by rfl) : DGt X W ex is (.Tuple es k pos) (dgTup n t) := by
  obtain ⟨g, p1, l1⟩ := h
  refine ⟨_, pg_tup hc p1 hn hst, fun y ds O k h G H σ v Q ok rp x hv c => ?_⟩
  cases hv with
  | tup a b =>
    obtain ⟨h1, h2⟩ := h
    exact ⟨_, _, rfl, ex_t ok.ex a, by rw [b.length]; exact h1, l1 _ ds O k h2 G H σ _ _ ok rp x b c⟩
  | _ => exact False.elim h
theorem dg_sub {o i : Expr} {t u : DT} (ho : DE X W ex o t) (hi : DE X W ex i u)
    (ha : ∀ v, assign (.Subscript o i pos) X.env v = (do
      let ov ← holding [v] (eval o X.env)
      let iv ← holding [v, ov] (eval i X.env)
      standAt pos
      holding [v, ov, iv] (setItem ov iv v)
      release [v, ov, iv] []) := by intro _; rfl) : DGt X W ex [] (.Subscript o i pos) (dgSub t u) := by
  obtain ⟨ta, p1, l1⟩ := ho
  obtain ⟨tb, p2, l2⟩ := hi
  refine ⟨_, pg_sub p1 p2 set_list ha, fun y ds O k h G H σ v Q ok rp x hv c => l1 ds O _ h G H σ _ ok rp x fun d O1 w G1 H1 h1 s1 ok1 d1 => l2 ds O1 _ h1 G1 H1 σ _ ok1 (rp.mono s1.g) (x.after s1) fun e O2 u2 G2 H2 h2 s2 ok2 d2 => ?_⟩
  dsimp only at h2
  split at h2
  · rename_i p j
    split at h2
    · rename_i ys e1
      split at h2
      · rename_i m em
        cases d1
        cases d2
        obtain ⟨_, ws, w1, w2⟩ := ok2.own p _ e1
        obtain ⟨ok3, s3⟩ := rewritten (vs := ws.set m v) (xs := ys.set m y) ok2 e1 (DnAll.set (hv.mono (s1.g.trans s2.g)) m w2)
        exact ⟨p, ws, j, m, rfl, rfl, w1, by rw [w2.length]; exact em, c ds _ σ _ _ h2 ((s1.trans s2).trans s3) ok3 ((rp.mono s1.g).mono s2.g) fun _ _ => rfl⟩
      · exact h2.elim
    · exact h2.elim
  · exact h2.elim
end

/-! ### ghost steps: less is said, a cell becomes data -/
inductive Gh : Ds → Ow → Ds → Ow → Prop
  | less {ds ds' : Ds} {O O' : Ow} (a : Less ds' ds) (b : Sub O' O) : Gh ds O ds' O'
  | frz {ds : Ds} {O : Ow} (i : Nat) (p : Addr) (xs : List D) (a : ds[i]? = some (some (.opq (.ref p)))) (b : O p = some (.lst xs)) : Gh ds O (ds.set i (some (.lst xs))) (odel O p)
theorem gh_ok {K : PySem.W.Frag} {G H : Hp} {O O' : Ow} {σ : L2.St} {ds ds' : Ds} (g : Gh ds O ds' O') (ok : Ok K G H O) (rp : Rep K G σ ds) : ∃ G', Ok K G' H O' ∧ Stp G H O G' H O' ∧ Rep K G' σ ds' := by
  cases g with
  | less a b => exact ⟨G, ok.sub b, Stp.refl.sub b, rp.less a⟩
  | frz i p xs a b =>
    obtain ⟨G', e, ok', s', d'⟩ := froze ok b
    refine ⟨G', ok', s', ?_⟩
    obtain ⟨v, h1, h2⟩ := rp.val i _ a
    cases h2
    have q := (rp.mono e).set d' i
    have l : i < σ.length := (List.getElem?_eq_some_iff.mp h1).1
    have e2 : σ.set i (some (.ref p)) = σ := by
      apply List.ext_getElem?
      intro j
      by_cases z : i = j
      · subst z
        rw [List.getElem?_set_self l, h1]
      · rw [List.getElem?_set_ne z]
    rw [e2] at q
    exact q
def dGh (t : DSr) : DSr := fun E ds O => ∃ ds' O', Gh ds O ds' O' ∧ t E ds' O'
theorem ds_gh {X : Cx} {W : WX} {ex : EX} {sts : List Stmt} {t : DSr} (h : DSs X W ex sts t) : DSs X W ex sts (dGh t) := by
  obtain ⟨ts, p, l⟩ := h
  refine ⟨ts, p, fun E ds O ⟨ds', O', g, h⟩ G H σ D ok rp x c => ?_⟩
  obtain ⟨G', ok', s', rp'⟩ := gh_ok g ok rp
  exact l E ds' O' h G' H σ D ok' rp' (x.after s') (c.after s')

/-! ### the statements' readings -/
def dNext : DSr := fun E ds O => E.nx ds O
def dSeq (t u : DSr) : DSr := fun E ds O => t { E with nx := u E } ds O
def dBreak : DSr := fun E ds O => E.bk ds O
def dCont : DSr := fun E ds O => E.ct ds O
def dDrop (t : DT) : DSr := fun E ds O => t ds O fun _ O1 => E.nx ds O1
def dRet (t : DT) : DSr := fun E ds O => t ds O E.rt
def dRetN : DSr := fun E _ O => E.rt .non O
def dIfS (c : DB) (t u : DSr) : DSr := fun E ds O => c ds O fun b O1 => if b = true then t E ds O1 else u E ds O1
def dAsg (t : DT) (g : DG) : DSr := fun E ds O => t ds O fun x O1 => g x ds O1 E.nx
def dPar (i j : Nat) (t : DA) : DSr := fun E ds O => t ds O fun xs O1 => match xs with
  | [x, y] => E.nx ((ds.set i (some x)).set j (some y)) O1
  | _ => False
def dAug (i : Nat) (q : DR2) (t : DT) : DSr := fun E ds O => match ds[i]? with
  | some (some x) => t ds O fun y O1 => q x y O1 fun z O2 => E.nx (ds.set i (some z)) O2
  | _ => False
def dWhile (c : DB) (tb : DSr) : DSr := fun E ds O => ∃ Iv : Nat → Ds → Ow → Prop, (∃ m, Iv m ds O) ∧ ∀ m ds O, Iv m ds O → c ds O fun b O1 =>
  if b = true then tb { E with nx := fun ds' O' => ∃ m', m' < m ∧ Iv m' ds' O', ct := fun ds' O' => ∃ m', m' < m ∧ Iv m' ds' O', bk := E.nx } ds O1 else E.nx ds O1
section
variable {X : Cx} {W : WX} {ex : EX} {pos : Pos} {e : Expr} {st : Stmt} {rest : List Stmt} {t u : DSr} {te : DT}
theorem dss_nil : DSs X W ex [] dNext := ⟨_, pss_nil, fun E ds O h G H σ D ok rp x c => c.nx ds O σ G H h Stp.refl ok rp⟩
theorem l_seq {K : PySem.W.Frag} {ta tb : TS} (l1 : LiftS K W ex ta t) (l2 : LiftS K W ex tb u) : LiftS K W ex (tSeq ta tb) (dSeq t u) := fun E ds O h G H σ D ok rp x c =>
  l1 _ ds O h G H σ _ ok rp x ⟨fun ds' O' σ' G' H' h' s' ok' rp' => l2 E ds' O' h' G' H' σ' D ok' rp' (x.after s') (c.after s'), c.rt, c.bk, c.ct⟩
theorem dss_cons (h1 : DSt X W ex st t) (h2 : DSs X W ex rest u) : DSs X W ex (st :: rest) (dSeq t u) := by
  obtain ⟨ta, p1, l1⟩ := h1
  obtain ⟨tb, p2, l2⟩ := h2
  exact ⟨_, pss_cons p1 p2, l_seq l1 l2⟩
theorem dss_one (h1 : DSt X W ex st t) : DSs X W ex [st] t := by
  obtain ⟨ta, p1, l1⟩ := h1
  exact ⟨_, pss_one p1, l1⟩
theorem ds_pass : DSt X W ex (.Pass pos) dNext := ⟨_, ps_pass, fun E ds O h G H σ D ok rp x c => c.nx ds O σ G H h Stp.refl ok rp⟩
theorem ds_break : DSt X W ex (.Break pos) dBreak := ⟨_, ps_break, fun E ds O h G H σ D ok rp x c => c.bk ds O σ G H h Stp.refl ok rp⟩
theorem ds_cont : DSt X W ex (.Continue pos) dCont := ⟨_, ps_continue, fun E ds O h G H σ D ok rp x c => c.ct ds O σ G H h Stp.refl ok rp⟩
theorem ds_doc {y j pos'} : DSt X W ex (.Expr (.Constant (.str y) j pos) pos') dNext := ⟨_, ps_doc, fun E ds O h G H σ D ok rp x c => c.nx ds O σ G H h Stp.refl ok rp⟩
theorem ds_expr (he : DE X W ex e te) (hs : swapsWith e none pos.line X.env = pure false := by rfl) : DSt X W ex (.Expr e pos) (dDrop te) := by
  obtain ⟨ta, p1, l1⟩ := he
  exact ⟨_, ps_expr p1 hs, fun E ds O h G H σ D ok rp x c => l1 ds O _ h G H σ _ ok rp x fun d O1 v G1 H1 h1 s1 ok1 _ => c.nx ds O1 σ G1 H1 h1 s1 ok1 (rp.mono s1.g)⟩
theorem ds_ret (he : DE X W ex e te) : DSt X W ex (.Return (some e) pos) (dRet te) := by
  obtain ⟨ta, p1, l1⟩ := he
  exact ⟨_, ps_ret p1, fun E ds O h G H σ D ok rp x c => l1 ds O _ h G H σ _ ok rp x c.rt⟩
theorem ds_retN : DSt X W ex (.Return none pos) dRetN := ⟨_, ps_retN, fun E ds O h G H σ D ok rp x c => c.rt .non O _ G H h Stp.refl ok .non⟩
theorem ds_if {c : Expr} {a b : List Stmt} {tc : DB} (hc : DTe X W ex c tc) (ha : DSs X W ex a t) (hb : DSs X W ex b u) : DSt X W ex (.If c a b pos) (dIfS tc t u) := by
  obtain ⟨t0, p0, l0⟩ := hc
  obtain ⟨ta, p1, l1⟩ := ha
  obtain ⟨tb, p2, l2⟩ := hb
  refine ⟨_, ps_if p0 p1 p2, fun E ds O h G H σ D ok rp x c => l0 ds O _ h G H σ _ ok rp x fun b O1 G1 H1 h1 s1 ok1 => ?_⟩
  cases b with
  | true => exact l1 E ds O1 h1 G1 H1 σ D ok1 (rp.mono s1.g) (x.after s1) (c.after s1)
  | false => exact l2 E ds O1 h1 G1 H1 σ D ok1 (rp.mono s1.g) (x.after s1) (c.after s1)
theorem l_asg {K : PySem.W.Frag} {ta : TE} {g : TG} {is : List Nat} {tg : DG} (l1 : LiftE K W ex ta te) (l2 : LiftG K W ex is g tg) : LiftS K W ex (tAsg ta g) (dAsg te tg) := fun E ds O h G H σ D ok rp x c =>
  l1 ds O _ h G H σ _ ok rp x fun d O1 v G1 H1 h1 s1 ok1 d1 => l2 d ds O1 _ h1 G1 H1 σ v _ ok1 (rp.mono s1.g) (x.after s1) d1 fun ds' O' σ' G' H' h' s' ok' rp' _ => c.nx ds' O' σ' G' H' h' (s1.trans s') ok' rp'
theorem ds_asg {is : List Nat} {tg : Expr} {g : DG} (he : DE X W ex e te) (hg : DGt X W ex is tg g) (hs : swapsWithSole [tg] e pos.line X.env = pure false := by rfl) (hw : swappedStores [tg] e X.env = pure none := by rfl)
    (h1 : (assignEach [tg] X.env).map (·.2) = [assign tg X.env] := by rfl) : DSt X W ex (.Assign [tg] e pos) (dAsg te g) := by
  obtain ⟨ta, p1, l1⟩ := he
  obtain ⟨g0, p2, l2⟩ := hg
  exact ⟨_, ps_asg p1 p2 hs hw h1, l_asg l1 l2⟩
theorem l_name {K : PySem.W.Frag} (i : Nat) : LiftG K W ex [i] (gName i) (dgName i) := fun y ds O k h G H σ v Q ok rp x hv c => c _ O _ G H h Stp.refl ok (rp.set hv i) fun vs hm => by
  rw [wipe_set, if_pos (hm i List.mem_cons_self)]
theorem ds_set (i : Nat) {x : Str} {pos' : Pos} (hN : X.N.Nodup) (he : DE X W ex e te) (hi : X.N[i]? = some x := by rfl) (hx : Loc X.env.scope x := by first | exact Or.inl rfl | exact Or.inr rfl) (hs : swapsWith e (some (.Name x pos')) pos.line X.env = pure false := by rfl) (hf : X.fn x = true ∨ X.env.scope.names.lookup x = some .local := by first | exact .inl rfl | exact .inr rfl | assumption) :
    DSt X W ex (.Assign [.Name x pos'] e pos) (dAsg te (dgName i)) := by
  obtain ⟨ta, p1, l1⟩ := he
  exact ⟨_, ps_set hN hi hx p1 hs hf, l_asg l1 (l_name i)⟩
theorem ds_par (i j : Nat) {x y : Str} {a b : Expr} {ta : DA} {px py pt : Pos} {kt k2 pt2} (hN : X.N.Nodup) (ha : DAs X W ex [a, b] ta)
    (hp : ∀ {tp : TA}, PA X [a, b] tp → PS X (.Assign [.Tuple [.Name x px, .Name y py] kt pt] (.Tuple [a, b] k2 pt2) pos) (tPar i j tp)) :
    DSt X W ex (.Assign [.Tuple [.Name x px, .Name y py] kt pt] (.Tuple [a, b] k2 pt2) pos) (dPar i j ta) := by
  obtain ⟨tp, p1, l1⟩ := ha
  refine ⟨_, hp p1, fun E ds O h G H σ D ok rp x c => l1 ds O _ h G H σ _ ok rp x fun xs O1 vs G1 H1 h1 s1 ok1 d1 => ?_⟩
  dsimp only at h1
  split at h1
  · obtain ⟨v, u, rfl, hv, hu⟩ := two_of d1
    exact ⟨v, u, rfl, c.nx _ O1 _ G1 H1 h1 s1 ok1 (((rp.mono s1.g).set hv i).set hu j)⟩
  · exact h1.elim
theorem ds_aug (i : Nat) {x : Str} {op : Operator} {ti : TIp} {q : DR2} {pos' : Pos} (hN : X.N.Nodup) (he : DE X W ex e te) (ho : PIp X op ti) (hl : LiftR X.K ti q) (hi : X.N[i]? = some x := by rfl) (hx : Loc X.env.scope x := by first | exact Or.inl rfl | exact Or.inr rfl) (hf : X.fn x = true ∨ X.env.scope.names.lookup x = some .local := by first | exact .inl rfl | exact .inr rfl | assumption) :
    DSt X W ex (.AugAssign (.Name x pos') op e pos) (dAug i q te) := by
  obtain ⟨ta, p1, l1⟩ := he
  refine ⟨_, ps_aug hN hi hx p1 ho hf, fun E ds O h G H σ D ok rp x c => ?_⟩
  unfold dAug at h
  split at h
  · rename_i y ey
    obtain ⟨v, ev, hv⟩ := rp.val i y ey
    exact ⟨v, ev, l1 ds O _ h G H σ _ ok rp x fun d O1 w G1 H1 h1 s1 ok1 d1 => hl y d O1 _ h1 G1 H1 v w _ ok1 (hv.mono s1.g) d1 fun z O2 r G2 H2 h2 s2 ok2 d2 => c.nx _ O2 _ G2 H2 h2 (s1.trans s2) ok2 (((rp.mono s1.g).mono s2.g).set d2 i)⟩
  · exact h.elim
theorem lip_add {K : PySem.W.Frag} : LiftR K (ipI fun i j => i + j) (qI0 fun i j => .int (i + j)) := lr_I0 (g := fun i j => V.int (i + j)) fun _ _ _ => .int _
theorem lip_sub {K : PySem.W.Frag} : LiftR K (ipI fun i j => i - j) (qI0 fun i j => .int (i - j)) := lr_I0 (g := fun i j => V.int (i - j)) fun _ _ _ => .int _
theorem ds_while {c : Expr} {body : List Stmt} {tc : DB} {tb : DSr} (hp : PassesOwn (model X.prog X.w) X.A X.env X.xe) (hc : DTe X W ex c tc) (hb : DSs X W ex body tb) : DSt X W ex (.While c body [] pos) (dWhile tc tb) := by
  obtain ⟨t0, p0, l0⟩ := hc
  obtain ⟨ta, p1, l1⟩ := hb
  refine ⟨_, ps_while hp p0 p1, fun E ds O ⟨Iv, ⟨m0, h0⟩, hs⟩ G H σ D ok rp x c => ?_⟩
  refine ⟨fun m σ' H' => ∃ ds' O' G', Iv m ds' O' ∧ Stp G H O G' H' O' ∧ Ok X.K G' H' O' ∧ Rep X.K G' σ' ds', ⟨m0, ds, O, G, h0, Stp.refl, ok, rp⟩, ?_⟩
  rintro m σ1 H1 ⟨ds1, O1, G1, i1, s1, ok1, rp1⟩
  refine l0 ds1 O1 _ (hs m ds1 O1 i1) G1 H1 σ1 _ ok1 rp1 (x.after s1) fun b O2 G2 H2 h2 s2 ok2 => ?_
  cases b with
  | true =>
    refine ⟨fun σ' H' => ∃ m', m' < m ∧ ∃ ds' O' G', Iv m' ds' O' ∧ Stp G H O G' H' O' ∧ Ok X.K G' H' O' ∧ Rep X.K G' σ' ds', fun σ' H' q => q, ?_⟩
    refine l1 _ ds1 O2 h2 G2 H2 σ1 _ ok2 (rp1.mono s2.g) ((x.after s1).after s2) ⟨?_, c.rt.after (s1.trans s2), c.nx.after (s1.trans s2), ?_⟩
    · rintro ds' O' σ' G' H' ⟨m', hm, i'⟩ s' ok' rp'
      exact ⟨m', hm, ds', O', G', i', (s1.trans s2).trans s', ok', rp'⟩
    · rintro ds' O' σ' G' H' ⟨m', hm, i'⟩ s' ok' rp'
      exact ⟨m', hm, ds', O', G', i', (s1.trans s2).trans s', ok', rp'⟩
  | false =>
    exact c.nx ds1 O2 σ1 G2 H2 h2 (s1.trans s2) ok2 (rp1.mono s2.g)
end
end DL
namespace DL
open PySem PySem.Spec PyProof.Rows L2 Evl

/-! ### what a loop goes over -/
abbrev DI := Ds → Ow → (List D → Ow → Prop) → Prop
/-- J yields the items xs, whatever comes to the heap -/
def Wk (K : PySem.W.Frag) (J : It) (xs : List D) (G : Hp) : Prop := ∀ G2 H2 O2, Ex G G2 → Ok K G2 H2 O2 → ∀ i : Nat,
  (∀ x, xs[i]? = some x → J.go i H2 ∧ ∀ v H', J.yld i H2 v H' → ∃ G3, Ok K G3 H' O2 ∧ Stp G2 H2 O2 G3 H' O2 ∧ Dn K G3 v x) ∧ (xs.length ≤ i → J.stop i H2)
def LiftI (K : PySem.W.Frag) (W : WX) (ex : EX) (wi : TI) (t : DI) : Prop := ∀ ds O k, t ds O k → ∀ G H σ (R : It → Hp → Prop), Ok K G H O → Rep K G σ ds → ContX K G H O W ex →
  (∀ xs O' G' H' J, k xs O' → Stp G H O G' H' O' → Ok K G' H' O' → Wk K J xs G' → R J H') → wi σ H R
def DIt (X : Cx) (W : WX) (ex : EX) (tg it : Expr) (t : DI) : Prop := ∃ wi, PI X tg it wi ∧ LiftI X.K W ex wi t
def signs (s : Str) : List D := s.cps.toList.map fun c => D.str ⟨#[c]⟩
def dSeqI (t : DT) : DI := fun ds O k => t ds O fun x O1 => match x with
  | .lst xs => k xs O1
  | .tup xs => k xs O1
  | .scr ns => k (ns.map D.int) O1
  | .str s => k (signs s) O1
  | _ => False
theorem pi_or {X : Cx} {tg it : Expr} {w1 w2 : TI} (h1 : PI X tg it w1) (h2 : PI X tg it w2) : PI X tg it (fun σ H R => w1 σ H R ∨ w2 σ H R) := ⟨fun pins s σ H R I h => h.elim (h1.run pins s σ H R I) (h2.run pins s σ H R I)⟩
section
variable {K : PySem.W.Frag}
theorem wk_list {a : Addr} {vs : List V} {xs : List D} {G : Hp} (hG : ∀ G2 H2 O2, Ex G G2 → Ok K G2 H2 O2 → SqL K H2 a vs) (h : DnAll K G vs xs) : Wk K (Itl K a) xs G := fun G2 H2 O2 e ok i => by
  have hS := hG G2 H2 O2 e ok
  refine ⟨fun x hx => ?_, fun l => ⟨vs, hS, by rw [h.length]; exact l⟩⟩
  obtain ⟨v, h1, h2⟩ := h.get hx
  refine ⟨⟨vs, v, hS, h1⟩, fun w H' hy => ?_⟩
  obtain ⟨e1, y⟩ := hy
  subst e1
  have e2 := y vs hS
  rw [h1] at e2
  cases e2
  exact ⟨G2, ok, Stp.refl, h2.mono e⟩
theorem wk_tup {a : Addr} {vs : List V} {xs : List D} {G : Hp} (hG : SqT K G a vs) (h : DnAll K G vs xs) : Wk K (Itt K a) xs G := fun G2 H2 O2 e ok i => by
  have hS := ex_t ok.ex (ex_t e hG)
  refine ⟨fun x hx => ?_, fun l => ⟨vs, hS, by rw [h.length]; exact l⟩⟩
  obtain ⟨v, h1, h2⟩ := h.get hx
  refine ⟨⟨vs, v, hS, h1⟩, fun w H' hy => ?_⟩
  obtain ⟨e1, y⟩ := hy
  subst e1
  have e2 := y vs hS
  rw [h1] at e2
  cases e2
  exact ⟨G2, ok, Stp.refl, h2.mono e⟩
theorem wk_str {s : Str} {G : Hp} : Wk K (Its s) (signs s) G := fun G2 H2 O2 e ok i => by
  refine ⟨fun x hx => ?_, fun l => ?_⟩
  · unfold signs at hx
    rw [List.getElem?_map] at hx
    cases q : s.cps.toList[i]? with
    | none => rw [q] at hx; cases hx
    | some c =>
      rw [q] at hx
      cases hx
      have hi : i < s.cps.toList.length := (List.getElem?_eq_some_iff.mp q).1
      refine ⟨(by rw [Array.length_toList] at hi; exact hi), fun w H' hy => ?_⟩
      obtain ⟨e1, c', y1, y2⟩ := hy
      subst e1
      subst y2
      have z : s.cps.toList[i]? = some c' := by
        rw [Array.getElem?_toList]
        exact y1
      rw [q] at z
      cases z
      exact ⟨G2, ok, Stp.refl, .str _⟩
  · unfold signs at l
    rw [List.length_map] at l
    show s.cps.size ≤ i
    simpa using l
theorem wk_range {lo : Int} {n : Nat} {G : Hp} : Wk K (Itr lo n) ((List.range n).map fun i : Nat => D.int (lo + (i : Int))) G := fun G2 H2 O2 e ok i => by
  refine ⟨fun x hx => ?_, fun l => ?_⟩
  · rw [List.getElem?_map] at hx
    cases q : (List.range n)[i]? with
    | none => rw [q] at hx; cases hx
    | some c =>
      rw [q] at hx
      cases hx
      obtain ⟨h1, h2⟩ := List.getElem?_eq_some_iff.mp q
      rw [List.getElem_range] at h2
      subst h2
      rw [List.length_range] at h1
      refine ⟨h1, fun w H' hy => ?_⟩
      obtain ⟨e1, y⟩ := hy
      subst e1
      subst y
      exact ⟨G2, ok, Stp.refl, .int _⟩
  · rw [List.length_map, List.length_range] at l
    exact l
end
def dRange1 (t : DA) : DI := fun ds O k => t ds O fun xs O1 => match xs with
  | [.int j] => -(2 ^ 62) ≤ j ∧ j < 2 ^ 62 ∧ k ((List.range j.toNat).map fun i => D.int ((i : Nat) : Int)) O1
  | _ => False
def dRange2 (t : DA) : DI := fun ds O k => t ds O fun xs O1 => match xs with
  | [.int i, .int j] => (-(2 ^ 62) ≤ i ∧ i < 2 ^ 62 ∧ -(2 ^ 62) ≤ j ∧ j < 2 ^ 62) ∧ k ((List.range (j - i).toNat).map fun m => D.int (i + ((m : Nat) : Int))) O1
  | _ => False
section
variable {X : Cx} {W : WX} {ex : EX} {tg e : Expr} {t : DT} {ta : DA}
/-- a list, a tuple, a text: whichever comes -/
def iSeqA (K : PySem.W.Frag) (te : TE) : TI := fun σ H R => te σ H fun x H1 => (∃ a vs, x = .ref a ∧ SqL K H1 a vs ∧ R (Itl K a) H1) ∨ (∃ a vs, x = .ref a ∧ SqT K H1 a vs ∧ R (Itt K a) H1) ∨ ∃ z, x = .str z ∧ R (Its z) H1
/-- one value is read, then the loop goes over it -/
theorem pi_after {w : TI} {te : TE} {P : V → Hp → (It → Hp → Prop) → Prop} (p : PE X e te)
    (h : ∀ x, PI X tg e (fun _ H R => P x H R) → True) : True := trivial
theorem pi_seqA {te : TE} (p : PE X e te) : PI X tg e (iSeqA X.K te) := by
  constructor
  intro pins s σ H R I h
  refine thn (p.run pins s σ H _ I h) fun v s1 hv => ?_
  obtain ⟨x, H1, I1, r1, q1⟩ := hv
  rcases q1 with ⟨a, vs, ex, hq, q⟩ | ⟨a, vs, ex, hq, q⟩ | ⟨z, ex, q⟩
  · subst ex
    cases r1
    obtain ⟨its, rv, pl, _⟩ := I1.list hq
    refine wpAny_pyIter_list pl.isList ⟨_, [s1.heap.objs.size], _, _, H1, rfl, I1.kept (t' := s1.toks) (fun b o e => Heap.get?_push_of_some _ e), turn_list a _, ⟨_, Heap.get?_push_size _ rfl, rfl, rfl⟩, ?_, q⟩
    intro b hb
    rw [List.mem_singleton] at hb
    rw [hb]
    exact I1.fpOk (Nat.le_refl _) (I1.hok.fresh (Nat.le_refl _))
  · subst ex
    cases r1
    obtain ⟨its, rv, pl, _⟩ := I1.tuple hq
    refine wpAny_pyIter_tuple (show s1.heap.IsTuple a its.toArray from pl) ⟨_, [s1.heap.objs.size], _, _, H1, rfl, I1.kept (t' := s1.toks) (fun b o e => Heap.get?_push_of_some _ e), turn_tuple a _, ⟨_, Heap.get?_push_size _ rfl, rfl, rfl⟩, ?_, q⟩
    intro b hb
    rw [List.mem_singleton] at hb
    rw [hb]
    exact I1.fpOk (Nat.le_refl _) (I1.hok.fresh (Nat.le_refl _))
  · subst ex
    obtain ⟨t, rfl⟩ := r1
    by_cases ha : z.cps.all (· < 128) = true
    · exact wpAny_pyIter_ascii ha (pi_one (tk := s1.toks) I1 _ (turn_str _ z t "str_ascii_iterator" (.inl rfl)) ⟨_, Heap.get?_push_size _ rfl, rfl, rfl⟩ q)
    · exact wpAny_pyIter_wide (Bool.eq_false_iff.mpr ha) (pi_one (tk := s1.toks) I1 _ (turn_str _ z t "str_iterator" (.inr rfl)) ⟨_, Heap.get?_push_size _ rfl, rfl, rfl⟩ q)
theorem di_seq (he : DE X W ex e t) : DIt X W ex tg e (dSeqI t) := by
  obtain ⟨te, p, l⟩ := he
  refine ⟨_, pi_seqA p, fun ds O k h G H σ R ok rp x c => l ds O _ h G H σ _ ok rp x fun d O1 v G1 H1 h1 s1 ok1 d1 => ?_⟩
  cases d1 with
  | lst q1 q2 => exact .inl ⟨_, _, rfl, SqL.of (ok1.ex _ _ q1), c _ O1 G1 H1 _ h1 s1 ok1 (wk_list (fun G2 H2 O2 e ok => SqL.of (ok.ex _ _ (e _ _ q1))) q2)⟩
  | tup q1 q2 => exact .inr (.inl ⟨_, _, rfl, ex_t ok1.ex q1, c _ O1 G1 H1 _ h1 s1 ok1 (wk_tup q1 q2)⟩)
  | scr q1 => exact .inl ⟨_, _, rfl, ex_l ok1.ex q1, c _ O1 G1 H1 _ h1 s1 ok1 (wk_list (fun G2 H2 O2 e ok => ex_l ok.ex (ex_l e q1)) (DnAll.ofInts _))⟩
  | str z => exact .inr (.inr ⟨z, rfl, c _ O1 G1 H1 _ h1 s1 ok1 wk_str⟩)
  | _ => exact False.elim h1
theorem ints1 {G : Hp} {K : PySem.W.Frag} {vs : List V} {i : Int} (h : DnAll K G vs [.int i]) : vs = [.int i] := by
  obtain ⟨v, rfl, hv⟩ := one_of h
  cases hv
  rfl
theorem ints2 {G : Hp} {K : PySem.W.Frag} {vs : List V} {i j : Int} (h : DnAll K G vs [.int i, .int j]) : vs = [.int i, .int j] := by
  obtain ⟨v, u, rfl, hv, hu⟩ := two_of h
  cases hv
  cases hu
  rfl
end
section
variable {X : Cx} {W : WX} {ex : EX} {tg a b : Expr} {ta : DA}
theorem di_range1 {x : Str} {p pos : Pos} (hm : X.mg x = none) (ha : DAs X W ex [a] ta)
    (hp : ∀ {t : TA}, PA X [a] t → PI X tg (.Call (.Name x p) [a] [] pos) (iRng1 t)) : DIt X W ex tg (.Call (.Name x p) [a] [] pos) (dRange1 ta) := by
  obtain ⟨te, p1, l⟩ := ha
  refine ⟨_, hp p1, fun ds O k h G H σ R ok rp x c => l ds O _ h G H σ _ ok rp x fun xs O1 vs G1 H1 h1 s1 ok1 d1 => ?_⟩
  dsimp only at h1
  split at h1
  · rename_i j
    rw [ints1 d1]
    have q := wk_range (K := X.K) (lo := 0) (n := j.toNat) (G := G1)
    simp only [Int.zero_add] at q
    exact ⟨j, rfl, h1.1, h1.2.1, c _ O1 G1 H1 _ h1.2.2 s1 ok1 q⟩
  · exact h1.elim
theorem di_range2 {x : Str} {p pos : Pos} (hm : X.mg x = none) (ha : DAs X W ex [a, b] ta)
    (hp : ∀ {t : TA}, PA X [a, b] t → PI X tg (.Call (.Name x p) [a, b] [] pos) (iRng2 t)) : DIt X W ex tg (.Call (.Name x p) [a, b] [] pos) (dRange2 ta) := by
  obtain ⟨te, p1, l⟩ := ha
  refine ⟨_, hp p1, fun ds O k h G H σ R ok rp x c => l ds O _ h G H σ _ ok rp x fun xs O1 vs G1 H1 h1 s1 ok1 d1 => ?_⟩
  dsimp only at h1
  split at h1
  · rename_i i j
    rw [ints2 d1]
    exact ⟨i, j, rfl, h1.1, c _ O1 G1 H1 _ h1.2 s1 ok1 wk_range⟩
  · exact h1.elim
end

/-! ### for -/
def dForX (xs : List D) (g : DG) (tb : DSr) (E : DEnds) (ds : Ds) (O1 : Ow) : Prop := ∃ Iv : Nat → Ds → Ow → Prop, Iv 0 ds O1 ∧
  (∀ i x ds O, xs[i]? = some x → Iv i ds O → g x ds O fun ds' O' => tb { E with nx := Iv (i + 1), ct := Iv (i + 1), bk := E.nx } ds' O') ∧ (∀ ds O, Iv xs.length ds O → E.nx ds O)
def dFor (di : DI) (g : DG) (tb : DSr) : DSr := fun E ds O => di ds O fun xs O1 => dForX xs g tb E ds O1
section
variable {X : Cx} {W : WX} {ex : EX} {tg it : Expr} {body : List Stmt} {pos : Pos}
theorem ds_for {is : List Nat} {di : DI} {g : DG} {tb : DSr} (hp : PassesOwn (model X.prog X.w) X.A X.env X.xe) (hc : X.calm = true) (hi : DIt X W ex tg it di) (hg : DGt X W ex is tg g) (hb : DSs X W ex body tb)
    (hs : ∀ x, foldedSetIterable it X.env x = pure x := by intro _; rfl) : DSt X W ex (.For tg it body [] pos) (dFor di g tb) := by
  obtain ⟨wi, p0, l0⟩ := hi
  obtain ⟨g0, p1, l1⟩ := hg
  obtain ⟨tb0, p2, l2⟩ := hb
  refine ⟨_, ps_for hp hc p0 p1 p2 hs, fun E ds O h G H σ D ok rp x c => l0 ds O _ h G H σ _ ok rp x fun xs O1 G1 H1 J h1 s1 ok1 wk => ?_⟩
  obtain ⟨Iv, i0, st, fin⟩ := h1
  refine ⟨fun i m σ' H' => m = xs.length - i ∧ i ≤ xs.length ∧ ∃ ds' O' G', Iv i ds' O' ∧ Stp G1 H1 O1 G' H' O' ∧ Ok X.K G' H' O' ∧ Rep X.K G' σ' ds', ⟨xs.length, rfl, Nat.zero_le _, ds, O1, G1, i0, Stp.refl, ok1, rp.mono s1.g⟩, ?_⟩
  rintro i m σ2 H2 ⟨rfl, hi, ds2, O2, G2, iv2, s2, ok2, rp2⟩
  obtain ⟨w1, w2⟩ := wk G2 H2 O2 s2.g ok2 i
  by_cases hlt : i < xs.length
  · obtain ⟨go, turn⟩ := w1 xs[i] (List.getElem?_eq_getElem hlt)
    refine .inr ⟨go, fun σ' H' => ∃ ds' O' G', Iv (i + 1) ds' O' ∧ Stp G1 H1 O1 G' H' O' ∧ Ok X.K G' H' O' ∧ Rep X.K G' σ' ds', fun σ' H' q => ⟨xs.length - (i + 1), by omega, rfl, hlt, q⟩, fun v H3 hy => ?_⟩
    obtain ⟨G3, ok3, s3, d3⟩ := turn v H3 hy
    have xc := ((x.after s1).after s2).after s3
    have sc := (s1.trans s2).trans s3
    refine l1 _ ds2 O2 _ (st i _ ds2 O2 (List.getElem?_eq_getElem hlt) iv2) G3 H3 σ2 v _ ok3 (rp2.mono s3.g) xc d3 fun ds4 O4 σ4 G4 H4 h4 s4 ok4 rp4 _ => ?_
    refine l2 _ ds4 O4 h4 G4 H4 σ4 _ ok4 rp4 (xc.after s4) ⟨?_, c.rt.after (sc.trans s4), c.nx.after (sc.trans s4), ?_⟩
    · intro ds5 O5 σ5 G5 H5 h5 s5 ok5 rp5
      exact ⟨ds5, O5, G5, h5, ((s2.trans s3).trans s4).trans s5, ok5, rp5⟩
    · intro ds5 O5 σ5 G5 H5 h5 s5 ok5 rp5
      exact ⟨ds5, O5, G5, h5, ((s2.trans s3).trans s4).trans s5, ok5, rp5⟩
  · have e : i = xs.length := by omega
    subst e
    exact .inl ⟨w2 (Nat.le_refl _), c.nx ds2 O2 σ2 G2 H2 (fin ds2 O2 iv2) (s1.trans s2) ok2 rp2⟩
end

/-! ### comprehensions -/
def dLcX (xs : List D) (g : DG) (tt : DB) (te : DT) (vs : List Nat) (ds : Ds) (O1 : Ow) (k : DK) : Prop := xs.length < sizeLine ∧ ∃ Iv : Nat → List D → Ow → Prop, Iv 0 [] O1 ∧
  (∀ i x acc O, xs[i]? = some x → Iv i acc O → acc.length ≤ i → g x (dwipe ds vs) O fun ds' O' => tt ds' O' fun b O2 => if b = true then te ds' O2 fun y O3 => Iv (i + 1) (acc ++ [y]) O3 else Iv (i + 1) acc O2) ∧
  (∀ acc O, acc.length ≤ xs.length → Iv xs.length acc O → k (.lst acc) O)
def dLc (di : DI) (g : DG) (tt : DB) (te : DT) (vs : List Nat) : DT := fun ds O k => di ds O fun xs O1 => dLcX xs g tt te vs ds O1 k
def dYes : DB := fun _ O k => k true O
def NoX : EX := fun _ _ _ => False
def NoW : WX := fun _ _ _ _ => False
section
variable {X : Cx} {W : WX} {ex : EX}
def DTs (X : Cx) (W : WX) (ex : EX) (ifs : List Expr) (t : DB) : Prop := ∃ te, PTs X ifs te ∧ LiftB X.K W ex te t
theorem dts_nil : DTs X W ex [] dYes := ⟨_, pts_nil, fun ds O k h G H σ Q ok _ _ c => c true O G H h Stp.refl ok⟩
theorem dts_one {c : Expr} {t : DB} (h : DTe X W ex c t) : DTs X W ex [c] t := by
  obtain ⟨te, p, l⟩ := h
  exact ⟨_, pts_one p, l⟩
theorem mutOk {K : PySem.W.Frag} {G H : Hp} {O : Ow} {p : Addr} {o : HO} (k : Ok K G H O) (g : G p = none) (h : O p = none) : Ok K G (upd H p o) O := ⟨k.ex.mut g, fun q c e => by
  have ne : q ≠ p := fun z => by
    rw [z, h] at e
    cases e
  obtain ⟨a, b⟩ := k.own q c e
  exact ⟨a, b.keep (Ex.refl G) (upd_ne ne)⟩⟩
theorem mutStp {G H G' H' : Hp} {O O' : Ow} {p : Addr} {o : HO} (s : Stp G H O G' H' O') (h : H p = none) : Stp G H O G' (upd H' p o) O' := ⟨s.g, s.gn, fun q u e1 e2 => by
  rw [upd_ne (ne_of_none e1 h)]
  exact s.h q u e1 e2, fun q e => by
  by_cases z : q = p
  · rw [z, upd_same]
    exact fun z => by cases z
  · rw [upd_ne z]
    exact s.hd q e, s.o⟩
/-- a new list that stands neither in the data nor in the store becomes data -/
theorem settled {K : PySem.W.Frag} {G H G' H' : Hp} {O O' : Ow} {p : Addr} {ws : List V} {xs : List D} (s : Stp G H O G' H' O') (k : Ok K G' H' O') (h : H p = none) (g : G' p = none) (o : O' p = none) (hp : H' p = some (.lst ws)) (a : DnAll K G' ws xs) :
    ∃ G2, Stp G H O G2 H' O' ∧ Ok K G2 H' O' ∧ Dn K G2 (.ref p) (.lst xs) := by
  have en : Ex G' (upd G' p (.lst ws)) := Ex.new g
  refine ⟨upd G' p (.lst ws), ⟨s.g.trans en, fun q e1 e2 e3 => ?_, s.h, s.hd, s.o⟩, ⟨fun q u e => ?_, fun q c e => ?_⟩, .lst upd_same (a.mono en)⟩
  · have ne : q ≠ p := fun z => e1 (by rw [z]; exact h)
    rw [upd_ne ne]
    exact s.gn q e1 e2 e3
  · by_cases z : q = p
    · subst z
      rw [upd_same] at e
      rw [hp]
      exact e
    · rw [upd_ne z] at e
      exact k.ex q u e
  · have ne : q ≠ p := fun z => by
      rw [z, o] at e
      cases e
    obtain ⟨b, b'⟩ := k.own q c e
    exact ⟨by rw [upd_ne ne]; exact b, b'.keep en rfl⟩
theorem l_lc {K : PySem.W.Frag} {wi : TI} {g : TG} {tt : TT} {te : TE} {vs : List Nat} {di : DI} {dg : DG} {dtt : DB} {dte : DT} {is : List Nat} (l0 : LiftI K W ex wi di) (l1 : LiftG K NoW NoX is g dg) (l2 : LiftB K NoW NoX tt dtt) (l3 : LiftE K NoW NoX te dte) (hsub : ∀ i ∈ is, i ∈ vs) :
    LiftE K W ex (tLc wi g tt te vs) (dLc di dg dtt dte vs) := by
  intro ds O k h G H σ Q ok rp x c
  refine l0 ds O _ h G H σ _ ok rp x fun xs O1 G1 H1 J h1 s1 ok1 wk => ?_
  obtain ⟨hz, Iv, i0, st, fin⟩ := h1
  intro Dl hD
  have gD : G1 Dl = none := ok1.gnone hD
  have oD : O1 Dl = none := ok1.none_of hD
  -- between the turns: the list so far at Dl, which is neither data nor of the store
  let Mid : Nat → Hp → Prop := fun i H' => ∃ acc ws O' G', Iv i acc O' ∧ acc.length ≤ i ∧ H' Dl = some (.lst ws) ∧ DnAll K G' ws acc ∧ G' Dl = none ∧ O' Dl = none ∧ Stp G1 H1 O1 G' H' O' ∧ Ok K G' H' O'
  have ok1' : Ok K G1 (upd H1 Dl (.lst [])) O1 := by
    obtain ⟨a, b⟩ := owned (vs := []) (xs := []) ok1 hD .nil
    exact a.sub (Sub.new oD)
  have s1' : Stp G1 H1 O1 G1 (upd H1 Dl (.lst [])) O1 := by
    obtain ⟨a, b⟩ := owned (vs := []) (xs := []) ok1 hD .nil
    exact b.sub (Sub.new oD)
  refine ⟨fun i m H' => m = xs.length - i ∧ i ≤ xs.length ∧ Mid i H', ⟨xs.length, rfl, Nat.zero_le _, [], [], O1, G1, i0, Nat.le_refl _, upd_same, .nil, gD, oD, s1', ok1'⟩, ?_⟩
  rintro i m H2 ⟨rfl, hi, acc, ws, O2, G2, iv2, la, hl2, da, g2, o2, s2, ok2⟩
  obtain ⟨w1, w2⟩ := wk G2 H2 O2 s2.g ok2 i
  by_cases hlt : i < xs.length
  · obtain ⟨go, turn⟩ := w1 xs[i] (List.getElem?_eq_getElem hlt)
    refine .inr ⟨go, Mid (i + 1), fun H' q => ⟨xs.length - (i + 1), by omega, rfl, hlt, q⟩, fun v H3 hy => ?_⟩
    obtain ⟨G3, ok3, s3, d3⟩ := turn v H3 hy
    have nox : ∀ {G H O}, ContX K G H O NoW NoX := fun {_ _ _} _ _ _ _ _ _ _ z => z.elim
    have nD : ∀ {G' H' O'}, Stp G2 H2 O2 G' H' O' → H' Dl = some (.lst ws) ∧ G' Dl = none ∧ O' Dl = none := fun {_ _ _} s => ⟨s.h _ _ hl2 o2, s.gn _ (by rw [hl2]; exact fun z => by cases z) g2 o2, s.o _ (by rw [hl2]; exact fun z => by cases z) o2⟩
    refine l1 _ (dwipe ds vs) O2 _ (st i _ acc O2 (List.getElem?_eq_getElem hlt) iv2 la) G3 H3 (wipe σ vs) v _ ok3 (((rep_wipe rp vs).mono s1.g).mono (s2.g.trans s3.g)) nox d3 fun ds4 O4 σ4 G4 H4 h4 s4 ok4 rp4 tc => ⟨?_, ?_⟩
    · have e := tc vs hsub
      have e2 : ∀ us : List Nat, (∀ i ∈ us, i ∈ vs) → wipe (wipe σ us) vs = wipe σ vs := fun us => by
        induction us with
        | nil => exact fun _ => rfl
        | cons u us ih =>
          intro h
          show wipe ((wipe σ us).set u none) vs = _
          rw [wipe_set, if_pos (h u List.mem_cons_self)]
          exact ih fun i hi => h i (List.mem_cons_of_mem _ hi)
      rw [e]
      exact e2 vs fun _ h => h
    · refine l2 ds4 O4 _ h4 G4 H4 σ4 _ ok4 rp4 nox fun b O5 G5 H5 h5 s5 ok5 => ?_
      have sc := (s3.trans s4).trans s5
      obtain ⟨n1, n2, n3⟩ := nD sc
      cases b with
      | true =>
        refine l3 ds4 O5 _ h5 G5 H5 σ4 _ ok5 (rp4.mono s5.g) nox fun y O6 u G6 H6 h6 s6 ok6 d6 => ?_
        obtain ⟨n4, n5, n6⟩ := nD (sc.trans s6)
        refine ⟨ws, n4, by rw [da.length]; omega, acc ++ [y], ws ++ [u], O6, G6, h6, by rw [List.length_append]; simpa using la, upd_same, (da.mono (sc.trans s6).g).append (.cons d6 .nil), n5, n6, ?_, ?_⟩
        · exact mutStp (s2.trans (sc.trans s6)) hD
        · exact mutOk ok6 n5 n6
      | false => exact ⟨acc, ws, O5, G5, h5, by omega, n1, da.mono sc.g, n2, n3, s2.trans sc, ok5⟩
  · have e : i = xs.length := by omega
    subst e
    obtain ⟨G3, s3, ok3, d3⟩ := settled s2 ok2 hD g2 o2 hl2 da
    exact .inl ⟨w2 (Nat.le_refl _), c _ O2 _ G3 H2 (fin acc O2 la iv2) (s1.trans s3) ok3 d3⟩
/-- the widest reading that a reading by data lifts to -/
def tOf (K : PySem.W.Frag) (W : WX) (ex : EX) (t : DT) : TE := fun σ H Q => ∃ ds O k G, t ds O k ∧ Ok K G H O ∧ Rep K G σ ds ∧ ContX K G H O W ex ∧ Cont K G H O k Q
def bOf (K : PySem.W.Frag) (W : WX) (ex : EX) (t : DB) : TT := fun σ H Q => ∃ ds O k G, t ds O k ∧ Ok K G H O ∧ Rep K G σ ds ∧ ContX K G H O W ex ∧ ContB K G H O k Q
def gOf (K : PySem.W.Frag) (W : WX) (ex : EX) (is : List Nat) (t : DG) : TG := fun v σ H Q => ∃ y ds O k G, t y ds O k ∧ Ok K G H O ∧ Rep K G σ ds ∧ ContX K G H O W ex ∧ Dn K G v y ∧ ∀ ds' O' σ' G' H', k ds' O' → Stp G H O G' H' O' → Ok K G' H' O' → Rep K G' σ' ds' → Tch is σ σ' → Q σ' H'
theorem tOf_l {K : PySem.W.Frag} {t : DT} : LiftE K W ex (tOf K W ex t) t := fun ds O k h G H σ Q ok rp x c => ⟨ds, O, k, G, h, ok, rp, x, c⟩
theorem bOf_l {K : PySem.W.Frag} {t : DB} : LiftB K W ex (bOf K W ex t) t := fun ds O k h G H σ Q ok rp x c => ⟨ds, O, k, G, h, ok, rp, x, c⟩
theorem gOf_l {K : PySem.W.Frag} {is : List Nat} {t : DG} : LiftG K W ex is (gOf K W ex is t) t := fun y ds O k h G H σ v Q ok rp x hv c => ⟨y, ds, O, k, G, h, ok, rp, x, hv, c⟩
theorem tOf_p {e : Expr} {t : DT} (h : DE X W ex e t) : PE X e (tOf X.K W ex t) := by
  obtain ⟨te, p, l⟩ := h
  constructor
  intro pins s σ H Q I q
  obtain ⟨ds, O, k, G, h, ok, rp, x, c⟩ := q
  exact p.run pins s σ H Q I (l ds O k h G H σ Q ok rp x c)
theorem bOf_p {es : List Expr} {t : DB} (h : DTs X W ex es t) : PTs X es (bOf X.K W ex t) := by
  obtain ⟨te, p, l⟩ := h
  constructor
  intro pins s σ H Q I q
  obtain ⟨ds, O, k, G, h, ok, rp, x, c⟩ := q
  exact p.run pins s σ H Q I (l ds O k h G H σ Q ok rp x c)
theorem gOf_p {is : List Nat} {e : Expr} {t : DG} (h : DGt X W ex is e t) : PG X e (gOf X.K W ex is t) := by
  obtain ⟨te, p, l⟩ := h
  constructor
  intro pins s σ H v u Q I r q
  obtain ⟨y, ds, O, k, G, h, ok, rp, x, hv, c⟩ := q
  exact p.run pins s σ H v u Q I r (l y ds O k h G H σ v Q ok rp x hv c)
theorem de_lc (own : List (Str × Nat)) {is : List Nat} {elt tg iter : Expr} {ifs : List Expr} {scope : Scope} {pos : Pos} {di : DI} {g : DG} {tt : DB} {te : DT} (hc : X.calm = true) (hN : X.N.Nodup) (hi : DIt X W ex tg iter di) (ok : BlkOk X.N X.env.scope scope own)
    (hg : ∀ (s : Shared) (H : Hp) (C : Addr) (cl : List (Str × Addr)) (fp : List Addr), DGt (X.blk s H scope (compEnvC scope cl C X.env) fp) NoW NoX is tg g)
    (ht : ∀ (s : Shared) (H : Hp) (C : Addr) (cl : List (Str × Addr)) (fp : List Addr), DTs (X.blk s H scope (compEnvC scope cl C X.env) fp) NoW NoX ifs tt)
    (he : ∀ (s : Shared) (H : Hp) (C : Addr) (cl : List (Str × Addr)) (fp : List Addr), DE (X.blk s H scope (compEnvC scope cl C X.env) fp) NoW NoX elt te)
    (hsub : ∀ i ∈ is, i ∈ own.map (·.2) := by decide) (hs : ∀ x, foldedSetIterable iter X.env x = pure x := by intro _; rfl) :
    DE X W ex (.ListComp elt [⟨tg, iter, ifs, 0⟩] scope pos) (dLc di g tt te (own.map (·.2))) := by
  obtain ⟨wi, p0, l0⟩ := hi
  exact ⟨_, pe_lc hc hN p0 ok (fun s H C cl fp => gOf_p (hg s H C cl fp)) (fun s H C cl fp => bOf_p (ht s H C cl fp)) (fun s H C cl fp => tOf_p (he s H C cl fp)) hs, l_lc l0 gOf_l bOf_l tOf_l hsub⟩
theorem ds_setLc (i : Nat) (own : List (Str × Nat)) {y : Str} {py spos : Pos} {is : List Nat} {elt tg iter : Expr} {ifs : List Expr} {scope : Scope} {pos : Pos} {di : DI} {g : DG} {tt : DB} {te : DT} (hc : X.calm = true) (hN : X.N.Nodup) (hy : X.N[i]? = some y) (hyl : X.env.scope.names.lookup y = some .local)
    (hsw : swapsWith (.ListComp elt [⟨tg, iter, ifs, 0⟩] scope pos) (some (.Name y py)) spos.line X.env = pure true) (hi : DIt X W ex tg iter di) (ok : BlkOk X.N X.env.scope scope own)
    (hg : ∀ (s : Shared) (H : Hp) (C : Addr) (cl : List (Str × Addr)) (fp : List Addr), DGt (X.blk s H scope (compEnvC scope cl C X.env) fp) NoW NoX is tg g)
    (ht : ∀ (s : Shared) (H : Hp) (C : Addr) (cl : List (Str × Addr)) (fp : List Addr), DTs (X.blk s H scope (compEnvC scope cl C X.env) fp) NoW NoX ifs tt)
    (he : ∀ (s : Shared) (H : Hp) (C : Addr) (cl : List (Str × Addr)) (fp : List Addr), DE (X.blk s H scope (compEnvC scope cl C X.env) fp) NoW NoX elt te)
    (hsub : ∀ i ∈ is, i ∈ own.map (·.2) := by decide) (hs : ∀ x, foldedSetIterable iter X.env x = pure x := by intro _; rfl) :
    DSt X W ex (.Assign [.Name y py] (.ListComp elt [⟨tg, iter, ifs, 0⟩] scope pos) spos) (dAsg (dLc di g tt te (own.map (·.2))) (dgName i)) := by
  obtain ⟨wi, p0, l0⟩ := hi
  exact ⟨_, ps_setLc hc hN hy hyl hsw p0 ok (fun s H C cl fp => gOf_p (hg s H C cl fp)) (fun s H C cl fp => bOf_p (ht s H C cl fp)) (fun s H C cl fp => tOf_p (he s H C cl fp)) hs, l_asg (l_lc l0 gOf_l bOf_l tOf_l hsub) (l_name i)⟩
end
end DL
namespace DL
open PySem PySem.Spec PyProof.Rows L2 Evl

/-! ### defs by data -/
/-- what a def does: the arguments, the store; what is wanted of the answer, of an error -/
abbrev DSp := List D → Ow → DK → (Xc → Ow → Prop) → Prop
def spOf (K : PySem.W.Frag) (S : DSp) : Sp := fun vs H Q E => ∃ G O as q e, Ok K G H O ∧ DnAll K G vs as ∧ S as O q e ∧ Cont K G H O q Q ∧
  ∀ c O' dd G' H', e c O' → Stp G H O G' H' O' → Ok K G' H' O' → Pay K G' H' dd c.pay → E c.cls dd H'
def dCall (S : DSp) (ex : EX) (t : DA) : DT := fun ds O k => t ds O fun as O1 => S as O1 k fun c O2 => ex c ds O2
theorem l_call {K : PySem.W.Frag} {W : WX} {ex : EX} {ta : TA} {t : DA} {S : DSp} (l1 : LiftA K W ex ta t) : LiftE K W ex (tCallS (spOf K S) (WE W) ta) (dCall S ex t) := fun ds O k h G H σ Q ok rp x c =>
  l1 ds O _ h G H σ _ ok rp x fun as O1 vs G1 H1 h1 s1 ok1 d1 => ⟨G1, O1, as, _, _, ok1, d1, h1, c.after s1, fun y O' dd G' H' h' s' ok' p' => x y ds O' σ dd G' H' h' (s1.trans s') ok' (rp.mono (s1.trans s').g) p'⟩
/-- the def at f does S -/
abbrev FnD (P : Program) (w : World) (K : PySem.W.Frag) (mg : Str → Option Value) (base : Heap) (k : Nat) (f : Addr) (fd : FuncData) (ps : List Str) (S : DSp) : Prop := FnOk P w K mg base (L2N.CX P w) k f fd ps (spOf K S)
section
variable {X : Cx} {W : WX} {ex : EX} {k j : Nat} {f : Addr} {fd : FuncData} {ps : List Str} {S : DSp} {x : Str} {p pos : Pos} {e : Expr} {es : List Expr} {t : DA}
theorem de_call (tk : L2N.Takes X W) (F : FnD X.prog X.w X.K X.mg X.base k f fd ps S) (hr : Room j X.A) (hm : X.mg x = some (.ref f)) (hk : PySem.W.keepIn X.K (.ref f) = true) (hb : Binds X.K fd ps []) (ha : DAs X W ex (e :: es) t) (hj : k ≤ j := by decide) (hg : Gl X x := by rfl)
    (hdb : (x == ("__debug__" : Str)) = false := by decide) (he : starEach (e :: es) X.env = (false, eval e X.env) :: starEach es X.env := by rfl) (hpl : (backTo pos (starEach es X.env)).any (·.1) = false := by rfl) :
    DE X W ex (.Call (.Name x p) (e :: es) [] pos) (dCall S ex t) := by
  obtain ⟨ta, p1, l1⟩ := ha
  exact ⟨_, pe_callS F (hr.mono hj) hg hm hk hb (fun σ => L2N.passAt tk σ) p1 hdb he hpl, l_call l1⟩
end
/-! keywords: the values in the order of the parameters -/
section
variable {X : Cx} {W : WX} {ex : EX} {CX : CXT} {k j : Nat} {f : Addr} {fd : FuncData} {ps ks : List Str} {sp : Sp} {x : Str} {p pos : Pos} {e : Expr} {es : List Expr} {kws : List Keyword} {t tk : TA} {g : List Value → List Value → List Value} {gV : List V → List V → List V} {E : L2.St → XK}
def tCallKS (sp : Sp) (gV : List V → List V → List V) (E : L2.St → XK) (t tk : TA) : TE := fun σ H Q => t σ H fun vs H1 => tk σ H1 fun zs H2 => sp (gV vs zs) H2 Q (E σ)
theorem run_kwS {pins : List (Addr × Obj)} {σ : L2.St} {H : Hp} {s : Shared} {Q : VK} {us ws : List Value} {vs zs : List V} (F : FnOk X.prog X.w X.K X.mg X.base CX k f fd ps sp) (hr : Room k X.A) (hb : KBinds X.K fd ps ks g gV) (hx : PassesAt CX X σ (E σ))
    (I : L2.Inv X pins σ H s) (r : Vals vs us) (rz : Vals zs ws) (h : sp (gV vs zs) H Q (E σ)) : wpAny (model X.prog X.w) X.A (call (.ref f) us (ks.zip ws)) (EP X pins σ Q) X.xe s := by
  have r2 := hb.rel r rz
  have hl : (g us ws).length = ps.length := r2.length.symm.trans (F.len _ _ _ _ h)
  refine wpAny_call (codeAny_mono (F.run X.A X.stack s H ⟨us, ks.zip ws⟩ (g us ws) (gV vs zs) Q (E σ) hr I.env0 (hb.to s us ws I.kIn hl) r2 h) fun r s' hq => ?_)
  cases r with
  | error e => exact hx pins H s e s' I hq
  | ok fl =>
    cases fl with
    | ret u => exact I.after hq
    | _ => exact False.elim hq
theorem pe_kwS0 (F : FnOk X.prog X.w X.K X.mg X.base CX k f fd ps sp) (hr : Room k X.A) (hg : Gl X x) (hm : X.mg x = some (.ref f)) (hk : PySem.W.keepIn X.K (.ref f) = true) (hb : KBinds X.K fd ps ks g gV) (hx : ∀ σ, PassesAt CX X σ (E σ))
    (hkw : PK X kws tk) (hall : (backToKw pos (keywordEach kws X.env)).all (·.1.isSome) = true) (hks : (backToKw pos (keywordEach kws X.env)).filterMap (·.1) = ks)
    (hdb : (x == ("__debug__" : Str)) = false) (hpl : ((backTo pos (starEach [] X.env)).any (·.1) || (backToKw pos (keywordEach kws X.env)).any (·.1.isNone)) = false) :
    PE X (.Call (.Name x p) [] kws pos) (tCallKS sp gV E tNil tk) := by
  constructor
  intro pins s σ H Q I h
  refine wpAny_Call_Name_kw (ld_glob I hg hm ?_ hdb)
  refine PySem.W.callWith_KW0 (h₀ := X.base) I.ok.mod.kin hk hall (thn (hkw.run pos pins s σ H _ I h) fun ws s2 hh => ?_) hpl
  obtain ⟨zs, H2, I2, rz, q2⟩ := hh
  refine ⟨I2.kIn, ?_⟩
  rw [hks]
  exact run_kwS (us := []) F hr hb (hx σ) I2 .nil rz q2
theorem pe_kwS (F : FnOk X.prog X.w X.K X.mg X.base CX k f fd ps sp) (hr : Room k X.A) (hg : Gl X x) (hm : X.mg x = some (.ref f)) (hk : PySem.W.keepIn X.K (.ref f) = true) (hb : KBinds X.K fd ps ks g gV) (hx : ∀ σ, PassesAt CX X σ (E σ))
    (ha : PA X (e :: es) t) (hkw : PK X kws tk) (hall : (backToKw pos (keywordEach kws X.env)).all (·.1.isSome) = true) (hks : (backToKw pos (keywordEach kws X.env)).filterMap (·.1) = ks)
    (hdb : (x == ("__debug__" : Str)) = false) (he : starEach (e :: es) X.env = (false, eval e X.env) :: starEach es X.env)
    (hpl : ((backTo pos (starEach (e :: es) X.env)).any (·.1) || (backToKw pos (keywordEach kws X.env)).any (·.1.isNone)) = false) :
    PE X (.Call (.Name x p) (e :: es) kws pos) (tCallKS sp gV E t tk) := by
  constructor
  intro pins s σ H Q I h
  refine wpAny_Call_Name_kw (ld_glob I hg hm ?_ hdb)
  refine PySem.W.callWith_KW (h₀ := X.base) I.ok.mod.kin hk hall (thn (ha.run pos pins s σ H _ I h) fun us s1 hh => ?_) hpl he
  obtain ⟨vs, H1, I1, r, q⟩ := hh
  refine thn (hkw.run pos pins s1 σ H1 _ I1 q) fun ws s2 hh => ?_
  obtain ⟨zs, H2, I2, rz, q2⟩ := hh
  refine ⟨I2.kIn, ?_⟩
  rw [hks]
  exact run_kwS F hr hb (hx σ) I2 r rz q2
end
def DKw (X : Cx) (W : WX) (ex : EX) (kws : List Keyword) (t : DA) : Prop := ∃ te, PK X kws te ∧ LiftA X.K W ex te t
def dCallK (S : DSp) (gD : List D → List D → List D) (ex : EX) (t tk : DA) : DT := fun ds O k => t ds O fun as O1 => tk ds O1 fun bs O2 => S (gD as bs) O2 k fun c O3 => ex c ds O3
section
variable {X : Cx} {W : WX} {ex : EX} {k j : Nat} {f : Addr} {fd : FuncData} {ps ks : List Str} {S : DSp} {x : Str} {p pos kpos : Pos} {e : Expr} {es : List Expr} {kws : List Keyword} {t tk : DA} {te : DT} {nm : Option Str}
theorem dk_nil : DKw X W ex [] dNil := ⟨_, pk_nil, l_nil⟩
theorem dk_cons (ha : DE X W ex e te) (hr : DKw X W ex kws t) : DKw X W ex (⟨nm, e, kpos⟩ :: kws) (dCons te t) := by
  obtain ⟨ta, p1, l1⟩ := ha
  obtain ⟨tb, p2, l2⟩ := hr
  exact ⟨_, pk_cons p1 p2, l_cons l1 l2⟩
/-- how keywords bind: the values' places, alike for values, abstract values and data -/
structure KB (K : PySem.W.Frag) (fd : FuncData) (ps ks : List Str) (g : List Value → List Value → List Value) (gV : List V → List V → List V) (gD : List D → List D → List D) : Prop where
  to : KBinds K fd ps ks g gV
  dat : ∀ {G : Hp} {vs us : List V} {xs ys : List D}, DnAll K G vs xs → DnAll K G us ys → DnAll K G (gV vs us) (gD xs ys)
variable {g : List Value → List Value → List Value} {gV : List V → List V → List V} {gD : List D → List D → List D}
theorem l_callK {K : PySem.W.Frag} {ta tb : TA} (hd : ∀ {G : Hp} {vs us : List V} {xs ys : List D}, DnAll K G vs xs → DnAll K G us ys → DnAll K G (gV vs us) (gD xs ys)) (l1 : LiftA K W ex ta t) (l2 : LiftA K W ex tb tk) : LiftE K W ex (tCallKS (spOf K S) gV (WE W) ta tb) (dCallK S gD ex t tk) := fun ds O q h G H σ Q ok rp x c =>
  l1 ds O _ h G H σ _ ok rp x fun as O1 vs G1 H1 h1 s1 ok1 d1 => l2 ds O1 _ h1 G1 H1 σ _ ok1 (rp.mono s1.g) (x.after s1) fun bs O2 us G2 H2 h2 s2 ok2 d2 =>
    ⟨G2, O2, _, _, _, ok2, hd (DnAll.mono s2.g d1) d2, h2, c.after (s1.trans s2), fun y O' dd G' H' h' s' ok' p' => x y ds O' σ dd G' H' h' ((s1.trans s2).trans s') ok' (rp.mono ((s1.trans s2).trans s').g) p'⟩
theorem de_callK0 (tk0 : L2N.Takes X W) (F : FnD X.prog X.w X.K X.mg X.base k f fd ps S) (hr : Room j X.A) (hm : X.mg x = some (.ref f)) (hk : PySem.W.keepIn X.K (.ref f) = true) (hb : KB X.K fd ps ks g gV gD) (hkw : DKw X W ex kws tk) (hj : k ≤ j := by decide) (hg : Gl X x := by rfl)
    (hall : (backToKw pos (keywordEach kws X.env)).all (·.1.isSome) = true := by rfl) (hks : (backToKw pos (keywordEach kws X.env)).filterMap (·.1) = ks := by rfl) (hdb : (x == ("__debug__" : Str)) = false := by decide)
    (hpl : ((backTo pos (starEach [] X.env)).any (·.1) || (backToKw pos (keywordEach kws X.env)).any (·.1.isNone)) = false := by rfl) : DE X W ex (.Call (.Name x p) [] kws pos) (dCallK S gD ex dNil tk) := by
  obtain ⟨tb, p2, l2⟩ := hkw
  exact ⟨_, pe_kwS0 F (hr.mono hj) hg hm hk hb.to (fun σ => L2N.passAt tk0 σ) p2 hall hks hdb hpl, l_callK hb.dat l_nil l2⟩
theorem de_callK (tk0 : L2N.Takes X W) (F : FnD X.prog X.w X.K X.mg X.base k f fd ps S) (hr : Room j X.A) (hm : X.mg x = some (.ref f)) (hk : PySem.W.keepIn X.K (.ref f) = true) (hb : KB X.K fd ps ks g gV gD) (ha : DAs X W ex (e :: es) t) (hkw : DKw X W ex kws tk) (hj : k ≤ j := by decide) (hg : Gl X x := by rfl)
    (hall : (backToKw pos (keywordEach kws X.env)).all (·.1.isSome) = true := by rfl) (hks : (backToKw pos (keywordEach kws X.env)).filterMap (·.1) = ks := by rfl) (hdb : (x == ("__debug__" : Str)) = false := by decide) (he : starEach (e :: es) X.env = (false, eval e X.env) :: starEach es X.env := by rfl)
    (hpl : ((backTo pos (starEach (e :: es) X.env)).any (·.1) || (backToKw pos (keywordEach kws X.env)).any (·.1.isNone)) = false := by rfl) : DE X W ex (.Call (.Name x p) (e :: es) kws pos) (dCallK S gD ex t tk) := by
  obtain ⟨ta, p1, l1⟩ := ha
  obtain ⟨tb, p2, l2⟩ := hkw
  exact ⟨_, pe_kwS F (hr.mono hj) hg hm hk hb.to (fun σ => L2N.passAt tk0 σ) p1 p2 hall hks hdb he hpl, l_callK hb.dat l1 l2⟩
end

/-! ### a def keeps its promise -/
/-- a new cell may be handed back as data; local cells are forgotten -/
def Rt (q : DK) : DK := fun d O' => (∃ O2, q d O2 ∧ Sub O2 O') ∨ ∃ p xs O2, d = .opq (.ref p) ∧ O' p = some (.lst xs) ∧ q (.lst xs) O2 ∧ Sub O2 (odel O' p)
theorem rt_ok {K : PySem.W.Frag} {G H : Hp} {O : Ow} {q : DK} {Q : VK} (c : Cont K G H O q Q) : Cont K G H O (Rt q) Q := by
  intro d O' v G' H' h s ok hv
  rcases h with ⟨O2, h, sb⟩ | ⟨p, xs, O2, rfl, hp, h, sb⟩
  · exact c d O2 v G' H' h (s.sub sb) (ok.sub sb) hv
  · obtain ⟨G2, e, ok2, s2, d2⟩ := froze ok hp
    cases hv
    exact c _ O2 _ G2 H' h ((s.trans s2).sub sb) (ok2.sub sb) d2
def startD (N : List Str) (as : List D) : Ds := as.map some ++ List.replicate (N.length - as.length) none
theorem rep_start {K : PySem.W.Frag} {G : Hp} {vs : List V} {as : List D} (h : DnAll K G vs as) (N : List Str) : Rep K G (L2.start N vs) (startD N as) := by
  have hl := h.length
  unfold L2.start startD
  refine ⟨by rw [List.length_append, List.length_append, List.length_map, List.length_map, List.length_replicate, List.length_replicate, hl], fun i d e => ?_⟩
  by_cases z : i < as.length
  · rw [List.getElem?_append_left (by rw [List.length_map]; exact z), List.getElem?_map] at e
    cases q : as[i]? with
    | none => rw [q] at e; cases e
    | some a =>
      rw [q] at e
      cases e
      obtain ⟨v, h1, h2⟩ := h.get q
      refine ⟨v, ?_, h2⟩
      rw [List.getElem?_append_left (by rw [List.length_map, hl]; exact z), List.getElem?_map, h1]
      rfl
  · rw [List.getElem?_append_right (by rw [List.length_map]; omega), List.getElem?_replicate] at e
    split at e <;> cases e
/-- errors that leave a def -/
def exOf (e : Xc → Ow → Prop) : EX := fun c _ O' => ∃ O2, e c O2 ∧ Sub O2 O'
abbrev wOf (E : XK) : WX := fun c d _ H => E c d H
section
variable {P : Program} {w : World} {K : PySem.W.Frag} {mg : Str → Option Value} {base : Heap}
theorem okN {x qual : Str} {st : Stmt} {f : Addr} {fd : FuncData} {N ps : List Str} {k : Nat} {sp : Sp} (F : Fun K x qual st f fd) (Sc : FnScope N ps (defScope st)) (hl : ∀ vs H Q E, sp vs H Q E → vs.length = ps.length)
    (hb : ∀ (cdv : Value) (A : Around) (outer : List Env) (s : Shared) (H : Hp) (vs : List V) (Q : VK) (E : XK), Room k (A.deeper (envOfC qual (defScope st) s.heap.objs.size f cdv)) → sp vs H Q E →
      ∃ t, PSs (cxOf (L2N.CX P w) P w K mg base N qual (defScope st) f cdv A outer s H E) (defBody st) t ∧ t { nx := fun _ H' => Q .non H', rt := Q } (start N vs) H) :
    FnOk P w K mg base (L2N.CX P w) (k + 1) f fd ps sp := by
  obtain ⟨oc, od, kV, doc, pm, an, cdv, ct, osl, rfl, lk, hc⟩ := F.ex
  refine fn_of lk hc Sc hl ?_
  intro A outer s H vs Q E hr h
  exact hb cdv A outer s H vs Q E hr h
/-- around a body that lets nothing out -/
theorem takes0N {X : Cx} : L2N.Takes X (fun _ _ _ _ => False) := by
  rintro u s' ⟨a, B, sI, pins, σ, H, cls, d, e, I, nb, up, sky, na, os, ag, z⟩
  exact z.elim
theorem fn_D {x qual : Str} {st : Stmt} {f : Addr} {fd : FuncData} {N ps : List Str} {k : Nat} {S : DSp} (F : Fun K x qual st f fd) (Sc : FnScope N ps (defScope st)) (hl : ∀ as O q e, S as O q e → as.length = ps.length)
    (hb : ∀ (cdv : Value) (A : Around) (outer : List Env) (s : Shared) (H : Hp) (E : XK), Room k (A.deeper (envOfC qual (defScope st) s.heap.objs.size f cdv)) → ∀ as O q e, S as O q e →
      ∃ t, DSs (cxOf (L2N.CX P w) P w K mg base N qual (defScope st) f cdv A outer s H E) (wOf E) (exOf e) (defBody st) t ∧ t ⟨fun _ O' => Rt q .non O', Rt q, fun _ _ => False, fun _ _ => False⟩ (startD N as) O) :
    FnD P w K mg base (k + 1) f fd ps S := by
  refine okN F Sc (fun vs H Q E h => ?_) (fun cdv A outer s H vs Q E hr h => ?_)
  · obtain ⟨G, O, as, q, e, _, d, h, _⟩ := h
    rw [d.length]
    exact hl _ _ _ _ h
  · obtain ⟨G, O, as, q, e, ok, d, h, c, cx⟩ := h
    obtain ⟨t, ⟨ts, p, l⟩, ht⟩ := hb cdv A outer s H E hr as O q e h
    refine ⟨ts, p, l _ _ O ht G H (L2.start N vs) _ ok (rep_start d N) (fun y ds O' σ dd G' H' hy s' ok' rp' pa => ?_) ⟨fun ds O' σ G' H' h' s' ok' _ => rt_ok c _ O' .non G' H' h' s' ok' .non, rt_ok c, fun ds O' σ G' H' h' _ _ _ => False.elim h', fun ds O' σ G' H' h' _ _ _ => False.elim h'⟩⟩
    obtain ⟨O2, hy, sb⟩ := hy
    exact cx y O2 dd G' H' hy (s'.sub sb) (ok'.sub sb) pa
/-- the law itself -/
def spLawD (K : PySem.W.Frag) : Sp := fun vs H Q _ => ∃ (a : Addr) (ns : List Int), vs = [.ref a] ∧ SqL K H a (ns.map V.int) ∧ ns.length ≤ 63 ∧ ∀ H', Q (.bl true) H'
theorem law_D {st : Stmt} {f : Addr} {fd : FuncData} {N : List Str} {k : Nat} (F : Fun K "law" "law" st f fd) (Sc : FnScope N ["script"] (defScope st))
    (hb : ∀ (cdv : Value) (A : Around) (outer : List Env) (s : Shared) (H : Hp) (E : XK), Room k (A.deeper (envOfC "law" (defScope st) s.heap.objs.size f cdv)) → ∀ ns : List Int, ns.length ≤ 63 →
      ∃ t, DSs (cxOf CX0 P w K mg base N "law" (defScope st) f cdv A outer s H E).nox NoW NoX (defBody st) t ∧ t ⟨fun _ _ => False, fun d _ => d = .bl true, fun _ _ => False, fun _ _ => False⟩ (startD N [.scr ns]) (fun _ => none)) :
    FnOk P w K mg base CX0 (k + 1) f fd ["script"] (spLawD K) := by
  refine F.ok Sc (fun vs H Q E h => ?_) (fun cdv A outer s H vs Q E hr h => ?_)
  · obtain ⟨a, ns, rfl, _⟩ := h
    rfl
  · obtain ⟨a, ns, rfl, hS, hlen, q⟩ := h
    obtain ⟨t, ⟨ts, p, l⟩, ht⟩ := hb cdv A outer s H E hr ns hlen
    have d : DnAll K H [V.ref a] [.scr ns] := .cons (.scr hS) .nil
    refine ⟨ts, p, l _ _ _ ht H H (L2.start N [.ref a]) _ ⟨Ex.refl H, fun _ _ z => by cases z⟩ (rep_start d N) (fun y ds O' σ dd G' H' hy _ _ _ _ => False.elim hy) ⟨fun ds O' σ G' H' h' _ _ _ => False.elim h', fun x O' v G' H' h' _ _ hv => ?_, fun ds O' σ G' H' h' _ _ _ => False.elim h', fun ds O' σ G' H' h' _ _ _ => False.elim h'⟩⟩
    subst h'
    cases hv
    exact q H'
end
end DL
namespace DL
open PySem PySem.Spec PyProof.Rows L2 Evl

/-! ### raise X('..'), X an own class over ValueError (at any depth) without __init__ -/
abbrev veTail : List Value := [.type "ValueError", .type "Exception", .type "BaseException", .type "object"]
def dRaise (C : Addr) : DSr := fun E ds O => False
def dRaiseX (ex : EX) (C : Addr) : DSr := fun _ ds O => ex ⟨.ref C, none⟩ ds O
section
variable {X : Cx} {W : WX} {ex : EX} {x m : Str} {C : Addr} {j : Nat} {p p2 pos pos2 : Pos}
theorem ds_raise (tk : L2N.Takes X W) (q : PySem.W.excIn X.K C veTail "ValueError.__new__" = true) (gC : X.mg x = some (.ref C)) (kC : PySem.W.keepIn X.K (.ref C) = true) (r : Raises X (.ref C)) (hc : X.calm = true := by rfl) (hg : Gl X x := by rfl) (hdb : (x == ("__debug__" : Str)) = false := by decide) :
    DSt X W ex (.Raise (some (.Call (.Name x p) [.Constant (.str m) j p2] [] pos)) none pos2) (dRaiseX ex C) :=
  ⟨_, L2N.ps_raise hc tk (L2N.pmk_own PySem.F.excBase_ValueError q gC kC r hg hdb), fun E ds O h G H σ D ok rp xc c => xc _ ds O σ none G H h Stp.refl ok rp rfl⟩
end

/-! ### keywords in an order of their own -/
def permL {α : Type} (is : List Nat) (l : List α) : List α := is.filterMap fun i => l[i]?
def kwG {α : Type} (n m : Nat) (is : List Nat) (us ws : List α) : List α := if us.length = n ∧ ws.length = m then permL is (us ++ ws) else []
theorem permL_rel {α β : Type} {F : α → β → Prop} {G : List α → List β → Prop} (nil : G [] []) (cons : ∀ a b as bs, F a b → G as bs → G (a :: as) (b :: bs)) {xs : List α} {ys : List β} (hl : ∀ i : Nat, (xs[i]? = none ∧ ys[i]? = none) ∨ ∃ a b, xs[i]? = some a ∧ ys[i]? = some b ∧ F a b) : ∀ is : List Nat, G (permL is xs) (permL is ys)
  | [] => nil
  | i :: is => by
    have ih := permL_rel nil cons hl is
    unfold permL at ih ⊢
    rcases hl i with ⟨h1, h2⟩ | ⟨a, b, h1, h2, f⟩
    · rw [List.filterMap_cons_none h1, List.filterMap_cons_none h2]
      exact ih
    · rw [List.filterMap_cons_some h1, List.filterMap_cons_some h2]
      exact cons _ _ _ _ f ih
theorem vals_at {xs : List V} {us : List Value} (h : Vals xs us) (i : Nat) : (xs[i]? = none ∧ us[i]? = none) ∨ ∃ a b, xs[i]? = some a ∧ us[i]? = some b ∧ RelV a b := by
  cases q : xs[i]? with
  | none => exact .inl ⟨rfl, h.none_of q⟩
  | some a =>
    obtain ⟨b, h1, h2⟩ := h.get q
    exact .inr ⟨a, b, rfl, h1, h2⟩
theorem dat_at {K : PySem.W.Frag} {G : Hp} {xs : List V} {us : List D} (h : DnAll K G xs us) (i : Nat) : (xs[i]? = none ∧ us[i]? = none) ∨ ∃ a b, xs[i]? = some a ∧ us[i]? = some b ∧ Dn K G a b := by
  cases q : xs[i]? with
  | none =>
    have l := List.getElem?_eq_none_iff.mp q
    rw [h.length] at l
    exact .inl ⟨rfl, List.getElem?_eq_none_iff.mpr l⟩
  | some a =>
    obtain ⟨b, h1, h2⟩ := h.getV q
    exact .inr ⟨a, b, rfl, h1, h2⟩
theorem kb_mk {K : PySem.W.Frag} {fd : FuncData} {ps ks : List Str} (n : Nat) (is : List Nat) (hp : ps ≠ [])
    (to : ∀ (s : Shared) (us ws : List Value), us.length = n → ws.length = ks.length → BindsTo s fd ⟨us, ks.zip ws⟩ (ps.zip (permL is (us ++ ws)))) :
    KB K fd ps ks (kwG n ks.length is) (kwG n ks.length is) (kwG n ks.length is) := by
  refine ⟨⟨fun s us ws _ hl => ?_, fun {vs us zs ws} h1 h2 => ?_⟩, fun {G vs us xs ys} h1 h2 => ?_⟩
  · unfold kwG at hl ⊢
    by_cases z : us.length = n ∧ ws.length = ks.length
    · rw [if_pos z]
      exact to s us ws z.1 z.2
    · rw [if_neg z] at hl
      cases ps with
      | nil => exact absurd rfl hp
      | cons _ _ => cases hl
  · unfold kwG
    rw [h1.length, h2.length]
    split
    · exact permL_rel (G := fun a b => Vals a b) .nil (fun _ _ _ _ f g => .cons f g) (vals_at (h1.append h2)) is
    · exact .nil
  · unfold kwG
    rw [h1.length, h2.length]
    split
    · exact permL_rel (G := fun a b => DnAll K G a b) .nil (fun _ _ _ _ f g => .cons f g) (dat_at (h1.append h2)) is
    · exact .nil

/-! ### [::-1] of a list -/
def dRev (t : DT) : DT := fun ds O k => t ds O fun x O1 => match listOf O1 x with
  | some xs => k (.lst xs.reverse) O1
  | none => False

/-! ### reading on: what a step asks, by words -/
theorem go_dC {d : D} {ds : Ds} {O : Ow} {k : DK} (h : k d O) : dC d ds O k := h
end DL
namespace DL
open PySem PySem.Spec PyProof.Rows L2 Evl

theorem kf_NoneType_int : kitB "NoneType" "int" = some false := by decide +kernel
theorem kf_NoneType_str : kitB "NoneType" "str" = some false := by decide +kernel
theorem kf_NoneType_bool : kitB "NoneType" "bool" = some false := by decide +kernel
theorem kf_NoneType_tuple : kitB "NoneType" "tuple" = some false := by decide +kernel
theorem kf_NoneType_list : kitB "NoneType" "list" = some false := by decide +kernel
theorem kf_NoneType_dict : kitB "NoneType" "dict" = some false := by decide +kernel
theorem kf_bool_int : kitB "bool" "int" = some true := by decide +kernel
theorem kf_bool_str : kitB "bool" "str" = some false := by decide +kernel
theorem kf_bool_bool : kitB "bool" "bool" = some true := by decide +kernel
theorem kf_bool_tuple : kitB "bool" "tuple" = some false := by decide +kernel
theorem kf_bool_list : kitB "bool" "list" = some false := by decide +kernel
theorem kf_bool_dict : kitB "bool" "dict" = some false := by decide +kernel
theorem kf_int_int : kitB "int" "int" = some true := by decide +kernel
theorem kf_int_str : kitB "int" "str" = some false := by decide +kernel
theorem kf_int_bool : kitB "int" "bool" = some false := by decide +kernel
theorem kf_int_tuple : kitB "int" "tuple" = some false := by decide +kernel
theorem kf_int_list : kitB "int" "list" = some false := by decide +kernel
theorem kf_int_dict : kitB "int" "dict" = some false := by decide +kernel
theorem kf_str_int : kitB "str" "int" = some false := by decide +kernel
theorem kf_str_str : kitB "str" "str" = some true := by decide +kernel
theorem kf_str_bool : kitB "str" "bool" = some false := by decide +kernel
theorem kf_str_tuple : kitB "str" "tuple" = some false := by decide +kernel
theorem kf_str_list : kitB "str" "list" = some false := by decide +kernel
theorem kf_str_dict : kitB "str" "dict" = some false := by decide +kernel
theorem kf_list_int : kitB "list" "int" = some false := by decide +kernel
theorem kf_list_str : kitB "list" "str" = some false := by decide +kernel
theorem kf_list_bool : kitB "list" "bool" = some false := by decide +kernel
theorem kf_list_tuple : kitB "list" "tuple" = some false := by decide +kernel
theorem kf_list_list : kitB "list" "list" = some true := by decide +kernel
theorem kf_list_dict : kitB "list" "dict" = some false := by decide +kernel
theorem kf_tuple_int : kitB "tuple" "int" = some false := by decide +kernel
theorem kf_tuple_str : kitB "tuple" "str" = some false := by decide +kernel
theorem kf_tuple_bool : kitB "tuple" "bool" = some false := by decide +kernel
theorem kf_tuple_tuple : kitB "tuple" "tuple" = some true := by decide +kernel
theorem kf_tuple_list : kitB "tuple" "list" = some false := by decide +kernel
theorem kf_tuple_dict : kitB "tuple" "dict" = some false := by decide +kernel
theorem kf_dict_int : kitB "dict" "int" = some false := by decide +kernel
theorem kf_dict_str : kitB "dict" "str" = some false := by decide +kernel
theorem kf_dict_bool : kitB "dict" "bool" = some false := by decide +kernel
theorem kf_dict_tuple : kitB "dict" "tuple" = some false := by decide +kernel
theorem kf_dict_list : kitB "dict" "list" = some false := by decide +kernel
theorem kf_dict_dict : kitB "dict" "dict" = some true := by decide +kernel

/-- a thing whose type is known -/
def Kn : D → Prop
  | .opq _ => False
  | .fdic _ _ => False
  | .obj t _ => t = .type "dict"
  | _ => True
theorem atI0 {α : Type} {x : α} {r : List α} : atI (x :: r) 0 = some x := by
  unfold atI ixN
  rw [if_pos (Int.le_refl 0), if_pos (by rw [List.length_cons]; omega)]
  rfl
theorem atI1 {α : Type} {x y : α} {r : List α} : atI (x :: y :: r) 1 = some y := by
  unfold atI ixN
  rw [if_pos (by decide), if_pos (by rw [List.length_cons, List.length_cons]; omega)]
  rfl
theorem atI2 {α : Type} {x y z : α} {r : List α} : atI (x :: y :: z :: r) 2 = some z := by
  unfold atI ixN
  rw [if_pos (by decide), if_pos (by rw [List.length_cons, List.length_cons, List.length_cons]; omega)]
  rfl
theorem atI_at {α : Type} {xs : List α} {i : Nat} {x : α} (h : xs[i]? = some x) : atI xs (i : Int) = some x := by
  have l : i < xs.length := (List.getElem?_eq_some_iff.mp h).1
  unfold atI ixN
  rw [if_pos (by omega), if_pos (by omega)]
  show xs[((i : Int)).toNat]? = some x
  rw [Int.toNat_natCast]
  exact h
theorem atI_int {α : Type} {xs : List α} {i : Int} {x : α} (h0 : 0 ≤ i) (h : xs[i.toNat]? = some x) : atI xs i = some x := by
  have q := atI_at h
  rw [Int.toNat_of_nonneg h0] at q
  exact q

end DL
namespace DL
open PySem PySem.Spec PyProof.Rows L2 Evl
theorem rs_non {O : Ow} : res O .non = .non := rfl
theorem rs_bl {O : Ow} {b : Bool} : res O (.bl b) = .bl b := rfl
theorem rs_int {O : Ow} {i : Int} : res O (.int i) = .int i := rfl
theorem rs_str {O : Ow} {x : Str} : res O (.str x) = .str x := rfl
theorem rs_lst {O : Ow} {xs : List D} : res O (.lst xs) = .lst xs := rfl
theorem rs_tup {O : Ow} {xs : List D} : res O (.tup xs) = .tup xs := rfl
theorem rs_scr {O : Ow} {ns : List Int} : res O (.scr ns) = .scr ns := rfl
theorem rs_obj {O : Ow} {t : Value} {v : V} : res O (.obj t v) = .obj t v := rfl
theorem rs_cell {O : Ow} {p : Addr} {xs : List D} (h : O p = some (.lst xs)) : res O (.opq (.ref p)) = .lst xs := by
  simp only [res, h]
theorem rs_cellS {O : Ow} {p : Addr} {xs : List D} : res (oset O p (.lst xs)) (.opq (.ref p)) = .lst xs := rs_cell oset_same
theorem tyD_lst {xs : List D} : tyD "list" (.lst xs) = true := rfl
theorem tyD_str {x : Str} : tyD "str" (.str x) = true := rfl
theorem ty_non : D.non.ty = some (.type "NoneType") := rfl
theorem ty_bl {b : Bool} : (D.bl b).ty = some (.type "bool") := rfl
theorem ty_int {i : Int} : (D.int i).ty = some (.type "int") := rfl
theorem ty_str {x : Str} : (D.str x).ty = some (.type "str") := rfl
theorem ty_lst {xs : List D} : (D.lst xs).ty = some (.type "list") := rfl
theorem ty_tup {xs : List D} : (D.tup xs).ty = some (.type "tuple") := rfl
theorem ty_scr {ns : List Int} : (D.scr ns).ty = some (.type "list") := rfl
theorem ty_obj {t : Value} {v : V} : (D.obj t v).ty = some t := rfl
theorem rt_of {q : DK} {d : D} {O : Ow} (h : q d O) : Rt q d O := .inl ⟨O, h, Sub.refl O⟩
/-- a new cell handed back -/
theorem rt_new {q : DK} {p : Addr} {xs : List D} {O : Ow} (hp : O p = none) (h : q (.lst xs) O) : Rt q (.opq (.ref p)) (oset O p (.lst xs)) := by
  refine .inr ⟨p, xs, O, rfl, oset_same, h, fun b c e => ?_⟩
  have ne : b ≠ p := fun z => by
    rw [z, hp] at e
    cases e
  unfold odel
  rw [if_neg ne, oset_ne ne]
  exact e
/-- local cells are forgotten -/
theorem rt_sub {q : DK} {d : D} {O O' : Ow} (h : q d O) (s : Sub O O') : Rt q d O' := .inl ⟨O, h, s⟩
theorem ex_of {e : Xc → Ow → Prop} {c : Xc} {ds : Ds} {O : Ow} (h : e c O) : exOf e c ds O := ⟨O, h, Sub.refl O⟩
theorem take_next {α : Type} : ∀ {l : List α} {i : Nat} {x : α}, l[i]? = some x → l.take (i + 1) = l.take i ++ [x]
  | [], _, _, h => by simp at h
  | a :: l, 0, x, h => by
    simp at h
    rw [h]
    rfl
  | a :: l, i + 1, x, h => by
    show a :: l.take (i + 1) = a :: (l.take i ++ [x])
    rw [take_next (by simpa using h)]
/-! ### a loop that goes through, by a fold -/
theorem for_rel {S : Type} {xs : List D} {g : DG} {tb : DSr} {E : DEnds} {ds : Ds} {O : Ow} (step : S → D → S) (De : S → Ds → Ow → Prop) (s0 : S) (h0 : De s0 ds O)
    (hst : ∀ s x ds O, x ∈ xs → De s ds O → ∀ R : Ds → Ow → Prop, (∀ ds' O', De (step s x) ds' O' → R ds' O') → g x ds O fun ds' O' => tb { E with nx := R, ct := R, bk := E.nx } ds' O')
    (hd : ∀ ds O, De (xs.foldl step s0) ds O → E.nx ds O) :
    ∃ Iv : Nat → Ds → Ow → Prop, Iv 0 ds O ∧ (∀ i x ds O, xs[i]? = some x → Iv i ds O → g x ds O fun ds' O' => tb { E with nx := Iv (i + 1), ct := Iv (i + 1), bk := E.nx } ds' O') ∧ (∀ ds O, Iv xs.length ds O → E.nx ds O) := by
  refine ⟨fun i ds O => De ((xs.take i).foldl step s0) ds O, h0, fun i x ds O hx h => ?_, fun ds O h => hd ds O (by have h' : De ((xs.take xs.length).foldl step s0) ds O := h; rw [List.take_length] at h'; exact h')⟩
  refine hst _ x ds O (List.mem_of_getElem? hx) h _ fun ds' O' h' => ?_
  show De ((xs.take (i + 1)).foldl step s0) ds' O'
  rw [take_next hx, List.foldl_append]
  exact h'
/-- a loop that may be left: W says what holds ahead of the items that are left -/
theorem for_rest {xs : List D} {g : DG} {tb : DSr} {E : DEnds} {ds : Ds} {O : Ow} (W : List D → Ds → Ow → Prop) (h0 : W xs ds O)
    (hst : ∀ x r ds O, W (x :: r) ds O → ∀ R : Ds → Ow → Prop, (∀ ds' O', W r ds' O' → R ds' O') → g x ds O fun ds' O' => tb { E with nx := R, ct := R, bk := E.nx } ds' O') (hd : ∀ ds O, W [] ds O → E.nx ds O) :
    ∃ Iv : Nat → Ds → Ow → Prop, Iv 0 ds O ∧ (∀ i x ds O, xs[i]? = some x → Iv i ds O → g x ds O fun ds' O' => tb { E with nx := Iv (i + 1), ct := Iv (i + 1), bk := E.nx } ds' O') ∧ (∀ ds O, Iv xs.length ds O → E.nx ds O) := by
  refine ⟨fun i ds O => W (xs.drop i) ds O, h0, fun i x ds O hx h => ?_, fun ds O h => hd ds O (by have h' : W (xs.drop xs.length) ds O := h; rw [List.drop_length] at h'; exact h')⟩
  have e : xs.drop i = x :: xs.drop (i + 1) := by
    obtain ⟨l, q⟩ := List.getElem?_eq_some_iff.mp hx
    rw [List.drop_eq_getElem_cons l, q]
  have h' : W (xs.drop i) ds O := h
  rw [e] at h'
  exact hst x _ ds O h' _ fun _ _ q => q
/-! ### comprehensions, by filter and map -/
theorem lc_fm {xs : List D} {g : DG} {tt : DB} {te : DT} {vs : List Nat} {ds : Ds} {O : Ow} {k : DK} (p : D → Bool) (f : D → D)
    (hst : ∀ x, x ∈ xs → ∀ (R1 : DK) (R2 : Ow → Prop), (p x = true → R1 (f x) O) → (p x = false → R2 O) → g x (dwipe ds vs) O fun ds' O' => tt ds' O' fun b O2 => if b = true then te ds' O2 R1 else R2 O2)
    (hk : k (.lst ((xs.filter p).map f)) O) :
    ∃ Iv : Nat → List D → Ow → Prop, Iv 0 [] O ∧
    (∀ i x acc O, xs[i]? = some x → Iv i acc O → acc.length ≤ i → g x (dwipe ds vs) O fun ds' O' => tt ds' O' fun b O2 => if b = true then te ds' O2 fun y O3 => Iv (i + 1) (acc ++ [y]) O3 else Iv (i + 1) acc O2) ∧
    (∀ acc O, acc.length ≤ xs.length → Iv xs.length acc O → k (.lst acc) O) := by
  refine ⟨fun i acc O' => acc = ((xs.take i).filter p).map f ∧ O' = O, ⟨rfl, rfl⟩, fun i x acc O' hx ⟨ha, ho⟩ _ => ?_, fun acc O' _ ⟨ha, ho⟩ => ?_⟩
  · subst ho
    refine hst x (List.mem_of_getElem? hx) _ _ (fun hp => ⟨?_, rfl⟩) (fun hp => ⟨?_, rfl⟩)
    · rw [take_next hx, List.filter_append, List.map_append, ← ha, List.filter_cons, if_pos hp]
      rfl
    · rw [take_next hx, List.filter_append, List.map_append, ← ha, List.filter_cons, if_neg (by rw [hp]; decide)]
      show acc = acc ++ []
      rw [List.append_nil]
  · subst ho
    subst ha
    rw [List.take_length]
    exact hk
theorem lc_mp {xs : List D} {g : DG} {te : DT} {vs : List Nat} {ds : Ds} {O : Ow} {k : DK} (f : D → D)
    (hst : ∀ x, x ∈ xs → ∀ R1 : DK, R1 (f x) O → g x (dwipe ds vs) O fun ds' O' => te ds' O' R1)
    (hk : k (.lst (xs.map f)) O) :
    ∃ Iv : Nat → List D → Ow → Prop, Iv 0 [] O ∧
    (∀ i x acc O, xs[i]? = some x → Iv i acc O → acc.length ≤ i → g x (dwipe ds vs) O fun ds' O' => dYes ds' O' fun b O2 => if b = true then te ds' O2 fun y O3 => Iv (i + 1) (acc ++ [y]) O3 else Iv (i + 1) acc O2) ∧
    (∀ acc O, acc.length ≤ xs.length → Iv xs.length acc O → k (.lst acc) O) :=
  lc_fm (fun _ => true) f (fun x hx R1 R2 h1 _ => hst x hx R1 (h1 rfl)) (by rw [show xs.filter (fun _ => true) = xs by simp]; exact hk)

/-! ### the same over a list that is written from another one -/
theorem for_map {S α : Type} {f : α → D} {l : List α} {g : DG} {tb : DSr} {E : DEnds} {ds : Ds} {O : Ow} (step : S → α → S) (De : Nat → S → Ds → Ow → Prop) (s0 : S) (h0 : De 0 s0 ds O)
    (hst : ∀ i s x ds O, l[i]? = some x → De i s ds O → ∀ R : Ds → Ow → Prop, (∀ ds' O', De (i + 1) (step s x) ds' O' → R ds' O') → g (f x) ds O fun ds' O' => tb { E with nx := R, ct := R, bk := E.nx } ds' O')
    (hd : ∀ ds O, De l.length (l.foldl step s0) ds O → E.nx ds O) :
    ∃ Iv : Nat → Ds → Ow → Prop, Iv 0 ds O ∧ (∀ i x ds O, (l.map f)[i]? = some x → Iv i ds O → g x ds O fun ds' O' => tb { E with nx := Iv (i + 1), ct := Iv (i + 1), bk := E.nx } ds' O') ∧ (∀ ds O, Iv (l.map f).length ds O → E.nx ds O) := by
  refine ⟨fun i ds O => De i ((l.take i).foldl step s0) ds O, h0, fun i x ds O hx h => ?_, fun ds O h => ?_⟩
  · rw [List.getElem?_map] at hx
    cases q : l[i]? with
    | none => rw [q] at hx; cases hx
    | some y =>
      rw [q] at hx
      cases hx
      refine hst i _ y ds O q h _ fun ds' O' h' => ?_
      show De (i + 1) ((l.take (i + 1)).foldl step s0) ds' O'
      rw [take_next q, List.foldl_append]
      exact h'
  · rw [List.length_map] at h
    have h' : De l.length ((l.take l.length).foldl step s0) ds O := h
    rw [List.take_length] at h'
    exact hd ds O h'
theorem for_restM {α : Type} {f : α → D} {l : List α} {g : DG} {tb : DSr} {E : DEnds} {ds : Ds} {O : Ow} (W : List α → Ds → Ow → Prop) (h0 : W l ds O)
    (hst : ∀ x r ds O, W (x :: r) ds O → ∀ R : Ds → Ow → Prop, (∀ ds' O', W r ds' O' → R ds' O') → g (f x) ds O fun ds' O' => tb { E with nx := R, ct := R, bk := E.nx } ds' O') (hd : ∀ ds O, W [] ds O → E.nx ds O) :
    ∃ Iv : Nat → Ds → Ow → Prop, Iv 0 ds O ∧ (∀ i x ds O, (l.map f)[i]? = some x → Iv i ds O → g x ds O fun ds' O' => tb { E with nx := Iv (i + 1), ct := Iv (i + 1), bk := E.nx } ds' O') ∧ (∀ ds O, Iv (l.map f).length ds O → E.nx ds O) := by
  refine ⟨fun i ds O => W (l.drop i) ds O, h0, fun i x ds O hx h => ?_, fun ds O h => hd ds O (by have h' : W (l.drop (l.map f).length) ds O := h; rw [List.length_map, List.drop_length] at h'; exact h')⟩
  rw [List.getElem?_map] at hx
  cases q : l[i]? with
  | none => rw [q] at hx; cases hx
  | some y =>
    rw [q] at hx
    cases hx
    have e : l.drop i = y :: l.drop (i + 1) := by
      obtain ⟨z, q⟩ := List.getElem?_eq_some_iff.mp q
      rw [List.drop_eq_getElem_cons z, q]
    have h' : W (l.drop i) ds O := h
    rw [e] at h'
    exact hst y _ ds O h' _ fun _ _ q => q
theorem lc_fmM {α : Type} {c : α → D} {l : List α} {g : DG} {tt : DB} {te : DT} {vs : List Nat} {ds : Ds} {O : Ow} {k : DK} (p : α → Bool) (f : α → D)
    (hst : ∀ x, x ∈ l → ∀ (R1 : DK) (R2 : Ow → Prop), (p x = true → R1 (f x) O) → (p x = false → R2 O) → g (c x) (dwipe ds vs) O fun ds' O' => tt ds' O' fun b O2 => if b = true then te ds' O2 R1 else R2 O2)
    (hk : k (.lst ((l.filter p).map f)) O) :
    ∃ Iv : Nat → List D → Ow → Prop, Iv 0 [] O ∧
    (∀ i x acc O, (l.map c)[i]? = some x → Iv i acc O → acc.length ≤ i → g x (dwipe ds vs) O fun ds' O' => tt ds' O' fun b O2 => if b = true then te ds' O2 fun y O3 => Iv (i + 1) (acc ++ [y]) O3 else Iv (i + 1) acc O2) ∧
    (∀ acc O, acc.length ≤ (l.map c).length → Iv (l.map c).length acc O → k (.lst acc) O) := by
  refine ⟨fun i acc O' => acc = ((l.take i).filter p).map f ∧ O' = O, ⟨rfl, rfl⟩, fun i x acc O' hx ⟨ha, ho⟩ _ => ?_, fun acc O' _ ⟨ha, ho⟩ => ?_⟩
  · subst ho
    rw [List.getElem?_map] at hx
    cases q : l[i]? with
    | none => rw [q] at hx; cases hx
    | some y =>
      rw [q] at hx
      cases hx
      refine hst y (List.mem_of_getElem? q) _ _ (fun hp => ⟨?_, rfl⟩) (fun hp => ⟨?_, rfl⟩)
      · rw [take_next q, List.filter_append, List.map_append, ← ha, List.filter_cons, if_pos hp]
        rfl
      · rw [take_next q, List.filter_append, List.map_append, ← ha, List.filter_cons, if_neg (by rw [hp]; decide)]
        show acc = acc ++ []
        rw [List.append_nil]
  · subst ho
    subst ha
    rw [List.length_map, List.take_length]
    exact hk
theorem lc_mpM {α : Type} {c : α → D} {l : List α} {g : DG} {te : DT} {vs : List Nat} {ds : Ds} {O : Ow} {k : DK} (f : α → D)
    (hst : ∀ x, x ∈ l → ∀ R1 : DK, R1 (f x) O → g (c x) (dwipe ds vs) O fun ds' O' => te ds' O' R1)
    (hk : k (.lst (l.map f)) O) :
    ∃ Iv : Nat → List D → Ow → Prop, Iv 0 [] O ∧
    (∀ i x acc O, (l.map c)[i]? = some x → Iv i acc O → acc.length ≤ i → g x (dwipe ds vs) O fun ds' O' => dYes ds' O' fun b O2 => if b = true then te ds' O2 fun y O3 => Iv (i + 1) (acc ++ [y]) O3 else Iv (i + 1) acc O2) ∧
    (∀ acc O, acc.length ≤ (l.map c).length → Iv (l.map c).length acc O → k (.lst acc) O) :=
  lc_fmM (fun _ => true) f (fun x hx R1 R2 h1 _ => hst x hx R1 (h1 rfl)) (by rw [show l.filter (fun _ => true) = l by simp]; exact hk)

/-! ### as they are used -/
section
variable {α : Type} {c : α → D} {l : List α} {di : DI} {g : DG} {tt : DB} {te : DT} {vs : List Nat} {ds : Ds} {O : Ow} {k : DK} {tb : DSr} {E : DEnds}
theorem comp_mpM (c : α → D) (l : List α) (f : α → D) (hdi : ∀ R : List D → Ow → Prop, R (l.map c) O → di ds O R) (hl : l.length < sizeLine)
    (hst : ∀ x, x ∈ l → ∀ R1 : DK, R1 (f x) O → g (c x) (dwipe ds vs) O fun ds' O' => te ds' O' R1) (hk : k (.lst (l.map f)) O) : dLc di g dYes te vs ds O k :=
  hdi _ ⟨by rw [List.length_map]; exact hl, lc_mpM f hst hk⟩
theorem comp_fmM (c : α → D) (l : List α) (p : α → Bool) (f : α → D) (hdi : ∀ R : List D → Ow → Prop, R (l.map c) O → di ds O R) (hl : l.length < sizeLine)
    (hst : ∀ x, x ∈ l → ∀ (R1 : DK) (R2 : Ow → Prop), (p x = true → R1 (f x) O) → (p x = false → R2 O) → g (c x) (dwipe ds vs) O fun ds' O' => tt ds' O' fun b O2 => if b = true then te ds' O2 R1 else R2 O2)
    (hk : k (.lst ((l.filter p).map f)) O) : dLc di g tt te vs ds O k :=
  hdi _ ⟨by rw [List.length_map]; exact hl, lc_fmM p f hst hk⟩
theorem loop_map {S : Type} (c : α → D) (l : List α) (step : S → α → S) (De : Nat → S → Ds → Ow → Prop) (s0 : S) (hdi : ∀ R : List D → Ow → Prop, R (l.map c) O → di ds O R) (h0 : De 0 s0 ds O)
    (hst : ∀ i s x ds O, l[i]? = some x → De i s ds O → ∀ R : Ds → Ow → Prop, (∀ ds' O', De (i + 1) (step s x) ds' O' → R ds' O') → g (c x) ds O fun ds' O' => tb { E with nx := R, ct := R, bk := E.nx } ds' O')
    (hd : ∀ ds O, De l.length (l.foldl step s0) ds O → E.nx ds O) : dFor di g tb E ds O := hdi _ (for_map step De s0 h0 hst hd)
theorem loop_rest (c : α → D) (l : List α) (W : List α → Ds → Ow → Prop) (hdi : ∀ R : List D → Ow → Prop, R (l.map c) O → di ds O R) (h0 : W l ds O)
    (hst : ∀ x r ds O, W (x :: r) ds O → ∀ R : Ds → Ow → Prop, (∀ ds' O', W r ds' O' → R ds' O') → g (c x) ds O fun ds' O' => tb { E with nx := R, ct := R, bk := E.nx } ds' O') (hd : ∀ ds O, W [] ds O → E.nx ds O) : dFor di g tb E ds O := hdi _ (for_restM W h0 hst hd)
end

section
variable {α : Type} {g : DG} {tt : DB} {te : DT} {vs : List Nat} {ds : Ds} {O : Ow} {k : DK} {tb : DSr} {E : DEnds}
theorem compX_mp (c : α → D) (l : List α) (f : α → D) (hl : l.length < sizeLine)
    (hst : ∀ x, x ∈ l → ∀ R1 : DK, R1 (f x) O → g (c x) (dwipe ds vs) O fun ds' O' => te ds' O' R1) (hk : k (.lst (l.map f)) O) : dLcX (l.map c) g dYes te vs ds O k :=
  ⟨by rw [List.length_map]; exact hl, lc_mpM f hst hk⟩
theorem compX_fm (c : α → D) (l : List α) (p : α → Bool) (f : α → D) (hl : l.length < sizeLine)
    (hst : ∀ x, x ∈ l → ∀ (R1 : DK) (R2 : Ow → Prop), (p x = true → R1 (f x) O) → (p x = false → R2 O) → g (c x) (dwipe ds vs) O fun ds' O' => tt ds' O' fun b O2 => if b = true then te ds' O2 R1 else R2 O2)
    (hk : k (.lst ((l.filter p).map f)) O) : dLcX (l.map c) g tt te vs ds O k :=
  ⟨by rw [List.length_map]; exact hl, lc_fmM p f hst hk⟩
theorem loopX_map {S : Type} (c : α → D) (l : List α) (step : S → α → S) (De : Nat → S → Ds → Ow → Prop) (s0 : S) (h0 : De 0 s0 ds O)
    (hst : ∀ i s x ds O, l[i]? = some x → De i s ds O → ∀ R : Ds → Ow → Prop, (∀ ds' O', De (i + 1) (step s x) ds' O' → R ds' O') → g (c x) ds O fun ds' O' => tb { E with nx := R, ct := R, bk := E.nx } ds' O')
    (hd : ∀ ds O, De l.length (l.foldl step s0) ds O → E.nx ds O) : dForX (l.map c) g tb E ds O := for_map step De s0 h0 hst hd
theorem loopX_rest (c : α → D) (l : List α) (W : List α → Ds → Ow → Prop) (h0 : W l ds O)
    (hst : ∀ x r ds O, W (x :: r) ds O → ∀ R : Ds → Ow → Prop, (∀ ds' O', W r ds' O' → R ds' O') → g (c x) ds O fun ds' O' => tb { E with nx := R, ct := R, bk := E.nx } ds' O') (hd : ∀ ds O, W [] ds O → E.nx ds O) : dForX (l.map c) g tb E ds O := for_restM W h0 hst hd
/-- by the turn's number alone -/
theorem loopX_in (xs : List D) (De : Nat → Ds → Ow → Prop) (h0 : De 0 ds O)
    (hst : ∀ i x ds O, xs[i]? = some x → De i ds O → ∀ R : Ds → Ow → Prop, (∀ ds' O', De (i + 1) ds' O' → R ds' O') → g x ds O fun ds' O' => tb { E with nx := R, ct := R, bk := E.nx } ds' O')
    (hd : ∀ ds O, De xs.length ds O → E.nx ds O) : dForX xs g tb E ds O := ⟨De, h0, fun i x ds O hx h => hst i x ds O hx h _ fun _ _ q => q, hd⟩
end

/-! ### strands -/
abbrev Rn := Bool × Int
def ch (b : Bool) : Str := if b = true then "D" else "L"
def eR (r : Rn) : D := .tup [.str (ch r.1), .int r.2]
def eS (rs : List Rn) : D := .tup (rs.map eR)
def eL (rs : List Rn) : D := .lst (rs.map eR)
theorem rs_eR {O : Ow} {r : Rn} : res O (eR r) = .tup [.str (ch r.1), .int r.2] := rfl
theorem rs_eS {O : Ow} {r : List Rn} : res O (eS r) = .tup (r.map eR) := rfl
theorem rs_eL {O : Ow} {r : List Rn} : res O (eL r) = .lst (r.map eR) := rfl
theorem ch_inj {a b : Bool} (h : ch a = ch b) : a = b := by
  cases a <;> cases b <;> first
    | rfl
    | exact absurd h (by decide)
/-- neighbours differ -/
def Alt : List Rn → Prop
  | a :: b :: r => a.1 ≠ b.1 ∧ Alt (b :: r)
  | _ => True
structure Vd (rs : List Rn) : Prop where
  ne : rs ≠ []
  pos : ∀ r ∈ rs, 1 ≤ r.2
  alt : Alt rs
def beads (rs : List Rn) : Int := (rs.map (·.2)).sum
def darks (rs : List Rn) : Int := ((rs.filter (·.1)).map (·.2)).sum
theorem deq_str (a b : Str) : deq (.str a) (.str b) = decide (a = b) := by
  unfold deq D.py
  simp only [PyData.eqv]
  by_cases e : a = b
  · subst e
    simp
  · simp [e]
theorem deq_int (a b : Int) : deq (.int a) (.int b) = decide (a = b) := by
  unfold deq D.py
  simp only [PyData.eqv]
  by_cases e : a = b
  · subst e
    simp
  · simp [e]
theorem deq_str_non (a : Str) : deq (.str a) .non = false := by
  unfold deq D.py
  simp only [PyData.eqv]
theorem ok_int (a : Int) : (D.int a).ok = true := by
  unfold D.ok D.pure D.py SeqAt.shaped
  simp [PyData.canLay0, PyData.depth]
theorem ok_non : D.non.ok = true := by
  unfold D.ok D.pure D.py SeqAt.shaped
  simp [PyData.canLay0, PyData.depth]
theorem strOk_ch (b : Bool) : PyData.strOk (ch b) = true := by
  cases b <;> decide +kernel
theorem ok_str {a : Str} (h : PyData.strOk a = true) : (D.str a).ok = true := by
  unfold D.ok D.pure D.py SeqAt.shaped
  simp [PyData.canLay0, PyData.depth, h]
theorem ok_ch (b : Bool) : (D.str (ch b)).ok = true := ok_str (strOk_ch b)
theorem ch_eq (a b : Bool) : decide (ch a = ch b) = decide (a = b) := by
  cases a <;> cases b <;> decide +kernel
section
variable {O : Ow} {k : DK}
theorem qadd_int {a b : Int} : qAdd (.int a) (.int b) O k = k (.int (a + b)) O := rfl
theorem qadd_str {a b : Str} : qAdd (.str a) (.str b) O k = (a.length + b.length ≤ sizeLine ∧ k (.str (a ++ b)) O) := rfl
theorem qadd_lst {a b : List D} : qAdd (.lst a) (.lst b) O k = (a.length + b.length ≤ sizeLine ∧ k (.lst (a ++ b)) O) := rfl
theorem qadd_tup {a b : List D} : qAdd (.tup a) (.tup b) O k = (a.length + b.length ≤ sizeLine ∧ k (.tup (a ++ b)) O) := rfl
theorem qmul_int {a b : Int} : qMul (.int a) (.int b) O k = (CMulW a b ∧ k (.int (a * b)) O) := rfl
theorem qmul_str {a : Str} {b : Int} : qMul (.str a) (.int b) O k = (MulOk a b ∧ k (.str (Txt.mul a b)) O) := rfl
theorem qmul_lst {a : List D} {b : Int} : qMul (.lst a) (.int b) O k = (-(2 ^ 63) ≤ b ∧ b < 2 ^ 63 ∧ a.length * b.toNat ≤ sizeLine ∧ k (.lst (List.replicate b.toNat a).flatten) O) := rfl
theorem qmul_tup {a : List D} {b : Int} : qMul (.tup a) (.int b) O k = (a ≠ [] ∧ 2 ≤ b ∧ b ≤ 1000 ∧ a.length ≤ 1000 ∧ k (.tup (List.replicate b.toNat a).flatten) O) := rfl
def atK (xs : List D) (i : Int) (O : Ow) (k : DK) : Prop := match atI xs i with
  | some d => k d O
  | none => False
theorem atK0 {x : D} {r : List D} : atK (x :: r) 0 O k = k x O := by
  unfold atK
  rw [atI0]
theorem atK1 {x y : D} {r : List D} : atK (x :: y :: r) 1 O k = k y O := by
  unfold atK
  rw [atI1]
theorem atK2 {x y z : D} {r : List D} : atK (x :: y :: z :: r) 2 O k = k z O := by
  unfold atK
  rw [atI2]
theorem atK_of {xs : List D} {i : Int} {d : D} (h : atI xs i = some d) : atK xs i O k = k d O := by
  unfold atK
  rw [h]
theorem qix_lst {xs : List D} {i : Int} : qIx (.lst xs) (.int i) O k = atK xs i O k := rfl
theorem qix_tup {xs : List D} {i : Int} : qIx (.tup xs) (.int i) O k = atK xs i O k := rfl
theorem qix_eR {r : Rn} {i : Int} : qIx (eR r) (.int i) O k = atK [.str (ch r.1), .int r.2] i O k := rfl
theorem qix_scr {ns : List Int} {i : Int} : qIx (.scr ns) (.int i) O k = (match atI ns i with | some n => k (.int n) O | none => False) := rfl
theorem qix_str {s : Str} {i : Int} : qIx (.str s) (.int i) O k = (s.length ≤ sizeLine ∧ (match atI s.cps.toList i with | some c => k (.str ⟨#[c]⟩) O | none => False)) := rfl
theorem qix_cell {p : Addr} {xs : List D} {i : Int} (h : O p = some (.lst xs)) : qIx (.opq (.ref p)) (.int i) O k = atK xs i O k := by
  unfold qIx
  rw [rs_cell h]
  rfl
theorem qix_cellS {p : Addr} {xs : List D} {i : Int} : qIx (.opq (.ref p)) (.int i) (oset O p (.lst xs)) k = atK xs i (oset O p (.lst xs)) k := qix_cell oset_same
theorem set0 {x y : D} {r : List D} : (x :: r).set 0 y = y :: r := rfl
theorem set1 {x y z : D} {r : List D} : (x :: y :: r).set 1 z = x :: z :: r := rfl
theorem set2 {x y z u : D} {r : List D} : (x :: y :: z :: r).set 2 u = x :: y :: u :: r := rfl
/-- a store to a place of a cell -/
def stK (p : Addr) (ys : List D) (j : Int) (x : D) (O : Ow) (k : Ow → Prop) : Prop := match ixN ys.length j with
  | some m => k (oset O p (.lst (ys.set m x)))
  | none => False
theorem stK_of {p : Addr} {ys : List D} {j : Int} {x : D} {m : Nat} {kk : Ow → Prop} (h : ixN ys.length j = some m) : stK p ys j x O kk = kk (oset O p (.lst (ys.set m x))) := by
  unfold stK
  rw [h]
theorem qe_int {a b : Int} : qEq false (.int a) (.int b) O k = k (.bl (decide (a = b))) O := by
  unfold qEq
  rw [rs_int, rs_int, ok_int, ok_int, deq_int, if_neg Bool.false_ne_true]
  simp
theorem qn_int {a b : Int} : qEq true (.int a) (.int b) O k = k (.bl (!decide (a = b))) O := by
  unfold qEq
  rw [rs_int, rs_int, ok_int, ok_int, deq_int, if_pos rfl]
  simp
theorem qe_ch {a b : Bool} : qEq false (.str (ch a)) (.str (ch b)) O k = k (.bl (decide (a = b))) O := by
  unfold qEq
  rw [rs_str, rs_str, ok_ch, ok_ch, deq_str, if_neg Bool.false_ne_true, ch_eq]
  simp
theorem qn_ch {a b : Bool} : qEq true (.str (ch a)) (.str (ch b)) O k = k (.bl (!decide (a = b))) O := by
  unfold qEq
  rw [rs_str, rs_str, ok_ch, ok_ch, deq_str, if_pos rfl, ch_eq]
  simp
theorem qe_chn {a : Bool} : qEq false (.str (ch a)) .non O k = k (.bl false) O := by
  unfold qEq
  rw [rs_str, rs_non, ok_ch, ok_non, deq_str_non, if_neg Bool.false_ne_true]
  simp
theorem ch_D (a : Bool) : decide (ch a = Str.ofString "D") = a := by
  cases a <;> decide +kernel
theorem ch_L (a : Bool) : decide (ch a = Str.ofString "L") = !a := by
  cases a <;> decide +kernel
theorem ok_D : (D.str (Str.ofString "D")).ok = true := ok_ch true
theorem ok_L : (D.str (Str.ofString "L")).ok = true := ok_ch false
theorem qe_chD {a : Bool} : qEq false (.str (ch a)) (.str (Str.ofString "D")) O k = k (.bl a) O := by
  unfold qEq
  rw [rs_str, rs_str, ok_ch, ok_D, deq_str, if_neg Bool.false_ne_true, ch_D]
  simp
theorem qe_chL {a : Bool} : qEq false (.str (ch a)) (.str (Str.ofString "L")) O k = k (.bl (!a)) O := by
  unfold qEq
  rw [rs_str, rs_str, ok_ch, ok_L, deq_str, if_neg Bool.false_ne_true, ch_L]
  simp
end
end DL
namespace DL
open PySem PySem.Spec PyProof.Rows L2 Evl
theorem three_of {G : Hp} {K : PySem.W.Frag} {vs : List V} {d e f : D} (h : DnAll K G vs [d, e, f]) : ∃ v u w, vs = [v, u, w] ∧ Dn K G v d ∧ Dn K G u e ∧ Dn K G w f := by
  cases h with
  | cons h t =>
    obtain ⟨u, w, rfl, h2, h3⟩ := two_of t
    exact ⟨_, _, _, rfl, h, h2, h3⟩
def dPar3 (i j l : Nat) (t : DA) : DSr := fun E ds O => t ds O fun xs O1 => match xs with
  | [x, y, z] => E.nx (((ds.set i (some x)).set j (some y)).set l (some z)) O1
  | _ => False
section
variable {X : Cx} {W : WX} {ex : EX} {pos : Pos}
theorem ds_par3 (i j l : Nat) {x y z : Str} {a b c : Expr} {ta : DA} {px py pz pt : Pos} {kt k2 pt2} (hN : X.N.Nodup) (ha : DAs X W ex [a, b, c] ta)
    (hp : ∀ {tp : TA}, PA X [a, b, c] tp → PS X (.Assign [.Tuple [.Name x px, .Name y py, .Name z pz] kt pt] (.Tuple [a, b, c] k2 pt2) pos) (tPar3 i j l tp)) :
    DSt X W ex (.Assign [.Tuple [.Name x px, .Name y py, .Name z pz] kt pt] (.Tuple [a, b, c] k2 pt2) pos) (dPar3 i j l ta) := by
  obtain ⟨tp, p1, l1⟩ := ha
  refine ⟨_, hp p1, fun E ds O h G H σ D ok rp x c => l1 ds O _ h G H σ _ ok rp x fun xs O1 vs G1 H1 h1 s1 ok1 d1 => ?_⟩
  dsimp only at h1
  split at h1
  · obtain ⟨v, u, w, rfl, hv, hu, hw⟩ := three_of d1
    exact ⟨v, u, w, rfl, c.nx _ O1 _ G1 H1 h1 s1 ok1 ((((rp.mono s1.g).set hv i).set hu j).set hw l)⟩
  · exact h1.elim
end
section
variable {g : DG} {tb : DSr} {E : DEnds} {ds : Ds} {O : Ow} {k : DK}
theorem loopX_rng (m : Nat) (De : Nat → Ds → Ow → Prop) (h0 : De 0 ds O)
    (hst : ∀ (i : Nat) ds O, i < m → De i ds O → ∀ R : Ds → Ow → Prop, (∀ ds' O', De (i + 1) ds' O' → R ds' O') → g (.int (i : Int)) ds O fun ds' O' => tb { E with nx := R, ct := R, bk := E.nx } ds' O')
    (hd : ∀ ds O, De m ds O → E.nx ds O) : dForX (List.map (fun i => D.int ((i : Nat) : Int)) (List.range m)) g tb E ds O := by
  refine loopX_map (fun i : Nat => D.int (i : Int)) (List.range m) (fun (_ : Unit) _ => ()) (fun i _ => De i) () h0 (fun i s x ds O hx h R hR => ?_) (fun ds O h => hd ds O ?_)
  · obtain ⟨l, e⟩ := List.getElem?_eq_some_iff.mp hx
    rw [List.length_range] at l
    rw [List.getElem_range] at e
    rw [← e]
    exact hst i ds O l h R hR
  · rw [List.length_range] at h
    exact h
theorem at2 {x y : D} {b : Bool} (h : ∀ j, (j = x ∨ j = y) → k j O) : atK [x, y] (if b = true then 1 else 0) O k := by
  cases b with
  | true =>
    rw [if_pos rfl, atK1]
    exact h y (.inr rfl)
  | false =>
    rw [if_neg (by decide), atK0]
    exact h x (.inl rfl)
theorem atN {xs : List D} {i : Int} (P : D → Prop) (h0 : 0 ≤ i) (h1 : i < xs.length) (hP : ∀ x ∈ xs, P x) (h : ∀ x, P x → k x O) : atK xs i O k := by
  have l : i.toNat < xs.length := by omega
  rw [atK_of (atI_int h0 (List.getElem?_eq_getElem l))]
  exact h _ (hP _ (List.getElem_mem l))
theorem qisn_t {a : Bool} : qIs true (.bl a) (.bl true) O k = k (.bl (!a)) O := by cases a <;> rfl
theorem qisn_f {a : Bool} : qIs true (.bl a) (.bl false) O k = k (.bl a) O := by cases a <;> rfl
theorem qis_t {a : Bool} : qIs false (.bl a) (.bl true) O k = k (.bl a) O := by cases a <;> rfl
theorem qis_f {a : Bool} : qIs false (.bl a) (.bl false) O k = k (.bl (!a)) O := by cases a <;> rfl
theorem qis_nn : qIs false .non .non O k = k (.bl true) O := rfl
theorem qisn_nn : qIs true .non .non O k = k (.bl false) O := rfl
theorem qis_in {i : Int} : qIs false (.int i) .non O k = k (.bl false) O := rfl
theorem qisn_in {i : Int} : qIs true (.int i) .non O k = k (.bl true) O := rfl
theorem qis_sn {i : Str} : qIs false (.str i) .non O k = k (.bl false) O := rfl
theorem qisn_sn {i : Str} : qIs true (.str i) .non O k = k (.bl true) O := rfl
theorem qn_chD {a : Bool} : qEq true (.str (ch a)) (.str (Str.ofString "D")) O k = k (.bl (!a)) O := by
  unfold qEq
  rw [rs_str, rs_str, ok_ch, ok_D, deq_str, if_pos rfl, ch_D]
  simp
theorem qn_chL {a : Bool} : qEq true (.str (ch a)) (.str (Str.ofString "L")) O k = k (.bl a) O := by
  unfold qEq
  rw [rs_str, rs_str, ok_ch, ok_L, deq_str, if_pos rfl, ch_L]
  simp
end
end DL
namespace DL
open PySem PySem.Spec PyProof.Rows L2 Evl
/-! ### promises that hold where no repr is under way -/
section
variable (P : Program) (w : World) (K : PySem.W.Frag) (mg : Str → Option Value)
variable (base : Heap) (CX : CXT) (k : Nat) (f : Addr) (fd : FuncData) (ps : List Str) (sp : Sp)
structure FnG : Prop where
  lenG : ∀ {vs H Q E}, sp vs H Q E → vs.length = ps.length
  runG : ∀ {A outer s H args us vs Q E}, A.guards = some [] → Room k A →
    Env0 P w K mg base A outer s H → BindsTo s fd args (ps.zip us) → Vals vs us →
    sp vs H Q E → codeAny (model P w) A (.call (.ref f) args) (CR CX outer P w H s Q E) s
end
section
variable {P : Program} {w : World} {K : PySem.W.Frag} {mg mb : Str → Option Value}
variable {base : Heap} {CX : CXT} {k : Nat} {f : Addr} {fd : FuncData} {ps : List Str} {sp : Sp}
theorem FnG.of (F : FnOk P w K mg base CX k f fd ps sp) : FnG P w K mg base CX k f fd ps sp :=
  ⟨fun h => F.len _ _ _ _ h, fun _ r e b v h => F.run _ _ _ _ _ _ _ _ _ r e b v h⟩
theorem FnG.mono {j : Nat} (F : FnG P w K mg base CX j f fd ps sp) (h : j ≤ k) : FnG P w K mg base CX k f fd ps sp :=
  ⟨F.lenG, fun g r e b v h' => F.runG g (r.mono h) e b v h'⟩
section
variable {name qual : Str} {params : Arguments} {body : List Stmt} {scope : Scope}
variable {dV kV doc pm cdv ct oc : Value} {an od : Option Addr} {osl : Array (Option Value)} {N : List Str}
/-- a def by its body -/
theorem fnG_of (lk : K.lookup f = some ⟨oc, od, .func (PySem.W.fnOf name qual params body scope dV kV doc pm an cdv ct), osl⟩)
    (hc : PySem.W.codeIn K cdv qual = true) (Sc : FnScope N ps scope)
    (hl : ∀ vs H Q E, sp vs H Q E → vs.length = ps.length)
    (hb : ∀ (A : Around) (outer : List Env) (s : Shared) (H : Hp) (vs : List V) (Q : VK) (E : XK), A.guards = some [] →
      Room k (A.deeper (envOfC qual scope s.heap.objs.size f cdv)) → sp vs H Q E →
      ∃ t, PSs (cxOf CX P w K mg base N qual scope f cdv A outer s H E) body t ∧
        t { nx := fun _ H' => Q .non H', rt := Q } (start N vs) H) :
    FnG P w K mg base CX (k + 1) f (PySem.W.fnOf name qual params body scope dV kV doc pm an cdv ct) ps sp := by
  constructor
  · exact fun h => hl _ _ _ _ h
  · intro A outer s H args us vs Q E gd room en bnd rel prom
    have up : ∀ b o, base.get? b = some o → s.heap.get? b = some o := fun b o e => (en.bs b o e).1
    have inK : K.In s.heap := en.mod.kin.keeps up
    have kinds : ∀ y ∈ ps.zip us, scope.names.lookup y.1 = some .local ∨
        (scope.names.lookup y.1 = some .cell ∧ ((cellsFrom (s.heap.objs.size + 1) scope.names []).lookup y.1).isSome = true) := by
      rintro ⟨nm, val⟩ hy
      exact (Sc.par nm (List.of_mem_zip hy).1).imp id fun c => ⟨c, PySem.W.cellsFrom_some _ _ _ (.inl c)⟩
    have code := PySem.W.codeRec_of inK hc
    have fn := inK _ _ lk
    refine codeAny_call_function room.depth fn rfl
      Sc.co Sc.gen rfl code (bnd _ _ _ _ ?_)
    · skip
      refine wpAny_newFunctionEnv_cells Sc.kind kinds ?_
      rintro env rfl s1 inCall
      refine ⟨(en.mod.nolimit.keeps up).keeps inCall.toInCall.keep, codeAny_func ?_⟩
      obtain ⟨t, run, start⟩ := hb A outer s H vs Q E gd (room.deeper _) prom
      refine wpAny_mono (run.run [] s1 _ H _ (inv_start Sc room.hd en (hl _ _ _ _ prom) rel inCall) start) ?_ fun _ _ x => x
      intro fl s' hs
      cases fl with
      | ret u =>
        obtain ⟨v, _, H', J, rv, q⟩ := hs
        exact ⟨v, H', J.os, J.bare, J.base, J.hok, rv, q⟩
      | next =>
        obtain ⟨_, H', J, q⟩ := hs
        exact ⟨.non, H', J.os, J.bare, J.base, J.hok, rfl, q⟩
      | brk => exact hs.elim fun _ h => h.elim fun _ h => h.2.elim
      | cont => exact hs.elim fun _ h => h.elim fun _ h => h.2.elim
end
/-- the law's call, from the heap ahead of it -/
theorem callG {fa a : Addr} {x : Str} {s₁ : Shared} {vs : List Value} {ns : List Int}
    (inK : K.In s₁.heap) (nsM : s₁.heap.Ns mainGlobals mg) (nsB : s₁.heap.Ns builtinsNs mb)
    (bb : ∀ x : Str, x ≠ "__name__" → mb x = bootBuiltins x) (lim : s₁.heap.NoLimit) (ng : s₁.gens = #[])
    (ho : s₁.heap.get? a = some { cls := .type "list", data := .seq vs.toArray }) (hi : IntsAre vs ns)
    (hl : ns.length ≤ sizeLine) (room : Room k callerA)
    (F : ∀ base : Heap, K.In base → base.Ns mainGlobals mg → FnG P w K mg base CX k fa fd [x] sp)
    (bnd : ∀ (s : Shared) (u : Value), BindsTo s fd ⟨[u], []⟩ [(x, u)])
    (prom : ∀ H : Hp, Only H → SqL K H a (ns.map V.int) → sp [.ref a] H (fun v _ => v = .bl true) fun _ _ _ => False)
    (noE : ∀ H e s', CX [] H s₁ (fun _ _ _ => False) e s' → False) :
    codeAny (model P w) callerA (.call (.ref fa) ⟨[.ref a], []⟩)
      (fun r s' => r = .ok (.ret (.bool true)) ∧ OldK s₁.heap s'.heap ∧ s'.os = s₁.os ∧ AllBare s'.gens) s₁ := by
  have rel := vals_ints hi
  have sz := hi.length
  have go : ∀ H : Hp, Only H → SqL K H a (ns.map V.int) → HOk P w H s₁.heap →
      (∀ b, b ≠ a → H b = none) → (H a = none ∨ K.lookup a = none) →
      codeAny (model P w) callerA (.call (.ref fa) ⟨[.ref a], []⟩)
        (fun r s' => r = .ok (.ret (.bool true)) ∧ OldK s₁.heap s'.heap ∧ s'.os = s₁.os ∧ AllBare s'.gens) s₁ := by
    intro H only sq okH off onA
    have free : ∀ {b : Addr} {o : Obj}, s₁.heap.get? b = some o → (b = a → H a = none) → (hidT s₁.heap H).get? b = some o := by
      intro b o e h
      by_cases z : b = a
      · subst z
        exact hidT_get e (h rfl)
      · exact hidT_get e (off b z)
    have dicts : ∀ {b : Addr} {m : Str → Option Value}, s₁.heap.Ns b m → (hidT s₁.heap H).Ns b m := by
      rintro b m ⟨o, es, ep, e, d, r⟩
      refine ⟨o, es, ep, free e fun z => ?_, d, r⟩
      subst z
      rw [ho] at e
      cases e
      have d' : Data.seq vs.toArray _ = Data.dict es ep := d
      cases d'
    have inB : K.In (hidT s₁.heap H) := by
      intro b o e
      refine free (inK b o e) fun z => ?_
      subst z
      exact onA.resolve_right fun n => by rw [n] at e; cases e
    have md : Mod K mg (hidT s₁.heap H) := by
      obtain ⟨mc, l1, l2⟩ := lim
      exact ⟨inB, dicts nsM, ⟨mb, dicts nsB, bb⟩, mc, dicts l1, l2⟩
    have en : Env0 P w K mg (hidT s₁.heap H) callerA [] s₁ H := by
      refine ⟨rfl, md, fun b o e => of_hidT e, Nat.le_of_eq (hidT_size _ _), trivial, ?_, okH, .of_eq ng⟩
      intro b hb
      cases (show b ∈ ([] : List Addr) from hb)
    have rels : Vals [V.ref a] [Value.ref a] := .cons rfl .nil
    have res := (F _ inB (dicts nsM)).runG (us := [Value.ref a]) rfl room en
      (bnd s₁ (.ref a)) rels (prom H only sq)
    refine codeAny_mono res ?_
    intro r s' h
    cases r with
    | error e => exact False.elim (noE H e s' h)
    | ok fl =>
      cases fl with
      | ret u =>
        obtain ⟨v, H', os, bare, un, okH', rv, q⟩ := h
        cases (show v = .bl true from q)
        cases (show u = Value.bool true from rv)
        refine ⟨rfl, OldK.of_keep ?_, os, bare⟩
        intro b o e
        rcases only b with z | ⟨ob, xs, z⟩
        · refine un.keep b o e z ?_ List.not_mem_nil
          intro m
          cases (show b ∈ ([] : List Addr) from m)
        · have e1 := (okH b _ z).1
          have e2 := (okH' b _ (un.frzs b ob _ z)).1
          rw [e] at e1
          cases e1
          exact e2
      | _ => exact False.elim h
  cases lk : K.lookup a with
  | some o =>
    have e := inK a o lk
    rw [ho] at e
    cases e
    refine go (fun _ => none) (fun _ => .inl rfl) (.inr ?_) (fun _ _ h => by cases h) (fun _ _ => rfl) (.inl rfl)
    refine ⟨_, vs.toArray, _, lk, rfl, rfl, rfl, ?_, by simpa using rel⟩
    rw [List.size_toArray, sz]
    exact hl
  | none =>
    let Ha : Hp := fun b => if b = a then some (.frz { cls := .type "list", data := .seq vs.toArray } (.lst (ns.map V.int))) else none
    have at_ : Ha a = some (.frz { cls := .type "list", data := .seq vs.toArray } (.lst (ns.map V.int))) := if_pos rfl
    have off : ∀ b, b ≠ a → Ha b = none := fun b z => if_neg z
    refine go Ha (fun b => ?_) (.inl (.inr ⟨_, at_⟩)) (fun b u e => ?_) off (.inr lk)
    · by_cases z : b = a
      · subst z
        exact .inr ⟨_, _, at_⟩
      · exact .inl (off b z)
    · by_cases z : b = a
      · subst z
        rw [at_] at e
        cases e
        exact ⟨ho, by rw [List.length_map]; exact hl, vs, _, rel, ho⟩
      · rw [off b z] at e
        cases e
end
/-- what the top leaves, from the law's promise -/
theorem walkG {l : PySem.W.OpenLaw} {n k : Nat} {q : Program} {loose : List Str} {x : Str} {d : DefRec}
    {XP : (Str → Option Value) → Heap → Prop} {YP : World → Heap → Prop}
    {K : Params → PySem.W.Frag} {CX : World → CXT} {sp : World → Sp}
    (hn : l.most = some n) (hz : n ≤ sizeLine) (hd : d.params.defaults = []) (room : Room k callerA)
    (hY : ∀ (w : World) (h : Heap), YP w h → (K w.params).In h)
    (F : ∀ (w : World) (mg : Str → Option Value) (fa : Addr) (h : Heap), (K w.params).In h →
      h.Ns mainGlobals mg → mg d.name = some (.ref fa) →
      ∃ fd : FuncData, (∀ (s : Shared) (u : Value), BindsTo s fd ⟨[u], []⟩ [(x, u)]) ∧
        ∀ base : Heap, (K w.params).In base → base.Ns mainGlobals mg → FnG l.prog w (K w.params) mg base (CX w) k fa fd [x] (sp w))
    (hs : ∀ (w : World) (H : Hp) (a : Addr) (ns : List Int), ns.length ≤ n → Only H →
      SqL (K w.params) H a (ns.map V.int) → sp w [.ref a] H (fun v _ => v = .bl true) fun _ _ _ => False)
    (hE : ∀ (w : World) (H : Hp) (s : Shared) (e : Value) (s' : Shared), CX w [] H s (fun _ _ _ => False) e s' → False) :
    PySem.W.WalkO q loose XP YP l.row.toRowW d [] (fun f vs => PySem.call f vs) := by
  refine Att.attach_call hn hd ?_
  intro w s₀ s₁ mg mb fa o pm cd doc a vs ns G Y ho hdt hcd hmg hobj hints hlen hg
  obtain ⟨fd, hb, hF⟩ := F w mg fa _ (hY w _ Y) G.T.g hmg
  refine callG (hY w _ Y) G.T.g G.T.b G.T.builtins G.T.nolimit hg hobj hints (Nat.le_trans hlen hz) room hF hb ?_ ?_
  · exact fun H h1 h2 => hs w H a ns hlen h1 h2
  · exact fun H e s' => hE w H s₁ e s'
end DL
namespace DL
open PySem PySem.Spec PyProof.Rows L2 Evl
/-! ### {} and repr -/
def dDic : DT := fun ds O k => ∀ v, k (.obj (.type "dict") v) O
theorem de_dic {X : Cx} {W : WX} {ex : EX} {pos : Pos} : DE X W ex (.Dict [] [] pos) dDic := by
  refine ⟨_, pe_dnewT, fun ds O k h G H σ Q ok rp x c p hp => ?_⟩
  obtain ⟨ok2, s2, e2⟩ := frozen (o := .dT []) ok hp
  exact c _ O _ _ _ (h _) s2 ok2 (.obj (.x (.base (.dT upd_same))) fun _ => ⟨p, rfl, upd_same⟩)
section
variable (K : PySem.W.Frag) (H : Hp)
mutual
/-- what repr sees -/
inductive Sw : V → PyData → Prop
  | non : Sw .non .none
  | bl (b : Bool) : Sw (.bl b) (.bool b)
  | int (i : Int) : Sw (.int i) (.int i)
  | str (x : Str) : Sw (.str x) (.str x)
  | lst {a vs ds} : SqL K H a vs → SwAll vs ds → Sw (.ref a) (.list ds)
  | tup {a vs ds} : SqT K H a vs → SwAll vs ds → Sw (.ref a) (.tuple ds)
  | dic {a} : H a = some (.dT []) → Sw (.ref a) (.dict [])
inductive SwAll : List V → List PyData → Prop
  | nil : SwAll [] []
  | cons {v vs d ds} : Sw v d → SwAll vs ds → SwAll (v :: vs) (d :: ds)
end
end
mutual
/-- no list -/
def noL : PyData → Bool
  | .list _ => false
  | .tuple xs => noLs xs
  | .dict kvs => kvs.isEmpty
  | _ => true
def noLs : List PyData → Bool
  | [] => true
  | x :: r => noL x && noLs r
end
section
variable {X : Cx} {pins : List (Addr × Obj)} {σ : L2.St} {H : Hp} {s : Shared}
mutual
theorem Sw.reads (I : Inv X pins σ H s) : ∀ {v : V} {d : PyData} {u : Value}, Sw X.K H v d → RelV v u → ∃ as, Reads s.heap u d as ∧ (noL d = true → sysModules ∉ as)
  | _, _, _, .non, r => by
    cases r
    exact ⟨_, .none, fun _ => List.not_mem_nil⟩
  | _, _, _, .bl b, r => by
    cases r
    exact ⟨_, .bool b, fun _ => List.not_mem_nil⟩
  | _, _, _, .int i, r => by
    obtain ⟨t, rfl⟩ := r
    exact ⟨_, .int i t, fun _ => List.not_mem_nil⟩
  | _, _, _, .str i, r => by
    obtain ⟨t, rfl⟩ := r
    exact ⟨_, .str i t, fun _ => List.not_mem_nil⟩
  | _, _, _, .lst h a, r => by
    cases r
    obtain ⟨its, rv, pl, _⟩ := I.list h
    obtain ⟨o, n, e1, e2, _, e3⟩ := pl
    obtain ⟨as, rd, _⟩ := SwAll.reads I a rv
    exact ⟨_, .list e1 e2 e3 rd, fun z => by unfold noL at z; cases z⟩
  | _, _, _, .tup h a, r => by
    cases r
    obtain ⟨its, rv, pl, _⟩ := I.tuple h
    obtain ⟨o, e1, e2, n, e3⟩ := pl
    obtain ⟨as, rd, ns⟩ := SwAll.reads I a rv
    exact ⟨_, .tuple e1 e2 e3 rd, fun z => ns (by unfold noL at z; exact z)⟩
  | _, _, _, .dic h, r => by
    cases r
    rename_i a
    obtain ⟨_, sm, xs, px, o, es, ep, e1, e2, e3, e4, _⟩ := (show ObjOk X.prog X.w H s.heap a (.dT []) from I.hok a _ h)
    cases px
    have en : es = #[] := by
      obtain ⟨l⟩ := es
      have : l = [] := e4
      rw [this]
    subst en
    refine ⟨_, .dict (kvs := []) (as := []) (bs := []) e1 e2.1 e3 .nil .nil, fun _ m => ?_⟩
    rcases List.mem_cons.mp m with z | z
    · rw [z, beq_self_eq_true] at sm
      cases sm
    · cases z
theorem SwAll.reads (I : Inv X pins σ H s) : ∀ {vs : List V} {ds : List PyData} {us : List Value}, SwAll X.K H vs ds → Vals vs us → ∃ as, ReadsAll s.heap us ds as ∧ (noLs ds = true → sysModules ∉ as)
  | _, _, _, .nil, r => by
    cases r
    exact ⟨_, .nil, fun _ => List.not_mem_nil⟩
  | _, _, _, .cons h t, r => by
    cases r with
    | cons r1 r2 =>
      obtain ⟨as, p1, n1⟩ := Sw.reads I h r1
      obtain ⟨bs, p2, n2⟩ := SwAll.reads I t r2
      refine ⟨_, .cons p1 p2, fun z m => ?_⟩
      unfold noLs at z
      rw [Bool.and_eq_true] at z
      rcases List.mem_append.mp m with m | m
      · exact n1 z.1 m
      · exact n2 z.2 m
end
/-- what repr may be asked of -/
structure Shw (d : PyData) : Prop where
  sh : d.showable = true
  dp : d.depth ≤ 60
  sz : d.shown.length ≤ sizeLine
mutual
theorem Sw.rk (I : Inv X pins σ H s) : ∀ {v : V} {d : PyData} {u : Value}, Sw X.K H v d → RelV v u → d.showable = true → d.shown.length ≤ sizeLine →
    ∃ bs as, Reads s.heap u d as ∧ ReadAtMost s.heap d.depth bs ∧ ReprK X.prog X.w bs s.heap d.depth u d.shown
  | _, _, _, .non, r, hs, hz => by
    cases r
    obtain ⟨bs, h1, h2⟩ := ReprK.of_reads (h₀ := s.heap) .none hs (fun z => by cases z) hz
    exact ⟨bs, _, .none, h1, h2⟩
  | _, _, _, .bl b, r, hs, hz => by
    cases r
    obtain ⟨bs, h1, h2⟩ := ReprK.of_reads (h₀ := s.heap) (.bool b) hs (fun z => by cases z) hz
    exact ⟨bs, _, .bool b, h1, h2⟩
  | _, _, _, .int i, r, hs, hz => by
    obtain ⟨t, rfl⟩ := r
    obtain ⟨bs, h1, h2⟩ := ReprK.of_reads (h₀ := s.heap) (.int i t) hs (fun z => by cases z) hz
    exact ⟨bs, _, .int i t, h1, h2⟩
  | _, _, _, .str x, r, hs, hz => by
    obtain ⟨t, rfl⟩ := r
    obtain ⟨bs, h1, h2⟩ := ReprK.of_reads (h₀ := s.heap) (.str x t) hs (fun z => by cases z) hz
    exact ⟨bs, _, .str x t, h1, h2⟩
  | _, _, _, .dic h, r, hs, hz => by
    obtain ⟨as, rd, ns⟩ := Sw.reads I (.dic h) r
    obtain ⟨bs, h1, h2⟩ := ReprK.of_reads rd hs (fun _ => ns rfl) hz
    exact ⟨bs, as, rd, h1, h2⟩
  | _, _, _, .lst (ds := ds) h a, r, hs, hz => by
    cases r
    obtain ⟨its, rv, pl, _⟩ := I.list h
    obtain ⟨o, n, e1, e2, _, e3⟩ := pl
    have hz' : (listText (PyData.shownAll ds)).length ≤ sizeLine := by
      unfold PyData.shown at hz
      exact hz
    have hs' : PyData.showableAll ds = true := by
      unfold PyData.showable at hs
      exact hs
    obtain ⟨bs, as, ra, hb, hk⟩ := SwAll.rk I a rv hs' fun t ht => Nat.le_trans (listText_mem_le ht) hz'
    have rd := Reads.list e1 e2 e3 ra
    have lt : PyData.depthAll ds < (PyData.list ds).depth := by
      unfold PyData.depth
      omega
    have off := not_mem_of_deeper rd lt hb
    refine ⟨_ :: bs, _, rd, ReadAtMost.cons rd (Nat.le_of_lt lt) hb, ?_⟩
    unfold PyData.depth PyData.shown
    cases its with
    | nil =>
      cases ra
      unfold PyData.shownAll
      rw [listText_nil]
      exact ReprK.listEmpty e1 e2 e3
    | cons x l =>
      refine ReprK.list e1 e2 e3 off ?_ fun i y e => hk.item i y ?_
      · have q := hk.length_eq
        simpa using q
      · simpa using e
  | _, _, _, .tup (ds := ds) h a, r, hs, hz => by
    cases r
    obtain ⟨its, rv, pl, _⟩ := I.tuple h
    obtain ⟨o, e1, e2, n, e3⟩ := pl
    have hz' : (tupleText (PyData.shownAll ds)).length ≤ sizeLine := by
      unfold PyData.shown at hz
      exact hz
    have hs' : PyData.showableAll ds = true := by
      unfold PyData.showable at hs
      exact hs
    obtain ⟨bs, as, ra, hb, hk⟩ := SwAll.rk I a rv hs' fun t ht => Nat.le_trans (tupleText_mem_le ht) hz'
    have rd := Reads.tuple e1 e2 e3 ra
    have lt : PyData.depthAll ds < (PyData.tuple ds).depth := by
      unfold PyData.depth
      omega
    have off := not_mem_of_deeper rd lt hb
    refine ⟨_ :: bs, _, rd, ReadAtMost.cons rd (Nat.le_of_lt lt) hb, ?_⟩
    unfold PyData.depth PyData.shown
    exact ReprK.tuple e1 e2 e3 off hk
theorem SwAll.rk (I : Inv X pins σ H s) : ∀ {vs : List V} {ds : List PyData} {us : List Value}, SwAll X.K H vs ds → Vals vs us → PyData.showableAll ds = true → (∀ t ∈ PyData.shownAll ds, t.length ≤ sizeLine) →
    ∃ bs as, ReadsAll s.heap us ds as ∧ ReadAtMost s.heap (PyData.depthAll ds) bs ∧ ReprAllK X.prog X.w bs s.heap (PyData.depthAll ds) us (PyData.shownAll ds)
  | _, _, _, .nil, r, _, _ => by
    cases r
    refine ⟨[], _, .nil, (fun _ h => by cases h), ?_⟩
    unfold PyData.shownAll
    exact .nil
  | _, _, _, .cons (d := d) (ds := ds) h t, r, hs, hz => by
    cases r with
    | cons r1 r2 =>
      unfold PyData.showableAll at hs
      rw [Bool.and_eq_true] at hs
      have mem : ∀ x, x = d.shown ∨ x ∈ PyData.shownAll ds → x.length ≤ sizeLine := fun x hx => hz x (by
        unfold PyData.shownAll
        rcases hx with rfl | hx
        · exact List.mem_cons_self
        · exact List.mem_cons_of_mem _ hx)
      obtain ⟨b1, a1, p1, q1, k1⟩ := Sw.rk I h r1 hs.1 (mem _ (.inl rfl))
      obtain ⟨b2, a2, p2, q2, k2⟩ := SwAll.rk I t r2 hs.2 fun x hx => mem x (.inr hx)
      have m1 := Nat.le_max_left d.depth (PyData.depthAll ds)
      have m2 := Nat.le_max_right d.depth (PyData.depthAll ds)
      refine ⟨b1 ++ b2, _, .cons p1 p2, ?_, ?_⟩
      · unfold PyData.depthAll
        exact (q1.mono m1).append (q2.mono m2)
      · unfold PyData.depthAll PyData.shownAll
        refine .cons ?_ (k2.more_le (fun b hb => List.mem_append_right _ hb) m2)
        exact (k1.more fun b hb => List.mem_append_left _ hb).level_le m1
end
theorem call_reprD (gd : X.A.guards = some []) (hu : X.A.units + 64 < cLine) : CallR X (.builtin "repr") (fun xs H Q => ∃ a d, xs = [.ref a] ∧ Sw X.K H (.ref a) d ∧ Shw d ∧ Q (.str d.shown) H) := by
  intro pins s σ H xs us Q I r h
  obtain ⟨a, d, rfl, sw, ok, q⟩ := h
  obtain ⟨u, rfl, ru⟩ := vals1 r
  cases (show u = Value.ref a from ru)
  have dp := ok.dp
  have fin : ∀ (h' : Heap) (u : Tok) (tk : Nat), (∀ b o, s.heap.get? b = some o → h'.get? b = some o) → EP X pins σ Q (.str d.shown u) { s with heap := h', toks := tk } := fun h' u tk hk => ⟨.str d.shown, H, I.kept hk, ⟨u, rfl⟩, q⟩
  cases sw with
  | @lst _ vs ds h a =>
    obtain ⟨its, rv, pl, _⟩ := I.list h
    obtain ⟨o, n, e1, e2, _, e3⟩ := pl
    have sz : (listText (PyData.shownAll ds)).length ≤ sizeLine := by
      have z := ok.sz
      unfold PyData.shown at z
      exact z
    have sh : PyData.showableAll ds = true := by
      have z := ok.sh
      unfold PyData.showable at z
      exact z
    obtain ⟨bs, as, ra, hb, hk⟩ := SwAll.rk I a rv sh fun t ht => Nat.le_trans (listText_mem_le ht) sz
    have rd := Reads.list e1 e2 e3 ra
    have lt : PyData.depthAll ds < (PyData.list ds).depth := by
      unfold PyData.depth
      omega
    have off := not_mem_of_deeper rd lt hb
    have d1 : PyData.depthAll ds ≤ 60 := by omega
    unfold PyData.shown at fin
    cases its with
    | nil =>
      cases ra
      unfold PyData.shownAll at fin
      rw [listText_nil] at fin
      refine call_repr_slot (by omega) ⟨o, e1, e2⟩ PySem.F.slot_list_repr.toG ?_
      exact call_list_repr_empty ⟨o, e1, e2⟩ e1 e3 ⟨_, _, rfl, fin s.heap _ _ fun _ _ e => e⟩
    | cons x l =>
      refine call_repr_slot (by omega) ⟨o, e1, e2⟩ PySem.F.slot_list_repr.toG ?_
      refine call_list_reprK e1 e2 e3 off ?_ (fun i y e => hk.item i y ?_) gd (fun b _ => Clear.nil b) ?_ (fun b o e => e) (fun h' u tk hk => ⟨_, _, rfl, fin h' u tk hk⟩) sz
      · have q := hk.length_eq
        simpa using q
      · simpa using e
      · show X.A.units + 1 + (PyData.depthAll ds + 1) < cLine
        omega
  | @tup _ vs ds h a =>
    obtain ⟨its, rv, pl, _⟩ := I.tuple h
    obtain ⟨o, e1, e2, n, e3⟩ := pl
    have sz : (tupleText (PyData.shownAll ds)).length ≤ sizeLine := by
      have z := ok.sz
      unfold PyData.shown at z
      exact z
    have sh : PyData.showableAll ds = true := by
      have z := ok.sh
      unfold PyData.showable at z
      exact z
    obtain ⟨bs, as, ra, hb, hk⟩ := SwAll.rk I a rv sh fun t ht => Nat.le_trans (tupleText_mem_le ht) sz
    have rd := Reads.tuple e1 e2 e3 ra
    have lt : PyData.depthAll ds < (PyData.tuple ds).depth := by
      unfold PyData.depth
      omega
    have off := not_mem_of_deeper rd lt hb
    have d1 : PyData.depthAll ds ≤ 60 := by omega
    unfold PyData.shown at fin
    refine call_repr_slot (by omega) ⟨o, e1, e2⟩ PySem.F.slot_tuple_repr ?_
    refine call_tuple_reprK e1 e2 e3 off hk gd (fun b _ => Clear.nil b) ?_ (fun b o e => e) (fun h' u tk hk => ⟨_, _, rfl, fin h' u tk hk⟩) sz
    show X.A.units + 1 + (PyData.depthAll ds + 1) < cLine
    omega
  | dic h =>
    obtain ⟨as, rd, ns⟩ := Sw.reads I (.dic h) ru
    exact repr_of_reads' rd ok.sh (fun _ => ns rfl) gd (by omega) (fun b o e => e) (fun h' u tk hk => fin h' u tk hk) ok.sz
end
mutual
def D.rp : D → Bool
  | .lst xs => D.rps xs
  | .tup xs => D.rps xs
  | .obj (.type t) _ => t == "dict"
  | .obj _ _ => false
  | .opq _ => false
  | .scr _ => false
  | .fdic _ _ => false
  | _ => true
def D.rps : List D → Bool
  | [] => true
  | x :: xs => x.rp && D.rps xs
end
section
variable {K : PySem.W.Frag} {G H : Hp}
mutual
theorem Dn.sw (e : Ex G H) : ∀ {v : V} {d : D}, Dn K G v d → d.rp = true → Sw K H v d.py
  | _, _, .non, _ => .non
  | _, _, .bl b, _ => .bl b
  | _, _, .int b, _ => .int b
  | _, _, .str b, _ => .str b
  | _, _, .lst h a, p => by
    unfold D.rp at p
    unfold D.py
    exact .lst (SqL.of (e _ _ h)) (DnAll.sw e a p)
  | _, _, .tup h a, p => by
    unfold D.rp at p
    unfold D.py
    exact .tup (ex_t e h) (DnAll.sw e a p)
  | _, _, .scr _, p => by unfold D.rp at p; cases p
  | _, _, .obj (t := t) _ i, p => by
    unfold D.rp at p
    split at p
    · rename_i heq
      cases heq
    · rename_i heq
      cases heq
    · rename_i t' v' heq
      injection heq with e1 e2
      obtain ⟨a, rfl, ea⟩ := i (by rw [e1, eq_of_beq p])
      unfold D.py
      exact .dic (e _ _ ea)
    all_goals first
      | (rename_i h4 _ _; exact (h4 _ _ rfl).elim)
      | (rename_i h4 _ _ _; exact (h4 _ _ rfl).elim)
      | (rename_i h4 _; exact (h4 _ _ rfl).elim)
      | (cases p; done)
      | (rename_i heq; cases heq; done)
  | _, _, .opq _, p => by unfold D.rp at p; cases p
  | _, _, .fdic _ _ _, p => by unfold D.rp at p; cases p
theorem DnAll.sw (e : Ex G H) : ∀ {vs : List V} {xs : List D}, DnAll K G vs xs → D.rps xs = true → SwAll K H vs (D.pyAll xs)
  | _, _, .nil, _ => by
    unfold D.pyAll
    exact .nil
  | _, _, .cons h t, p => by
    unfold D.rps at p
    rw [Bool.and_eq_true] at p
    unfold D.pyAll
    exact .cons (Dn.sw e h p.1) (DnAll.sw e t p.2)
end
/-- repr of a list, a tuple -/
def qRepr : DRC := fun xs O k => match xs with
  | [d] => (match res O d with
    | .lst xs => D.rps xs = true ∧ Shw (D.lst xs).py ∧ k (.str (D.lst xs).py.shown) O
    | .tup xs => D.rps xs = true ∧ Shw (D.tup xs).py ∧ k (.str (D.tup xs).py.shown) O
    | _ => False)
  | _ => False
theorem lc_repr : LiftC K (fun xs H Q => ∃ a d, xs = [.ref a] ∧ Sw K H (.ref a) d ∧ Shw d ∧ Q (.str d.shown) H) qRepr := by
  intro xs O k h G H vs Q ok hx c
  unfold qRepr at h
  split at h
  · obtain ⟨v, rfl, hd⟩ := one_of hx
    split at h
    · rename_i xs e
      obtain ⟨a, ws, rfl, e1, e2⟩ := res_lst ok hd e
      obtain ⟨h1, h2, h3⟩ := h
      refine ⟨a, _, rfl, ?_, h2, c _ O _ G H h3 Stp.refl ok (.str _)⟩
      unfold D.py
      exact .lst (SqL.of e1) (DnAll.sw ok.ex e2 h1)
    · rename_i xs e
      obtain ⟨a, ws, rfl, e1, e2⟩ := res_tup ok hd e
      obtain ⟨h1, h2, h3⟩ := h
      refine ⟨a, _, rfl, ?_, h2, c _ O _ G H h3 Stp.refl ok (.str _)⟩
      unfold D.py
      exact .tup e1 (DnAll.sw ok.ex e2 h1)
    · exact h.elim
  · exact h.elim
end
/-! ### == of texts -/
def qEqS (neg : Bool) : DR2 := fun x y O k => match x, y with
  | .str a, .str b => k (.bl (if neg then !decide (a = b) else decide (a = b))) O
  | _, _ => False
theorem dec_V (a b : Str) : decide (V.str a = V.str b) = decide (a = b) := by
  by_cases e : a = b
  · rw [e, decide_eq_true rfl, decide_eq_true rfl]
  · rw [decide_eq_false e, decide_eq_false fun z => e (by injection z)]
theorem lr_eqS {K : PySem.W.Frag} : LiftR K rEq (qEqS false) := by
  intro x y O k h G H v u Q ok hx hy c
  unfold qEqS at h
  split at h
  · cases hx
    cases hy
    exact ⟨rfl, c _ O _ G H (by rw [dec_V]; exact h) Stp.refl ok (.bl _)⟩
  · exact h.elim
theorem lr_neS {K : PySem.W.Frag} : LiftR K rNe (qEqS true) := by
  intro x y O k h G H v u Q ok hx hy c
  unfold qEqS at h
  split at h
  · cases hx
    cases hy
    exact ⟨rfl, c _ O _ G H (by rw [dec_V]; exact h) Stp.refl ok (.bl _)⟩
  · exact h.elim
section
variable {X : Cx} {W : WX} {ex : EX} {a b : Expr} {t u : DT} {pos : Pos}
theorem de_eqS (ha : DE X W ex a t) (hb : DE X W ex b u) : DE X W ex (.Compare a [.Eq] [b] pos) (dOp (qEqS false) t u) := de_cmp op_eq lr_eqS ha hb (nomark _)
theorem de_neS (ha : DE X W ex a t) (hb : DE X W ex b u) : DE X W ex (.Compare a [.NotEq] [b] pos) (dOp (qEqS true) t u) := de_cmp op_ne lr_neS ha hb (nomark _)
theorem dt_eqS (ha : DE X W ex a t) (hb : DE X W ex b u) : DTe X W ex (.Compare a [.Eq] [b] pos) (dTst (dOp (qEqS false) t u)) := dt_cmp op_eq lr_eqS ha hb (nomark _)
theorem dt_neS (ha : DE X W ex a t) (hb : DE X W ex b u) : DTe X W ex (.Compare a [.NotEq] [b] pos) (dTst (dOp (qEqS true) t u)) := dt_cmp op_ne lr_neS ha hb (nomark _)
end
/-! ### defs where no repr is under way -/
section
variable {P : Program} {w : World} {K : PySem.W.Frag} {mg : Str → Option Value} {base : Heap}
abbrev FnDG (P : Program) (w : World) (K : PySem.W.Frag) (mg : Str → Option Value) (base : Heap) (k : Nat) (f : Addr) (fd : FuncData) (ps : List Str) (S : DSp) : Prop := FnG P w K mg base (L2N.CX P w) k f fd ps (spOf K S)
theorem law_DG {st : Stmt} {f : Addr} {fd : FuncData} {N : List Str} {k : Nat} (F : Fun K "law" "law" st f fd) (Sc : FnScope N ["script"] (defScope st))
    (hb : ∀ (cdv : Value) (A : Around) (outer : List Env) (s : Shared) (H : Hp) (E : XK), A.guards = some [] → Room k (A.deeper (envOfC "law" (defScope st) s.heap.objs.size f cdv)) → ∀ ns : List Int, ns.length ≤ 63 →
      ∃ t, DSs (cxOf CX0 P w K mg base N "law" (defScope st) f cdv A outer s H E).nox NoW NoX (defBody st) t ∧ t ⟨fun _ _ => False, fun d _ => d = .bl true, fun _ _ => False, fun _ _ => False⟩ (startD N [.scr ns]) (fun _ => none)) :
    FnG P w K mg base CX0 (k + 1) f fd ["script"] (spLawD K) := by
  obtain ⟨oc, od, kV, doc, pm, an, cdv, ct, osl, rfl, lk, hc⟩ := F.ex
  refine fnG_of lk hc Sc (fun vs H Q E h => ?_) (fun A outer s H vs Q E gd hr h => ?_)
  · obtain ⟨a, ns, rfl, _⟩ := h
    rfl
  · obtain ⟨a, ns, rfl, hS, hlen, q⟩ := h
    obtain ⟨t, ⟨ts, p, l⟩, ht⟩ := hb cdv A outer s H E gd hr ns hlen
    have d : DnAll K H [V.ref a] [.scr ns] := .cons (.scr hS) .nil
    refine ⟨ts, p.nox, l _ _ _ ht H H (L2.start N [.ref a]) _ ⟨Ex.refl H, fun _ _ z => by cases z⟩ (rep_start d N) (fun y ds O' σ dd G' H' hy _ _ _ _ => False.elim hy) ⟨fun ds O' σ G' H' h' _ _ _ => False.elim h', fun x O' v G' H' h' _ _ hv => ?_, fun ds O' σ G' H' h' _ _ _ => False.elim h', fun ds O' σ G' H' h' _ _ _ => False.elim h'⟩⟩
    subst h'
    cases hv
    exact q H'
end
end DL
namespace DL
open PySem PySem.Spec PyProof.Rows L2 Evl
/-! ### a tuple backwards -/
theorem adj_rev (n : Nat) : Builtin.Slice.sliceAdjust none none (-1) (n : Int) = ((n : Int) - 1, -1) := by
  unfold Builtin.Slice.sliceAdjust
  simp
theorem places_rev (n : Nat) : Builtin.Slice.slicePlaces ((n : Int) - 1) (-1) (-1) = n := by
  unfold Builtin.Slice.slicePlaces
  rw [if_neg (by decide)]
  split
  · simp only [Int.neg_neg, Int.ediv_one]
    omega
  · omega
theorem fm_congr {α β : Type} {f g : α → Option β} : ∀ {l : List α}, (∀ m ∈ l, f m = g m) → l.filterMap f = l.filterMap g
  | [], _ => rfl
  | x :: l, h => by
    have e := fm_congr fun m hm => h m (List.mem_cons_of_mem _ hm)
    rw [List.filterMap_cons, List.filterMap_cons, h x List.mem_cons_self, e]
theorem pick_rev (xs : Array Value) : ((List.range xs.size).filterMap fun (m : Nat) => xs[((xs.size : Int) - 1 + (m : Int) * -1).toNat]?) = xs.toList.reverse := by
  have h1 : ((List.range xs.size).filterMap fun (m : Nat) => xs[((xs.size : Int) - 1 + (m : Int) * -1).toNat]?) = ((List.range xs.size).map fun k => xs.size - 1 - k).filterMap (xs[·]?) := by
    rw [List.filterMap_map]
    refine fm_congr fun m hm => ?_
    have hm' := List.mem_range.mp hm
    show xs[_]? = xs[xs.size - 1 - m]?
    have e : ((xs.size : Int) - 1 + (m : Int) * -1).toNat = xs.size - 1 - m := by omega
    rw [e]
  rw [h1, PySem.W.krv_range, List.filterMap_reverse, PySem.W.krv_all]
section
variable {prog : Program} {w : World} {A : Around} {E : Value → Shared → Prop} {s : Shared}
theorem applied_rev {sl : Addr} {t : Tok} {n : Nat} {Q : Int × Int × Nat → Shared → Prop} (hs : s.heap.IsSliceOf sl .none .none (.int (-1) t))
    (h : Q ((n : Int) - 1, -1, n) s) : wpAny (model prog w) A (Builtin.Slice.sliceApplied (.ref sl) (pure (n : Int))) Q E s := by
  obtain ⟨os, e1, e2, e3⟩ := id hs
  unfold Builtin.Slice.sliceApplied
  unfold Builtin.Slice.sliceFields
  refine wpAny_bind (wpAny_bind (wpAny_field e1 e3 (x := .none) rfl ?_))
  refine wpAny_bind (wpAny_field e1 e3 (x := .none) rfl ?_)
  refine wpAny_bind (wpAny_field e1 e3 (x := .int (-1) t) rfl (wpAny_pure ?_))
  refine wpAny_bind (slicePart_int ?_)
  show wpAny _ _ (if ((-1 : Int) == 0) = true then _ else _) _ _ s
  rw [if_neg (by decide)]
  refine wpAny_bind (slicePart_none ?_)
  refine wpAny_bind (slicePart_none (wpAny_bind (wpAny_pure ?_)))
  show wpAny _ _ (match Builtin.Slice.sliceAdjust none none (-1) (n : Int) with | (lo, hi) => pure (lo, (-1 : Int), Builtin.Slice.slicePlaces lo hi (-1))) _ _ s
  rw [adj_rev n]
  show wpAny _ _ (pure ((n : Int) - 1, (-1 : Int), Builtin.Slice.slicePlaces ((n : Int) - 1) (-1) (-1))) _ _ s
  rw [places_rev]
  exact wpAny_pure h
theorem getItem_rev {t sl : Addr} {items : Array Value} {k : Tok} {Q : Value → Shared → Prop} (tt : IsTup s.heap t items) (hs : s.heap.IsSliceOf sl .none .none (.int (-1) k))
    (h : Q (.ref s.heap.objs.size) { s with heap := s.heap.push { cls := .type "tuple", data := .seq items.toList.reverse.toArray } })
    (hz : items.size ≤ sizeLine) : wpAny (model prog w) A (getItem (.ref t) (.ref sl)) Q E s := by
  have fits : sizeOk (.seq items.toList.reverse.toArray) := by
    show items.toList.reverse.toArray.size ≤ sizeLine
    rw [List.size_toArray, List.length_reverse, Array.length_toList]
    exact hz
  obtain ⟨os, e1, e2, e3⟩ := id hs
  have isS : s.TypeIs (.ref sl) "slice" := ⟨os, e1, e2⟩
  unfold getItem
  try with_reducible refine wpAny_holding ?_
  first | refine wpAny_bind (wpAny_pure ?_) | skip
  refine wpAny_bind (wpAny_sequenceKey tt.typeIs (by decide) ?_)
  refine wpAny_bind (wpAny_callSpecial?_slot (name := Str.ofString "__getitem__") tt.typeIs PyProof.Rows.slot_tuple_getitem ?_)
  refine wpAny_call_entry PyProof.Rows.slot_tuple_getitem tt.typeIs entry_tuple_getitem ?_ (args_tuple_getitem _ _)
  show wpAny _ _ (Builtin.Tuple.tupleItemsOf (.ref t) >>= _) _ _ s
  refine wpAny_bind (tupleItemsOf_ tt (wpAny_bind (wpAny_typeOf isS ?_)))
  rw [if_pos (by decide)]
  refine wpAny_bind (applied_rev hs ?_)
  show wpAny _ _ (if (((items.size : Int) - 1) == 0 && (-1 : Int) == 1 && items.size == items.size) = true then _ else _) _ _ s
  rw [if_neg (by rw [show ((-1 : Int) == 1) = false by decide, Bool.and_false, Bool.false_and]; decide), pick_rev]
  first
    | exact wpAny_bind (m := Builtin.Tuple.tupleExact _) (wpAny_newObj_type (wpAny_pure ⟨_, rfl, wpAny_pure h⟩) fits)
    | exact wpAny_bind (m := Builtin.Tuple.tupleExact _) (wpAny_newObj_type (wpAny_bind (wpAny_pure (wpAny_pure ⟨_, rfl, wpAny_pure h⟩))) fits)
    | exact wpAny_bind (wpAny_bind (m := Builtin.Tuple.tupleExact _) (wpAny_newObj_type (wpAny_pure (wpAny_pure ⟨_, rfl, wpAny_pure h⟩)) fits))
    | exact wpAny_bind (wpAny_bind (m := Builtin.Tuple.tupleExact _) (wpAny_newObj_type (wpAny_pure ⟨_, rfl, wpAny_pure h⟩) fits))
end
section
variable {X : Cx} {W : WX} {ex : EX}
def tRevT (K : PySem.W.Frag) (te : TE) : TE := fun σ H Q => te σ H fun x H1 => ∃ a xs, x = .ref a ∧ SqT K H1 a xs ∧ ∀ p, H1 p = none → Q (.ref p) (upd H1 p (.tup xs.reverse))
theorem pe_revT {e : Expr} {te : TE} {k : Nat} {p1 p2 p3 pos : Pos} (he : PE X e te) : PE X (.Subscript e (.Slice none none (some (.UnaryOp .USub (.Constant (.int 1) k p1) p2)) p3) pos) (tRevT X.K te) := by
  constructor
  intro pins s σ H Q I h
  refine Subscript_ (thn (he.run pins s σ H _ I h) ?_)
  rintro v s1 ⟨x, H1, I1, r1, a, xs, rfl, hx, q⟩
  cases r1
  have st : PO X (some (.UnaryOp .USub (.Constant (.int 1) k p1) p2)) (tPart (tUn (rU fun i => .int (-i)) (tC (.int 1)))) := po_some (pe_un un_neg pe_int)
  refine wpAny_Slice (thn (po_none.run pins s1 σ H1 (fun o H2 => o = none ∧ H2 = H1) I1 ⟨rfl, rfl⟩) ?_)
  rintro vl s2 ⟨l, H2, I2, pl, rfl, rfl⟩
  refine thn (po_none.run pins s2 σ H2 (fun o H3 => o = none ∧ H3 = H2) I2 ⟨rfl, rfl⟩) ?_
  rintro vu s3 ⟨u, H3, I3, pu, rfl, rfl⟩
  refine thn (st.run pins s3 σ H3 (fun o H4 => o = some (-1) ∧ H4 = H3) I3 ⟨1, rfl, -1, rfl, rfl, rfl⟩) ?_
  rintro vs s4 ⟨o, H4, I4, ps, rfl, rfl⟩
  cases pl
  cases pu
  cases ps
  rename_i tk
  have I5 : Inv X pins σ H4 { s4 with heap := s4.heap.push { cls := .type "slice", data := .fields #[.none, .none, .int (-1) tk] } } := I4.kept (t' := s4.toks) fun b ob q => Heap.get?_push_of_some _ q
  obtain ⟨its, r, tt, hz⟩ := I5.tuple hx
  have len := r.length
  show wpAny (model X.prog X.w) X.A (subscriptTail e (.Slice none none (some (.UnaryOp .USub (.Constant (.int 1) k p1) p2)) p3) (.ref a) (.ref s4.heap.objs.size)) (EP X pins σ Q) X.xe _
  refine tail_any (ops := [.ref a, .ref s4.heap.objs.size]) tt.typeIs (PyProof.Rows.slot_tuple_getitem.lookup) ?_ (by with_unfolding_all rfl)
  refine getItem_rev tt (Heap.IsSliceOf.new _ .none .none (.int (-1) tk)) ?_ (by rw [List.size_toArray]; omega)
  refine ⟨.ref _, _, I5.laid (t' := s4.toks) (o := .tup xs.reverse) (fun b ob q => Heap.get?_push_of_some _ q) (Nat.le_refl _) ?_, rfl, q _ (I5.hok.fresh (Nat.le_refl _))⟩
  exact ⟨by rw [List.length_reverse]; exact hz, _, r.reverse, ⟨_, Heap.get?_push_size _ rfl, rfl, _, rfl⟩⟩
def dRevT (t : DT) : DT := fun ds O k => t ds O fun x O1 => match x with
  | .tup xs => k (.tup xs.reverse) O1
  | _ => False
theorem DnAll.app1 {K : PySem.W.Frag} {G : Hp} : ∀ {vs us : List V} {xs ys : List D}, DnAll K G vs xs → DnAll K G us ys → DnAll K G (vs ++ us) (xs ++ ys)
  | _, _, _, _, .nil, h => h
  | _, _, _, _, .cons a b, h => .cons a (DnAll.app1 b h)
theorem DnAll.rev {K : PySem.W.Frag} {G : Hp} : ∀ {vs : List V} {xs : List D}, DnAll K G vs xs → DnAll K G vs.reverse xs.reverse
  | _, _, .nil => .nil
  | _, _, .cons a b => by
    rw [List.reverse_cons, List.reverse_cons]
    exact (DnAll.rev b).app1 (.cons a .nil)
theorem de_revT {e : Expr} {t : DT} {k : Nat} {p1 p2 p3 pos : Pos} (he : DE X W ex e t) : DE X W ex (.Subscript e (.Slice none none (some (.UnaryOp .USub (.Constant (.int 1) k p1) p2)) p3) pos) (dRevT t) := by
  obtain ⟨ta, h1, l1⟩ := he
  refine ⟨_, pe_revT h1, fun ds O k h G H σ Q ok rp x c => l1 ds O _ h G H σ _ ok rp x fun d O1 v G1 H1 h1 s1 ok1 d1 => ?_⟩
  dsimp only at h1
  split at h1
  · cases d1 with
    | tup t1 t2 =>
      refine ⟨_, _, rfl, ex_t ok1.ex t1, fun p hp => ?_⟩
      obtain ⟨ok2, s2, e2⟩ := frozen (o := .tup _) ok1 hp
      exact c _ O1 _ _ _ h1 (s1.trans s2) ok2 (.tup (.inl (.inl upd_same)) (t2.rev.mono e2))
  · exact h1.elim
end
end DL
namespace DL
open PySem PySem.Spec PyProof.Rows L2 Evl
/-! ### small data -/
structure Sml (W Dp : Nat) (d : PyData) : Prop where
  sh : d.showable = true
  lv : d.leavesShort 64 = true
  wt : d.weight ≤ W
  dp : d.depth ≤ Dp
theorem Sml.mono {W W' A B : Nat} {d : PyData} (h : Sml W A d) (a : W ≤ W') (b : A ≤ B) : Sml W' B d := ⟨h.sh, h.lv, Nat.le_trans h.wt a, Nat.le_trans h.dp b⟩
theorem sml_non : Sml 0 0 .none := ⟨rfl, rfl, Nat.le_refl _, Nat.le_refl _⟩
theorem sml_bl (b : Bool) : Sml 0 0 (.bool b) := ⟨rfl, rfl, Nat.le_refl _, Nat.le_refl _⟩
theorem sml_dic : Sml 0 1 (.dict []) := ⟨rfl, rfl, Nat.le_refl _, Nat.le_refl _⟩
theorem sml_int {i : Int} (h : i.natAbs < 10 ^ 60) : Sml 200 0 (.int i) := by
  have b : i.natAbs < 2 ^ 200 := Nat.lt_of_lt_of_le h (by decide)
  have lg : i.natAbs.log2 < 200 := PySem.Flt.log2_lt_of (by decide) b
  refine ⟨?_, ?_, ?_, Nat.le_refl _⟩
  · unfold PyData.showable
    exact decide_eq_true (by omega)
  · unfold PyData.leavesShort
    have e := int_text_length_le10 (k := 60) (by decide) h
    refine decide_eq_true ?_
    show (Str.ofString (toString i)).length ≤ 64
    rw [PySem.ofString_length]
    omega
  · unfold PyData.weight
    split <;> omega
theorem sml_str {x : Str} (h : (x.cps.toList.all fun c => decide (c < 16 ^ 8)) = true) (hs : x.cps.size ≤ 100) : Sml 100 0 (.str x) := by
  refine ⟨rfl, ?_, ?_, Nat.le_refl _⟩
  · unfold PyData.leavesShort
    exact h
  · unfold PyData.weight
    exact hs
theorem sml_all {W Dp : Nat} : ∀ {xs : List D}, (∀ x ∈ xs, Sml W Dp x.py) → PyData.showableAll (D.pyAll xs) = true ∧ PyData.leavesShortAll 64 (D.pyAll xs) = true ∧ PyData.weightAll (D.pyAll xs) ≤ (W + 1) * xs.length ∧ PyData.depthAll (D.pyAll xs) ≤ Dp
  | [], _ => ⟨rfl, rfl, Nat.zero_le _, Nat.zero_le _⟩
  | x :: xs, h => by
    obtain ⟨a, b, c, d⟩ := sml_all fun y hy => h y (List.mem_cons_of_mem _ hy)
    have q := h x List.mem_cons_self
    unfold D.pyAll
    refine ⟨?_, ?_, ?_, ?_⟩
    · unfold PyData.showableAll
      rw [q.sh, a]
      rfl
    · unfold PyData.leavesShortAll
      rw [q.lv, b]
      rfl
    · unfold PyData.weightAll
      have w := q.wt
      rw [List.length_cons, Nat.mul_add, Nat.mul_one]
      omega
    · unfold PyData.depthAll
      exact Nat.max_le.mpr ⟨q.dp, d⟩
theorem sml_tup {W Dp n : Nat} {xs : List D} (h : ∀ x ∈ xs, Sml W Dp x.py) (hl : xs.length ≤ n) : Sml ((W + 1) * n) (Dp + 1) (D.tup xs).py := by
  obtain ⟨a, b, c, d⟩ := sml_all h
  have e := Nat.mul_le_mul_left (W + 1) hl
  unfold D.py
  refine ⟨?_, ?_, ?_, ?_⟩
  · unfold PyData.showable
    exact a
  · unfold PyData.leavesShort
    exact b
  · unfold PyData.weight
    omega
  · unfold PyData.depth
    omega
theorem sml_lst {W Dp n : Nat} {xs : List D} (h : ∀ x ∈ xs, Sml W Dp x.py) (hl : xs.length ≤ n) : Sml ((W + 1) * n) (Dp + 1) (D.lst xs).py := by
  obtain ⟨a, b, c, d⟩ := sml_all h
  have e := Nat.mul_le_mul_left (W + 1) hl
  unfold D.py
  refine ⟨?_, ?_, ?_, ?_⟩
  · unfold PyData.showable
    exact a
  · unfold PyData.leavesShort
    exact b
  · unfold PyData.weight
    omega
  · unfold PyData.depth
    omega
theorem shw_of {W Dp : Nat} {d : PyData} (h : Sml W Dp d) (hW : W ≤ 200000) (hD : Dp ≤ 60) : Shw d := by
  refine ⟨h.sh, Nat.le_trans h.dp hD, ?_⟩
  have e := PyData.shown_le 64 (by decide) d h.lv
  have w := h.wt
  rw [sizeLine_eq]
  omega
theorem nd_all : ∀ {xs : List D}, (∀ x ∈ xs, x.py.hasDict = false) → PyData.hasDictAll (D.pyAll xs) = false
  | [], _ => rfl
  | x :: xs, h => by
    unfold D.pyAll PyData.hasDictAll
    rw [h x List.mem_cons_self, nd_all fun y hy => h y (List.mem_cons_of_mem _ hy)]
    rfl
theorem nl_all : ∀ {xs : List D}, (∀ x ∈ xs, noL x.py = true) → noLs (D.pyAll xs) = true
  | [], _ => rfl
  | x :: xs, h => by
    unfold D.pyAll noLs
    rw [h x List.mem_cons_self, nl_all fun y hy => h y (List.mem_cons_of_mem _ hy)]
    rfl
theorem rp_all : ∀ {xs : List D}, (∀ x ∈ xs, x.rp = true) → D.rps xs = true
  | [], _ => rfl
  | x :: xs, h => by
    unfold D.rps
    rw [h x List.mem_cons_self, rp_all fun y hy => h y (List.mem_cons_of_mem _ hy)]
    rfl
/-- an item that may be shown; P: no dict in it, or no list -/
structure It (W Dp : Nat) (nd nl : Bool) (x : D) : Prop where
  rp : x.rp = true
  sm : Sml W Dp x.py
  nd : nd = true → x.py.hasDict = false
  nl : nl = true → noL x.py = true
theorem It.mono {W W' A B : Nat} {a b a' b' : Bool} {x : D} (h : It W A a b x) (hW : W ≤ W') (hA : A ≤ B) (ha : a' = true → a = true) (hb : b' = true → b = true) : It W' B a' b' x :=
  ⟨h.rp, h.sm.mono hW hA, fun z => h.nd (ha z), fun z => h.nl (hb z)⟩
theorem it_non : It 0 0 true true .non := ⟨rfl, sml_non, fun _ => rfl, fun _ => rfl⟩
theorem it_bl (b : Bool) : It 0 0 true true (.bl b) := ⟨rfl, sml_bl b, fun _ => rfl, fun _ => rfl⟩
theorem it_int {i : Int} (h : i.natAbs < 10 ^ 60) : It 200 0 true true (.int i) := ⟨rfl, sml_int h, fun _ => rfl, fun _ => rfl⟩
theorem it_str {x : Str} (h : (x.cps.toList.all fun c => decide (c < 16 ^ 8)) = true) (hs : x.cps.size ≤ 100) : It 100 0 true true (.str x) := ⟨rfl, sml_str h hs, fun _ => rfl, fun _ => rfl⟩
theorem it_dic (v : V) : It 0 1 false true (.obj (.type "dict") v) := ⟨by unfold D.rp; exact beq_self_eq_true _, sml_dic, (fun z => by cases z), fun _ => rfl⟩
theorem it_tup {W Dp n : Nat} {a b : Bool} {xs : List D} (h : ∀ x ∈ xs, It W Dp a b x) (hl : xs.length ≤ n) : It ((W + 1) * n) (Dp + 1) a b (.tup xs) := by
  refine ⟨?_, sml_tup (fun x hx => (h x hx).sm) hl, fun z => ?_, fun z => ?_⟩
  · unfold D.rp
    exact rp_all fun x hx => (h x hx).rp
  · unfold D.py PyData.hasDict
    exact nd_all fun x hx => (h x hx).nd z
  · unfold D.py noL
    exact nl_all fun x hx => (h x hx).nl z
theorem it_lst {W Dp n : Nat} {a b : Bool} {xs : List D} (h : ∀ x ∈ xs, It W Dp a b x) (hl : xs.length ≤ n) : It ((W + 1) * n) (Dp + 1) a false (.lst xs) := by
  refine ⟨?_, sml_lst (fun x hx => (h x hx).sm) hl, fun z => ?_, fun z => by cases z⟩
  · unfold D.rp
    exact rp_all fun x hx => (h x hx).rp
  · unfold D.py PyData.hasDict
    exact nd_all fun x hx => (h x hx).nd z
/-- may be given to repr: a tuple, a list -/
theorem repr_tup {W Dp : Nat} {a b : Bool} {xs : List D} {O : Ow} {k : DK} (h : It W Dp a b (.tup xs)) (hW : W ≤ 200000) (hD : Dp ≤ 60) (hk : k (.str (D.tup xs).py.shown) O) : qRepr [.tup xs] O k := by
  unfold qRepr
  simp only [rs_tup]
  refine ⟨?_, shw_of h.sm hW hD, hk⟩
  have r := h.rp
  unfold D.rp at r
  exact r
theorem repr_lst {W Dp : Nat} {a b : Bool} {xs : List D} {O : Ow} {k : DK} (h : It W Dp a b (.lst xs)) (hW : W ≤ 200000) (hD : Dp ≤ 60) (hk : k (.str (D.lst xs).py.shown) O) : qRepr [.lst xs] O k := by
  unfold qRepr
  simp only [rs_lst]
  refine ⟨?_, shw_of h.sm hW hD, hk⟩
  have r := h.rp
  unfold D.rp at r
  exact r
/-! ### pieces -/
theorem mem_cut {α : Type} {xs : List α} {lo hi : Option Int} {x : α} (h : x ∈ cutL xs lo hi) : x ∈ xs := List.mem_of_mem_drop (List.mem_of_mem_take h)
theorem len_cut {α : Type} {xs : List α} {lo hi : Option Int} : (cutL xs lo hi).length ≤ xs.length := by
  unfold cutL
  rw [List.length_take, List.length_drop]
  omega
theorem cut_last {α : Type} {pre : List α} {x : α} : cutL (pre ++ [x]) (some (-1)) none = [x] := by
  unfold cutL
  have e : HT.sIx (pre ++ [x]).length 0 (some (-1)) = pre.length := by
    rw [List.length_append, List.length_singleton]
    show (if (-1 : Int) < 0 then ((-1 : Int) + ((pre.length + 1 : Nat) : Int)).toNat else min (-1 : Int).toNat (pre.length + 1)) = pre.length
    rw [if_pos (by decide)]
    omega
  rw [e, List.drop_left, HT.sIx_none, List.length_append, List.length_singleton]
  rw [show pre.length + 1 - pre.length = 1 by omega]
  rfl
theorem cut_front {α : Type} {pre : List α} {x : α} : cutL (pre ++ [x]) none (some (-1)) = pre := by
  unfold cutL
  have e : HT.sIx (pre ++ [x]).length (pre ++ [x]).length (some (-1)) = pre.length := by
    rw [List.length_append, List.length_singleton]
    show (if (-1 : Int) < 0 then ((-1 : Int) + ((pre.length + 1 : Nat) : Int)).toNat else min (-1 : Int).toNat (pre.length + 1)) = pre.length
    rw [if_pos (by decide)]
    omega
  rw [e, HT.sIx_none, List.drop_zero, Nat.sub_zero, List.take_left]
theorem at_last {α : Type} {pre : List α} {x : α} : atI (pre ++ [x]) (-1) = some x := by
  unfold atI ixN
  rw [List.length_append, List.length_singleton, if_neg (by decide), if_pos (by omega)]
  show (pre ++ [x])[((-1 : Int) + ((pre.length + 1 : Nat) : Int)).toNat]? = some x
  rw [show ((-1 : Int) + ((pre.length + 1 : Nat) : Int)).toNat = pre.length by omega]
  simp
/-! ### a new list that will be changed, of two -/
def qAddO : DR2 := fun x y O k => match res O x, res O y with
  | .lst a, .lst b => a.length + b.length ≤ sizeLine ∧ ∀ p, O p = none → k (.opq (.ref p)) (oset O p (.lst (a ++ b)))
  | _, _ => False
theorem lr_addO {K : PySem.W.Frag} : LiftR K (hAdd K) qAddO := by
  intro x y O k h G H v u Q ok hx hy c
  unfold qAddO at h
  split at h
  · rename_i i j e1 e2
    obtain ⟨a, vs, rfl, a1, a2⟩ := res_lst ok hx e1
    obtain ⟨b, ws, rfl, b1, b2⟩ := res_lst ok hy e2
    refine .inr (.inr (.inl ⟨a, b, vs, ws, rfl, rfl, a1, b1, ?_, fun p hp => ?_⟩))
    · rw [a2.length, b2.length]
      exact h.1
    · obtain ⟨ok2, s2⟩ := owned ok hp (a2.append b2)
      exact c _ _ _ _ _ (h.2 p (ok.none_of hp)) s2 ok2 (.opq _)
  · exact h.elim
theorem de_addO {X : Cx} {W : WX} {ex : EX} {a b : Expr} {t u : DT} {pos : Pos} (ha : DE X W ex a t) (hb : DE X W ex b u) : DE X W ex (.BinOp a .Add b pos) (dOp qAddO t u) := de_bin op_addAll lr_addO ha hb
section
variable {O : Ow} {k : DK} {p : Addr} {a b : List D}
theorem qaddO_cell (h : O p = some (.lst a)) : qAddO (.opq (.ref p)) (.lst b) O k = (a.length + b.length ≤ sizeLine ∧ ∀ p, O p = none → k (.opq (.ref p)) (oset O p (.lst (a ++ b)))) := by
  unfold qAddO
  rw [rs_cell h, rs_lst]
theorem qadd_cell (h : O p = some (.lst a)) : qAdd (.opq (.ref p)) (.lst b) O k = (a.length + b.length ≤ sizeLine ∧ k (.lst (a ++ b)) O) := by
  unfold qAdd
  rw [rs_cell h, rs_lst]
end
end DL
namespace DL
open PySem PySem.Spec PyProof.Rows L2 Evl
/-! ### defs that want that no repr is under way: their bodies, their calls -/
section
variable {P : Program} {w : World} {K : PySem.W.Frag} {mg : Str → Option Value} {base : Heap}
theorem fn_DG {x qual : Str} {st : Stmt} {f : Addr} {fd : FuncData} {N ps : List Str} {k : Nat} {S : DSp} (F : Fun K x qual st f fd) (Sc : FnScope N ps (defScope st)) (hl : ∀ as O q e, S as O q e → as.length = ps.length)
    (hb : ∀ (cdv : Value) (A : Around) (outer : List Env) (s : Shared) (H : Hp) (E : XK), A.guards = some [] → Room k (A.deeper (envOfC qual (defScope st) s.heap.objs.size f cdv)) → ∀ as O q e, S as O q e →
      ∃ t, DSs (cxOf (L2N.CX P w) P w K mg base N qual (defScope st) f cdv A outer s H E) (wOf E) (exOf e) (defBody st) t ∧ t ⟨fun _ O' => Rt q .non O', Rt q, fun _ _ => False, fun _ _ => False⟩ (startD N as) O) :
    FnDG P w K mg base (k + 1) f fd ps S := by
  obtain ⟨oc, od, kV, doc, pm, an, cdv, ct, osl, rfl, lk, hc⟩ := F.ex
  refine fnG_of lk hc Sc (fun vs H Q E h => ?_) (fun A outer s H vs Q E gd hr h => ?_)
  · obtain ⟨G, O, as, q, e, _, d, h, _⟩ := h
    rw [d.length]
    exact hl _ _ _ _ h
  · obtain ⟨G, O, as, q, e, ok, d, h, c, cx⟩ := h
    obtain ⟨t, ⟨ts, p, l⟩, ht⟩ := hb cdv A outer s H E gd hr as O q e h
    refine ⟨ts, p, l _ _ O ht G H (L2.start N vs) _ ok (rep_start d N) (fun y ds O' σ dd G' H' hy s' ok' rp' pa => ?_) ⟨fun ds O' σ G' H' h' s' ok' _ => rt_ok c _ O' .non G' H' h' s' ok' .non, rt_ok c, fun ds O' σ G' H' h' _ _ _ => False.elim h', fun ds O' σ G' H' h' _ _ _ => False.elim h'⟩⟩
    obtain ⟨O2, hy, sb⟩ := hy
    exact cx y O2 dd G' H' hy (s'.sub sb) (ok'.sub sb) pa
end
section
variable {X : Cx} {W : WX} {ex : EX} {CX : CXT} {k j : Nat} {f : Addr} {fd : FuncData} {ps : List Str} {sp : Sp} {S : DSp} {x : Str} {p pos : Pos} {e : Expr} {es : List Expr} {ta : TA} {t : DA} {E : L2.St → XK}
theorem run_G {pins : List (Addr × Obj)} {σ : L2.St} {H : Hp} {s : Shared} {Q : VK} {us : List Value} {vs : List V} (F : FnG X.prog X.w X.K X.mg X.base CX k f fd ps sp) (gd : X.A.guards = some []) (hr : Room k X.A)
    (hb : Binds X.K fd ps []) (hx : PassesAt CX X σ (E σ)) (I : L2.Inv X pins σ H s) (r : Vals vs us) (h : sp vs H Q (E σ)) : wpAny (model X.prog X.w) X.A (call (.ref f) us) (EP X pins σ Q) X.xe s := by
  have len : (us ++ []).length = ps.length := by
    rw [List.append_nil]
    exact r.length.symm.trans (F.lenG h)
  have bnd := hb s us I.kIn len
  rw [List.append_nil] at bnd
  have run := F.runG gd hr I.env0 bnd r h
  refine wpAny_call (codeAny_mono run ?_)
  intro res s' hq
  cases res with
  | error e => exact hx pins H s e s' I hq
  | ok fl =>
    cases fl with
    | ret u => exact I.after hq
    | _ => exact False.elim hq
theorem pe_callG (F : FnG X.prog X.w X.K X.mg X.base CX k f fd ps sp) (gd : X.A.guards = some []) (hr : Room k X.A) (hg : Gl X x) (hm : X.mg x = some (.ref f)) (hk : PySem.W.keepIn X.K (.ref f) = true) (hb : Binds X.K fd ps [])
    (hx : ∀ σ, PassesAt CX X σ (E σ)) (ha : PA X (e :: es) ta) (hdb : (x == ("__debug__" : Str)) = false)
    (he : starEach (e :: es) X.env = (false, eval e X.env) :: starEach es X.env) (hpl : (backTo pos (starEach es X.env)).any (·.1) = false) :
    PE X (.Call (.Name x p) (e :: es) [] pos) (tCallS sp E ta) := by
  constructor
  intro pins s σ H Q I h
  refine wpAny_Call_Name_kw (ld_glob I hg hm ?_ hdb)
  refine PySem.W.callWith_K (h₀ := X.base) I.ok.mod.kin hk (thn (ha.run pos pins s σ H _ I h) ?_) he hpl
  rintro us s1 ⟨vs, H1, I1, r, q⟩
  exact ⟨I1.kIn, run_G F gd hr hb (hx σ) I1 r q⟩
theorem de_callG (tk : L2N.Takes X W) (F : FnDG X.prog X.w X.K X.mg X.base k f fd ps S) (gd : X.A.guards = some []) (hr : Room j X.A) (hm : X.mg x = some (.ref f)) (hk : PySem.W.keepIn X.K (.ref f) = true) (hb : Binds X.K fd ps []) (ha : DAs X W ex (e :: es) t) (hj : k ≤ j := by decide) (hg : Gl X x := by rfl)
    (hdb : (x == ("__debug__" : Str)) = false := by decide) (he : starEach (e :: es) X.env = (false, eval e X.env) :: starEach es X.env := by rfl) (hpl : (backTo pos (starEach es X.env)).any (·.1) = false := by rfl) :
    DE X W ex (.Call (.Name x p) (e :: es) [] pos) (dCall S ex t) := by
  obtain ⟨ta, p1, l1⟩ := ha
  exact ⟨_, pe_callG F gd (hr.mono hj) hg hm hk hb (fun σ => L2N.passAt tk σ) p1 hdb he hpl, l_call l1⟩
end
end DL
namespace DL
open PySem PySem.Spec PyProof.Rows L2 Evl
/-! ### isinstance of an own exception that is held as a value -/
theorem call_isO {X : Cx} : CallR X (.builtin "isinstance") (fun xs H Q => ∃ (a C : Addr) (c : V) (cv : Value) (b : Bool), xs = [.ref a, c] ∧ H a = some (ExK (.ref C) a) ∧ ExcC X.K C ∧ (∀ u, RelV c u → u = cv) ∧ PySem.W.kitOne X.K (.ref C) cv = some b ∧ Q (.bl b) H) := by
  intro pins s σ H xs us Q I r h
  obtain ⟨a, C, c, cv, b, rfl, ha, E, hcv, e, q⟩ := h
  obtain ⟨u, w, rfl, ru, rw'⟩ := vals2 r
  cases (show u = Value.ref a from ru)
  have ec := hcv _ rw'
  subst ec
  obtain ⟨⟨oe, vs, ho, h1, h2, hv⟩, _⟩ := I.hok a _ ha
  have J : PySem.W.InstAt s.heap a oe C none := by
    obtain ⟨oc, od, oda, osl⟩ := oe
    dsimp only at h1 h2 hv
    subst h1 h2 hv
    exact ⟨ho, rfl, rfl, trivial⟩
  refine PySem.W.kia_one
    (PySem.W.handS_kitx_exc E.hg E.hk E.hs E.hd E.ha E.hn E.ht E.hm)
    I.kIn J e (fun z => by cases z) ?_
  intro tk
  exact ⟨.bl b, H, I.kept (t' := tk) fun _ _ z => z, rfl, q⟩
/-- X(), an own exception class without own __init__, as a value -/
theorem pe_exc0 {X : Cx} {C : Addr} {bmB : List Value} {B newId initId : String} {x : Str} {p pos : Pos} (F : ExcBaseFacts B newId initId bmB) (q : PySem.W.excIn X.K C bmB newId = true) (gC : X.mg x = some (.ref C))
    (kC : PySem.W.keepIn X.K (.ref C) = true) (hg : Gl X x) (hdb : (x == ("__debug__" : Str)) = false := by decide) :
    PE X (.Call (.Name x p) [] [] pos) (fun _ H Q => ∀ a, H a = none → Q (.ref a) (upd H a (ExK (.ref C) a))) := by
  constructor
  intro pins s σ H Q I h
  refine wpAny_Call_Name_kw (ld_glob I hg gC ?_ hdb)
  refine PySem.W.callWith_K0 I.kIn kC ?_
  show wpAny _ _ (call (.ref C) []) _ _ _
  obtain ⟨bm, N, nm, qn, bs, hdct, sn, sub, ab, col, dd, k0, k1, k2, k3, k5, mN, hC, hN, hni, T⟩ := exc_obj I.kIn q
  refine wpAny_call_exc_subT F T hC hN hni ?_ (by show 0 ≤ sizeLine; exact Nat.zero_le _)
  intro h' a hm
  have free : H a = none := I.hok.gone hm.new
  obtain ⟨t, ht, _, _⟩ := hm.there
  refine ⟨.ref a, upd H a (ExK (.ref C) a), ?_, rfl, h a free⟩
  exact I.laidN hm.keeps hm.new free (exK_ok ht rfl rfl rfl)
/-! ### isinstance(x, C), C an own class -/
theorem call_isiD {X : Cx} {D' : Addr} : CallR X (.builtin "isinstance") (fun xs H Q => ∃ (x : V) (t : Value) (b : Bool), xs = [x, .ref D'] ∧ TyD X.K H x t ∧ PySem.W.kitOne X.K t (.ref D') = some b ∧ Q (.bl b) H) := by
  intro pins s σ H xs us Q I r h
  obtain ⟨x, t, b, rfl, ht, e, q⟩ := h
  cases ht with
  | x h => exact call_isi pins s σ H _ us Q I r ⟨x, .ref D', t, .ref D', b, rfl, .own D', h, e, q⟩
  | exc h c => exact call_isO pins s σ H _ us Q I r ⟨_, _, .ref D', .ref D', b, rfl, h, c, (fun u ru => ru), e, q⟩
/-- what is known of the class's kinship: kit t, the answer for a thing of type t -/
def qIsiO (kit : Value → Option Bool) : DRC := fun xs O k => match xs with
  | [d, _] => (match (res O d).ty with
    | some t => (match kit t with
      | some b => k (.bl b) O
      | none => False)
    | none => False)
  | _ => False
theorem lc_isiO {K : PySem.W.Frag} {D' : Addr} {kit : Value → Option Bool} (hk : ∀ t b, kit t = some b → PySem.W.kitOne K t (.ref D') = some b) : LiftC K (fun xs H Q => ∃ (x : V) (t : Value) (b : Bool), xs = [x, .ref D'] ∧ TyD K H x t ∧ PySem.W.kitOne K t (.ref D') = some b ∧ Q (.bl b) H) fun xs O k => (∃ d, xs = [d, .opq (.ref D')]) ∧ qIsiO kit xs O k := by
  intro xs O k h G H vs Q ok hx c
  obtain ⟨⟨d, rfl⟩, h⟩ := h
  unfold qIsiO at h
  obtain ⟨v, u, rfl, hd, he⟩ := two_of hx
  dsimp only at h
  split at h
  · rename_i t e
    split at h
    · rename_i b eb
      cases he
      exact ⟨v, t, b, rfl, ty_ok ok hd e, hk t b eb, c _ O _ G H h Stp.refl ok (.bl _)⟩
    · exact h.elim
  · exact h.elim
/-! ### X() as a value -/
def dThing (t : Value) : DT := fun ds O k => ∀ v, k (.obj t v) O
theorem de_exc0 {X : Cx} {W : WX} {ex : EX} {C : Addr} {x : Str} {p pos : Pos} (q : PySem.W.excIn X.K C veTail "ValueError.__new__" = true) (gC : X.mg x = some (.ref C)) (kC : PySem.W.keepIn X.K (.ref C) = true) (E : ExcC X.K C) (hg : Gl X x := by rfl) (hdb : (x == ("__debug__" : Str)) = false := by decide) :
    DE X W ex (.Call (.Name x p) [] [] pos) (dThing (.ref C)) := by
  refine ⟨_, pe_exc0 PySem.F.excBase_ValueError q gC kC hg hdb, fun ds O k h G H σ Q ok rp xc c a ha => ?_⟩
  obtain ⟨ok2, s2, e2⟩ := frozen (o := ExK (.ref C) a) ok ha
  exact c _ O _ _ _ (h _) s2 ok2 (.obj (.exc upd_same E) fun z => by cases z)
end DL
namespace DL
open PySem PySem.Spec PyProof.Rows L2 Evl
/-! ### defs that are called in an except suite, with a word on what is handled -/
section
variable (P : Program) (w : World) (K : PySem.W.Frag) (mg : Str → Option Value)
variable (base : Heap) (CX : CXT) (k : Nat) (f : Addr) (fd : FuncData) (ps : List Str) (sp : Addr × Obj → Sp)
structure FnE : Prop where
  lenE : ∀ {p vs H Q E}, sp p vs H Q E → vs.length = ps.length
  runE : ∀ {A outer s H args us vs Q E p}, L2H.RoomH k A → L2H.Hot1 A p → L2H.PinOk outer H s p →
    Env0 P w K mg base A outer s H → BindsTo s fd args (ps.zip us) → Vals vs us →
    sp p vs H Q E → codeAny (model P w) A (.call (.ref f) args) (CR CX outer P w H s Q E) s
end
section
variable {P : Program} {w : World} {K : PySem.W.Frag} {mg : Str → Option Value}
variable {base : Heap} {CX : CXT} {k : Nat} {f : Addr} {fd : FuncData} {ps : List Str} {sp : Addr × Obj → Sp}
variable {name qual : Str} {params : Arguments} {body : List Stmt} {scope : Scope}
variable {dV kV doc pm cdv ct oc : Value} {an od : Option Addr} {osl : Array (Option Value)} {N : List Str}
theorem fnE_of (lk : K.lookup f = some ⟨oc, od, .func (PySem.W.fnOf name qual params body scope dV kV doc pm an cdv ct), osl⟩)
    (hc : PySem.W.codeIn K cdv qual = true) (Sc : FnScope N ps scope)
    (hl : ∀ p vs H Q E, sp p vs H Q E → vs.length = ps.length)
    (hb : ∀ (A : Around) (outer : List Env) (s : Shared) (H : Hp) (vs : List V) (Q : VK) (E : XK) (p : Addr × Obj), L2H.Hot1 A p →
      L2H.RoomH k (A.deeper (envOfC qual scope s.heap.objs.size f cdv)) → sp p vs H Q E →
      ∃ t, PSs (L2H.cxH CX P w K mg base N qual scope f cdv A outer s H E p) body t ∧
        t { nx := fun _ H' => Q .non H', rt := Q } (start N vs) H) :
    FnE P w K mg base CX (k + 1) f (PySem.W.fnOf name qual params body scope dV kV doc pm an cdv ct) ps sp := by
  constructor
  · exact fun h => hl _ _ _ _ _ h
  · intro A outer s H args us vs Q E p room hot pin en bnd rel prom
    have up : ∀ b o, base.get? b = some o → s.heap.get? b = some o := fun b o e => (en.bs b o e).1
    have inK : K.In s.heap := en.mod.kin.keeps up
    have kinds : ∀ y ∈ ps.zip us, scope.names.lookup y.1 = some .local ∨
        (scope.names.lookup y.1 = some .cell ∧ ((cellsFrom (s.heap.objs.size + 1) scope.names []).lookup y.1).isSome = true) := by
      rintro ⟨nm, val⟩ hy
      exact (Sc.par nm (List.of_mem_zip hy).1).imp id fun c => ⟨c, PySem.W.cellsFrom_some _ _ _ (.inl c)⟩
    have code := PySem.W.codeRec_of inK hc
    have fn := inK _ _ lk
    refine codeAny_call_function room.depth fn rfl
      Sc.co Sc.gen rfl code (bnd _ _ _ _ ?_)
    refine wpAny_newFunctionEnv_cells Sc.kind kinds ?_
    rintro env rfl s1 inCall
    refine ⟨(en.mod.nolimit.keeps up).keeps inCall.toInCall.keep, codeAny_func ?_⟩
    obtain ⟨t, run, start⟩ := hb A outer s H vs Q E p hot (room.deeper _) prom
    have ln := hl _ _ _ _ _ prom
    refine wpAny_mono (run.run [] s1 _ H _ (L2H.inv_startH Sc pin en ln rel inCall) start) ?_ fun _ _ x => x
    intro fl s' hs
    cases fl with
    | ret u =>
      obtain ⟨v, _, H', J, rv, q⟩ := hs
      exact ⟨v, H', J.os, J.bare, J.base, J.hok, rv, q⟩
    | next =>
      obtain ⟨_, H', J, q⟩ := hs
      exact ⟨.non, H', J.os, J.bare, J.base, J.hok, rfl, q⟩
    | brk => exact hs.elim fun _ h => h.elim fun _ h => h.2.elim
    | cont => exact hs.elim fun _ h => h.elim fun _ h => h.2.elim
end
section
variable {X : Cx} {CX : CXT} {k : Nat} {f : Addr} {fd : FuncData} {ps : List Str} {sp : Addr × Obj → Sp} {E : L2.St → XK} {x : Str} {pos q : Pos} {e : Expr} {es : List Expr} {t : TA} {p : Addr × Obj}
theorem run_E {pins : List (Addr × Obj)} {σ : L2.St} {H : Hp} {s : Shared} {Q : VK} {us : List Value} {vs : List V} (F : FnE X.prog X.w X.K X.mg X.base CX k f fd ps sp) (hr : L2H.RoomH k X.A) (hot : L2H.Hot1 X.A p) (hp : p ∈ X.pn)
    (hb : Binds X.K fd ps []) (hx : PassesAt CX X σ (E σ)) (I : L2.Inv X pins σ H s) (r : Vals vs us) (h : sp p vs H Q (E σ)) : wpAny (model X.prog X.w) X.A (call (.ref f) us) (EP X pins σ Q) X.xe s := by
  have len : (us ++ []).length = ps.length := by
    rw [List.append_nil]
    exact r.length.symm.trans (F.lenE h)
  have bnd := hb s us I.kIn len
  rw [List.append_nil] at bnd
  obtain ⟨g1, g2, g3, g4, g5⟩ := I.pin p (List.mem_append_left _ hp)
  have pin : L2H.PinOk X.stack H s p := by
    refine ⟨g1, g2, fun hm => ?_, g5⟩
    rcases List.mem_cons.mp (I.stkSub p.1 hm) with z | z
    · exact g3 z
    · exact g4 z
  have run := F.runE hr hot pin I.env0 bnd r h
  refine wpAny_call (codeAny_mono run ?_)
  intro res s' hq
  cases res with
  | error e => exact hx pins H s e s' I hq
  | ok fl =>
    cases fl with
    | ret u => exact I.after hq
    | _ => exact False.elim hq
theorem pe_callE (F : FnE X.prog X.w X.K X.mg X.base CX k f fd ps sp) (hr : L2H.RoomH k X.A) (hot : L2H.Hot1 X.A p) (hp : p ∈ X.pn) (hg : Gl X x) (hm : X.mg x = some (.ref f)) (hk : PySem.W.keepIn X.K (.ref f) = true) (hb : Binds X.K fd ps [])
    (hx : ∀ σ, PassesAt CX X σ (E σ)) (ha : PA X (e :: es) t) (hdb : (x == ("__debug__" : Str)) = false)
    (he : starEach (e :: es) X.env = (false, eval e X.env) :: starEach es X.env) (hpl : (backTo pos (starEach es X.env)).any (·.1) = false) :
    PE X (.Call (.Name x q) (e :: es) [] pos) (tCallS (sp p) E t) := by
  constructor
  intro pins s σ H Q I h
  refine wpAny_Call_Name_kw (ld_glob I hg hm ?_ hdb)
  refine PySem.W.callWith_K (h₀ := X.base) I.ok.mod.kin hk (thn (ha.run pos pins s σ H _ I h) ?_) he hpl
  rintro us s1 ⟨vs, H1, I1, r, q⟩
  exact ⟨I1.kIn, run_E F hr hot hp hb (hx σ) I1 r q⟩
end
end DL
namespace DL
open PySem PySem.Spec PyProof.Rows L2 Evl

/-! ### list.count of a text -/
theorem isStr_count {k : Str} : ∀ {us : List Value} {ys : List Str}, StrsAre us ys → us.countP (isStrOf k) = ys.count k
  | _, _, .nil => rfl
  | _, _, .cons n t h => by
    have ih := isStr_count (k := k) h
    rw [List.countP_cons, List.count_cons, ih] <;> rfl
def rCntS (K : PySem.W.Frag) : V → List V → Hp → VK → Prop := fun x xs H Q => ∃ (p : Addr) (ys : List Str) (k : Str), x = .ref p ∧ xs = [.str k] ∧ SqL K H p (ys.map V.str) ∧ Q (.int (ys.count k : Nat)) H
theorem mt_lcountS {X : Cx} : MtR X "list.count" (rCntS X.K) := by
  intro pins s σ H x xs v us Q I rx rxs h
  obtain ⟨p, ys, k, rfl, rfl, hs, q⟩ := h
  cases rx
  obtain ⟨u, rfl, ru⟩ := rxs.one
  obtain ⟨t, rfl⟩ := ru
  obtain ⟨its, rv, ⟨⟨cls, dd, data, sl⟩, n, ho, hc, hdn, hd⟩, hlen⟩ := I.list hs
  simp only at hc hd
  subst hc hd
  have hi := strs_of_vals rv
  refine call_meets PySem.F.slot_list_count ⟨_, ho, rfl⟩ PySem.F.entry_list_count (PySem.F.args_list_count_2 _ _)
    (SeqAt.list_countAt p its.toArray n dd sl (.str k t) (isStrOf k)) ⟨ho, fun y hy => (eq_isStrOf k t hi y (by simpa using hy)).at _ _, ?_⟩
  have ec : its.toArray.toList.countP (isStrOf k) = ys.count k := isStr_count hi
  refine ⟨.int (ys.count k : Nat), H, I.tok _, ⟨s.toks, ?_⟩, q⟩
  show Value.int ((its.toArray.toList.countP (isStrOf k) : Nat) : Int) s.toks = Value.int ((ys.count k : Nat) : Int) s.toks
  rw [ec]
def qCountS : D → List D → Ow → DK → Prop := fun x xs O k => match xs with
  | [.str b] => (match (listOf O x).bind strsOf with
    | some ys => k (.int (ys.count b : Nat)) O
    | none => False)
  | _ => False
theorem lm_countS {K : PySem.W.Frag} : LiftM K (rCntS K) qCountS := by
  intro x xs O k h G H v vs Q ok hx hxs c
  unfold qCountS at h
  split at h
  · rename_i b
    obtain ⟨u, rfl, hy⟩ := one_of hxs
    cases hy
    split at h
    · rename_i ys e
      cases q : listOf O x with
      | none => rw [q] at e; cases e
      | some zs =>
        rw [q] at e
        obtain ⟨a, vs, rfl, a1, a2⟩ := listOf_ok ok hx q
        have z := strsOf_eq (show strsOf zs = some ys from e)
        subst z
        rw [a2.strs] at a1
        exact ⟨a, ys, b, rfl, rfl, SqL.of a1, c _ O _ G H h Stp.refl ok (.int _)⟩
    · exact h.elim
  · exact h.elim

/-! ### enumerate and zip of lists that stay -/
def nthD (xs : List D) (i : Nat) : D := (xs[i]?).getD .non
def enumD (xs : List D) : List D := (List.range xs.length).map fun i => .tup [.int ((i : Nat) : Int), nthD xs i]
def zipD (xs ys : List D) : List D := (List.range (min xs.length ys.length)).map fun i => .tup [nthD xs i, nthD ys i]
theorem nthD_of {xs : List D} {i : Nat} {x : D} (h : xs[i]? = some x) : nthD xs i = x := by unfold nthD; rw [h]; rfl
section
variable {K : PySem.W.Frag}
theorem range_get {α : Type} {n i : Nat} {f : Nat → α} {x : α} (h : ((List.range n).map f)[i]? = some x) : i < n ∧ f i = x := by
  rw [List.getElem?_map] at h
  cases q : (List.range n)[i]? with
  | none => rw [q] at h; cases h
  | some c =>
    rw [q] at h
    cases h
    obtain ⟨h1, h2⟩ := List.getElem?_eq_some_iff.mp q
    rw [List.getElem_range] at h2
    subst h2
    rw [List.length_range] at h1
    exact ⟨h1, rfl⟩
theorem wk_enum {a : Addr} {vs : List V} {xs : List D} {G : Hp} (hG : ∀ G2 H2 O2, Ex G G2 → Ok K G2 H2 O2 → SqL K H2 a vs) (h : DnAll K G vs xs) : Wk K (Ite K a) (enumD xs) G := fun G2 H2 O2 e ok i => by
  have hS := hG G2 H2 O2 e ok
  refine ⟨fun x hx => ?_, fun l => ⟨vs, hS, by rw [h.length]; simpa [enumD] using l⟩⟩
  obtain ⟨hi, rfl⟩ := range_get hx
  have hx : xs[i]? = some xs[i] := List.getElem?_eq_getElem hi
  obtain ⟨v, h1, h2⟩ := h.get hx
  refine ⟨⟨vs, v, hS, h1⟩, fun w H' hy => ?_⟩
  obtain ⟨T, x, rfl, hT, rfl, y⟩ := hy
  have e2 := y vs hS
  rw [h1] at e2
  cases e2
  obtain ⟨ok2, s2, e3⟩ := frozen (o := .tup [.int (i : Nat), v]) ok hT
  refine ⟨_, ok2, s2, .tup (SqT.of upd_same) (.cons (.int _) (.cons ?_ .nil))⟩
  rw [nthD_of hx]
  exact (h2.mono e).mono e3
theorem wk_zip {a b : Addr} {vs us : List V} {xs ys : List D} {G : Hp} (hG : ∀ G2 H2 O2, Ex G G2 → Ok K G2 H2 O2 → SqL K H2 a vs ∧ SqL K H2 b us) (h : DnAll K G vs xs) (h' : DnAll K G us ys) : Wk K (Itz K a b) (zipD xs ys) G := fun G2 H2 O2 e ok i => by
  obtain ⟨hS, hS'⟩ := hG G2 H2 O2 e ok
  refine ⟨fun x hx => ?_, fun l => ⟨vs, us, hS, hS', by rw [h.length, h'.length]; simp [zipD] at l; omega⟩⟩
  obtain ⟨hi, rfl⟩ := range_get hx
  have hx : xs[i]? = some xs[i] := List.getElem?_eq_getElem (by omega)
  have hy : ys[i]? = some ys[i] := List.getElem?_eq_getElem (by omega)
  obtain ⟨v, h1, h2⟩ := h.get hx
  obtain ⟨u, h3, h4⟩ := h'.get hy
  refine ⟨⟨vs, us, v, u, hS, hS', h1, h3⟩, fun w H' hy' => ?_⟩
  obtain ⟨T, x, z, rfl, hT, rfl, y, y'⟩ := hy'
  have e2 := y vs hS
  rw [h1] at e2
  cases e2
  have e2 := y' us hS'
  rw [h3] at e2
  cases e2
  obtain ⟨ok2, s2, e3⟩ := frozen (o := .tup [v, u]) ok hT
  refine ⟨_, ok2, s2, .tup (SqT.of upd_same) (.cons ?_ (.cons ?_ .nil))⟩
  · rw [nthD_of hx]
    exact (h2.mono e).mono e3
  · rw [nthD_of hy]
    exact (h4.mono e).mono e3
end
def dEnum (t : DA) : DI := fun ds O k => t ds O fun xs O1 => match xs with
  | [.lst ys] => k (enumD ys) O1
  | _ => False
def dZip (t : DA) : DI := fun ds O k => t ds O fun xs O1 => match xs with
  | [.lst ys, .lst zs] => k (zipD ys zs) O1
  | _ => False
section
variable {X : Cx} {W : WX} {ex : EX} {a b : Expr} {ta : DA} {elts : List Expr} {kk : Nat} {tpos : Pos}
theorem di_enum {p pos : Pos} (hm : X.mg "enumerate" = none) (ha : DAs X W ex [a] ta) (hg : Gl X "enumerate" := by rfl) (hs : starEach [a] X.env = [(false, eval a X.env)] := by rfl) :
    DIt X W ex (.Tuple elts kk tpos) (.Call (.Name "enumerate" p) [a] [] pos) (dEnum ta) := by
  obtain ⟨te, p1, l⟩ := ha
  refine ⟨_, pi_enum hg hm p1 hs, fun ds O k h G H σ R ok rp x c => l ds O _ h G H σ _ ok rp x fun xs O1 vs G1 H1 h1 s1 ok1 d1 => ?_⟩
  dsimp only at h1
  split at h1
  · obtain ⟨v, rfl, hv⟩ := one_of d1
    cases hv with
    | lst q1 q2 => exact ⟨_, _, rfl, SqL.of (ok1.ex _ _ q1), c _ O1 G1 H1 _ h1 s1 ok1 (wk_enum (fun G2 H2 O2 e ok => SqL.of (ok.ex _ _ (e _ _ q1))) q2)⟩
  · exact h1.elim
theorem di_zip {p pos : Pos} (hm : X.mg "zip" = none) (ha : DAs X W ex [a, b] ta) (hg : Gl X "zip" := by rfl)
    (hs : starEach [a, b] X.env = (false, eval a X.env) :: starEach [b] X.env := by rfl) (hpl : (backTo pos (starEach [b] X.env)).any (·.1) = false := by rfl) :
    DIt X W ex (.Tuple elts kk tpos) (.Call (.Name "zip" p) [a, b] [] pos) (dZip ta) := by
  obtain ⟨te, p1, l⟩ := ha
  refine ⟨_, pi_zip hg hm p1 hs hpl, fun ds O k h G H σ R ok rp x c => l ds O _ h G H σ _ ok rp x fun xs O1 vs G1 H1 h1 s1 ok1 d1 => ?_⟩
  dsimp only at h1
  split at h1
  · obtain ⟨v, u, rfl, hv, hu⟩ := two_of d1
    cases hv with
    | lst q1 q2 =>
      cases hu with
      | lst q3 q4 => exact ⟨_, _, _, _, rfl, SqL.of (ok1.ex _ _ q1), SqL.of (ok1.ex _ _ q3), c _ O1 G1 H1 _ h1 s1 ok1 (wk_zip (fun G2 H2 O2 e ok => ⟨SqL.of (ok.ex _ _ (e _ _ q1)), SqL.of (ok.ex _ _ (e _ _ q3))⟩) q2 q4)⟩
  · exact h1.elim
end
section
variable {g : DG} {tb : DSr} {E : DEnds} {ds : Ds} {O : Ow}
theorem loopX_enum {α : Type} (c : α → D) (l : List α) (De : Nat → Ds → Ow → Prop) (h0 : De 0 ds O)
    (hst : ∀ (i : Nat) (x : α) ds O, l[i]? = some x → De i ds O → ∀ R : Ds → Ow → Prop, (∀ ds' O', De (i + 1) ds' O' → R ds' O') → g (.tup [.int (i : Int), c x]) ds O fun ds' O' => tb { E with nx := R, ct := R, bk := E.nx } ds' O')
    (hd : ∀ ds O, De l.length ds O → E.nx ds O) : dForX (enumD (l.map c)) g tb E ds O := by
  unfold enumD
  rw [List.length_map]
  refine loopX_map (fun i : Nat => D.tup [.int (i : Int), nthD (l.map c) i]) (List.range l.length) (fun (_ : Unit) _ => ()) (fun i _ => De i) () h0 (fun i s x ds O hx h R hR => ?_) (fun ds O h => hd ds O ?_)
  · obtain ⟨l1, e⟩ := List.getElem?_eq_some_iff.mp hx
    rw [List.length_range] at l1
    rw [List.getElem_range] at e
    subst e
    have e1 : l[i]? = some l[i] := List.getElem?_eq_getElem l1
    have e2 : nthD (l.map c) i = c l[i] := nthD_of (by rw [List.getElem?_map, e1]; rfl)
    rw [e2]
    exact hst i _ ds O e1 h R hR
  · rw [List.length_range] at h
    exact h
end
/-! ### sorted(list of ints) -/
def qSorted : DRC := fun xs O k => match xs with
  | [d] => (match (listOf O d).bind intsOf with
    | some ns => ∀ ns' : List Int, ns'.Perm ns → ns'.Pairwise (· ≤ ·) → k (.lst (ns'.map D.int)) O
    | none => False)
  | _ => False
theorem lc_sorted {K : PySem.W.Frag} : LiftC K (rSortedI K) qSorted := by
  intro xs O k h G H vs Q ok hx c
  unfold qSorted at h
  split at h
  · obtain ⟨v, rfl, hd⟩ := one_of hx
    split at h
    · rename_i ns e
      obtain ⟨a, rfl, a1⟩ := ints_of ok hd e
      refine ⟨a, ns, rfl, a1, fun ns' p h1 h2 hp => ?_⟩
      obtain ⟨ok2, s2, e2⟩ := frozen (o := .lst (ns'.map V.int)) ok hp
      exact c _ O _ _ _ (h ns' h1 h2) s2 ok2 (.lst upd_same (DnAll.ofInts _))
    · exact h.elim
  · exact h.elim
end DL
namespace DL
open PySem PySem.Spec PyProof.Rows L2 Evl

/-! ### flat data: ints, texts, None, and lists and tuples of such, not too deep -/
inductive Fl : Nat → D → Prop where
  | non {n} : Fl n .non
  | int {n} (i : Int) : Fl n (.int i)
  | str {n} {x : Str} (h : PyData.strOk x = true) : Fl n (.str x)
  | lst {n xs} (h : ∀ x ∈ xs, Fl n x) : Fl (n + 1) (.lst xs)
  | tup {n xs} (h : ∀ x ∈ xs, Fl n x) : Fl (n + 1) (.tup xs)
theorem pureAll_of : ∀ {xs : List D}, (∀ x ∈ xs, x.pure = true) → D.pureAll xs = true
  | [], _ => rfl
  | x :: xs, h => by
    unfold D.pureAll
    rw [h x List.mem_cons_self, pureAll_of (fun y hy => h y (List.mem_cons_of_mem _ hy))]
    rfl
theorem layAll_of : ∀ {xs : List D}, (∀ x ∈ xs, x.py.canLay0 = true) → PyData.canLayAll0 (D.pyAll xs) = true
  | [], _ => by simp [D.pyAll, PyData.canLayAll0]
  | x :: xs, h => by
    unfold D.pyAll PyData.canLayAll0
    rw [h x List.mem_cons_self, layAll_of (fun y hy => h y (List.mem_cons_of_mem _ hy))]
    rfl
theorem depthAll_of {n : Nat} : ∀ {xs : List D}, (∀ x ∈ xs, x.py.depth ≤ n) → PyData.depthAll (D.pyAll xs) ≤ n
  | [], _ => by simp [D.pyAll, PyData.depthAll]
  | x :: xs, h => by
    have h1 := h x List.mem_cons_self
    have h2 := depthAll_of (fun y hy => h y (List.mem_cons_of_mem x hy))
    unfold D.pyAll PyData.depthAll
    omega
theorem fl_all {n : Nat} {d : D} (h : Fl n d) : d.pure = true ∧ d.py.canLay0 = true ∧ d.py.depth ≤ n := by
  induction h with
  | non => exact ⟨by simp [D.pure], by simp [D.py, PyData.canLay0], by simp [D.py, PyData.depth]⟩
  | int i => exact ⟨by simp [D.pure], by simp [D.py, PyData.canLay0], by simp [D.py, PyData.depth]⟩
  | str h => exact ⟨by simp [D.pure], by simpa [D.py, PyData.canLay0] using h, by simp [D.py, PyData.depth]⟩
  | lst h ih =>
    refine ⟨by unfold D.pure; exact pureAll_of fun x hx => (ih x hx).1, by unfold D.py PyData.canLay0; exact layAll_of fun x hx => (ih x hx).2.1, ?_⟩
    have := depthAll_of fun x hx => (ih x hx).2.2
    unfold D.py PyData.depth
    omega
  | tup h ih =>
    refine ⟨by unfold D.pure; exact pureAll_of fun x hx => (ih x hx).1, by unfold D.py PyData.canLay0; exact layAll_of fun x hx => (ih x hx).2.1, ?_⟩
    have := depthAll_of fun x hx => (ih x hx).2.2
    unfold D.py PyData.depth
    omega
theorem fl_ok {n : Nat} {d : D} (h : Fl n d) (hn : n ≤ 64) : d.ok = true := by
  obtain ⟨a, b, c⟩ := fl_all h
  unfold D.ok SeqAt.shaped
  rw [a, b, decide_eq_true (by omega)]
  rfl
theorem eqvAll_refl : ∀ {xs : List D}, (∀ x ∈ xs, deq x x = true) → PyData.eqvAll (D.pyAll xs) (D.pyAll xs) = true
  | [], _ => by simp [D.pyAll, PyData.eqvAll]
  | x :: xs, h => by
    unfold D.pyAll PyData.eqvAll
    have h1 := h x List.mem_cons_self
    unfold deq at h1
    rw [h1, eqvAll_refl (fun y hy => h y (List.mem_cons_of_mem _ hy))]
    rfl
theorem deq_self {n : Nat} {d : D} (h : Fl n d) : deq d d = true := by
  induction h with
  | non => simp [deq, D.py, PyData.eqv]
  | int i => simp [deq, D.py, PyData.eqv]
  | str h => simp [deq, D.py, PyData.eqv]
  | lst h ih =>
    unfold deq D.py PyData.eqv
    exact eqvAll_refl ih
  | tup h ih =>
    unfold deq D.py PyData.eqv
    exact eqvAll_refl ih
theorem eqvAll_inj {n m : Nat} : ∀ {xs ys : List D}, (∀ x ∈ xs, ∀ y, Fl m y → deq x y = true → x = y) → (∀ y ∈ ys, Fl m y) → PyData.eqvAll (D.pyAll xs) (D.pyAll ys) = true → xs = ys
  | [], [], _, _, _ => rfl
  | [], y :: ys, _, _, h => by simp [D.pyAll, PyData.eqvAll] at h
  | x :: xs, [], _, _, h => by simp [D.pyAll, PyData.eqvAll] at h
  | x :: xs, y :: ys, h1, h2, h => by
    unfold D.pyAll PyData.eqvAll at h
    rw [Bool.and_eq_true] at h
    rw [h1 x List.mem_cons_self y (h2 y List.mem_cons_self) h.1, eqvAll_inj (fun z hz => h1 z (List.mem_cons_of_mem _ hz)) (fun z hz => h2 z (List.mem_cons_of_mem _ hz)) h.2]
    exact n
theorem deq_inj {n : Nat} {d : D} (h : Fl n d) : ∀ {m : Nat} {e : D}, Fl m e → deq d e = true → d = e := by
  induction h with
  | non => intro m e he h; cases he <;> first | rfl | (simp [deq, D.py, PyData.eqv] at h)
  | int i => intro m e he h; cases he <;> first | (simp [deq, D.py, PyData.eqv] at h; done) | (simp [deq, D.py, PyData.eqv] at h; rw [h])
  | str _ => intro m e he h; cases he <;> first | (simp [deq, D.py, PyData.eqv] at h; done) | (simp [deq, D.py, PyData.eqv] at h; rw [h])
  | lst hx ih =>
    intro m e he h
    cases he with
    | lst hy =>
      unfold deq D.py PyData.eqv at h
      rw [eqvAll_inj (n := 0) (fun x hx y hy h => ih x hx hy h) hy h]
    | _ => simp [deq, D.py, PyData.eqv] at h
  | tup hx ih =>
    intro m e he h
    cases he with
    | tup hy =>
      unfold deq D.py PyData.eqv at h
      rw [eqvAll_inj (n := 0) (fun x hx y hy h => ih x hx hy h) hy h]
    | _ => simp [deq, D.py, PyData.eqv] at h
theorem fl_res {n : Nat} {d : D} {O : Ow} (h : Fl n d) : res O d = d := by cases h <;> rfl
theorem Fl.mono {n : Nat} {d : D} (h : Fl n d) : ∀ {m : Nat}, n ≤ m → Fl m d := by
  induction h with
  | non => intro m _; exact .non
  | int i => intro m _; exact .int i
  | str h => intro m _; exact .str h
  | @lst n xs h ih =>
    intro m l
    obtain ⟨k, rfl⟩ : ∃ k, m = k + 1 := ⟨m - 1, by omega⟩
    exact .lst fun x hx => ih x hx (by omega)
  | @tup n xs h ih =>
    intro m l
    obtain ⟨k, rfl⟩ : ∃ k, m = k + 1 := ⟨m - 1, by omega⟩
    exact .tup fun x hx => ih x hx (by omega)
section
variable {O : Ow} {k : DK} {n : Nat} {x y : D}
theorem qe_same (h : Fl n x) (hn : n ≤ 64) (hk : k (.bl true) O) : qEq false x x O k := by
  unfold qEq
  rw [fl_res h, fl_ok h hn, deq_self h]
  exact ⟨rfl, rfl, hk⟩
theorem qn_same (h : Fl n x) (hn : n ≤ 64) (hk : k (.bl false) O) : qEq true x x O k := by
  unfold qEq
  rw [fl_res h, fl_ok h hn, deq_self h]
  exact ⟨rfl, rfl, hk⟩
theorem qe_iff (h : Fl n x) (h' : Fl n y) (hn : n ≤ 64) (hk : ∀ b : Bool, (b = true ↔ x = y) → k (.bl b) O) : qEq false x y O k := by
  unfold qEq
  rw [fl_res h, fl_res h', fl_ok h hn, fl_ok h' hn]
  exact ⟨rfl, rfl, hk _ ⟨fun e => deq_inj h h' e, fun e => by rw [← e]; exact deq_self h⟩⟩
theorem qn_iff (h : Fl n x) (h' : Fl n y) (hn : n ≤ 64) (hk : ∀ b : Bool, (b = true ↔ x = y) → k (.bl (!b)) O) : qEq true x y O k := by
  unfold qEq
  rw [fl_res h, fl_res h', fl_ok h hn, fl_ok h' hn]
  exact ⟨rfl, rfl, hk _ ⟨fun e => deq_inj h h' e, fun e => by rw [← e]; exact deq_self h⟩⟩
end
theorem fl_ints {n : Nat} (ns : List Int) : Fl (n + 1) (.lst (ns.map D.int)) := .lst fun x hx => by
  obtain ⟨i, _, rfl⟩ := List.mem_map.mp hx
  exact .int i
theorem fl_lints {n : Nat} {α : Type} (f : α → Int) (l : List α) : Fl (n + 1) (.lst (l.map fun a => D.int (f a))) := .lst fun x hx => by
  obtain ⟨i, _, rfl⟩ := List.mem_map.mp hx
  exact .int _

/-! ### slices by natural ends -/
theorem cut_nat {α : Type} {xs : List α} {a b : Int} (h0 : 0 ≤ a) (h1 : a ≤ b) : cutL xs (some a) (some b) = (xs.drop a.toNat).take (b - a).toNat := by
  obtain ⟨n, rfl⟩ : ∃ n : Nat, a = n := ⟨a.toNat, by omega⟩
  obtain ⟨m, rfl⟩ : ∃ m : Nat, b = m := ⟨b.toNat, by omega⟩
  have l : n ≤ m := by omega
  unfold cutL
  rw [HT.sIx_nat, HT.sIx_nat, show ((n : Int)).toNat = n by omega, show ((m : Int) - (n : Int)).toNat = m - n by omega]
  by_cases h : n ≤ xs.length
  · rw [Nat.min_eq_left h]
    by_cases h2 : m ≤ xs.length
    · rw [Nat.min_eq_left h2]
    · rw [Nat.min_eq_right (by omega)]
      rw [List.take_of_length_le (by rw [List.length_drop]; omega), List.take_of_length_le (by rw [List.length_drop]; omega)]
  · rw [Nat.min_eq_right (by omega : xs.length ≤ n), List.drop_of_length_le (Nat.le_refl _), List.drop_of_length_le (by omega)]
    simp
theorem cut_map {α β : Type} {f : α → β} {xs : List α} {a b : Option Int} : cutL (xs.map f) a b = (cutL xs a b).map f := by
  unfold cutL
  rw [List.length_map, List.map_take, List.map_drop]
/-! ### rows of colours -/
def eC (bs : List Bool) : List D := bs.map fun b => D.str (ch b)
theorem strs_eC (bs : List Bool) : strsOf (eC bs) = some (bs.map ch) := by
  have e : eC bs = (bs.map ch).map D.str := by unfold eC; rw [List.map_map]; rfl
  rw [e, strsOf_map]
theorem cnt_D : ∀ bs : List Bool, (bs.map ch).count (Str.ofString "D") = bs.count true
  | [] => rfl
  | b :: bs => by
    rw [List.map_cons, List.count_cons, List.count_cons, cnt_D bs]
    cases b with
    | true => rfl
    | false =>
      have : (ch false == Str.ofString "D") = false := by decide +kernel
      rw [this]
      rfl
theorem eC_app (a b : List Bool) : eC a ++ eC b = eC (a ++ b) := (List.map_append).symm
theorem eC_len (bs : List Bool) : (eC bs).length = bs.length := List.length_map _
theorem eC_cut (bs : List Bool) (a b : Option Int) : cutL (eC bs) a b = eC (cutL bs a b) := cut_map
theorem ld_len : (Str.ofString "LD").length ≤ sizeLine := by decide +kernel
theorem ld_ix (b : Bool) : ∃ c, atI (Str.ofString "LD").cps.toList (if b = true then 1 else 0) = some c ∧ (⟨#[c]⟩ : Str) = ch b := by
  have e0 : (Str.ofString "LD").cps.toList = [76, 68] := by decide +kernel
  rw [e0]
  cases b with
  | true =>
    rw [if_pos rfl, atI1]
    exact ⟨_, rfl, by decide +kernel⟩
  | false =>
    rw [if_neg (by decide), atI0]
    exact ⟨_, rfl, by decide +kernel⟩
end DL
namespace DL
open PySem PySem.Spec PyProof.Rows L2 Evl
section
variable {α : Type} {g : DG} {tt : DB} {te : DT} {vs : List Nat} {ds : Ds} {O : Ow} {k : DK} {tb : DSr} {E : DEnds}
theorem compX_rng (m : Nat) (f : Nat → D) (hl : m < sizeLine)
    (hst : ∀ i : Nat, i < m → ∀ R1 : DK, R1 (f i) O → g (.int (i : Int)) (dwipe ds vs) O fun ds' O' => te ds' O' R1) (hk : k (.lst ((List.range m).map f)) O) :
    dLcX (List.map (fun i => D.int ((i : Nat) : Int)) (List.range m)) g dYes te vs ds O k :=
  compX_mp (fun i : Nat => D.int (i : Int)) (List.range m) f (by rw [List.length_range]; exact hl) (fun i hi R1 h1 => hst i (List.mem_range.mp hi) R1 h1) hk
theorem compX_rng2 (lo : Int) (m : Nat) (f : Nat → D) (hl : m < sizeLine)
    (hst : ∀ i : Nat, i < m → ∀ R1 : DK, R1 (f i) O → g (.int (lo + (i : Int))) (dwipe ds vs) O fun ds' O' => te ds' O' R1) (hk : k (.lst ((List.range m).map f)) O) :
    dLcX (List.map (fun i => D.int (lo + ((i : Nat) : Int))) (List.range m)) g dYes te vs ds O k :=
  compX_mp (fun i : Nat => D.int (lo + (i : Int))) (List.range m) f (by rw [List.length_range]; exact hl) (fun i hi R1 h1 => hst i (List.mem_range.mp hi) R1 h1) hk
theorem loopX_rng2 (lo : Int) (m : Nat) (De : Nat → Ds → Ow → Prop) (h0 : De 0 ds O)
    (hst : ∀ (i : Nat) ds O, i < m → De i ds O → ∀ R : Ds → Ow → Prop, (∀ ds' O', De (i + 1) ds' O' → R ds' O') → g (.int (lo + (i : Int))) ds O fun ds' O' => tb { E with nx := R, ct := R, bk := E.nx } ds' O')
    (hd : ∀ ds O, De m ds O → E.nx ds O) : dForX (List.map (fun i => D.int (lo + ((i : Nat) : Int))) (List.range m)) g tb E ds O := by
  refine loopX_map (fun i : Nat => D.int (lo + (i : Int))) (List.range m) (fun (_ : Unit) _ => ()) (fun i _ => De i) () h0 (fun i s x ds O hx h R hR => ?_) (fun ds O h => hd ds O ?_)
  · obtain ⟨l, e⟩ := List.getElem?_eq_some_iff.mp hx
    rw [List.length_range] at l
    rw [List.getElem_range] at e
    rw [← e]
    exact hst i ds O l h R hR
  · rw [List.length_range] at h
    exact h
theorem atK_rng {m : Nat} {f : Nat → D} {i : Int} (h0 : 0 ≤ i) (h1 : i < m) : atK ((List.range m).map f) i O k = k (f i.toNat) O := by
  have e : ((List.range m).map f)[i.toNat]? = some (f i.toNat) := by
    rw [List.getElem?_map, List.getElem?_eq_getElem (by rw [List.length_range]; omega), List.getElem_range]
    rfl
  rw [atK_of (atI_int h0 e)]
theorem tn1 (n : Nat) : ((n : Int) + 1).toNat = n + 1 := by omega
theorem tn0 (n : Nat) : ((n : Int)).toNat = n := by omega
end
/-! ### how many in a window of a ring -/
def cntW (bs : List Bool) (sp sz : Nat) : Nat := (((bs ++ bs).drop sp).take sz).count true
def rowN (bs : List Bool) (sz : Nat) : List Int := (List.range bs.length).map fun sp => ((cntW bs sp sz : Nat) : Int)
def rowD (bs : List Bool) (sz : Nat) : D := .lst ((rowN bs sz).map D.int)
def tableD (bs : List Bool) : List D := (List.range (bs.length + 1)).map (rowD bs)
theorem rowN_get {bs : List Bool} {sz i : Nat} (h : i < bs.length) : (rowN bs sz)[i]? = some ((cntW bs i sz : Nat) : Int) := by
  unfold rowN
  rw [List.getElem?_map, List.getElem?_eq_getElem (by rw [List.length_range]; exact h), List.getElem_range]
  rfl
theorem rowN_mem {bs : List Bool} {sz : Nat} {x : Int} (h : x ∈ rowN bs sz) : ∃ i, i < bs.length ∧ x = ((cntW bs i sz : Nat) : Int) := by
  unfold rowN at h
  obtain ⟨i, hi, rfl⟩ := List.mem_map.mp h
  exact ⟨i, List.mem_range.mp hi, rfl⟩
theorem rowN_len {bs : List Bool} {sz : Nat} : (rowN bs sz).length = bs.length := by
  unfold rowN
  rw [List.length_map, List.length_range]
/-- how many among the first -/
def pre1 (l : List Bool) (j : Nat) : Nat := (l.take j).count true
theorem pre1_zero (l : List Bool) : pre1 l 0 = 0 := by simp [pre1]
theorem pre1_succ {l : List Bool} {j : Nat} {b : Bool} (h : l[j]? = some b) : pre1 l (j + 1) = pre1 l j + if b = true then 1 else 0 := by
  unfold pre1
  rw [take_next h, List.count_append]
  cases b <;> simp
theorem pre1_cut (l : List Bool) (a b : Nat) : ((l.drop a).take b).count true + pre1 l a = pre1 l (a + b) := by
  unfold pre1
  rw [List.take_add, List.count_append]
  omega
theorem cntW_pre (bs : List Bool) (a b : Nat) : ((cntW bs a b : Nat) : Int) = (pre1 (bs ++ bs) (a + b) : Nat) - (pre1 (bs ++ bs) a : Nat) := by
  have := pre1_cut (bs ++ bs) a b
  unfold cntW
  omega
end DL
namespace DL
open PySem PySem.Spec PyProof.Rows L2 Evl
/-! ### an int among ints -/
def qInI (neg : Bool) : DR2 := fun x y O k => match x, (itemsIn O y).bind intsOf with
  | .int s, some ss => k (.bl (if neg then !decide (s ∈ ss) else decide (s ∈ ss))) O
  | _, _ => False
theorem inV_int (s : Int) : ∀ ss : List Int, inV (.int s) (ss.map V.int) = decide (s ∈ ss)
  | [] => by simp [inV]
  | t :: ss => by
    have ih := inV_int s ss
    unfold inV at ih ⊢
    rw [List.map_cons, List.any_cons, ih]
    by_cases e : t = s
    · subst e
      have : eqV (.int t) (.int t) = true := by simp [eqV]
      rw [this]
      simp
    · have : eqV (.int t) (.int s) = false := by simp [eqV, e]
      rw [this]
      have e' : ¬ s = t := fun z => e z.symm
      simp [e']
theorem flat_ints : ∀ ss : List Int, (ss.map V.int).all flatV = true
  | [] => rfl
  | s :: ss => by
    rw [List.map_cons, List.all_cons, flat_ints ss]
    rfl
theorem lr_inI {K : PySem.W.Frag} (neg : Bool) : LiftR K (rIn K neg) (qInI neg) := by
  intro x y O k h G H v u Q ok hx hy c
  unfold qInI at h
  split at h
  · rename_i s ss e
    cases hx
    cases q : itemsIn O y with
    | none => rw [q] at e; cases e
    | some xs =>
      rw [q] at e
      have e' : intsOf xs = some ss := e
      have ex := intsOf_eq e'
      subst ex
      unfold itemsIn at q
      split at q
      · rename_i ys r
        cases q
        obtain ⟨a, vs, rfl, a1, a2⟩ := res_lst ok hy r
        have z := a2.ints
        subst z
        exact ⟨a, _, rfl, .inl (SqL.of a1), rfl, flat_ints ss, by rw [inV_int]; exact c _ O _ G H h Stp.refl ok (.bl _)⟩
      · rename_i ys r
        cases q
        obtain ⟨a, vs, rfl, a1, a2⟩ := res_tup ok hy r
        have z := a2.ints
        subst z
        exact ⟨a, _, rfl, .inr a1, rfl, flat_ints ss, by rw [inV_int]; exact c _ O _ G H h Stp.refl ok (.bl _)⟩
      · cases q
  · exact h.elim
section
variable {X : Cx} {W : WX} {ex : EX} {a b : Expr} {pos : Pos} {t u : DT}
theorem de_inI (ha : DE X W ex a t) (hb : DE X W ex b u) (hm : behindInMarks .In b = false := by with_unfolding_all rfl) : DE X W ex (.Compare a [.In] [b] pos) (dOp (qInI false) t u) := de_cmp op_in_seq (lr_inI false) ha hb hm
theorem de_notinI (ha : DE X W ex a t) (hb : DE X W ex b u) (hm : behindInMarks .NotIn b = false := by with_unfolding_all rfl) : DE X W ex (.Compare a [.NotIn] [b] pos) (dOp (qInI true) t u) := de_cmp op_notIn_seq (lr_inI true) ha hb hm
theorem dt_inI (ha : DE X W ex a t) (hb : DE X W ex b u) (hm : behindInMarks .In b = false := by with_unfolding_all rfl) : DTe X W ex (.Compare a [.In] [b] pos) (dTst (dOp (qInI false) t u)) := dt_cmp op_in_seq (lr_inI false) ha hb hm
theorem dt_notinI (ha : DE X W ex a t) (hb : DE X W ex b u) (hm : behindInMarks .NotIn b = false := by with_unfolding_all rfl) : DTe X W ex (.Compare a [.NotIn] [b] pos) (dTst (dOp (qInI true) t u)) := dt_cmp op_notIn_seq (lr_inI true) ha hb hm
end
section
variable {O : Ow} {k : DK} {s : Int} {ss : List Int}
theorem qin_ints {neg : Bool} : qInI neg (.int s) (.lst (ss.map D.int)) O k = k (.bl (if neg then !decide (s ∈ ss) else decide (s ∈ ss))) O := by
  unfold qInI itemsIn
  simp only [rs_lst, Option.bind_some, intsOf_map]
theorem qin_2 {neg : Bool} {x y : Int} : qInI neg (.int s) (.lst [.int x, .int y]) O k = k (.bl (if neg then !decide (s ∈ [x, y]) else decide (s ∈ [x, y]))) O := qin_ints (ss := [x, y])
end
end DL
namespace DL
open PySem PySem.Spec PyProof.Rows L2 Evl
theorem szL {n : Nat} (h : n ≤ 100000) : n < sizeLine := Nat.lt_of_le_of_lt h (by decide)
theorem szE {n : Nat} (h : n ≤ 100000) : n ≤ sizeLine := Nat.le_of_lt (szL h)
section
variable {O : Ow} {k : DK} {lo hi : Option Int}
theorem qsl_lst {xs : List D} : qSl (.lst xs) lo hi O k = k (.lst (cutL xs lo hi)) O := rfl
theorem qsl_tup {xs : List D} : qSl (.tup xs) lo hi O k = k (.tup (cutL xs lo hi)) O := rfl
end
end DL
namespace DL
open PySem PySem.Spec PyProof.Rows L2 Evl
section
variable {O : Ow} {k : DK} {ns : List Int}
theorem qmaxL_ints : qMaxL [.lst (ns.map D.int)] O k = (0 < ns.length ∧ ∀ m, m ∈ ns → (∀ y, y ∈ ns → y ≤ m) → k (.int m) O) := by
  unfold qMaxL DL.listOf
  simp only [rs_lst, Option.bind_some, intsOf_map]
theorem qminL_ints : qMinL [.lst (ns.map D.int)] O k = (0 < ns.length ∧ ∀ m, m ∈ ns → (∀ y, y ∈ ns → m ≤ y) → k (.int m) O) := by
  unfold qMinL DL.listOf
  simp only [rs_lst, Option.bind_some, intsOf_map]
end
end DL
namespace DL
open PySem PySem.Spec PyProof.Rows L2 Evl

/-! ### set(a list of ints), its members in order -/
abbrev freshSet (w : World) : Obj := { cls := .type "set", dict := none, data := .set #[] 0 (.fresh 0 0 (!w.params.followText "set-order")) }
section
variable {P : Program} {w : World} {A : Around} {E : Value → Shared → Prop} {s : Shared}
/-- what is there afterwards -/
def GotSet (w : World) (s : Shared) (ns : List Int) (s2 : Shared) : Prop := ∃ h2 t2 c, s2 = { s with heap := h2, toks := t2 } ∧ SetR w h2 s.heap.objs.size (fun j => decide (j ∈ ns)) c ∧ c ≤ ns.length ∧ ∀ b o, s.heap.get? b = some o → h2.get? b = some o
theorem set_of_list {l : Addr} {vs : Array Value} (ns : List Int) {Q : Value → Shared → Prop} (free : A.handled = none) (hl : s.heap.IsList l vs) (iAre : IntsAre vs.toList ns) (room : ns.length + 1 < scanBound)
    (fin : ∀ s2, GotSet w s ns s2 → Q (.ref s.heap.objs.size) s2) : wpAny (model P w) A (call (.type "set") [.ref l]) Q E s := by
  have size : vs.size = ns.length := by
    have e := IntsAre.length iAre
    rwa [Array.length_toList] at e
  have ⟨c0, tl0, mro0⟩ := F.called_set.mro
  have made0 := F.called_set.made
  have sub0 := F.called_set.sub
  have nt0 := F.called_set.notType
  have cc0 := F.called_set.canCreate
  have tc0 := F.typeCall_set_1 (.ref l)
  refine wpAny_call (codeAny_of_tree (wpAny_pure ⟨Code.quiet_builtin _ (by decide +kernel), codeAny_builtin F.entry_type_call ?_⟩))
  rw [Around.under_plain (weight_type_call_type "set" [.ref l] []) rfl]
  repeat (any_goals (first | assumption | wp_step))
  refine codeAny_mono (code_set_led1 (.ref l) (E := E) (Q₁ := fun obj s1 => obj = .ref s.heap.objs.size ∧ s1 = { s with heap := s.heap.push (freshSet w) }) ⟨rfl, rfl⟩) fun r s1 made => ?_
  match r, made with
  | .error e, made => exact made
  | .ok (.ret obj), made =>
    obtain ⟨rfl, rfl⟩ := made
    have at0 : (s.heap.push (freshSet w)).get? s.heap.objs.size = some (freshSet w) := Heap.get?_push_size _ rfl
    have ty0 : Shared.TypeIs { s with heap := s.heap.push (freshSet w) } (.ref s.heap.objs.size) "set" := ⟨_, at0, rfl⟩
    have lk0 := F.called_set.init.lookup
    have bd0 := F.called_set.init.bind (.ref s.heap.objs.size)
    repeat (any_goals (first | assumption | wp_step))
    refine codeAny_mono (codeAny_call_builtin (R := wants (fun r s2 => r = .none ∧ GotSet w s ns s2) E) F.called_set.init.plain F.entry_set_init (check_set_init_1 ty0 ?_)) fun r2 s2 got => ?_
    · obtain ⟨⟨cls1, dict1, data1, slots1⟩, ho, hc, n1, hd⟩ := hl
      simp only at hc hd
      subst hc hd
      have ho1 : (s.heap.push (freshSet w)).get? l = some { cls := .type "list", dict := dict1, data := .seq vs n1, slots := slots1 } := Heap.get?_push_of_some _ ho
      have a1 := F.sub_list_set
      have a2 := F.sub_list_frozenset
      have a3 : (Value.type "list" == Value.type "dict") = false := by decide
      have hl1 : (s.heap.push (freshSet w)).IsList l vs := ⟨_, ho1, rfl, n1, rfl⟩
      unfold Builtin.«set.__init__» noKeywords Builtin.Frozenset.updateFrom
      generalize keep : pyIter = it0
      wp_walk
      subst keep
      refine wpAny_pyIter_list hl1 (wpAny_bind (wpAny_runValue ?_))
      have lt0 : l < s.heap.objs.size := Heap.lt_size ho
      have sz1 : (s.heap.push (freshSet w)).objs.size = s.heap.objs.size + 1 := Heap.size_push ..
      have ne1 : l ≠ (s.heap.push (freshSet w)).objs.size := by
        rw [sz1]
        exact Nat.ne_of_lt (Nat.lt_succ_of_lt lt0)
      have out1 : s.heap.objs.size ∉ [(s.heap.push (freshSet w)).objs.size, l] := by
        rw [sz1]
        simp only [List.mem_cons, List.not_mem_nil, or_false, not_or]
        exact ⟨Nat.ne_of_lt (Nat.lt_succ_self _), Nat.ne_of_gt lt0⟩
      have free3 : A.in1.in1.in1.handled = none := by simp [free]
      have vals : ∀ (i : Nat) (v : Value), vs[i]? = some v → ∃ k t, ns[i]? = some k ∧ v = .int k t := fun i v hv => by
        have hi : i < ns.length := by have := (Array.getElem?_eq_some_iff.mp hv).1; omega
        obtain ⟨t, e⟩ := PyProof.Rows.IntsAre.int_at iAre i v (by rw [Array.getElem?_toList]; exact hv)
        exact ⟨ns[i], t, List.getElem?_eq_getElem hi, by rw [e, List.getD_eq_getElem?_getD, List.getElem?_eq_getElem hi]; rfl⟩
      refine set_update_ints ((Walks.list free3 _ l ne1 vs).toS) s.heap.objs.size out1 ns size room vals _ 0 _ rfl (Nat.zero_le _) ⟨⟨_, Heap.get?_push_size _ rfl, rfl, rfl⟩, hl1.push _⟩ ⟨0, Nat.le_refl 0, setR_new_at (Heap.get?_push_of_some _ at0)⟩ ?_
      rintro ⟨h3, g3, d3, t3, o3⟩ c3 hm hc3 hS3
      have eg : g3 = s.gens := hm.gens
      have ed : d3 = s.drawn := hm.drawn
      have eo : o3 = s.os := hm.os
      subst eg ed eo
      refine wpAny_pure (wpAny_pure ⟨rfl, h3, t3, c3, rfl, hS3, by omega, fun b o e => ?_⟩)
      have b0 : b < s.heap.objs.size := Heap.lt_size e
      exact hm.heap b o (by rw [sz1]; simp only [List.mem_cons, List.not_mem_nil, or_false, not_or]; exact ⟨Nat.ne_of_lt b0, Nat.ne_of_lt (Nat.lt_succ_of_lt b0)⟩) (Heap.get?_push_of_some _ (Heap.get?_push_of_some _ e))
    · match r2, got with
      | .error e, got => exact got
      | .ok (.ret r), got =>
        obtain ⟨rfl, got⟩ := got
        obtain ⟨h2, t2, c2, rfl, g3⟩ := id got
        repeat (any_goals (first | assumption | wp_step))
        exact fin _ got
end
end DL
namespace DL
open PySem PySem.Spec PyProof.Rows L2 Evl

/-! ### sorted(set(list of ints)) -/
def rSetI (K : PySem.W.Frag) (w : World) : List V → Hp → VK → Prop := fun xs H Q => ∃ (l : Addr) (ns : List Int), xs = [.ref l] ∧ SqL K H l (ns.map V.int) ∧ ns.length ≤ 62 ∧ ∀ p c, H p = none → c ≤ ns.length → Q (.ref p) (upd H p (SetO w p (fun j => decide (j ∈ ns)) c))
section
variable {X : Cx}
theorem cr_setI (hc : X.calm = true) : CallR X (.type "set") (rSetI X.K X.w) := by
  intro pins s σ H xs us Q I r h
  obtain ⟨l, ns, rfl, hs, hn, q⟩ := h
  obtain ⟨its, rv, pl, hz⟩ := I.list hs
  rw [Vals.ref1 r]
  refine set_of_list ns (I.ok.hd hc) pl.isList (by simpa using ints_of_vals rv) (by unfold scanBound; omega) fun s2 got => ?_
  obtain ⟨h2, t2, c, rfl, hS, hc2, hk⟩ := got
  exact ⟨.ref _, upd H s.heap.objs.size (SetO X.w s.heap.objs.size (fun j => decide (j ∈ ns)) c), I.laid (t' := t2) (fun b o e => hk b o e) (Nat.le_refl _) (setO_new hS), rfl, q _ c (I.hok.fresh (Nat.le_refl _)) hc2⟩
end
def qSSet : DRC := fun xs O k => match xs with
  | [d] => (match (listOf O d).bind intsOf with
    | some ns => ns.length ≤ 62 ∧ ∀ ns' : List Int, ns'.Pairwise (· < ·) → (∀ j : Int, j ∈ ns' ↔ j ∈ ns) → k (.lst (ns'.map D.int)) O
    | none => False)
  | _ => False
section
variable {X : Cx} {W : WX} {ex : EX} {e : Expr} {p p2 q1 q2 : Pos} {t : DA}
theorem de_sset (hc : X.calm = true) (hm : X.mg "sorted" = none) (hm2 : X.mg "set" = none) (ha : DAs X W ex [e] t) (hg : Gl X "sorted" := by rfl) (hg2 : Gl X "set" := by rfl)
    (he : starEach [e] X.env = (false, eval e X.env) :: starEach [] X.env := by rfl) (hpl : (backTo q2 (starEach [] X.env)).any (·.1) = false := by rfl)
    (he2 : starEach [.Call (.Name "set" p2) [e] [] q2] X.env = (false, eval (.Call (.Name "set" p2) [e] [] q2) X.env) :: starEach [] X.env := by rfl) (hpl2 : (backTo q1 (starEach [] X.env)).any (·.1) = false := by rfl) :
    DE X W ex (.Call (.Name "sorted" p) [.Call (.Name "set" p2) [e] [] q2] [] q1) (dCB qSSet t) := by
  obtain ⟨ta, h1, l1⟩ := ha
  have a1 := pe_callTy (p := p2) (cr_setI hc) hg2 hm2 (by decide +kernel) h1 (by decide) (by decide) he hpl
  have a2 := pe_callB (p := p) (cr_sortedSet hc) hg hm (by decide +kernel) (pa_cons a1 pa_nil he2) (by decide) (by decide) he2 hpl2
  refine ⟨_, a2, fun ds O k h G H σ Q ok rp x c => l1 ds O _ h G H σ _ ok rp x fun xs O1 vs G1 H1 h2 s1 ok1 d1 => ?_⟩
  unfold qSSet at h2
  dsimp only at h2
  split at h2
  · obtain ⟨v, rfl, hd⟩ := one_of d1
    split at h2
    · rename_i ns e1
      obtain ⟨a, rfl, hs⟩ := ints_of ok1 hd e1
      refine ⟨a, ns, rfl, hs, h2.1, fun p c' hp hc' => ⟨p, _, c', rfl, upd_same, by omega, fun ns' p' hpw hmem _ hp' => ?_⟩⟩
      have ok2 := mutOk (o := SetO X.w p (fun j => decide (j ∈ ns)) c') ok1 (ok1.gnone hp) (ok1.none_of hp)
      have s2 := mutStp (o := SetO X.w p (fun j => decide (j ∈ ns)) c') (Stp.refl (G := G1) (H := H1) (O := O1)) hp
      obtain ⟨ok3, s3, e3⟩ := frozen (o := .lst (ns'.map V.int)) ok2 hp'
      exact c _ O1 _ _ _ (h2.2 ns' hpw fun j => by rw [hmem j]; simp) ((s1.trans s2).trans s3) ok3 (.lst upd_same (DnAll.ofInts _))
    · exact h2.elim
  · exact h2.elim
end

/-! ### list(range(a, b)) -/
def rListR : List V → Hp → VK → Prop := fun xs H Q => ∃ (a : Addr) (i j : Int), xs = [.ref a] ∧ H a = some (.rng i j) ∧ -(2 ^ 62) ≤ i ∧ i < 2 ^ 62 ∧ -(2 ^ 62) ≤ j ∧ j < 2 ^ 62 ∧ (j - i).toNat ≤ 100000 ∧
  ∀ p, H p = none → Q (.ref p) (upd H p (.lst ((List.range (j - i).toNat).map fun m : Nat => V.int (i + (m : Int)))))
theorem vals_nth : ∀ {us : List Value} {vs : List V}, us.length = vs.length → (∀ (j : Nat) (u : Value) (v : V), us[j]? = some u → vs[j]? = some v → RelV v u) → Vals vs us
  | [], [], _, _ => .nil
  | u :: us, v :: vs, hl, h => .cons (h 0 u v rfl rfl) (vals_nth (by simpa using hl) fun j u' v' a b => h (j + 1) u' v' a b)
section
variable {X : Cx}
theorem cr_listR (hc : X.calm = true) : CallR X (.type "list") rListR := by
  intro pins s σ H xs us Q I r h
  obtain ⟨a, i, j, rfl, ha, b1, b2, b3, b4, hn, q⟩ := h
  obtain ⟨t1, t2, t3, ho⟩ := I.hok a _ ha
  rw [Vals.ref1 r]
  refine call_list_range (n := (j - i).toNat) (I.ok.hd hc) ho (small_one b1 b2 b3 b4) (rangeSize_nat i j) (by omega) fun h' tk acc c' hk hS hi => ?_
  refine ⟨.ref _, _, I.laid (t' := tk) (o := .lst ((List.range (j - i).toNat).map fun m : Nat => V.int (i + (m : Int)))) (fun b o e => hk b o e) (Nat.le_refl _) ⟨?_, acc.toList, c', ?_, by simpa using hS⟩, rfl, q _ (I.hok.fresh (Nat.le_refl _))⟩
  · rw [List.length_map, List.length_range]
    exact szE hn
  · refine vals_nth ?_ fun m u v hu hv => ?_
    · rw [Array.length_toList, hi.1, List.length_map, List.length_range]
    · obtain ⟨hm, rfl⟩ := range_get hv
      rw [Array.getElem?_toList] at hu
      obtain ⟨t, e⟩ := hi.2 m u hu
      rw [Int.mul_one] at e
      exact ⟨t, e⟩
end
def qListR : DRC := fun xs O k => match xs with
  | [.int i, .int j] => (-(2 ^ 62) ≤ i ∧ i < 2 ^ 62 ∧ -(2 ^ 62) ≤ j ∧ j < 2 ^ 62) ∧ (j - i).toNat ≤ 100000 ∧ k (.lst ((List.range (j - i).toNat).map fun m : Nat => D.int (i + (m : Int)))) O
  | _ => False
section
variable {X : Cx} {W : WX} {ex : EX} {a b : Expr} {p p2 q1 q2 : Pos} {t : DA}
theorem de_listR (hc : X.calm = true) (hm : X.mg "list" = none) (hm2 : X.mg "range" = none) (ha : DAs X W ex [a, b] t) (hg : Gl X "list" := by rfl) (hg2 : Gl X "range" := by rfl)
    (he : starEach [a, b] X.env = (false, eval a X.env) :: starEach [b] X.env := by rfl) (hpl : (backTo q2 (starEach [b] X.env)).any (·.1) = false := by rfl)
    (he2 : starEach [.Call (.Name "range" p2) [a, b] [] q2] X.env = (false, eval (.Call (.Name "range" p2) [a, b] [] q2) X.env) :: starEach [] X.env := by rfl) (hpl2 : (backTo q1 (starEach [] X.env)).any (·.1) = false := by rfl) :
    DE X W ex (.Call (.Name "list" p) [.Call (.Name "range" p2) [a, b] [] q2] [] q1) (dCB qListR t) := by
  obtain ⟨ta, h1, l1⟩ := ha
  have a1 := pe_callTy (p := p2) cr_range2 hg2 hm2 (by decide +kernel) h1 (by decide) (by decide) he hpl
  have a2 := pe_callTy (p := p) (cr_listR hc) hg hm (by decide +kernel) (pa_cons a1 pa_nil he2) (by decide) (by decide) he2 hpl2
  refine ⟨_, a2, fun ds O k h G H σ Q ok rp x c => l1 ds O _ h G H σ _ ok rp x fun xs O1 vs G1 H1 h2 s1 ok1 d1 => ?_⟩
  unfold qListR at h2
  dsimp only at h2
  split at h2
  · rename_i i j
    rw [ints2 d1]
    refine ⟨i, j, rfl, fun p hp => ⟨p, i, j, rfl, upd_same, h2.1.1, h2.1.2.1, h2.1.2.2.1, h2.1.2.2.2, h2.2.1, fun p' hp' => ?_⟩⟩
    have ok2 := mutOk (o := .rng i j) ok1 (ok1.gnone hp) (ok1.none_of hp)
    have s2 := mutStp (o := .rng i j) (Stp.refl (G := G1) (H := H1) (O := O1)) hp
    obtain ⟨ok3, s3, e3⟩ := frozen (o := .lst ((List.range (j - i).toNat).map fun m : Nat => V.int (i + (m : Int)))) ok2 hp'
    refine c _ O1 _ _ _ h2.2.2 ((s1.trans s2).trans s3) ok3 (.lst upd_same ?_)
    have e1 : ((List.range (j - i).toNat).map fun m : Nat => V.int (i + (m : Int))) = ((List.range (j - i).toNat).map fun m : Nat => i + (m : Int)).map V.int := by
      rw [List.map_map]
      rfl
    have e2 : ((List.range (j - i).toNat).map fun m : Nat => D.int (i + (m : Int))) = ((List.range (j - i).toNat).map fun m : Nat => i + (m : Int)).map D.int := by
      rw [List.map_map]
      rfl
    rw [e1, e2]
    exact DnAll.ofInts _
  · exact h2.elim
end

/-! ### xs.extend(ys); a cell that changes no more -/
def qExtend : D → List D → Ow → DK → Prop := fun x xs O k => match x, xs with
  | .opq (.ref p), [y] => (match O p, listOf O y with
    | some (.lst ys), some zs => ys.length + zs.length ≤ sizeLine ∧ k .non (oset O p (.lst (ys ++ zs)))
    | _, _ => False)
  | _, _ => False
theorem lm_extend {K : PySem.W.Frag} : LiftM K rExtend qExtend := by
  intro x xs O k h G H v vs Q ok hx hxs c
  unfold qExtend at h
  split at h
  · rename_i p y
    cases hx
    obtain ⟨u, rfl, hy⟩ := one_of hxs
    split at h
    · rename_i ys zs e1 e2
      obtain ⟨_, ws, w1, w2⟩ := ok.own p _ e1
      obtain ⟨b, us, rfl, u1, u2⟩ := listOf_ok ok hy e2
      obtain ⟨ok2, s2⟩ := rewritten (vs := ws ++ us) (xs := ys ++ zs) ok e1 (w2.append u2)
      exact ⟨p, b, ws, us, rfl, rfl, w1, u1, by rw [w2.length, u2.length]; exact h.1, c _ _ _ _ _ h.2 s2 ok2 .non⟩
    · exact h.elim
  · exact h.elim
/-- a local list that changes no more -/
def dVarF (i : Nat) : DT := fun ds O k => match ds[i]? with
  | some (some (.opq (.ref p))) => (match O p with
    | some (.lst xs) => k (.lst xs) (odel O p)
    | _ => False)
  | _ => False
section
variable {X : Cx} {W : WX} {ex : EX} {pos : Pos}
theorem l_varF {K : PySem.W.Frag} (i : Nat) : LiftE K W ex (tVar i) (dVarF i) := by
  intro ds O k h G H σ Q ok r _ c
  unfold dVarF at h
  split at h
  · rename_i p e
    split at h
    · rename_i xs e2
      obtain ⟨v, e1, h1⟩ := r.val i _ e
      cases h1
      obtain ⟨G2, ex2, ok2, s2, d2⟩ := froze ok e2
      exact ⟨_, e1, c _ _ _ _ _ h s2 ok2 d2⟩
    · exact h.elim
  · exact h.elim
theorem de_varF (i : Nat) {x : Str} (hN : X.N[i]? = some x := by rfl) (hv : Vis X.env.scope x := by first | exact Or.inl rfl | exact Or.inr (Or.inl rfl) | exact Or.inr (Or.inr rfl)) (hd : (x == ("__debug__" : Str)) = false := by decide)
    (hcd : (x == ("__classdict__" : Str)) = false := by decide) : DE X W ex (.Name x pos) (dVarF i) := ⟨_, pe_var hN hv hd hcd, l_varF i⟩
end

/-! ### {"a": "b", "c": "d"}[x] -/
def dLook2 (a b c d : Str) (t : DT) : DT := fun ds O k => t ds O fun x O1 => match x with
  | .str s => (s = a ∧ k (.str b) O1) ∨ (s = c ∧ s ≠ a ∧ k (.str d) O1)
  | _ => False
section
variable {X : Cx} {W : WX} {ex : EX} {pos dp : Pos} {i : Expr} {t : DT}
theorem de_look2 {a b c d : Str} {j1 j2 j3 j4 : _} {p1 p2 p3 p4 : Pos} (hac : a ≠ c) (hu : X.A.units + 64 < cLine) (hi : DE X W ex i t) (hs : NoSl i := by first | rfl | (intro; rfl) | (unfold NoSl; rfl)) :
    DE X W ex (.Subscript (.Dict [some (.Constant (.str a) j1 p1), some (.Constant (.str c) j2 p2)] [.Constant (.str b) j3 p3, .Constant (.str d) j4 p4] dp) i pos) (dLook2 a b c d t) := by
  obtain ⟨ti, h1, l1⟩ := hi
  have d1 := pe_disp (X := X) (pos := dp) (pps_cons (pe_str (x := a) (j := j1) (pos := p1)) (pe_str (x := b) (j := j3) (pos := p3)) (pps_cons (pe_str (x := c) (j := j2) (pos := p2)) (pe_str (x := d) (j := j4) (pos := p4)) pps_nil)) rfl rfl (by simp) (by simp)
  refine ⟨_, pe_dget (by omega) d1 h1 hs, fun ds O k h G H σ Q ok rp x cc => ?_⟩
  intro p hp
  refine ⟨upd_same, [(.inr a, .str b), (.inr c, .str d)], rfl, by simp, ?_⟩
  rw [upd_upd]
  generalize hkv : (mergeK [] [((.inr a : Key), V.str b), (.inr c, V.str d)]) = kvs
  have ok2 := mutOk (o := .dK kvs) ok (ok.gnone hp) (ok.none_of hp)
  have s2 := mutStp (o := .dK kvs) (Stp.refl (G := G) (H := H) (O := O)) hp
  have op : O p = none := ok.none_of hp
  refine l1 ds O _ h G (upd H p (.dK kvs)) σ _ ok2 rp (x.after s2) fun y O1 v G1 H1 hy s3 ok3 hv => ?_
  have at1 : H1 p = some (.dK kvs) := s3.h p _ upd_same op
  dsimp only at hy
  split at hy
  · rename_i s
    cases hv
    have mk : kvs = [(.inr a, V.str b), (.inr c, V.str d)] := by
      rw [← hkv]
      simp [mergeK, putK, hac]
    rcases hy with ⟨rfl, hk⟩ | ⟨rfl, hne, hk⟩
    · refine ⟨p, .str b, rfl, ?_, cc _ O1 _ G1 H1 hk (s2.trans s3) ok3 (.str _)⟩
      have := DGet.k (H := H1) (a := p) (kvs := kvs) (k := .inr s) at1
      rw [mk] at this
      simpa [valV, kV] using this
    · refine ⟨p, .str d, rfl, ?_, cc _ O1 _ G1 H1 hk (s2.trans s3) ok3 (.str _)⟩
      have := DGet.k (H := H1) (a := p) (kvs := kvs) (k := .inr s) at1
      rw [mk] at this
      simpa [valV, kV, Ne.symm hne] using this
  · exact hy.elim
end
end DL
namespace DL
open PySem PySem.Spec PyProof.Rows L2 Evl
section
variable {O : Ow} {k : DK} {ns : List Int} {n : Nat} {x y : D}
theorem qsset_ints : qSSet [.lst (ns.map D.int)] O k = (ns.length ≤ 62 ∧ ∀ ns' : List Int, ns'.Pairwise (· < ·) → (∀ j : Int, j ∈ ns' ↔ j ∈ ns) → k (.lst (ns'.map D.int)) O) := by
  unfold qSSet DL.listOf
  simp only [rs_lst, Option.bind_some, intsOf_map]
theorem qsorted_ints : qSorted [.lst (ns.map D.int)] O k = (∀ ns' : List Int, ns'.Perm ns → ns'.Pairwise (· ≤ ·) → k (.lst (ns'.map D.int)) O) := by
  unfold qSorted DL.listOf
  simp only [rs_lst, Option.bind_some, intsOf_map]
theorem qlistR {i j : Int} : qListR [.int i, .int j] O k = ((-(2 ^ 62) ≤ i ∧ i < 2 ^ 62 ∧ -(2 ^ 62) ≤ j ∧ j < 2 ^ 62) ∧ (j - i).toNat ≤ 100000 ∧ k (.lst ((List.range (j - i).toNat).map fun m : Nat => D.int (i + (m : Int)))) O) := rfl
/-- a cell, compared -/
theorem qn_cell {p : Addr} {xs : List D} (hp : O p = some (.lst xs)) (h : Fl n (.lst xs)) (h' : Fl n y) (hn : n ≤ 64) (hk : ∀ b : Bool, (b = true ↔ D.lst xs = y) → k (.bl (!b)) O) : qEq true (.opq (.ref p)) y O k := by
  unfold qEq
  rw [rs_cell hp, fl_res h', fl_ok h hn, fl_ok h' hn]
  exact ⟨rfl, rfl, hk _ ⟨fun e => deq_inj h h' e, fun e => by rw [← e]; exact deq_self h⟩⟩
theorem qe_cell {p : Addr} {xs : List D} (hp : O p = some (.lst xs)) (h : Fl n (.lst xs)) (h' : Fl n y) (hn : n ≤ 64) (hk : ∀ b : Bool, (b = true ↔ D.lst xs = y) → k (.bl b) O) : qEq false (.opq (.ref p)) y O k := by
  unfold qEq
  rw [rs_cell hp, fl_res h', fl_ok h hn, fl_ok h' hn]
  exact ⟨rfl, rfl, hk _ ⟨fun e => deq_inj h h' e, fun e => by rw [← e]; exact deq_self h⟩⟩
theorem ext_cell {p : Addr} {xs zs : List D} (hp : O p = some (.lst xs)) (hl : xs.length + zs.length ≤ sizeLine) (hk : k .non (oset O p (.lst (xs ++ zs)))) : qExtend (.opq (.ref p)) [.lst zs] O k := by
  unfold qExtend DL.listOf
  simp only [hp, rs_lst]
  exact ⟨hl, hk⟩
theorem varF_ {ds : Ds} {i : Nat} {p : Addr} {xs : List D} (h : ds[i]? = some (some (.opq (.ref p)))) (hp : O p = some (.lst xs)) (hk : k (.lst xs) (odel O p)) : dVarF i ds O k := by
  unfold dVarF
  simp only [h, hp]
  exact hk
/-- the run, flat -/
theorem fl_eR (r : Rn) : Fl 1 (eR r) := .tup fun x hx => by
  rcases List.mem_cons.mp hx with rfl | hx
  · exact .str (strOk_ch _)
  · rw [List.mem_singleton.mp hx]
    exact .int _
theorem fl_eL (rs : List Rn) : Fl 2 (.lst (rs.map eR)) := .lst fun x hx => by
  obtain ⟨r, _, rfl⟩ := List.mem_map.mp hx
  exact fl_eR r
theorem fl_nil : Fl (n + 1) (.lst []) := .lst fun x hx => by cases hx
theorem fl_pair (a b : Int) : Fl (n + 1) (.tup [.int a, .int b]) := .tup fun x hx => by
  rcases List.mem_cons.mp hx with rfl | hx
  · exact .int _
  · rw [List.mem_singleton.mp hx]
    exact .int _
/-- the last item of a cell -/
theorem atK_last {xs : List D} {x : D} : atK (xs ++ [x]) (-1) O k = k x O := atK_of at_last
theorem stK_last {p : Addr} {ys : List D} {y x : D} {kk : Ow → Prop} : stK p (ys ++ [y]) (-1) x O kk = kk (oset O p (.lst (ys ++ [x]))) := by
  have h : ixN (ys ++ [y]).length (-1) = some ys.length := by
    unfold ixN
    rw [List.length_append, List.length_singleton, if_neg (by decide), if_pos (by omega)]
    exact congrArg some (by omega)
  rw [stK_of h]
  congr 2
  rw [List.set_append_right _ _ (Nat.le_refl _), Nat.sub_self]
  rfl
theorem atK_cons {xs : List D} {d : D} : atK (d :: xs) 0 O k = k d O := atK0
end
end DL
namespace DL
open PySem PySem.Spec PyProof.Rows L2 Evl

/-! ### a def that calls itself -/
section
variable {P : Program} {w : World} {K : PySem.W.Frag} {mg : Str → Option Value} {base : Heap} {k : Nat} {f : Addr} {fd : FuncData} {ps : List Str}
/-- a promise that nobody asks for -/
theorem fnD_never {S : DSp} (h : ∀ as O q e, ¬ S as O q e) : FnD P w K mg base k f fd ps S := by
  constructor
  · rintro vs H Q E ⟨G, O, as, q, e, _, _, hs, _⟩
    exact absurd hs (h _ _ _ _)
  · intro A outer s H args us vs Q E _ _ _ _ hs
    obtain ⟨G, O, as, q, e, _, _, hs, _⟩ := hs
    exact absurd hs (h _ _ _ _)
end
/-- plain data: None, bools, ints, texts, lists and tuples of them -/
inductive Pd : Nat → D → Prop where
  | non {n} : Pd n .non
  | bl {n} (b : Bool) : Pd n (.bl b)
  | int {n} (i : Int) : Pd n (.int i)
  | str {n} {x : Str} (h : PyData.strOk x = true) : Pd n (.str x)
  | lst {n xs} (l : xs.length ≤ 100000) (h : ∀ x ∈ xs, Pd n x) : Pd (n + 1) (.lst xs)
  | tup {n xs} (l : xs.length ≤ 100000) (h : ∀ x ∈ xs, Pd n x) : Pd (n + 1) (.tup xs)
section
variable {O : Ow} {k : DK}
theorem qe_bl {a b : Bool} : qEq false (.bl a) (.bl b) O k = k (.bl (decide (a = b))) O := by
  unfold qEq
  have h : ∀ c, (D.bl c).ok = true := fun c => by cases c <;> decide +kernel
  have e : deq (.bl a) (.bl b) = decide (a = b) := by cases a <;> cases b <;> decide +kernel
  rw [rs_bl, rs_bl, h, h, e]
  simp
theorem qn_bl {a b : Bool} : qEq true (.bl a) (.bl b) O k = k (.bl (!decide (a = b))) O := by
  unfold qEq
  have h : ∀ c, (D.bl c).ok = true := fun c => by cases c <;> decide +kernel
  have e : deq (.bl a) (.bl b) = decide (a = b) := by cases a <;> cases b <;> decide +kernel
  rw [rs_bl, rs_bl, h, h, e]
  simp
theorem blsOf_rep : ∀ {α : Type} (l : List α), blsOf (l.map fun _ => D.bl true) = some (l.map fun _ => true)
  | _, [] => rfl
  | _, a :: l => by
    show (blsOf (l.map fun _ => D.bl true)).map (fun r => true :: r) = _
    rw [blsOf_rep l]
    rfl
theorem qall_true {α : Type} {l : List α} (h : k (.bl true) O) : qAll [.lst (l.map fun _ => D.bl true)] O k := by
  unfold qAll DL.listOf
  simp only [rs_lst, Option.bind_some, blsOf_rep]
  have e : (l.map fun _ => true).all id = true := by simp
  rw [e]
  exact h
abbrev dLT : D := .tup [.opq (.ty "list"), .opq (.ty "tuple")]
theorem isi_lt_non : qIsiT [.non, .tup [.opq (.ty "list"), .opq (.ty "tuple")]] O k = k (.bl false) O := by
  unfold qIsiT
  simp only [rs_non, ty_non, tysOf, Option.map_some, kitAnyB, kf_NoneType_list, kf_NoneType_tuple]
theorem isi_lt_bl {b : Bool} : qIsiT [.bl b, .tup [.opq (.ty "list"), .opq (.ty "tuple")]] O k = k (.bl false) O := by
  unfold qIsiT
  simp only [rs_bl, ty_bl, tysOf, Option.map_some, kitAnyB, kf_bool_list, kf_bool_tuple]
theorem isi_lt_int {b : Int} : qIsiT [.int b, .tup [.opq (.ty "list"), .opq (.ty "tuple")]] O k = k (.bl false) O := by
  unfold qIsiT
  simp only [rs_int, ty_int, tysOf, Option.map_some, kitAnyB, kf_int_list, kf_int_tuple]
theorem isi_lt_str {b : Str} : qIsiT [.str b, .tup [.opq (.ty "list"), .opq (.ty "tuple")]] O k = k (.bl false) O := by
  unfold qIsiT
  simp only [rs_str, ty_str, tysOf, Option.map_some, kitAnyB, kf_str_list, kf_str_tuple]
theorem isi_lt_lst {b : List D} : qIsiT [.lst b, .tup [.opq (.ty "list"), .opq (.ty "tuple")]] O k = k (.bl true) O := by
  unfold qIsiT
  simp only [rs_lst, ty_lst, tysOf, Option.map_some, kitAnyB, kf_list_list]
theorem isi_lt_tup {b : List D} : qIsiT [.tup b, .tup [.opq (.ty "list"), .opq (.ty "tuple")]] O k = k (.bl true) O := by
  unfold qIsiT
  simp only [rs_tup, ty_tup, tysOf, Option.map_some, kitAnyB, kf_tuple_list, kf_tuple_tuple]
theorem qis_ln {b : List D} : qIs false (.lst b) .non O k = k (.bl false) O := rfl
theorem qis_tn {b : List D} : qIs false (.tup b) .non O k = k (.bl false) O := rfl
theorem qis_bn {b : Bool} : qIs false (.bl b) .non O k = k (.bl false) O := rfl
end
/-! ### xs.pop(i) -/
def qPopAt : D → List D → Ow → DK → Prop := fun x xs O k => match x, xs with
  | .opq (.ref p), [.int i] => (match O p with
    | some (.lst ys) => 0 ≤ i ∧ i < 2 ^ 62 ∧ (match ys[i.toNat]? with | some y => k y (oset O p (.lst (ys.eraseIdx i.toNat))) | none => False)
    | _ => False)
  | _, _ => False
theorem DnAll.erase {K : PySem.W.Frag} {G : Hp} : ∀ {vs : List V} {xs : List D} (n : Nat), DnAll K G vs xs → DnAll K G (vs.eraseIdx n) (xs.eraseIdx n)
  | [], [], _, _ => .nil
  | _ :: _, _ :: _, 0, .cons _ t => t
  | _ :: _, _ :: _, n + 1, .cons h t => .cons h (DnAll.erase n t)
theorem lm_popAt {K : PySem.W.Frag} : LiftM K rPopAt qPopAt := by
  intro x xs O k h G H v vs Q ok hx hxs c
  unfold qPopAt at h
  split at h
  · rename_i p i
    cases hx
    obtain ⟨u, rfl, hy⟩ := one_of hxs
    cases hy
    split at h
    · rename_i ys e
      obtain ⟨h0, h1, h2⟩ := h
      split at h2
      · rename_i y ey
        obtain ⟨_, ws, w1, w2⟩ := ok.own p _ e
        obtain ⟨z, z1, z2⟩ := w2.get ey
        obtain ⟨ok2, s2⟩ := rewritten (vs := ws.eraseIdx i.toNat) (xs := ys.eraseIdx i.toNat) ok e (w2.erase _)
        have hl : i.toNat < ws.length := (List.getElem?_eq_some_iff.mp z1).1
        refine ⟨p, ws, i, i.toNat, z, rfl, rfl, w1, by omega, by omega, seqIndex_of h0 (by omega), z1, c _ _ _ _ _ h2 s2 ok2 z2⟩
      · exact h2.elim
    · exact h.elim
  · exact h.elim
/-! ### a comprehension whose parts move the store -/
section
variable {α : Type} {c : α → D} {l : List α} {g : DG} {tt : DB} {te : DT} {vs : List Nat} {ds : Ds} {O : Ow} {k : DK}
theorem compX_inv (c : α → D) (l : List α) (De : Nat → List D → Ow → Prop) (hl : l.length < sizeLine) (h0 : De 0 [] O)
    (hst : ∀ (i : Nat) (x : α) acc O1, l[i]? = some x → De i acc O1 → ∀ R1 : DK, (∀ y O2, De (i + 1) (acc ++ [y]) O2 → R1 y O2) → g (c x) (dwipe ds vs) O1 fun ds' O2 => te ds' O2 R1)
    (hk : ∀ acc O1, De l.length acc O1 → k (.lst acc) O1) : dLcX (l.map c) g dYes te vs ds O k := by
  refine ⟨by rw [List.length_map]; exact hl, fun i acc O1 => De i acc O1, h0, fun i x acc O1 hx h _ => ?_, fun acc O1 _ h => hk acc O1 (by rw [List.length_map] at h; exact h)⟩
  rw [List.getElem?_map] at hx
  cases q : l[i]? with
  | none => rw [q] at hx; cases hx
  | some a =>
    rw [q] at hx
    cases hx
    exact hst i a acc O1 q h _ fun y O2 hy => hy
end
end DL
namespace DL
open PySem PySem.Spec PyProof.Rows L2 Evl

/-! ### try -/
/-- the plainest reading of statements that lifts to t -/
def sOf (K : PySem.W.Frag) (W : WX) (ex : EX) (t : DSr) : TS := fun D σ H => ∃ E ds O G, t E ds O ∧ Ok K G H O ∧ Rep K G σ ds ∧ ContX K G H O W ex ∧ ContS K G H O E D
theorem sOf_l {K : PySem.W.Frag} {W : WX} {ex : EX} {t : DSr} : LiftS K W ex (sOf K W ex t) t := fun E ds O h G H σ D ok rp x c => ⟨E, ds, O, G, h, ok, rp, x, c⟩
theorem sOf_p {X : Cx} {W : WX} {ex : EX} {st : List Stmt} {t : DSr} (h : DSs X W ex st t) : PSs X st (sOf X.K W ex t) := by
  obtain ⟨ts, p, l⟩ := h
  constructor
  intro pins s σ H D I q
  obtain ⟨E, ds, O, G, h, ok, rp, x, c⟩ := q
  exact p.run pins s σ H D I (l E ds O h G H σ D ok rp x c)
/-- with what an exception bears -/
def LiftP (K : PySem.W.Frag) (ts : TS) (t : DSr) (dd : Option Addr) (pay : Option (Str × D)) : Prop := ∀ E ds O, t E ds O → ∀ G H σ D, Ok K G H O → Rep K G σ ds → Pay K G H dd pay → ContS K G H O E D → ts D σ H
theorem noX_cont {K : PySem.W.Frag} {G H : Hp} {O : Ow} {W : WX} : ContX K G H O W NoX := fun _ _ _ _ _ _ _ h => False.elim h
def DSp' (X : Cx) (st : List Stmt) (t : DSr) (dd : Option Addr) (pay : Option (Str × D)) : Prop := ∃ ts, PSs X st ts ∧ LiftP X.K ts t dd pay
theorem dsp_of {X : Cx} {st : List Stmt} {t : DSr} {dd : Option Addr} {pay : Option (Str × D)} (h : DSs X NoW NoX st t) : DSp' X st t dd pay := by
  obtain ⟨ts, p, l⟩ := h
  exact ⟨ts, p, fun E ds O q G H σ D ok rp _ c => l E ds O q G H σ D ok rp noX_cont c⟩
/-- what the clause wishes, by data -/
def hdX (K : PySem.W.Frag) (c : Value) (su : Xc → Ds → Ow → Prop) (ex : EX) : EX := fun xc ds O => ∃ b, PySem.W.exmOne K xc.cls c = some b ∧ (b = true → su xc ds O) ∧ (b = false → ex xc ds O)
def dTry (K : PySem.W.Frag) (c : Value) (t : EX → DSr) (su : DSr) (ex : EX) : DSr := fun E ds O => t (hdX K c (fun _ ds' O' => su E ds' O') ex) E ds O
def dTryAs (K : PySem.W.Frag) (c : Value) (i : Nat) (t : EX → DSr) (su : Addr → Xc → DSr) (ex : EX) : DSr := fun E ds O =>
  t (hdX K c (fun xc ds' O' => ∀ a : Addr, su a xc { nx := fun d2 O2 => E.nx (d2.set i none) O2, rt := E.rt, bk := fun d2 O2 => E.bk (d2.set i none) O2, ct := fun d2 O2 => E.ct (d2.set i none) O2 } (ds'.set i (some (.opq (.ref a)))) O') ex) E ds O
theorem rep_none {K : PySem.W.Frag} {G : Hp} {σ : L2.St} {ds : Ds} (r : Rep K G σ ds) (i : Nat) : Rep K G (σ.set i none) (ds.set i none) := rep_wipe r [i]
theorem contS_none {K : PySem.W.Frag} {G H : Hp} {O : Ow} {E : DEnds} {D : Ends} (i : Nat) (c : ContS K G H O E D) :
    ContS K G H O { nx := fun d2 O2 => E.nx (d2.set i none) O2, rt := E.rt, bk := fun d2 O2 => E.bk (d2.set i none) O2, ct := fun d2 O2 => E.ct (d2.set i none) O2 } { nx := fun σ' H' => D.nx (σ'.set i none) H', rt := D.rt, bk := fun σ' H' => D.bk (σ'.set i none) H', ct := fun σ' H' => D.ct (σ'.set i none) H' } :=
  ⟨fun ds O' σ G' H' h s ok rp => c.nx _ O' _ G' H' h s ok (rep_none rp i), c.rt, fun ds O' σ G' H' h s ok rp => c.bk _ O' _ G' H' h s ok (rep_none rp i), fun ds O' σ G' H' h s ok rp => c.ct _ O' _ G' H' h s ok (rep_none rp i)⟩
section
variable {X : Cx} {W : WX} {ex : EX} {x n : Str} {c : Value} {body suite : List Stmt} {b₀ : Stmt} {np pos pos' : Pos} {t : EX → DSr}
theorem body_p (hb : ∀ (W' : WX) (pn : List (Addr × Obj)) (xe : Value → Shared → Prop) (ex' : EX), L2N.Takes (X.tr pn xe) W' → PassesOwn (model X.prog X.w) X.A X.env xe → DSs (X.tr pn xe) W' ex' body (t ex')) :
    ∀ (W' : WX) (pn : List (Addr × Obj)) (xe : Value → Shared → Prop), L2N.Takes (X.tr pn xe) W' → PassesOwn (model X.prog X.w) X.A X.env xe → PSs (X.tr pn xe) body (fun D σ H => ∃ ex', sOf X.K W' ex' (t ex') D σ H) := fun W' pn xe tk po =>
  ⟨fun pins s σ H D I ⟨ex', q⟩ => (sOf_p (hb W' pn xe ex' tk po)).run pins s σ H D I q⟩
/-- except C: -/
theorem ds_try {su : DSr} (hs : X.stack = X.env :: X.outer) (hf : X.env.frame = some X.env.locals) (hc : Names X x c) (tk : L2N.Takes X W)
    (hb : ∀ (W' : WX) (pn : List (Addr × Obj)) (xe : Value → Shared → Prop) (ex' : EX), L2N.Takes (X.tr pn xe) W' → PassesOwn (model X.prog X.w) X.A X.env xe → DSs (X.tr pn xe) W' ex' body (t ex'))
    (hsu : ∀ (a : Addr) (oe : Obj) (pn : List (Addr × Obj)), DSs (X.suite a ((a, oe) :: pn)) NoW NoX (b₀ :: suite) su) :
    DSt X W ex (.Try body [.ExceptHandler (some (.Name x np)) none (b₀ :: suite) pos'] [] [] pos) (dTry X.K c t su ex) := by
  refine ⟨_, L2N.ps_try_many hs hf tk (body_p hb) (.cons hc (ts := fun _ _ _ => sOf X.K NoW NoX su) (fun a oe cls d pn _ _ => sOf_p (hsu a oe pn)) .nil), fun E ds O h G H σ D ok rp xc cc => ?_⟩
  refine ⟨hdX X.K c (fun _ ds' O' => su E ds' O') ex, E, ds, O, G, h, ok, rp, ?_, cc⟩
  intro c' ds' O' σ' dd G' H' hx st ok' rp' pay
  obtain ⟨b, hb1, yes, no⟩ := hx
  exact ⟨b, hb1, fun e a _ => ⟨E, ds', O', G', yes e, ok', rp', noX_cont, cc.after st⟩, fun e => xc c' ds' O' σ' dd G' H' (no e) st ok' rp' pay⟩
/-- except C as n: -/
theorem ds_tryAs (i : Nat) {su : Addr → Xc → DSr} (hs : X.stack = X.env :: X.outer) (hf : X.env.frame = some X.env.locals) (hN : X.N.Nodup) (hc : Names X x c) (tk : L2N.Takes X W)
    (hb : ∀ (W' : WX) (pn : List (Addr × Obj)) (xe : Value → Shared → Prop) (ex' : EX), L2N.Takes (X.tr pn xe) W' → PassesOwn (model X.prog X.w) X.A X.env xe → DSs (X.tr pn xe) W' ex' body (t ex'))
    (hsu : ∀ (a : Addr) (oe : Obj) (xc : Xc) (d : Option Addr) (pn : List (Addr × Obj)), L2N.Zn xc.cls d oe → (∃ vs, oe.data = .fields vs) → DSp' (X.suite a ((a, oe) :: pn)) (b₀ :: suite) (su a xc) d xc.pay)
    (hi : X.N[i]? = some n := by rfl) (hln : X.env.kindOf n = some .local := by rfl) :
    DSt X W ex (.Try body [.ExceptHandler (some (.Name x np)) (some n) (b₀ :: suite) pos'] [] [] pos) (dTryAs X.K c i t su ex) := by
  refine ⟨_, L2N.ps_try_as hs hf hN hi hln hc tk (body_p hb) (ts := fun a cls d D σ H => ∃ (pay : Option (Str × DL.D)) (E : DEnds) (ds : Ds) (O : Ow) (G : Hp), su a ⟨cls, pay⟩ E ds O ∧ Ok X.K G H O ∧ Rep X.K G σ ds ∧ Pay X.K G H d pay ∧ ContS X.K G H O E D) (fun a oe cls d pn hz hd => ?_), fun E ds O h G H σ D ok rp xc cc => ?_⟩
  · constructor
    intro pins s σ H D I q
    obtain ⟨pay, E, ds, O, G, h, ok, rp, hp, cs⟩ := q
    obtain ⟨ts, p, l⟩ := hsu a oe ⟨cls, pay⟩ d pn hz hd
    exact p.run pins s σ H D I (l E ds O h G H σ D ok rp hp cs)
  · refine ⟨hdX X.K c (fun xc' ds' O' => ∀ a : Addr, su a xc' { nx := fun d2 O2 => E.nx (d2.set i none) O2, rt := E.rt, bk := fun d2 O2 => E.bk (d2.set i none) O2, ct := fun d2 O2 => E.ct (d2.set i none) O2 } (ds'.set i (some (.opq (.ref a)))) O') ex, E, ds, O, G, h, ok, rp, ?_, cc⟩
    intro c' ds' O' σ' dd G' H' hx st ok' rp' pay
    obtain ⟨b, hb1, yes, no⟩ := hx
    refine ⟨b, hb1, fun e a _ => ⟨c'.pay, _, _, O', G', yes e a, ok', rp'.set (.opq _) i, pay, contS_none i (cc.after st)⟩, fun e => xc c' ds' O' σ' dd G' H' (no e) st ok' rp' pay⟩
end
end DL
namespace DL
open PySem PySem.Spec PyProof.Rows L2 Evl

/-! ### defs with a star parameter -/
theorem cxUpN {P : Program} {w : World} : StX.CXUp (L2N.CX P w) := by
  rintro outer s H s2 H2 E e s' un kp ho ⟨a, B, H', cls, d, ea, fl, hok, ub, na, os, ag, he⟩
  refine ⟨a, B, H', cls, d, ea, fl, hok, ⟨fun b o q n hb => ub.keep b o (kp b o q) (un.free b o q n (by simp)) hb, fun b o q hb => ub.slot b o (kp b o q) hb, fun b o q n => ub.free b o (kp b o q) (un.free b o q n (by simp)),
    fun b o q hb => ub.there b o (kp b o q) hb, fun b xs q => ub.tups b xs (un.tups b xs q), fun b o xs q => ub.frzs b o xs (un.frzs b o xs q), fun b ps q => ?_⟩, na, os.trans ho, ag, he⟩
  obtain ⟨m1, e1⟩ := un.tbls b ps q
  obtain ⟨m2, e2⟩ := ub.tbls b _ e1
  exact ⟨m1 ++ m2, by rw [e2, Array.append_assoc]⟩
/-- what the caller says: the arguments one behind the other; the body has those behind the n-th as a tuple -/
def unstar (n : Nat) (S : DSp) : DSp := fun as O q e => n ≤ as.length ∧ as.length - n ≤ sizeLine ∧ S (as.take n ++ [.tup (as.drop n)]) O q e
abbrev FnDR (P : Program) (w : World) (K : PySem.W.Frag) (mg : Str → Option Value) (base : Heap) (k : Nat) (f : Addr) (n : Nat) (S : DSp) : Prop := FnR P w K mg base (L2N.CX P w) k f (spOf K (unstar n S))
theorem dn_take {K : PySem.W.Frag} {G : Hp} : ∀ (n : Nat) {vs : List V} {as : List D}, DnAll K G vs as → DnAll K G (vs.take n) (as.take n) ∧ DnAll K G (vs.drop n) (as.drop n)
  | 0, _, _, h => ⟨.nil, h⟩
  | n + 1, _, _, .nil => ⟨.nil, .nil⟩
  | n + 1, _, _, .cons a r => ⟨.cons a (dn_take n r).1, (dn_take n r).2⟩
section
variable {P : Program} {w : World} {K : PySem.W.Frag} {mg : Str → Option Value} {base : Heap}
theorem fn_DR {x qual pv : Str} {st : Stmt} {f : Addr} {fd : FuncData} {N ps : List Str} {k : Nat} {S : DSp} (F : Fun K x qual st f fd) (Sc : FnScope N (ps ++ [pv]) (defScope st))
    (hbn : ∀ (kV doc pm : Value) (an : Option Addr) (cdv ct : Value) (us rest : List Value), us.length = ps.length → bindArgs (PySem.W.fnOf x qual (defArgs st) (defBody st) (defScope st) .none kV doc pm an cdv ct) ⟨us ++ rest, []⟩ = (newTuple rest >>= fun t => pure (ps.zip us ++ [(pv, t)])))
    (hb : ∀ (cdv : Value) (A : Around) (outer : List Env) (s : Shared) (H : Hp) (E : XK), Room k (A.deeper (envOfC qual (defScope st) s.heap.objs.size f cdv)) → ∀ as O q e, S as O q e →
      ∃ t, DSs (cxOf (L2N.CX P w) P w K mg base N qual (defScope st) f cdv A outer s H E) (wOf E) (exOf e) (defBody st) t ∧ t ⟨fun _ O' => Rt q .non O', Rt q, fun _ _ => False, fun _ _ => False⟩ (startD N as) O) :
    FnDR P w K mg base (k + 1) f ps.length S := by
  obtain ⟨oc, od, kV, doc, pm, an, cdv, ct, osl, rfl, lk, hc⟩ := F.ex
  refine (StX.fn_star (sp := spOf K S) lk hc Sc cxUpN (hbn kV doc pm an cdv ct) fun A outer s H vs Q E hr h => ?_).imp fun vs H Q E h => ?_
  · obtain ⟨G, O, as, q, e, ok, d, h, c, cx⟩ := h
    obtain ⟨t, ⟨ts, p, l⟩, ht⟩ := hb cdv A outer s H E hr as O q e h
    refine ⟨ts, p, l _ _ O ht G H (L2.start N vs) _ ok (rep_start d N) (fun y ds O' σ dd G' H' hy s' ok' rp' pa => ?_) ⟨fun ds O' σ G' H' h' s' ok' _ => rt_ok c _ O' .non G' H' h' s' ok' .non, rt_ok c, fun ds O' σ G' H' h' _ _ _ => False.elim h', fun ds O' σ G' H' h' _ _ _ => False.elim h'⟩⟩
    obtain ⟨O2, hy, sb⟩ := hy
    exact cx y O2 dd G' H' hy (s'.sub sb) (ok'.sub sb) pa
  · obtain ⟨G, O, as, q, e, ok, d, ⟨hn, hz, h⟩, c, cx⟩ := h
    obtain ⟨d1, d2⟩ := dn_take ps.length d
    refine ⟨vs.take ps.length, vs.drop ps.length, (List.take_append_drop _ _).symm, by rw [List.length_take, d.length]; omega, by rw [List.length_drop, d.length]; exact hz, fun p hp => ?_⟩
    obtain ⟨ok2, s2, e2⟩ := frozen (o := .tup (vs.drop ps.length)) ok hp
    exact ⟨_, O, _, q, e, ok2, (d1.mono e2).append (.cons (.tup (SqT.of upd_same) (d2.mono e2)) .nil), h, c.after s2, fun y O' dd G' H' hy s' ok' pa => cx y O' dd G' H' hy (s2.trans s') ok' pa⟩
end
section
variable {X : Cx} {W : WX} {ex : EX} {CX : CXT} {k j n : Nat} {f : Addr} {S : DSp} {sp : Sp} {x : Str} {p pos : Pos} {e : Expr} {es : List Expr} {t : DA} {ta : TA} {E : L2.St → XK}
theorem run_fnRA {pins : List (Addr × Obj)} {σ : L2.St} {H : Hp} {s : Shared} {Q : VK} {us : List Value} {vs : List V} (F : FnR X.prog X.w X.K X.mg X.base CX k f sp) (hr : Room k X.A) (hx : PassesAt CX X σ (E σ))
    (I : L2.Inv X pins σ H s) (r : Vals vs us) (h : sp vs H Q (E σ)) : wpAny (model X.prog X.w) X.A (call (.ref f) us) (EP X pins σ Q) X.xe s := by
  refine wpAny_call (codeAny_mono (F X.A X.stack s H us vs Q (E σ) hr I.env0 r h) fun r s' hq => ?_)
  cases r with
  | error e => exact hx pins H s e s' I hq
  | ok fl =>
    cases fl with
    | ret u => exact I.after hq
    | _ => exact False.elim hq
theorem pe_callR (F : FnR X.prog X.w X.K X.mg X.base CX k f sp) (hr : Room k X.A) (hk : PySem.W.keepIn X.K (.ref f) = true) (hg : Gl X x) (hm : X.mg x = some (.ref f)) (hx : ∀ σ, PassesAt CX X σ (E σ)) (ha : PA X (e :: es) ta) (hdb : (x == ("__debug__" : Str)) = false)
    (he : starEach (e :: es) X.env = (false, eval e X.env) :: starEach es X.env) (hpl : (backTo pos (starEach es X.env)).any (·.1) = false) :
    PE X (.Call (.Name x p) (e :: es) [] pos) (tCallS sp E ta) := by
  constructor
  intro pins s σ H Q I h
  refine wpAny_Call_Name_kw (ld_glob I hg hm ?_ hdb)
  refine PySem.W.callWith_K (h₀ := X.base) I.ok.mod.kin hk (thn (ha.run pos pins s σ H _ I h) fun us s1 hh => ?_) he hpl
  obtain ⟨vs, H1, I1, r, q⟩ := hh
  exact ⟨I1.kIn, run_fnRA F hr (hx σ) I1 r q⟩
theorem de_callR (tk : L2N.Takes X W) (F : FnDR X.prog X.w X.K X.mg X.base k f n S) (hr : Room j X.A) (hm : X.mg x = some (.ref f)) (hk : PySem.W.keepIn X.K (.ref f) = true) (ha : DAs X W ex (e :: es) t) (hj : k ≤ j := by decide) (hg : Gl X x := by rfl)
    (hdb : (x == ("__debug__" : Str)) = false := by decide) (he : starEach (e :: es) X.env = (false, eval e X.env) :: starEach es X.env := by rfl) (hpl : (backTo pos (starEach es X.env)).any (·.1) = false := by rfl) :
    DE X W ex (.Call (.Name x p) (e :: es) [] pos) (dCall (unstar n S) ex t) := by
  obtain ⟨ta, p1, l1⟩ := ha
  exact ⟨_, pe_callR F (hr.mono hj) hk hg hm (fun σ => L2N.passAt tk σ) p1 hdb he hpl, l_call l1⟩
end
end DL
namespace DL
open PySem PySem.Spec PyProof.Rows L2 Evl

/-! ### comprehensions with two generators -/
def dLc2X (xs : List D) (g : DG) (tt : DB) (di1 : DI) (g1 : DG) (tt1 : DB) (te : DT) (vs vs1 : List Nat) (ds : Ds) (O1 : Ow) (k : DK) : Prop := ∃ Iv : Nat → List D → Ow → Prop, Iv 0 [] O1 ∧
  (∀ i x acc O, xs[i]? = some x → Iv i acc O → g x (dwipe ds vs) O fun ds2 O2 => tt ds2 O2 fun b O3 => if b = true then di1 ds2 O3 fun ys O4 =>
    ∃ Jv : Nat → List D → Ow → Prop, Jv 0 acc O4 ∧
      (∀ j y acc O, ys[j]? = some y → Jv j acc O → g1 y (dwipe ds2 vs1) O fun ds3 O5 => tt1 ds3 O5 fun b O6 => if b = true then te ds3 O6 fun z O7 => acc.length < sizeLine ∧ Jv (j + 1) (acc ++ [z]) O7 else Jv (j + 1) acc O6) ∧
      (∀ acc O, Jv ys.length acc O → Iv (i + 1) acc O)
    else Iv (i + 1) acc O3) ∧
  (∀ acc O, Iv xs.length acc O → k (.lst acc) O)
def dLc2 (di : DI) (g : DG) (tt : DB) (di1 : DI) (g1 : DG) (tt1 : DB) (te : DT) (vs vs1 : List Nat) : DT := fun ds O k => di ds O fun xs O1 => dLc2X xs g tt di1 g1 tt1 te vs vs1 ds O1 k
theorem wipe_wipe {σ : L2.St} {vs : List Nat} : ∀ us : List Nat, (∀ i ∈ us, i ∈ vs) → wipe (wipe σ us) vs = wipe σ vs
  | [], _ => rfl
  | u :: us, h => by
    show wipe ((wipe σ us).set u none) vs = _
    rw [wipe_set, if_pos (h u List.mem_cons_self)]
    exact wipe_wipe us fun i hi => h i (List.mem_cons_of_mem _ hi)
/-- the list so far at Dl, which is neither data nor of the store -/
def Grow (K : PySem.W.Frag) (Dl : Addr) (G1 H1 : Hp) (O1 : Ow) (Iv : List D → Ow → Prop) (G0 : Hp) (H' : Hp) : Prop :=
  ∃ acc ws O' G', Iv acc O' ∧ H' Dl = some (.lst ws) ∧ DnAll K G' ws acc ∧ G' Dl = none ∧ O' Dl = none ∧ Stp G1 H1 O1 G' H' O' ∧ Ok K G' H' O' ∧ Ex G0 G'
def iOf (K : PySem.W.Frag) (W : WX) (ex : EX) (t : DI) : TI := fun σ H R => ∃ ds O k G, t ds O k ∧ Ok K G H O ∧ Rep K G σ ds ∧ ContX K G H O W ex ∧ ∀ xs O' G' H' J, k xs O' → Stp G H O G' H' O' → Ok K G' H' O' → Wk K J xs G' → R J H'
section
variable {X : Cx} {W : WX} {ex : EX}
theorem iOf_l {K : PySem.W.Frag} {t : DI} : LiftI K W ex (iOf K W ex t) t := fun ds O k h G H σ R ok rp x c => ⟨ds, O, k, G, h, ok, rp, x, c⟩
theorem iOf_p {tg it : Expr} {t : DI} (h : DIt X W ex tg it t) : PI X tg it (iOf X.K W ex t) := by
  obtain ⟨te, p, l⟩ := h
  constructor
  intro pins s σ H Q I q
  obtain ⟨ds, O, k, G, h, ok, rp, x, c⟩ := q
  exact p.run pins s σ H Q I (l ds O k h G H σ Q ok rp x c)
theorem l_lc2 {K : PySem.W.Frag} {wi wi1 : TI} {g g1 : TG} {tt tt1 : TT} {te : TE} {vs vs1 : List Nat} {di di1 : DI} {dg dg1 : DG} {dtt dtt1 : DB} {dte : DT} {is is1 : List Nat} (l0 : LiftI K W ex wi di) (l1 : LiftG K NoW NoX is g dg) (l2 : LiftB K NoW NoX tt dtt)
    (l4 : LiftI K NoW NoX wi1 di1) (l5 : LiftG K NoW NoX is1 g1 dg1) (l6 : LiftB K NoW NoX tt1 dtt1) (l3 : LiftE K NoW NoX te dte) (hsub : ∀ i ∈ is, i ∈ vs) (hsub1 : ∀ i ∈ is1, i ∈ vs1) :
    LiftE K W ex (tLc2 wi g tt wi1 g1 tt1 te vs vs1) (dLc2 di dg dtt di1 dg1 dtt1 dte vs vs1) := by
  intro ds O k h G H σ Q ok rp x c
  refine l0 ds O _ h G H σ _ ok rp x fun xs O1 G1 H1 J h1 s1 ok1 wk => ?_
  obtain ⟨Iv, i0, st, fin⟩ := h1
  intro Dl hD
  have gD : G1 Dl = none := ok1.gnone hD
  have oD : O1 Dl = none := ok1.none_of hD
  have nox : ∀ {G H O}, ContX K G H O NoW NoX := fun {_ _ _} _ _ _ _ _ _ _ z => z.elim
  have ok1' : Ok K G1 (upd H1 Dl (.lst [])) O1 := by
    obtain ⟨a, b⟩ := owned (vs := []) (xs := []) ok1 hD .nil
    exact a.sub (Sub.new oD)
  have s1' : Stp G1 H1 O1 G1 (upd H1 Dl (.lst [])) O1 := by
    obtain ⟨a, b⟩ := owned (vs := []) (xs := []) ok1 hD .nil
    exact b.sub (Sub.new oD)
  have stay : ∀ {G2 H2 : Hp} {O2 : Ow} {ws : List V}, H2 Dl = some (.lst ws) → G2 Dl = none → O2 Dl = none → ∀ {G' H' : Hp} {O' : Ow}, Stp G2 H2 O2 G' H' O' → H' Dl = some (.lst ws) ∧ G' Dl = none ∧ O' Dl = none := fun {_ _ _ _} hl g2 o2 {_ _ _} s =>
    ⟨s.h _ _ hl o2, s.gn _ (by rw [hl]; exact fun z => by cases z) g2 o2, s.o _ (by rw [hl]; exact fun z => by cases z) o2⟩
  refine ⟨fun i m H' => m = xs.length - i ∧ i ≤ xs.length ∧ Grow K Dl G1 H1 O1 (Iv i) G1 H', ⟨xs.length, rfl, Nat.zero_le _, [], [], O1, G1, i0, upd_same, .nil, gD, oD, s1', ok1', Ex.refl _⟩, ?_⟩
  rintro i m H2 ⟨rfl, hi, acc, ws, O2, G2, iv2, hl2, da, g2, o2, s2, ok2, _⟩
  obtain ⟨w1, w2⟩ := wk G2 H2 O2 s2.g ok2 i
  by_cases hlt : i < xs.length
  · obtain ⟨go, turn⟩ := w1 xs[i] (List.getElem?_eq_getElem hlt)
    refine .inr ⟨go, Grow K Dl G1 H1 O1 (Iv (i + 1)) G1, fun H' q => ⟨xs.length - (i + 1), by omega, rfl, hlt, q⟩, fun v H3 hy => ?_⟩
    obtain ⟨G3, ok3, s3, d3⟩ := turn v H3 hy
    refine l1 _ (dwipe ds vs) O2 _ (st i _ acc O2 (List.getElem?_eq_getElem hlt) iv2) G3 H3 (wipe σ vs) v _ ok3 (((rep_wipe rp vs).mono s1.g).mono (s2.g.trans s3.g)) nox d3 fun ds4 O4 σ4 G4 H4 h4 s4 ok4 rp4 tc => ⟨?_, ?_⟩
    · rw [tc vs hsub]
      exact wipe_wipe vs fun _ h => h
    · refine l2 ds4 O4 _ h4 G4 H4 σ4 _ ok4 rp4 nox fun b O5 G5 H5 h5 s5 ok5 => ?_
      have sc := (s3.trans s4).trans s5
      obtain ⟨n1, n2, n3⟩ := stay hl2 g2 o2 sc
      cases b with
      | false => exact ⟨acc, ws, O5, G5, h5, n1, da.mono sc.g, n2, n3, s2.trans sc, ok5, (s2.trans sc).g⟩
      | true =>
        refine l4 ds4 O5 _ h5 G5 H5 σ4 _ ok5 (rp4.mono s5.g) nox fun ys O6 G6 H6 J1 h6 s6 ok6 wk1 => ?_
        obtain ⟨Jv, j0, st1, fin1⟩ := h6
        obtain ⟨m1, m2, m3⟩ := stay n1 n2 n3 s6
        refine ⟨fun j m H' => m = ys.length - j ∧ j ≤ ys.length ∧ Grow K Dl G1 H1 O1 (Jv j) G6 H', ⟨ys.length, rfl, Nat.zero_le _, acc, ws, O6, G6, j0, m1, da.mono (sc.trans s6).g, m2, m3, s2.trans (sc.trans s6), ok6, Ex.refl _⟩, ?_⟩
        rintro j m H7 ⟨rfl, hj, acc7, ws7, O7, G7, jv7, hl7, da7, g7, o7, s7, ok7, e7⟩
        obtain ⟨u1, u2⟩ := wk1 G7 H7 O7 e7 ok7 j
        by_cases hjt : j < ys.length
        · obtain ⟨go1, turn1⟩ := u1 ys[j] (List.getElem?_eq_getElem hjt)
          refine .inr ⟨go1, Grow K Dl G1 H1 O1 (Jv (j + 1)) G6, fun H' q => ⟨ys.length - (j + 1), by omega, rfl, hjt, q⟩, fun v1 H8 hy1 => ?_⟩
          obtain ⟨G8, ok8, s8, d8⟩ := turn1 v1 H8 hy1
          refine l5 _ (dwipe ds4 vs1) O7 _ (st1 j _ acc7 O7 (List.getElem?_eq_getElem hjt) jv7) G8 H8 (wipe σ4 vs1) v1 _ ok8 ((rep_wipe rp4 vs1).mono ((((s5.trans s6).g).trans e7).trans s8.g)) nox d8 fun ds9 O9 σ9 G9 H9 h9 s9 ok9 rp9 tc1 => ⟨?_, ?_⟩
          · rw [tc1 vs1 hsub1]
            exact wipe_wipe vs1 fun _ h => h
          · refine l6 ds9 O9 _ h9 G9 H9 σ9 _ ok9 rp9 nox fun b1 Oa Ga Ha ha sa oka => ?_
            have sd := (s8.trans s9).trans sa
            obtain ⟨p1, p2, p3⟩ := stay hl7 g7 o7 sd
            cases b1 with
            | false => exact ⟨acc7, ws7, Oa, Ga, ha, p1, da7.mono sd.g, p2, p3, s7.trans sd, oka, e7.trans sd.g⟩
            | true =>
              refine l3 ds9 Oa _ ha Ga Ha σ9 _ oka (rp9.mono sa.g) nox fun z Ob u Gb Hb hb sb okb db => ?_
              obtain ⟨hz, hb⟩ := hb
              obtain ⟨q1, q2, q3⟩ := stay p1 p2 p3 sb
              refine ⟨ws7, q1, by rw [da7.length]; exact hz, acc7 ++ [z], ws7 ++ [u], Ob, Gb, hb, upd_same, (da7.mono (sd.trans sb).g).append (.cons db .nil), q2, q3, ?_, ?_, e7.trans (sd.trans sb).g⟩
              · exact mutStp (s7.trans (sd.trans sb)) hD
              · exact mutOk okb q2 q3
        · have e : j = ys.length := by omega
          subst e
          exact .inl ⟨u2 (Nat.le_refl _), acc7, ws7, O7, G7, fin1 acc7 O7 jv7, hl7, da7, g7, o7, s7, ok7, s7.g⟩
  · have e : i = xs.length := by omega
    subst e
    obtain ⟨G3, s3, ok3, d3⟩ := settled s2 ok2 hD g2 o2 hl2 da
    exact .inl ⟨w2 (Nat.le_refl _), c _ O2 _ G3 H2 (fin acc O2 iv2) (s1.trans s3) ok3 d3⟩
theorem de_lc2 (own : List (Str × Nat)) (vs1 : List Nat) {is is1 : List Nat} {elt tg iter tg1 iter1 : Expr} {ifs ifs1 : List Expr} {scope : Scope} {pos : Pos} {di di1 : DI} {g g1 : DG} {tt tt1 : DB} {te : DT} (hc : X.calm = true) (hN : X.N.Nodup) (hi : DIt X W ex tg iter di) (ok : BlkOk X.N X.env.scope scope own)
    (hg : ∀ (s : Shared) (H : Hp) (C : Addr) (cl : List (Str × Addr)) (fp : List Addr), DGt (X.blk s H scope (compEnvC scope cl C X.env) fp) NoW NoX is tg g)
    (ht : ∀ (s : Shared) (H : Hp) (C : Addr) (cl : List (Str × Addr)) (fp : List Addr), DTs (X.blk s H scope (compEnvC scope cl C X.env) fp) NoW NoX ifs tt)
    (hi1 : ∀ (s : Shared) (H : Hp) (C : Addr) (cl : List (Str × Addr)) (fp : List Addr), DIt (X.blk s H scope (compEnvC scope cl C X.env) fp) NoW NoX tg1 iter1 di1)
    (hg1 : ∀ (s : Shared) (H : Hp) (C : Addr) (cl : List (Str × Addr)) (fp : List Addr), DGt (X.blk s H scope (compEnvC scope cl C X.env) fp) NoW NoX is1 tg1 g1)
    (ht1 : ∀ (s : Shared) (H : Hp) (C : Addr) (cl : List (Str × Addr)) (fp : List Addr), DTs (X.blk s H scope (compEnvC scope cl C X.env) fp) NoW NoX ifs1 tt1)
    (he : ∀ (s : Shared) (H : Hp) (C : Addr) (cl : List (Str × Addr)) (fp : List Addr), DE (X.blk s H scope (compEnvC scope cl C X.env) fp) NoW NoX elt te)
    (hv : ∀ i ∈ vs1, i ∈ own.map (·.2) := by decide) (hsub : ∀ i ∈ is, i ∈ own.map (·.2) := by decide) (hsub1 : ∀ i ∈ is1, i ∈ vs1 := by decide) (hs : ∀ x, foldedSetIterable iter X.env x = pure x := by intro _; rfl) (hs1 : ∀ env x, foldedSetIterable iter1 env x = pure x := by intro _ _; rfl) :
    DE X W ex (.ListComp elt [⟨tg, iter, ifs, 0⟩, ⟨tg1, iter1, ifs1, 0⟩] scope pos) (dLc2 di g tt di1 g1 tt1 te (own.map (·.2)) vs1) := by
  obtain ⟨wi, p0, l0⟩ := hi
  exact ⟨_, pe_lc2 hc hN p0 ok hv (fun s H C cl fp => gOf_p (hg s H C cl fp)) (fun s H C cl fp => bOf_p (ht s H C cl fp)) (fun s H C cl fp => iOf_p (hi1 s H C cl fp)) (fun s H C cl fp => gOf_p (hg1 s H C cl fp)) (fun s H C cl fp => bOf_p (ht1 s H C cl fp)) (fun s H C cl fp => tOf_p (he s H C cl fp)) hs hs1,
    l_lc2 l0 gOf_l bOf_l iOf_l gOf_l bOf_l tOf_l hsub hsub1⟩
theorem ds_setLc2 (i : Nat) (own : List (Str × Nat)) (vs1 : List Nat) {y : Str} {py spos : Pos} {is is1 : List Nat} {elt tg iter tg1 iter1 : Expr} {ifs ifs1 : List Expr} {scope : Scope} {pos : Pos} {di di1 : DI} {g g1 : DG} {tt tt1 : DB} {te : DT} (hc : X.calm = true) (hN : X.N.Nodup) (hy : X.N[i]? = some y) (hyl : X.env.scope.names.lookup y = some .local)
    (hsw : swapsWith (.ListComp elt [⟨tg, iter, ifs, 0⟩, ⟨tg1, iter1, ifs1, 0⟩] scope pos) (some (.Name y py)) spos.line X.env = pure true) (hi : DIt X W ex tg iter di) (ok : BlkOk X.N X.env.scope scope own)
    (hg : ∀ (s : Shared) (H : Hp) (C : Addr) (cl : List (Str × Addr)) (fp : List Addr), DGt (X.blk s H scope (compEnvC scope cl C X.env) fp) NoW NoX is tg g)
    (ht : ∀ (s : Shared) (H : Hp) (C : Addr) (cl : List (Str × Addr)) (fp : List Addr), DTs (X.blk s H scope (compEnvC scope cl C X.env) fp) NoW NoX ifs tt)
    (hi1 : ∀ (s : Shared) (H : Hp) (C : Addr) (cl : List (Str × Addr)) (fp : List Addr), DIt (X.blk s H scope (compEnvC scope cl C X.env) fp) NoW NoX tg1 iter1 di1)
    (hg1 : ∀ (s : Shared) (H : Hp) (C : Addr) (cl : List (Str × Addr)) (fp : List Addr), DGt (X.blk s H scope (compEnvC scope cl C X.env) fp) NoW NoX is1 tg1 g1)
    (ht1 : ∀ (s : Shared) (H : Hp) (C : Addr) (cl : List (Str × Addr)) (fp : List Addr), DTs (X.blk s H scope (compEnvC scope cl C X.env) fp) NoW NoX ifs1 tt1)
    (he : ∀ (s : Shared) (H : Hp) (C : Addr) (cl : List (Str × Addr)) (fp : List Addr), DE (X.blk s H scope (compEnvC scope cl C X.env) fp) NoW NoX elt te)
    (hv : ∀ i ∈ vs1, i ∈ own.map (·.2) := by decide) (hsub : ∀ i ∈ is, i ∈ own.map (·.2) := by decide) (hsub1 : ∀ i ∈ is1, i ∈ vs1 := by decide) (hs : ∀ x, foldedSetIterable iter X.env x = pure x := by intro _; rfl) (hs1 : ∀ env x, foldedSetIterable iter1 env x = pure x := by intro _ _; rfl) :
    DSt X W ex (.Assign [.Name y py] (.ListComp elt [⟨tg, iter, ifs, 0⟩, ⟨tg1, iter1, ifs1, 0⟩] scope pos) spos) (dAsg (dLc2 di g tt di1 g1 tt1 te (own.map (·.2)) vs1) (dgName i)) := by
  obtain ⟨wi, p0, l0⟩ := hi
  exact ⟨_, ps_setLc2 hc hN hy hyl hsw p0 ok hv (fun s H C cl fp => gOf_p (hg s H C cl fp)) (fun s H C cl fp => bOf_p (ht s H C cl fp)) (fun s H C cl fp => iOf_p (hi1 s H C cl fp)) (fun s H C cl fp => gOf_p (hg1 s H C cl fp)) (fun s H C cl fp => bOf_p (ht1 s H C cl fp)) (fun s H C cl fp => tOf_p (he s H C cl fp)) hs hs1,
    l_asg (l_lc2 l0 gOf_l bOf_l iOf_l gOf_l bOf_l tOf_l hsub hsub1) (l_name i)⟩
/-- the list is the items of the inner lists, one behind the other -/
theorem comp_mp2 {α β : Type} {g : DG} {tt : DB} {di1 : DI} {g1 : DG} {tt1 : DB} {te : DT} {vs vs1 : List Nat} {ds : Ds} {O : Ow} {k : DK} (c : α → D) (d : β → D) (l : List α) (inn : α → List β) (hz : (l.flatMap inn).length < sizeLine)
    (hst : ∀ x, x ∈ l → ∀ acc (Jr : List D → Ow → Prop), (∀ O', O' = O → Jr (acc ++ (inn x).map d) O') → acc.length + (inn x).length < sizeLine →
      g (c x) (dwipe ds vs) O fun ds2 O2 => tt ds2 O2 fun b O3 => if b = true then di1 ds2 O3 fun ys O4 =>
        ∃ Jv : Nat → List D → Ow → Prop, Jv 0 acc O4 ∧
          (∀ j y acc O, ys[j]? = some y → Jv j acc O → g1 y (dwipe ds2 vs1) O fun ds3 O5 => tt1 ds3 O5 fun b O6 => if b = true then te ds3 O6 fun z O7 => acc.length < sizeLine ∧ Jv (j + 1) (acc ++ [z]) O7 else Jv (j + 1) acc O6) ∧
          (∀ acc O, Jv ys.length acc O → Jr acc O)
        else Jr acc O3)
    (hk : k (.lst ((l.flatMap inn).map d)) O) : dLc2X (l.map c) g tt di1 g1 tt1 te vs vs1 ds O k := by
  refine ⟨fun i acc O' => i ≤ l.length ∧ acc = ((l.take i).flatMap inn).map d ∧ O' = O, ⟨Nat.zero_le _, rfl, rfl⟩, ?_, ?_⟩
  · rintro i x acc O' hx ⟨hi, rfl, rfl⟩
    rw [List.getElem?_map] at hx
    cases q : l[i]? with
    | none => rw [q] at hx; cases hx
    | some y =>
      rw [q] at hx
      cases hx
      obtain ⟨h1, h2⟩ := List.getElem?_eq_some_iff.mp q
      have e : l.take (i + 1) = l.take i ++ [y] := by rw [List.take_add_one, q]; rfl
      have len : ((l.take (i + 1)).flatMap inn).length ≤ (l.flatMap inn).length := by
        conv => rhs; rw [← List.take_append_drop (i + 1) l, List.flatMap_append, List.length_append]
        omega
      refine hst y (List.mem_of_getElem? q) _ _ (fun O' hO => ⟨h1, ?_, hO⟩) ?_
      · rw [e, List.flatMap_append, List.map_append]
        simp
      · rw [List.length_map]
        have e2 : [y].flatMap inn = inn y := by simp
        rw [e, List.flatMap_append, List.length_append, e2] at len
        omega
  · rintro acc O' ⟨_, rfl, rfl⟩
    rw [List.length_map, List.take_length]
    exact hk
end
end DL
namespace DL
open PySem PySem.Spec PyProof.Rows L2 Evl

/-- a statement that is not reached -/
theorem ds_never {X : Cx} {W : WX} {ex : EX} {st : Stmt} : DSt X W ex st (fun _ _ _ => False) := ⟨fun _ _ _ => False, ⟨fun _ _ _ _ _ _ h => h.elim⟩, fun _ _ _ h => h.elim⟩
/-! ### enumerate of a tuple -/
theorem meets_enum1 {v : Value} {o : Obj} {H : Heap → Prop} (B : Begins v o H) :
    Meets (Builtin.«enumerate.__new__» ⟨[.type "enumerate", v], []⟩) (fun _ R s => H s.heap ∧
      R (.ok (.ret (.ref (s.heap.push o).objs.size))) { s with heap := (s.heap.push o).push { cls := .type "enumerate", data := .fields #[.none, .bool false, .ref s.heap.objs.size, rawInt 0, .none, .none] } }) :=
  .of_wp fun prog w A R s h => by
    obtain ⟨hp, g, d, tk, os⟩ := s; obtain ⟨h1, h⟩ := h
    have hsub := sub_enumerate
    have q1 : ∀ {A' : Around} {E : Value → Shared → Prop} {Q : Value → Shared → Prop}, Q (.ref hp.objs.size) ⟨hp.push o, g, d, tk, os⟩ → wpAny (model prog w) A' (pyIter v) Q E ⟨hp, g, d, tk, os⟩ :=
      fun q => B.iter prog w _ _ ⟨hp, g, d, tk, os⟩ _ h1 q
    wp_walk using q1
    refine wpAny_stack_any fun st => wpAny_pure ?_
    split
    · rename_i c _ _ _ _ _
      cases (c == Value.type "enumerate")
      · wp_walk using q1
        exact ⟨_, rfl, h⟩
      · wp_walk using q1
        exact ⟨_, rfl, h⟩
    · wp_walk using q1
      exact ⟨_, rfl, h⟩
section
variable {prog : Program} {w : World} {A : Around} {E : Value → Shared → Prop} {s : Shared}
theorem call_enum1 {v : Value} {o : Obj} {H : Heap → Prop} {Q : Value → Shared → Prop} (B : Begins v o H) (h1 : H s.heap)
    (h : ∀ h', IsEnum h' (s.heap.objs.size + 1) s.heap.objs.size 0 .none → h'.get? s.heap.objs.size = some o → h'.objs.size = s.heap.objs.size + 2 →
      (∀ b o, s.heap.get? b = some o → h'.get? b = some o) → Q (.ref (s.heap.objs.size + 1)) { s with heap := h' }) :
    wpAny (model prog w) A (call (.type "enumerate") [v]) Q E s := by
  refine callType_new F.called_enumerate (by decide) (F.typeCall_enumerate_1 _) (F.newCall_enumerate_1 _) (fun obj => F.args_object_init_2 obj _) F.entry_enumerate_new
    (meets_enum1 B) ⟨h1, ?_⟩
  have hz : (s.heap.push o).objs.size = s.heap.objs.size + 1 := Heap.size_push ..
  show _ ∧ _
  rw [hz]
  have he : IsEnum ((s.heap.push o).push { cls := .type "enumerate", data := .fields #[.none, .bool false, .ref s.heap.objs.size, rawInt 0, .none, .none] }) (s.heap.objs.size + 1) s.heap.objs.size 0 .none := by
    have := Heap.get?_push_size (s.heap.push o) (o := { cls := .type "enumerate", data := .fields #[.none, .bool false, .ref s.heap.objs.size, rawInt 0, .none, .none] }) rfl
    rw [hz] at this; exact this
  refine ⟨⟨_, he, rfl⟩, h _ he (Heap.get?_push_of_some _ (Heap.get?_push_size _ B.free)) (by rw [Heap.size_push, hz]) fun b o x => Heap.get?_push_of_some _ (Heap.get?_push_of_some _ x)⟩
theorem next_enumT_end {e it t : Addr} {n : Nat} {items : Array Value} {i : Int} {old : Value} {Q : Option Value → Shared → Prop} (hh : A.in1.handled = none) (he : IsEnum s.heap e it i old) (hit : s.heap.IsTupleIter it t n) (ht : s.heap.IsTuple t items) (hx : items[n]? = none)
    (hQ : ∀ h', Heap.ExtBut it s.heap h' → Q none { s with heap := h' }) : wpAny (model prog w) A (pyNext (.ref e)) Q E s := by
  have hT : s.TypeIs (.ref e) "enumerate" := ⟨_, he, rfl⟩
  unfold pyNext
  refine wpAny_bind (wpAny_attempt (wpAny_callSpecial?_slot (name := Str.ofString "__next__") hT F.slot_enumerate_next
    (wpAny_call_entry F.slot_enumerate_next hT F.entry_enumerate_next ?_ (F.args_enumerate_next_1 _))))
  show wpAny _ _ (field (.ref e) 2 >>= _) _ _ _
  refine wpAny_bind (wpAny_field he rfl (x := .ref it) rfl ?_)
  refine wpAny_bind (wpAny_nextOf_tuple_end hh hit ht hx fun h' x he' hx' => ?_)
  obtain ⟨o, ho, hc⟩ := hx'
  refine wpAny_bind (wpAny_isInstance (T := "StopIteration") (b := true) ⟨o, ho, hc⟩ isSubtype_stop ?_)
  exact wpAny_pure (hQ _ he')
end
/-- the tuple at a, each item in a new pair -/
def IteT (K : PySem.W.Frag) (a : Addr) : L2.It :=
  ⟨fun i H => ∃ (xs : List V) (x : V), SqT K H a xs ∧ xs[i]? = some x, fun i H v H' => ∃ T x, v = .ref T ∧ H T = none ∧ H' = upd H T (.tup [.int (i : Nat), x]) ∧ ∀ xs, SqT K H a xs → xs[i]? = some x, fun i H => ∃ xs : List V, SqT K H a xs ∧ xs.length ≤ i⟩
theorem turn_enumT {P : Program} {w : World} {K : PySem.W.Frag} {elts : List Expr} {kk : Nat} {tpos : Pos} (a e it : Addr) :
    Turn P w K (.Tuple elts kk tpos) (IteT K a) [e, it] e (fun i h => (∃ old, IsEnum h e it ((i : Nat) : Int) old) ∧ h.IsTupleIter it a i ∧ e ≠ it ∧ a ≠ it ∧ e ≠ a) where
  mem := by simp
  obj := fun i h st b hb => by
    obtain ⟨⟨old, he⟩, ⟨o, ho, hc, hd⟩, _⟩ := st
    have e' : b = e ∨ b = it := by simpa using hb
    rcases e' with z | z
    · rw [z]; exact ⟨_, he, fun v q => nomatch q⟩
    · rw [z]; exact ⟨o, ho, fun v q => by rw [hd] at q; cases q⟩
  keep := fun i h h' st k => let ⟨⟨old, he⟩, hi, hne⟩ := st; ⟨⟨old, k e (by simp) _ he⟩, hi.at fun o q => k it (by simp) o q, hne⟩
  item := by
    intro X hP hw hK hc i pins s σ H E I hf st hg
    subst hP hw hK
    obtain ⟨⟨old, he⟩, hit, hne, hai, hea⟩ := st
    obtain ⟨xs, x, hq, hx⟩ := hg
    obtain ⟨its, rv, p, hz⟩ := I.tuple hq
    obtain ⟨u, hu, ru⟩ := rv.get hx
    have hel : e < s.heap.objs.size := Heap.lt_size he
    have hil : it < s.heap.objs.size := by obtain ⟨_, q, _⟩ := hit; exact Heap.lt_size q
    have hlt : i < its.toArray.size := by
      rw [List.size_toArray]
      exact (List.getElem?_eq_some_iff.mp hu).1
    refine wpAny_pyNext_enum_itemD (Draws.tuple (show X.A.in1.handled = none from I.ok.hd hc) it a hai its.toArray) he ⟨hit, p⟩ hlt hne (by simp [hne, hea]) fun y h' tk hP ho hst' hT hsz hk => ?_
    have hy : y = u := by
      have h1 : its.toArray[i]? = some y := hP
      have h2 : its.toArray[i]? = some u := by simpa using hu
      rw [h2] at h1
      exact (Option.some.inj h1).symm
    subst hy
    refine ⟨_, rfl, wpAny_letOwnedTupleGo_enum (s := { s with heap := h', toks := tk + 1 }) ho fun h'' he' sb => ?_⟩
    have hT2 : h''.get? s.heap.objs.size = some { cls := .type "tuple", data := .seq #[.int i tk, y] } := (sb.2 _ (Nat.ne_of_gt hel)).trans hT
    have new : ObjOk X.prog X.w (upd H s.heap.objs.size (.tup [.int (i : Nat), x])) h'' s.heap.objs.size (.tup [.int (i : Nat), x]) :=
      ⟨by show 2 ≤ sizeLine; decide, [.int i tk, y], .cons ⟨_, rfl⟩ (.cons ru .nil), ⟨_, hT2, rfl, _, rfl⟩⟩
    have I1 : Inv X pins σ (upd H s.heap.objs.size (.tup [.int (i : Nat), x])) { s with heap := h'', toks := tk + 1 } :=
      I.turnedNew (ch := [e, it]) (fun b ob hb q => (sb.2 b (fun z => hb (by simp [z]))).trans (hk b ob (fun z => hb (by simp [z])) (fun z => hb (by simp [z])) q)) hf (Nat.le_refl _) new
    refine ⟨.ref s.heap.objs.size, _, I1, rfl, ⟨_, x, rfl, I.hok.fresh (Nat.le_refl _), rfl, fun ys hy => by rw [I.tuple_inj hy hq]; exact hx⟩, ⟨⟨y, ?_⟩, hst'.1.at fun o q => (sb.2 it (Ne.symm hne)).trans q, hne, hai, hea⟩, fun b hb => ?_⟩
    · have e1 : ((i + 1 : Nat) : Int) = (i : Int) + 1 := by omega
      rw [e1]; exact he'
    · have hb' : b < s.heap.objs.size := by
        have e' : b = e ∨ b = it := by simpa using hb
        rcases e' with z | z
        · rw [z]; exact hel
        · rw [z]; exact hil
      rw [upd_ne (Nat.ne_of_lt hb')]
      exact (hf b hb).1
  done := by
    intro X hP hw hK hc i pins s σ H E I hf st hg
    subst hP hw hK
    obtain ⟨⟨old, he⟩, hit, hne, hai, hea⟩ := st
    obtain ⟨xs, hq, hx⟩ := hg
    obtain ⟨its, rv, p, hz⟩ := I.tuple hq
    obtain ⟨f0, f1, f2, f3, f4, f5⟩ := hf it (by simp)
    have hl := rv.length
    exact next_enumT_end (I.ok.hd hc) he hit p (by simp; omega) fun h' eb => ⟨rfl, I.turned (t' := s.toks) (fun b o hb q => eb b o hb q) f0 f1 f3 f4 f5⟩
  self := fun A i s Q E st h => let ⟨⟨_, he⟩, _⟩ := st; wpAny_pyIter_enum he h
def iEnumT (K : PySem.W.Frag) (ta : TA) : TI := fun σ H R => ta σ H fun vs H1 => ∃ a xs, vs = [.ref a] ∧ SqT K H1 a xs ∧ R (IteT K a) H1
theorem pi_enumT {X : Cx} {e : Expr} {ta : TA} {p pos tpos : Pos} {elts : List Expr} {kk : Nat} (hg : Gl X "enumerate") (hm : X.mg "enumerate" = none) (ha : PA X [e] ta) (hs : starEach [e] X.env = [(false, eval e X.env)] := by rfl) :
    PI X (.Tuple elts kk tpos) (.Call (.Name "enumerate" p) [e] [] pos) (iEnumT X.K ta) := by
  refine ⟨fun pins s σ H R I h => ?_⟩
  refine Call_ (ld_blt I hg hm boot_enumerate (PyProof.Rows.callWith_type1 (thn (ha.run pos pins s σ H _ I h) fun us s1 ⟨vs, H1, I1, r1, q1⟩ => ?_) hs rfl))
  obtain ⟨a, xs, ex, hq, q⟩ := q1
  subst ex
  cases r1 with
  | cons r rr =>
    cases rr
    cases r
    obtain ⟨its, rv, p', hz⟩ := I1.tuple hq
    have hal : a < s1.heap.objs.size := by obtain ⟨_, q, _⟩ := p'; exact Heap.lt_size q
    refine call_enum1 (begins_tuple a its.toArray) p' fun h' he hit hsz hk => wpAny_pyIter_enum he ?_
    have I2 : Inv X pins σ H1 { s1 with heap := h' } := I1.kept (t' := s1.toks) hk
    refine ⟨s1.heap.objs.size + 1, [s1.heap.objs.size + 1, s1.heap.objs.size], _, _, H1, rfl, I2, turn_enumT a (s1.heap.objs.size + 1) s1.heap.objs.size, ⟨⟨.none, he⟩, ⟨_, hit, rfl, rfl⟩, Nat.succ_ne_self _, Nat.ne_of_lt hal, Nat.ne_of_gt (Nat.lt_succ_of_lt hal)⟩, fun b hb => ?_, q⟩
    have e' : b = s1.heap.objs.size + 1 ∨ b = s1.heap.objs.size := by simpa using hb
    have hle : s1.heap.objs.size ≤ b := by
      rcases e' with z | z
      · rw [z]; exact Nat.le_add_right _ _
      · rw [z]; exact Nat.le_refl _
    exact I1.fpOk hle (I1.hok.fresh hle)
theorem wk_enumT {K : PySem.W.Frag} {a : Addr} {vs : List V} {xs : List D} {G : Hp} (hG : SqT K G a vs) (h : DnAll K G vs xs) : Wk K (IteT K a) (enumD xs) G := fun G2 H2 O2 e ok i => by
  have hS := ex_t ok.ex (ex_t e hG)
  refine ⟨fun x hx => ?_, fun l => ⟨vs, hS, by rw [h.length]; simpa [enumD] using l⟩⟩
  obtain ⟨hi, rfl⟩ := range_get hx
  have hx : xs[i]? = some xs[i] := List.getElem?_eq_getElem hi
  obtain ⟨v, h1, h2⟩ := h.get hx
  refine ⟨⟨vs, v, hS, h1⟩, fun w H' hy => ?_⟩
  obtain ⟨T, x, rfl, hT, rfl, y⟩ := hy
  have e2 := y vs hS
  rw [h1] at e2
  cases e2
  obtain ⟨ok2, s2, e3⟩ := frozen (o := .tup [.int (i : Nat), v]) ok hT
  refine ⟨_, ok2, s2, .tup (SqT.of upd_same) (.cons (.int _) (.cons ?_ .nil))⟩
  rw [nthD_of hx]
  exact (h2.mono e).mono e3
def dEnumT (t : DA) : DI := fun ds O k => t ds O fun xs O1 => match xs with
  | [.tup ys] => k (enumD ys) O1
  | _ => False
section
variable {X : Cx} {W : WX} {ex : EX} {a : Expr} {ta : DA} {elts : List Expr} {kk : Nat} {tpos : Pos}
theorem di_enumT {p pos : Pos} (hm : X.mg "enumerate" = none) (ha : DAs X W ex [a] ta) (hg : Gl X "enumerate" := by rfl) (hs : starEach [a] X.env = [(false, eval a X.env)] := by rfl) :
    DIt X W ex (.Tuple elts kk tpos) (.Call (.Name "enumerate" p) [a] [] pos) (dEnumT ta) := by
  obtain ⟨te, p1, l⟩ := ha
  refine ⟨_, pi_enumT hg hm p1 hs, fun ds O k h G H σ R ok rp x c => l ds O _ h G H σ _ ok rp x fun xs O1 vs G1 H1 h1 s1 ok1 d1 => ?_⟩
  dsimp only at h1
  split at h1
  · obtain ⟨v, rfl, hv⟩ := one_of d1
    cases hv with
    | tup q1 q2 => exact ⟨_, _, rfl, ex_t ok1.ex q1, c _ O1 G1 H1 _ h1 s1 ok1 (wk_enumT q1 q2)⟩
  · exact h1.elim
end
/-! ### sum of a tuple -/
def rSumT (K : PySem.W.Frag) : List V → Hp → VK → Prop := fun vs H Q => ∃ (a : Addr) (ns : List Int), vs = [V.ref a] ∧ SqT K H a (ns.map V.int) ∧ Q (.int ns.sum) H
theorem cr_sumT {X : Cx} (hc : X.calm = true) : CallR X (.builtin "sum") (rSumT X.K) := by
  intro pins s σ H vs us Q I r h
  obtain ⟨a, ns, rfl, hs, q⟩ := h
  obtain ⟨its, rv, p, hz⟩ := I.tuple hs
  rw [Vals.ref1 r]
  obtain ⟨xs, hx⟩ := rv.ints.allInts.items
  have hn : numsOf (intItems xs).toList = ns := by rw [← hx]; exact rv.ints.numsOf
  rw [nums_intItems] at hn
  have hl : s.heap.IsTuple a its.toArray := p
  rw [hx] at hl
  refine PySem.W.ktm_sumG (I.ok.hd hc) hl fun h' tk t' hk => ⟨.int _, H, I.kept hk, ⟨t', ?_⟩, q⟩
  rw [preSum_eq, List.take_of_length_le (by simp), hn]
def qSumT : DRC := fun xs O k => match xs with
  | [.tup ds] => (match intsOf ds with
    | some ns => k (.int ns.sum) O
    | none => False)
  | _ => False
theorem lc_sumT {K : PySem.W.Frag} : LiftC K (rSumT K) qSumT := by
  intro xs O k h G H vs Q ok hx c
  unfold qSumT at h
  split at h
  · obtain ⟨v, rfl, hd⟩ := one_of hx
    split at h
    · rename_i ns e
      have z := intsOf_eq e
      subst z
      cases hd with
      | tup q1 q2 =>
        have a1 := q2.ints
        subst a1
        exact ⟨_, ns, rfl, ex_t ok.ex q1, c _ O _ G H h Stp.refl ok (.int _)⟩
    · exact h.elim
  · exact h.elim
end DL
namespace DL
open PySem PySem.Spec PyProof.Rows L2 Evl

/-! ### sorted of a list of tuples of ints -/
def eI (ns : List Int) : D := .tup (ns.map D.int)
section
variable {K : PySem.W.Frag} {G H : Hp}
theorem dn_perm : ∀ {ys vs : List V}, ys.Perm vs → ∀ {nss : List (List Int)}, DnAll K G vs (nss.map eI) → ∃ nss' : List (List Int), nss'.Perm nss ∧ DnAll K G ys (nss'.map eI) := fun {ys vs} p => by
  induction p with
  | nil => exact fun {nss} h => ⟨nss, .refl _, h⟩
  | cons x p ih =>
    intro nss h
    cases nss with
    | nil => cases h
    | cons n r =>
      cases h with
      | cons a t =>
        obtain ⟨r', h1, h2⟩ := ih t
        exact ⟨n :: r', h1.cons n, .cons a h2⟩
  | swap x y l =>
    intro nss h
    match nss, h with
    | n :: m :: r, .cons a (.cons b t) => exact ⟨m :: n :: r, .swap _ _ _, .cons b (.cons a t)⟩
  | trans p q ih1 ih2 =>
    intro nss h
    obtain ⟨n1, a1, b1⟩ := ih2 h
    obtain ⟨n2, a2, b2⟩ := ih1 b1
    exact ⟨n2, a2.trans a1, b2⟩
theorem tupI_of (e : Ex G H) {v : V} {ns : List Int} (h : Dn K G v (eI ns)) : TupI K H v ns := by
  unfold eI at h
  cases h with
  | tup q1 q2 =>
    have a := q2.ints
    subst a
    exact ⟨_, rfl, ex_t e q1⟩
theorem dn_pair (e : Ex G H) {B : Int} : ∀ {ys : List V} {nss : List (List Int)}, DnAll K G ys (nss.map eI) → ys.Pairwise (fun x y => ∀ n m, TupI K H x n → TupI K H y m → TS.code B n ≤ TS.code B m) → nss.Pairwise (fun n m => TS.code B n ≤ TS.code B m)
  | _, [], _, _ => .nil
  | _ :: _, n :: r, .cons a t, h => by
    rw [List.pairwise_cons] at h ⊢
    refine ⟨fun m hm => ?_, dn_pair e t h.2⟩
    obtain ⟨i, hi⟩ := List.getElem?_of_mem hm
    obtain ⟨v, h1, h2⟩ := t.get (i := i) (x := eI m) (by rw [List.getElem?_map, hi]; rfl)
    exact h.1 v (List.mem_of_getElem? h1) n m (tupI_of e a) (tupI_of e h2)
def qSortU (d : Nat) (B : Int) : DRC := fun xs O k => match xs with
  | [x] => (match listOf O x with
    | some ys => ∃ nss : List (List Int), ys = nss.map eI ∧ nss.length < 64 ∧ (∀ ns ∈ nss, ns.length = d ∧ TS.Bd B ns) ∧ ∀ nss' : List (List Int), nss'.Perm nss → nss'.Pairwise (fun n m => TS.code B n ≤ TS.code B m) → k (.lst (nss'.map eI)) O
    | none => False)
  | _ => False
theorem lc_sortU {d : Nat} {B : Int} : LiftC K (rSortU K d B) (qSortU d B) := by
  intro xs O k h G H vs Q ok hx c
  unfold qSortU at h
  split at h
  · obtain ⟨v, rfl, hd⟩ := one_of hx
    split at h
    · rename_i ys e
      obtain ⟨a, us, rfl, a1, a2⟩ := listOf_ok ok hd e
      obtain ⟨nss, rfl, h64, hB, hk⟩ := h
      refine ⟨a, us, rfl, SqL.of a1, by rw [a2.length, List.length_map]; exact h64, fun x hx => ?_, fun zs p hp hs hn => ?_⟩
      · obtain ⟨i, hi⟩ := List.getElem?_of_mem hx
        have hl := a2.length
        have il := (List.getElem?_eq_some_iff.mp hi).1
        rw [List.length_map] at hl
        have hni : nss[i]? = some nss[i] := List.getElem?_eq_getElem (by omega)
        obtain ⟨w, w1, w2⟩ := a2.get (i := i) (x := eI nss[i]) (by rw [List.getElem?_map, hni]; rfl)
        rw [hi] at w1
        cases w1
        have := hB _ (List.mem_of_getElem? hni)
        exact ⟨_, tupI_of ok.ex w2, this.1, this.2⟩
      · obtain ⟨nss', q1, q2⟩ := dn_perm hp a2
        obtain ⟨ok2, s2, e2⟩ := frozen (o := .lst zs) ok hn
        exact c _ O _ _ _ (hk nss' q1 (dn_pair ok.ex q2 hs)) s2 ok2 (.lst upd_same (q2.mono e2))
    · exact h.elim
  · exact h.elim
end
end DL
namespace DL
open PySem PySem.Spec PyProof.Rows L2 Evl

/-! ### range with a step -/
theorem wk_rangeC {K : PySem.W.Frag} {lo c : Int} {n : Nat} {G : Hp} : Wk K (Itc lo c n) ((List.range n).map fun i : Nat => D.int (lo + (i : Int) * c)) G := fun G2 H2 O2 e ok i => by
  refine ⟨fun x hx => ?_, fun l => ?_⟩
  · rw [List.getElem?_map] at hx
    cases q : (List.range n)[i]? with
    | none => rw [q] at hx; cases hx
    | some c =>
      rw [q] at hx
      cases hx
      obtain ⟨h1, h2⟩ := List.getElem?_eq_some_iff.mp q
      rw [List.getElem_range] at h2
      subst h2
      rw [List.length_range] at h1
      refine ⟨h1, fun w H' hy => ?_⟩
      obtain ⟨e1, y⟩ := hy
      subst e1
      subst y
      exact ⟨G2, ok, Stp.refl, .int _⟩
  · rw [List.length_map, List.length_range] at l
    exact l
def dRange3 (t : DA) : DI := fun ds O k => t ds O fun xs O1 => match xs with
  | [.int i, .int j, .int c] => ∃ n : Nat, RgC i j c n ∧ k ((List.range n).map fun m : Nat => D.int (i + (m : Int) * c)) O1
  | _ => False
section
variable {X : Cx} {W : WX} {ex : EX} {tg a b c : Expr} {ta : DA}
theorem di_range3 {x : Str} {p pos : Pos} (hm : X.mg x = none) (ha : DAs X W ex [a, b, c] ta)
    (hp : ∀ {t : TA}, PA X [a, b, c] t → PI X tg (.Call (.Name x p) [a, b, c] [] pos) (iRng3 t)) : DIt X W ex tg (.Call (.Name x p) [a, b, c] [] pos) (dRange3 ta) := by
  obtain ⟨te, p1, l⟩ := ha
  refine ⟨_, hp p1, fun ds O k h G H σ R ok rp x c' => l ds O _ h G H σ _ ok rp x fun xs O1 vs G1 H1 h1 s1 ok1 d1 => ?_⟩
  dsimp only at h1
  split at h1
  · rename_i i j st
    obtain ⟨n, hr, hk⟩ := h1
    have e : vs = [.int i, .int j, .int st] := DnAll.ints (ns := [i, j, st]) d1
    rw [e]
    exact ⟨i, j, st, n, rfl, hr, c' _ O1 G1 H1 _ hk s1 ok1 wk_rangeC⟩
  · exact h1.elim
end
end DL
namespace DL
open PySem PySem.Spec PyProof.Rows L2 Evl

/-! ### chains of three comparisons as tests -/
section
variable {X : Cx} {a b c e : Expr} {ta tb tc td : TE} {pos : Pos}
/-- a op b op' c op'' e, as a test -/
def tChain3 (r r' r'' : R2) (ta tb tc td : TE) : TT := fun σ H Q => ta σ H fun x H1 => tb σ H1 fun y H2 => r x y H2 fun z H3 => ∃ k, z = .bl k ∧
  (if k = true then tc σ H3 fun w' H4 => r' y w' H4 fun z2 H5 => ∃ k2, z2 = .bl k2 ∧ (if k2 = true then td σ H5 fun v H6 => r'' w' v H6 fun z3 H7 => ∃ k3, z3 = .bl k3 ∧ Q k3 H7 else Q false H5) else Q false H3)
theorem pt_chain3 {op op' op'' : CmpOp} {r r' r'' : R2} (ho : OpR X (compareOp op) r) (ho' : OpR X (compareOp op') r') (ho'' : OpR X (compareOp op'') r'') (ha : PE X a ta) (hb : PE X b tb) (hc : PE X c tc) (hd : PE X e td)
    (hm : lastMarks [op, op', op''] [b, c, e] = false := by with_unfolding_all rfl) : PT X (.Compare a [op, op', op''] [b, c, e] pos) (tChain3 r r' r'' ta tb tc td) := by
  refine ⟨fun pins s σ H Q I h => ?_⟩
  refine isTrue_chain (thn (ha.run pins s σ H _ I h) fun v s1 ⟨x, H1, I1, r1, q1⟩ => test_link (thn (hb.run pins s1 σ H1 _ I1 q1) fun u s2 ⟨y, H2, I2, r2, q2⟩ =>
    thn (ho pins s2 σ H2 x y v u _ I2 r1 r2 q2) fun d s3 ⟨z, H3, I3, r3, k, e, q3⟩ => ?_)) hm
  subst e
  cases r3
  refine wpAny_truthy_bool ?_
  cases k with
  | false => exact ite_ff ⟨H3, I3, q3⟩
  | true =>
    refine ite_tt (test_link (thn (hc.run pins s3 σ H3 _ I3 q3) fun w' s4 ⟨z', H4, I4, r4, q4⟩ => thn (ho' pins s4 σ H4 y z' u w' _ I4 r2 r4 q4) fun d' s5 ⟨z2, H5, I5, r5, k2, e2, q5⟩ => ?_))
    subst e2
    cases r5
    refine wpAny_truthy_bool ?_
    cases k2 with
    | false => exact ite_ff ⟨H5, I5, q5⟩
    | true =>
      refine ite_tt (test_last (thn (hd.run pins s5 σ H5 _ I5 q5) fun w2 s6 ⟨z3, H6, I6, r6, q6⟩ => thn (ho'' pins s6 σ H6 z' z3 w' w2 _ I6 r4 r6 q6) fun d2 s7 ⟨z4, H7, I7, r7, k3, e3, q7⟩ => ?_))
      subst e3
      cases r7
      exact wpAny_truthy_bool ⟨H7, I7, q7⟩
end
def dChain3 (q q' q'' : DR2) (t u v w : DT) : DB := fun ds O k => t ds O fun x O1 => u ds O1 fun y O2 => q x y O2 fun z O3 => match z with
  | .bl b => if b = true then v ds O3 fun c O4 => q' y c O4 fun z2 O5 => (match z2 with
      | .bl b2 => if b2 = true then w ds O5 fun d O6 => q'' c d O6 fun z3 O7 => (match z3 with
          | .bl b3 => k b3 O7
          | _ => False) else k false O5
      | _ => False) else k false O3
  | _ => False
section
variable {X : Cx} {W : WX} {ex : EX} {a b c e : Expr} {t u v w : DT} {pos : Pos}
theorem l_chain3 {K : PySem.W.Frag} {ta tb tc td : TE} {r r' r'' : R2} {q q' q'' : DR2} (hr : LiftR K r q) (hr' : LiftR K r' q') (hr'' : LiftR K r'' q'') (ha : LiftE K W ex ta t) (hb : LiftE K W ex tb u) (hc : LiftE K W ex tc v) (hd : LiftE K W ex td w) : LiftB K W ex (tChain3 r r' r'' ta tb tc td) (dChain3 q q' q'' t u v w) := fun ds O k h G H σ Q ok rp x c =>
  ha ds O _ h G H σ _ ok rp x fun d O1 w1 G1 H1 h1 s1 ok1 d1 => hb ds O1 _ h1 G1 H1 σ _ ok1 (rp.mono s1.g) (x.after s1) fun e O2 w2 G2 H2 h2 s2 ok2 d2 =>
    hr d e O2 _ h2 G2 H2 w1 w2 _ ok2 (d1.mono s2.g) d2 fun z O3 w3 G3 H3 h3 s3 ok3 d3 => by
      have s123 := (s1.trans s2).trans s3
      cases d3 with
      | bl b =>
        refine ⟨b, rfl, ?_⟩
        cases b with
        | false =>
          show Q _ _
          exact c _ O3 G3 H3 h3 s123 ok3
        | true =>
          show tc σ H3 _
          refine hc ds O3 _ h3 G3 H3 σ _ ok3 (rp.mono s123.g) (x.after s123) fun f O4 w4 G4 H4 h4 s4 ok4 d4 =>
            hr' e f O4 _ h4 G4 H4 w2 w4 _ ok4 ((d2.mono s3.g).mono s4.g) d4 fun z2 O5 w5 G5 H5 h5 s5 ok5 d5 => ?_
          have s15 := (s123.trans s4).trans s5
          cases d5 with
          | bl b2 =>
            refine ⟨b2, rfl, ?_⟩
            cases b2 with
            | false =>
              show Q _ _
              exact c _ O5 G5 H5 h5 s15 ok5
            | true =>
              show td σ H5 _
              refine hd ds O5 _ h5 G5 H5 σ _ ok5 (rp.mono s15.g) (x.after s15) fun g O6 w6 G6 H6 h6 s6 ok6 d6 =>
                hr'' f g O6 _ h6 G6 H6 w4 w6 _ ok6 ((d4.mono s5.g).mono s6.g) d6 fun z3 O7 w7 G7 H7 h7 s7 ok7 d7 => ?_
              cases d7 with
              | bl b3 => exact ⟨b3, rfl, c _ O7 G7 H7 h7 ((s15.trans s6).trans s7) ok7⟩
              | _ => exact False.elim h7
          | _ => exact False.elim h5
      | _ => exact False.elim h3
theorem dt_chain3 {op op' op'' : CmpOp} {r r' r'' : R2} {q q' q'' : DR2} (ho : OpR X (compareOp op) r) (hl : LiftR X.K r q) (ho' : OpR X (compareOp op') r') (hl' : LiftR X.K r' q') (ho'' : OpR X (compareOp op'') r'') (hl'' : LiftR X.K r'' q'')
    (ha : DE X W ex a t) (hb : DE X W ex b u) (hc : DE X W ex c v) (hd : DE X W ex e w) (hm : lastMarks [op, op', op''] [b, c, e] = false := by with_unfolding_all rfl) :
    DTe X W ex (.Compare a [op, op', op''] [b, c, e] pos) (dChain3 q q' q'' t u v w) := by
  obtain ⟨ta, h1, l1⟩ := ha
  obtain ⟨tb, h2, l2⟩ := hb
  obtain ⟨tc, h3, l3⟩ := hc
  obtain ⟨td, h4, l4⟩ := hd
  exact ⟨_, pt_chain3 ho ho' ho'' h1 h2 h3 h4 hm, l_chain3 hl hl' hl'' l1 l2 l3 l4⟩
end
end DL
namespace DL
open PySem PySem.Spec PyProof.Rows L2 Evl

/-! ### an exception that is caught, and kept as a value -/
/-- an object of ours is told of from here on -/
theorem told_on {X : Cx} {pins : List (Addr × Obj)} {σ : L2.St} {H : Hp} {s : Shared} {a : Addr} {o : HO} {ob : Obj} (I : L2.Inv X pins σ H s) (hx : X.ex = [])
    (here : s.heap.get? a = some ob) (nc : ∀ v, ob.data ≠ .cell v) (old : X.s_0.heap.get? a = none) (un : H a = none) (nl : a ≠ X.env.locals) (np : ∀ p ∈ X.pn ++ pins, p.1 ≠ a) (new : ObjOk X.prog X.w (upd H a o) s.heap a o) : L2.Inv X pins σ (upd H a o) s := by
  have ne0 : ∀ {b : Addr} {u : HO}, H b = some u → b ≠ a := fun e z => by rw [z, un] at e; cases e
  refine ⟨I.ok, I.os, I.bare, ⟨I.base.keep, I.base.slot, fun b u e n q => ?_, I.base.there, fun b xs e => ?_, fun b u v e => ?_, fun b ps e => ?_⟩, I.loc, I.cell, ?_, fun x c e => ?_, fun p hp => ?_, fun b u e => ?_, I.len⟩
  · rw [upd_ne (fun z => by rw [z, old] at e; cases e)]
    exact I.base.free b u e n q
  · have q := I.base.tups b xs e
    rw [upd_ne (ne0 q)]
    exact q
  · have q := I.base.frzs b u v e
    rw [upd_ne (ne0 q)]
    exact q
  · obtain ⟨m, q⟩ := I.base.tbls b ps e
    exact ⟨m, by rw [upd_ne (ne0 q)]; exact q⟩
  · rw [upd_ne (Ne.symm nl)]
    exact I.free
  · have q : c ≠ a := fun z => by
      obtain ⟨v, o', h1, h2⟩ := I.cell x c e
      rw [z, here] at h1
      cases h1
      exact nc v h2
    rw [upd_ne q]
    exact I.freeC x c e
  · obtain ⟨h1, h2, h3⟩ := I.pin p hp
    exact ⟨h1, by rw [upd_ne (np p hp)]; exact h2, h3⟩
  · by_cases z : b = a
    · rw [z, upd_same] at e
      cases e
      rw [z]
      exact new
    · rw [upd_ne z] at e
      exact (I.hok b u e).stay (fun _ _ _ q => q) (fun _ q => by rw [upd_ne (ne0 q)]; exact q) fun _ _ q => by rw [upd_ne (ne0 q)]; exact q
/-- the ends of a suite behind which the exception a of the class cls is told of, its name gone -/
def keptEnds (i : Nat) (cls : Value) (a : Addr) (D : Ends) : Ends := { nx := fun σ H => H a = none → D.nx (σ.set i none) (upd H a (ExK cls a)), rt := fun _ _ => False, bk := fun _ _ => False, ct := fun _ _ => False }
def wKeep (K : PySem.W.Frag) (c : Value) (i : Nat) (ts : TS) (out : WX) (D : Ends) : WX := fun cls d σ H =>
  ∃ b, PySem.W.exmOne K cls c = some b ∧ (b = true → d = none ∧ ∀ a, H a = none → ts (keptEnds i cls a D) (σ.set i (some (.ref a))) H) ∧ (b = false → out cls d σ H)
section
variable {X : Cx} {x n : Str} {c : Value} {i : Nat} {body suite : List Stmt} {st : Stmt} {np pos pos' : Pos} {tb : WX → TS} {ts : TS} {out : WX}
theorem ps_try_keep (onTop : X.stack = X.env :: X.outer) (fr : X.env.frame = some X.env.locals) (nd : X.N.Nodup) (hx : X.ex = []) (at_i : X.N[i]? = some n) (kind : X.env.kindOf n = some .local) (hc : Names X x c) (tk : L2N.Takes X out)
    (hb : ∀ (W : WX) (pn : List (Addr × Obj)) (xe : Value → Shared → Prop), L2N.Takes (X.tr pn xe) W → PassesOwn (model X.prog X.w) X.A X.env xe → PSs (X.tr pn xe) body (tb W))
    (hsu : ∀ (a : Addr) (oe : Obj) (pn : List (Addr × Obj)), PSs (X.suite a ((a, oe) :: pn)) (st :: suite) ts) :
    PS X (.Try body [.ExceptHandler (some (.Name x np)) (some n) (st :: suite) pos'] [] [] pos) (fun D σ H => tb (wKeep X.K c i ts out D) D σ H) := by
  constructor
  intro pins s σ H D I start
  have ok := I.ok
  have frames : X.A.frames = some (X.env :: X.outer) := by rw [ok.frames, onTop]
  refine wpAny_Try_except ?_
  have run := hb (wKeep X.K c i ts out D) (X.pn ++ pins) (fun u s1 => wpAny (model X.prog X.w) X.A (noteFrame u X.env) (fun _ s2 => wpAny (model X.prog X.w) X.A (setFlight u none)
    (fun _ s3 => wpAny (model X.prog X.w) X.A (handleBy u X.env [.ExceptHandler (some (.Name x np)) (some n) (st :: suite) pos']) (SP X pins D) X.xe s3) X.xe s2) X.xe s1) ?air PassesOwn.looking
  case air =>
    rintro u s' ⟨a, B, sI, pl, τ, G, cls, d, rfl, J, nb, up, sky, un, os, bare, b, eb, yes, no⟩
    have J : L2.Inv X pins τ G sI := J.ofTry ok
    have sky : L2.Sky B (X.env :: X.outer) a (L2N.Zn cls d) X.env.locals s'.heap := by rw [← onTop]; exact sky
    refine L2N.Sky.land L2N.Zn.steady frames fr sky fun g fl up2 => ?_
    have J2 : L2.Inv X pins τ G { s' with heap := g } := J.landed nb fl.1 (up.trans up2) os bare
    obtain ⟨oe, vs, get, zn, flds⟩ := fl.there
    have off : a ∉ frs (X.env :: X.outer) := fun m => by
      obtain ⟨_, o2, g2, z⟩ := fl.2.2.1.mem m
      rw [get] at g2
      cases g2
      exact z _ flds
    have offL : a ≠ X.env.locals := fun z => off (List.mem_filterMap.mpr ⟨X.env, List.mem_cons_self, by rw [fr, z]⟩)
    have offF : a ∉ X.fs := fun m => by
      obtain ⟨e, m1, m2⟩ := List.mem_filterMap.mp m
      exact off (List.mem_filterMap.mpr ⟨e, List.mem_cons_of_mem _ m1, m2⟩)
    have newI : sI.heap.get? a = none := by
      cases q : sI.heap.get? a with
      | none => rfl
      | some o2 =>
        have z := nb a o2 q (by rw [onTop]; exact off)
        rw [fl.2.1] at z
        cases z
    have new0 : X.s_0.heap.get? a = none := by
      cases q : X.s_0.heap.get? a with
      | none => rfl
      | some o2 =>
        obtain ⟨o3, z⟩ := J.base.there a o2 q (by rw [hx]; exact List.not_mem_nil)
        rw [newI] at z
        cases z
    have offP : ∀ p ∈ X.pn ++ pins, p.1 ≠ a := fun p hp z => by
      have q := (J.pin p hp).1
      rw [z, newI] at q
      cases q
    have S := J2.suite get flds un offL offF
    refine wpAny_handleBy_cons (codeAny_handlers_test ?_) (by intro q; cases q)
    have look : PySem.W.Looks (model X.prog X.w) g (typeOf (.ref a)) cls := fun A Q E z k q => wpAny_typeOf_ref (k _ _ get) (by rw [zn.1]; exact q)
    have asked := PySem.W.exm_one (M := model X.prog X.w) J2.kIn look eb
    have name : ∀ {Q E : Value → Shared → Prop}, Q c { s' with heap := g } → wpAny (model X.prog X.w) (X.A.mark (some (.ref a))) (eval (.Name x np) X.env) Q E { s' with heap := g } := fun {Q E} q => by
      obtain ⟨g1, g2, g3 | ⟨g3, g4, g5⟩⟩ := hc
      · exact ld_glob (X := X.suite a ((a, oe) :: (X.pn ++ pins))) S g1 g3 q g2
      · exact ld_blt (X := X.suite a ((a, oe) :: (X.pn ++ pins))) S g1 g3 g4 q g5 g2
    refine name (asked.here ?_)
    cases b with
    | false =>
      show wpAny _ X.A (handleBy (.ref a) X.env []) _ _ _
      refine wpAny_handleBy_nil ?_
      obtain ⟨_, _, _, oe2, vs2, T, oT, tv, get2, _, flds2, one, _⟩ := id fl
      unfold PySem.passOn
      refine wpAny_bind (wpAny_field get2 flds2 one ?_)
      rw [if_neg (show ¬ ((Value.ref T == Value.none) = true) from by simp)]
      have on : wpAny (model X.prog X.w) X.A (setFlight (.ref a) X.env.frame) (fun _ s4 => wpAny (model X.prog X.w) X.A (throw (.ref a) : Sem Flow) (SP X pins D) X.xe s4) X.xe { s' with heap := g } := by
        rw [fr]
        exact HandSPX.setFlight_upZ fl fun g4 held up4 => wpAny_throw (tk _ _ ⟨a, B, sI, pins, τ, G, cls, d, rfl, J, nb, (up.trans up2).trans up4, .inr (.inr (by rw [onTop]; exact held)), un, os, bare, no rfl⟩)
      first
        | exact wpAny_bind (wpAny_pure (wpAny_bind on))
        | exact wpAny_bind on
    | true =>
      obtain ⟨d0, yes⟩ := yes rfl
      refine codeAny_handlers_suite_as ?_
      refine HandSPX.lands_againZ fl fun g4 fl4 up4 => ?_
      have J4 : L2.Inv X pins τ G { s' with heap := g4 } := J.landed nb fl4.1 ((up.trans up2).trans up4) os bare
      obtain ⟨oe4, vs4, get4, zn4, flds4⟩ := fl4.there
      have S4 := J4.suite get4 flds4 un offL offF
      refine store_ok (X := X.suite a ((a, oe4) :: (X.pn ++ pins))) (v := .ref a) S4 nd at_i (.inl kind) rfl (fun s5 S5 => ?_) (.inr kind)
      refine wpAny_mono ((hsu a oe4 (X.pn ++ pins)).run [] s5 _ G (keptEnds i cls a D) S5 (yes a un)) (fun f s6 post => ?_) (fun _ _ z => False.elim z)
      cases f with
      | next =>
        obtain ⟨σ6, H6, S6, q6⟩ := post
        obtain ⟨p1, p2, _⟩ := S6.pin (a, oe4) (List.mem_append_left _ List.mem_cons_self)
        have J6 : L2.Inv X pins σ6 (upd H6 a (ExK cls a)) s6 := told_on (S6.unsuite ok) hx p1 (fun v z => by rw [flds4] at z; cases z) new0 p2 offL offP (exK_ok p1 zn4.1 (by rw [zn4.2.1, d0]) flds4)
        exact gone_ok J6 nd at_i kind fun s7 J7 => ⟨_, _, J7, q6 p2⟩
      | brk =>
        obtain ⟨_, _, _, z⟩ := post
        exact False.elim z
      | cont =>
        obtain ⟨_, _, _, z⟩ := post
        exact False.elim z
      | ret u =>
        obtain ⟨_, _, _, _, _, z⟩ := post
        exact False.elim z
  refine wpAny_mono (run.run [] s σ H D (I.toTry _) start) (fun f s1 post => ?_) (fun e s1 he => he)
  cases f with
  | next =>
    obtain ⟨σ', H', J', q⟩ := post
    exact wpAny_execs_nil ⟨σ', H', J'.ofTry ok, q⟩
  | brk =>
    obtain ⟨σ', H', J', q⟩ := post
    exact ⟨σ', H', J'.ofTry ok, q⟩
  | cont =>
    obtain ⟨σ', H', J', q⟩ := post
    exact ⟨σ', H', J'.ofTry ok, q⟩
  | ret u =>
    obtain ⟨v, σ', H', J', r, q⟩ := post
    exact ⟨v, σ', H', J'.ofTry ok, r, q⟩
end
/-- try: .. except C as n: y = n: the exception is a value from here on -/
def dTryKeep (K : PySem.W.Frag) (c : Value) (i j : Nat) (t : EX → DSr) (su : DSr) (ex : EX) : DSr := fun E ds O =>
  t (fun xc ds' O' => ∃ b, PySem.W.exmOne K xc.cls c = some b ∧ (b = true → xc.pay = none ∧ ∃ C, xc.cls = .ref C ∧ ExcC K C ∧ ∀ a, su { nx := fun d2 O2 => d2[j]? = some (some (.opq (.ref a))) ∧ E.nx ((d2.set j (some (.obj (.ref C) (.ref a)))).set i none) O2, rt := fun _ _ => False, bk := fun _ _ => False, ct := fun _ _ => False } (ds'.set i (some (.opq (.ref a)))) O') ∧ (b = false → ex xc ds' O')) E ds O
section
variable {X : Cx} {W : WX} {ex : EX} {x n : Str} {c : Value} {body suite : List Stmt} {st : Stmt} {np pos pos' : Pos} {t : EX → DSr} {su : DSr}
theorem ds_tryKeep (i j : Nat) (onTop : X.stack = X.env :: X.outer) (fr : X.env.frame = some X.env.locals) (nd : X.N.Nodup) (hx : X.ex = []) (hc : Names X x c) (tk : L2N.Takes X W)
    (hb : ∀ (W' : WX) (pn : List (Addr × Obj)) (xe : Value → Shared → Prop) (ex' : EX), L2N.Takes (X.tr pn xe) W' → PassesOwn (model X.prog X.w) X.A X.env xe → DSs (X.tr pn xe) W' ex' body (t ex'))
    (hsu : ∀ (a : Addr) (oe : Obj) (pn : List (Addr × Obj)), DSs (X.suite a ((a, oe) :: pn)) NoW NoX (st :: suite) su)
    (at_i : X.N[i]? = some n := by rfl) (kind : X.env.kindOf n = some .local := by rfl) :
    DSt X W ex (.Try body [.ExceptHandler (some (.Name x np)) (some n) (st :: suite) pos'] [] [] pos) (dTryKeep X.K c i j t su ex) := by
  refine ⟨_, ps_try_keep (i := i) onTop fr nd hx at_i kind hc tk (body_p hb) (ts := sOf X.K NoW NoX su) (fun a oe pn => sOf_p (hsu a oe pn)), fun E ds O h G H σ D ok rp xc cc => ?_⟩
  refine ⟨_, E, ds, O, G, h, ok, rp, ?_, cc⟩
  intro c' ds' O' σ' dd G' H' hq st' ok' rp' pay
  obtain ⟨b, eb, yes, no⟩ := hq
  refine ⟨b, eb, fun e => ?_, fun e => xc c' ds' O' σ' dd G' H' (no e) st' ok' rp' pay⟩
  obtain ⟨hp, C, hC, eC, go⟩ := yes e
  rw [hp] at pay
  refine ⟨pay, fun a un => ⟨_, _, O', G', go a, ok', rp'.set (.opq _) i, noX_cont, ⟨fun d2 O2 τ G2 H2 hq s2 ok2 rp2 un2 => ?_, fun _ _ _ _ _ z => z.elim, fun _ _ _ _ _ z => z.elim, fun _ _ _ _ _ z => z.elim⟩⟩⟩
  obtain ⟨q1, q2⟩ := hq
  obtain ⟨ok3, s3, e3⟩ := frozen (o := ExK c'.cls a) ok2 un2
  obtain ⟨v, v1, v2⟩ := rp2.val j _ q1
  cases v2
  have rp3 : Rep X.K (upd G2 a (ExK c'.cls a)) τ (d2.set j (some (.obj (.ref C) (.ref a)))) := by
    have r := (rp2.mono e3).set (K := X.K) (v := .ref a) (d := .obj (.ref C) (.ref a)) (.obj (.exc (by rw [upd_same, hC]) eC) fun z => by cases z) j
    have same : τ.set j (some (.ref a)) = τ := by
      obtain ⟨l, z⟩ := List.getElem?_eq_some_iff.mp v1
      rw [← z, List.set_getElem_self]
    rw [same] at r
    exact r
  exact cc.nx _ O2 _ _ _ q2 ((st'.trans s2).trans s3) ok3 (rep_none rp3 i)
end

/-! ### isinstance of a kept exception -/
theorem exm_of {K : PySem.W.Frag} {t : Value} {S : Addr} {b : Bool} (h1 : PySem.W.subIn K (.ref S) (.type "BaseException") = some true) (h2 : PySem.W.isClsIn K S = true) (h3 : PySem.W.typeIn K (.ref S) = some (.type "type")) (h4 : PySem.W.subIn K t (.ref S) = some b) : PySem.W.exmOne K t (.ref S) = some b := by
  have e1 : (PySem.W.subIn K (.ref S) (.type "BaseException") == some true) = true := by
    rw [h1]
    rfl
  have e2 : ((PySem.W.clsIn K S).isSome && PySem.W.typeIn K (.ref S) == some (.type "type")) = true := by
    have q : (PySem.W.clsIn K S).isSome = true := h2
    rw [q, h3]
    rfl
  unfold PySem.W.exmOne PySem.W.kitCls
  rw [if_pos e1]
  dsimp only
  rw [if_pos e2]
  exact h4
theorem call_isOT {X : Cx} : CallR X (.builtin "isinstance") (fun xs H Q => ∃ (a C tp : Addr) (cs : List V) (us : List Value) (b : Bool), xs = [.ref a, .ref tp] ∧ H a = some (ExK (.ref C) a) ∧ ExcC X.K C ∧ SqT X.K H tp cs ∧ Paired ClsV cs us ∧ PySem.W.kitAny X.K (.ref C) us = some b ∧ Q (.bl b) H) := by
  intro pins s σ H xs us Q I r h
  obtain ⟨a, C, tp, cs, ws, b, rfl, ha, E, hT, k, e, q⟩ := h
  obtain ⟨u1, u2, rfl, r1, r2⟩ := vals2 r
  cases (show u1 = Value.ref a from r1)
  cases (show u2 = Value.ref tp from r2)
  obtain ⟨⟨oe, vs, ho, h1, h2, hv⟩, _⟩ := I.hok a _ ha
  have J : PySem.W.InstAt s.heap a oe C none := by
    obtain ⟨oc, od, oda, osl⟩ := oe
    dsimp only at h1 h2 hv
    subst h1 h2 hv
    exact ⟨ho, rfl, rfl, trivial⟩
  obtain ⟨its, rv, ⟨o, g1, g2, n, g3⟩, _⟩ := I.tuple hT
  have e3 := ClsV.all k rv
  subst e3
  obtain ⟨oc, od, dt, sl⟩ := o
  simp only at g2 g3
  subst g2 g3
  refine PySem.W.kia_tup
    (PySem.W.handS_kitx_exc E.hg E.hk E.hs E.hd E.ha E.hn E.ht E.hm)
    I.kIn J g1 e (fun z => by cases z) ?_
  intro tk
  exact ⟨.bl b, H, I.kept (t' := tk) fun _ _ z => z, rfl, q⟩
theorem call_isiE {X : Cx} : CallR X (.builtin "isinstance") (fun xs H Q => ∃ (x c : V) (t u : Value) (b : Bool), xs = [x, c] ∧ ClsV c u ∧ TyD X.K H x t ∧ PySem.W.kitOne X.K t u = some b ∧ Q (.bl b) H) := by
  intro pins s σ H xs us Q I r h
  obtain ⟨x, c, t, u, b, rfl, k, ht, e, q⟩ := h
  cases ht with
  | x h => exact call_isi pins s σ H _ us Q I r ⟨x, c, t, u, b, rfl, k, h, e, q⟩
  | exc h hc => exact call_isO pins s σ H _ us Q I r ⟨_, _, c, u, b, rfl, h, hc, (fun w rw => k.eq rw), e, q⟩
theorem call_isiTE {X : Cx} : CallR X (.builtin "isinstance") (fun xs H Q => ∃ (x : V) (tp : Addr) (cs : List V) (t : Value) (us : List Value) (b : Bool), xs = [x, .ref tp] ∧ SqT X.K H tp cs ∧ Paired ClsV cs us ∧ TyD X.K H x t ∧ PySem.W.kitAny X.K t us = some b ∧ Q (.bl b) H) := by
  intro pins s σ H xs us Q I r h
  obtain ⟨x, tp, cs, t, ws, b, rfl, hT, k, ht, e, q⟩ := h
  cases ht with
  | x h => exact call_isiTS pins s σ H _ us Q I r ⟨x, tp, cs, t, ws, b, rfl, hT, k, h, e, q⟩
  | exc h hc => exact call_isOT pins s σ H _ us Q I r ⟨_, _, tp, cs, ws, b, rfl, h, hc, hT, k, e, q⟩
def clsD : D → Option Value
  | .opq (.ty n) => some (.type n)
  | .opq (.ref C) => some (.ref C)
  | _ => none
def clsDs : List D → Option (List Value)
  | [] => some []
  | d :: r => match clsD d, clsDs r with
    | some u, some us => some (u :: us)
    | _, _ => none
theorem clsD_ok {K : PySem.W.Frag} {G : Hp} {v : V} {d : D} {u : Value} (h : Dn K G v d) (e : clsD d = some u) : ClsV v u := by
  cases h with
  | opq v =>
    cases v with
    | ty n => cases e; exact .ty n
    | ref C => cases e; exact .own C
    | _ => cases e
  | _ => cases e
theorem clsDs_ok {K : PySem.W.Frag} {G : Hp} : ∀ {vs : List V} {ds : List D} {us : List Value}, DnAll K G vs ds → clsDs ds = some us → Paired ClsV vs us
  | _, _, _, .nil, e => by
    cases e
    exact .nil
  | _, _, _, .cons (x := d) (xs := r) h t, e => by
    unfold clsDs at e
    split at e
    · rename_i u us e1 e2
      cases e
      exact .cons (clsD_ok h e1) (clsDs_ok t e2)
    · cases e
/-- the answer, as the written part has it -/
inductive isK (K : PySem.W.Frag) (t u : Option Value) (O : Ow) (k : DK) : Prop
  | mk {t' u' : Value} {b : Bool} : t = some t' → u = some u' → PySem.W.kitOne K t' u' = some b → k (.bl b) O → isK K t u O k
inductive isKT (K : PySem.W.Frag) (t : Option Value) (us : Option (List Value)) (O : Ow) (k : DK) : Prop
  | mk {t' : Value} {us' : List Value} {b : Bool} : t = some t' → us = some us' → PySem.W.kitAny K t' us' = some b → k (.bl b) O → isKT K t us O k
def qIsiE (K : PySem.W.Frag) : DRC := fun xs O k => match xs with
  | [d, c] => isK K (res O d).ty (clsD c) O k
  | _ => False
def qIsiTE (K : PySem.W.Frag) : DRC := fun xs O k => match xs with
  | [d, .tup cs] => isKT K (res O d).ty (clsDs cs) O k
  | _ => False
theorem lc_isiE {K : PySem.W.Frag} : LiftC K (fun xs H Q => ∃ (x c : V) (t u : Value) (b : Bool), xs = [x, c] ∧ ClsV c u ∧ TyD K H x t ∧ PySem.W.kitOne K t u = some b ∧ Q (.bl b) H) (qIsiE K) := by
  intro xs O k h G H vs Q ok hx c
  unfold qIsiE at h
  split at h
  · obtain ⟨v, u, rfl, hd, he⟩ := two_of hx
    cases h with
    | mk e1 e2 eb h => exact ⟨v, u, _, _, _, rfl, clsD_ok he e2, ty_ok ok hd e1, eb, c _ O _ G H h Stp.refl ok (.bl _)⟩
  · exact h.elim
theorem lc_isiTE {K : PySem.W.Frag} : LiftC K (fun xs H Q => ∃ (x : V) (tp : Addr) (cs : List V) (t : Value) (us : List Value) (b : Bool), xs = [x, .ref tp] ∧ SqT K H tp cs ∧ Paired ClsV cs us ∧ TyD K H x t ∧ PySem.W.kitAny K t us = some b ∧ Q (.bl b) H) (qIsiTE K) := by
  intro xs O k h G H vs Q ok hx c
  unfold qIsiTE at h
  split at h
  · obtain ⟨v, u, rfl, hd, he⟩ := two_of hx
    cases h with
    | mk e1 e2 eb h =>
      cases he with
      | tup q1 q2 => exact ⟨v, _, _, _, _, _, rfl, ex_t ok.ex q1, clsDs_ok q2 e2, ty_ok ok hd e1, eb, c _ O _ G H h Stp.refl ok (.bl _)⟩
  · exact h.elim
theorem isK_of {K : PySem.W.Frag} {t u : Value} {b : Bool} {O : Ow} {k : DK} (h : PySem.W.kitOne K t u = some b) (hk : k (.bl b) O) : isK K (some t) (some u) O k := .mk rfl rfl h hk
theorem isKT_no {K : PySem.W.Frag} {t : Value} {us : List Value} {ds : List D} {O : Ow} {k : DK} (e : clsDs ds = some us) (h : ∀ u ∈ us, PySem.W.kitOne K t u = some false) (hk : k (.bl false) O) : isKT K (some t) (clsDs ds) O k := by
  refine .mk rfl e ?_ hk
  clear e
  induction us with
  | nil => rfl
  | cons u us ih => exact kitAny_cons (h u List.mem_cons_self) (fun _ => ih fun y hy => h y (List.mem_cons_of_mem _ hy)) fun z => by cases z
theorem isKT4 {K : PySem.W.Frag} {t : Value} {a b c d : Addr} {O : Ow} {k : DK} (h1 : PySem.W.kitOne K t (.ref a) = some false) (h2 : PySem.W.kitOne K t (.ref b) = some false) (h3 : PySem.W.kitOne K t (.ref c) = some false) (h4 : PySem.W.kitOne K t (.ref d) = some false) (hk : k (.bl false) O) :
    isKT K (some t) (clsDs [.opq (.ref a), .opq (.ref b), .opq (.ref c), .opq (.ref d)]) O k :=
  isKT_no (us := [.ref a, .ref b, .ref c, .ref d]) rfl (fun u hu => by
    rcases List.mem_cons.mp hu with rfl | hu
    · exact h1
    rcases List.mem_cons.mp hu with rfl | hu
    · exact h2
    rcases List.mem_cons.mp hu with rfl | hu
    · exact h3
    rw [List.mem_singleton.mp hu]
    exact h4) hk
theorem clsD_ty {n : String} : clsD (.opq (.ty n)) = some (.type n) := rfl
theorem clsD_own {C : Addr} : clsD (.opq (.ref C)) = some (.ref C) := rfl
theorem clsDs_nil : clsDs [] = some [] := rfl
theorem clsDs_own {C : Addr} {r : List D} {us : List Value} (h : clsDs r = some us) : clsDs (.opq (.ref C) :: r) = some (.ref C :: us) := by
  unfold clsDs
  rw [clsD_own, h]
end DL
namespace DL
open PySem PySem.Spec PyProof.Rows L2 Evl
/-! ### a product with a short factor -/
def CMulC (_ j : Int) : Prop := Builtin.Int.intBits j ≤ 64
theorem op_mulC {X : Cx} : OpR X (binaryOp .Mult) (rI CMulC fun i j => .int (i * j)) := opI fun _ _ _ _ _ _ _ hc q => mul_int q (.of_right hc)
def qMulC : DR2 := fun x y O k => match res O x, res O y with
  | .int i, .int j => CMulC i j ∧ k (.int (i * j)) O
  | _, _ => False
theorem lr_mulC {K : PySem.W.Frag} : LiftR K (rI CMulC fun i j => .int (i * j)) qMulC := by
  intro x y O k h G H v u Q ok hx hy c
  unfold qMulC at h
  split at h
  · rename_i i j e1 e2
    rw [res_int hx e1, res_int hy e2]
    exact ⟨i, j, rfl, rfl, h.1, c _ O _ G H h.2 Stp.refl ok (.int _)⟩
  · exact h.elim
theorem de_mulC {X : Cx} {W : WX} {ex : EX} {a b : Expr} {t u : DT} {pos : Pos} (ha : DE X W ex a t) (hb : DE X W ex b u) : DE X W ex (.BinOp a .Mult b pos) (dOp qMulC t u) := de_bin op_mulC lr_mulC ha hb
theorem qmulC_int {a b : Int} {O : Ow} {k : DK} : qMulC (.int a) (.int b) O k = (CMulC a b ∧ k (.int (a * b)) O) := rfl
theorem cx_K {CX : CXT} {P : Program} {w : World} {K : PySem.W.Frag} {mg : Str → Option Value} {base : Heap} {N : List Str} {qual : Str} {scope : Scope} {f : Addr} {cd : Value} {A : Around} {outer : List Env} {s : Shared} {H : Hp} {E : XK} : (cxOf CX P w K mg base N qual scope f cd A outer s H E).K = K := rfl
/-! ### try, read -/
theorem keep_go {K : PySem.W.Frag} {c : Value} {i j : Nat} {t : EX → DSr} {su : DSr} {ex : EX} {E : DEnds} {ds : Ds} {O : Ow} (h : t (fun xc ds' O' => ∃ b, PySem.W.exmOne K xc.cls c = some b ∧ (b = true → xc.pay = none ∧ ∃ C, xc.cls = .ref C ∧ ExcC K C ∧ ∀ a, su { nx := fun d2 O2 => d2[j]? = some (some (.opq (.ref a))) ∧ E.nx ((d2.set j (some (.obj (.ref C) (.ref a)))).set i none) O2, rt := fun _ _ => False, bk := fun _ _ => False, ct := fun _ _ => False } (ds'.set i (some (.opq (.ref a)))) O') ∧ (b = false → ex xc ds' O')) E ds O) : dTryKeep K c i j t su ex E ds O := h
/-- an error of the class C that is caught and kept -/
theorem kept {K : PySem.W.Frag} {C B : Addr} {i j : Nat} {su : DSr} {ex : EX} {E : DEnds} {ds : Ds} {O : Ow} (m : PySem.W.exmOne K (.ref C) (.ref B) = some true) (eC : ExcC K C)
    (h : ∀ a, su { nx := fun d2 O2 => d2[j]? = some (some (.opq (.ref a))) ∧ E.nx ((d2.set j (some (.obj (.ref C) (.ref a)))).set i none) O2, rt := fun _ _ => False, bk := fun _ _ => False, ct := fun _ _ => False } (ds.set i (some (.opq (.ref a)))) O) :
    ∃ b, PySem.W.exmOne K (Xc.mk (.ref C) none).cls (.ref B) = some b ∧ (b = true → (Xc.mk (.ref C) none).pay = none ∧ ∃ C', (Xc.mk (.ref C) none).cls = .ref C' ∧ ExcC K C' ∧ ∀ a, su { nx := fun d2 O2 => d2[j]? = some (some (.opq (.ref a))) ∧ E.nx ((d2.set j (some (.obj (.ref C') (.ref a)))).set i none) O2, rt := fun _ _ => False, bk := fun _ _ => False, ct := fun _ _ => False } (ds.set i (some (.opq (.ref a)))) O) ∧ (b = false → ex (Xc.mk (.ref C) none) ds O) :=
  ⟨true, m, fun _ => ⟨rfl, C, rfl, eC, h⟩, fun z => by cases z⟩
/-! ### is None, of a thing that may be held -/
def qIsX : DR2 := fun x y O k => match x, y with
  | .obj _ (.ref _), .non => k (.bl false) O
  | x, y => qIs false x y O k
theorem lr_isX {K : PySem.W.Frag} : LiftR K (hIs false) qIsX := by
  intro x y O k h G H v u Q ok hx hy c
  unfold qIsX at h
  split at h
  · cases hx
    cases hy
    refine .inl ⟨rfl, ?_⟩
    have z := c _ O _ G H h Stp.refl ok (.bl false)
    simpa using z
  · exact lr_is false _ _ O k h G H v u Q ok hx hy c
theorem de_isX {X : Cx} {W : WX} {ex : EX} {a b : Expr} {t u : DT} {pos : Pos} (ha : DE X W ex a t) (hb : DE X W ex b u) : DE X W ex (.Compare a [.Is] [b] pos) (dOp qIsX t u) := de_cmp op_isAll lr_isX ha hb (nomark _)
theorem dt_isX {X : Cx} {W : WX} {ex : EX} {a b : Expr} {t u : DT} {pos : Pos} (ha : DE X W ex a t) (hb : DE X W ex b u) : DTe X W ex (.Compare a [.Is] [b] pos) (dTst (dOp qIsX t u)) := dt_cmp op_isAll lr_isX ha hb (nomark _)
theorem qisx_non {O : Ow} {k : DK} : qIsX .non .non O k = k (.bl true) O := rfl
theorem qisx_obj {O : Ow} {k : DK} {t : Value} {a : Addr} : qIsX (.obj t (.ref a)) .non O k = k (.bl false) O := rfl
end DL
namespace DL
open PySem PySem.Spec PyProof.Rows L2 Evl

/-! ### dicts of ints, as cells -/
def getI (kds : List (Int × D)) (i : Int) : Option D := (kds.find? fun p => decide (p.1 = i)).map (·.2)
def hasI (kds : List (Int × D)) (i : Int) : Bool := kds.any fun p => decide (p.1 = i)
def putI (kds : List (Int × D)) (i : Int) (d : D) : List (Int × D) := if hasI kds i = true then kds.map (fun p => if p.1 = i then (p.1, d) else p) else kds ++ [(i, d)]
theorem getI_nil {i : Int} : getI [] i = none := rfl
theorem getI_cons {p : Int × D} {r : List (Int × D)} {i : Int} : getI (p :: r) i = if p.1 = i then some p.2 else getI r i := by
  unfold getI
  rw [List.find?_cons]
  by_cases e : p.1 = i
  · rw [decide_eq_true e, if_pos e]
    rfl
  · rw [decide_eq_false e, if_neg e]
theorem hasI_get : ∀ {kds : List (Int × D)} {i : Int}, hasI kds i = (getI kds i).isSome
  | [], _ => rfl
  | p :: r, i => by
    have ih := hasI_get (kds := r) (i := i)
    unfold hasI at ih ⊢
    rw [List.any_cons, getI_cons, ih]
    by_cases e : p.1 = i
    · rw [decide_eq_true e, if_pos e]
      rfl
    · rw [decide_eq_false e, if_neg e, Bool.false_or]
theorem getI_repl {i j : Int} {d : D} : ∀ kds : List (Int × D), getI (kds.map fun p => if p.1 = i then (p.1, d) else p) j = (getI kds j).map fun x => if j = i then d else x
  | [] => rfl
  | p :: r => by
    rw [List.map_cons, getI_cons, getI_cons, getI_repl r]
    by_cases e : p.1 = i
    · rw [if_pos e]
      dsimp only
      by_cases e2 : p.1 = j
      · rw [if_pos e2, if_pos e2, Option.map_some, if_pos (e2.symm.trans e)]
      · rw [if_neg e2, if_neg e2]
    · rw [if_neg e]
      by_cases e2 : p.1 = j
      · rw [if_pos e2, if_pos e2, Option.map_some, if_neg (fun z => e (e2.trans z))]
      · rw [if_neg e2, if_neg e2]
theorem getI_app {i j : Int} {d : D} : ∀ kds : List (Int × D), getI (kds ++ [(i, d)]) j = (getI kds j).or (if i = j then some d else none)
  | [] => by
    rw [List.nil_append, getI_cons, getI_nil]
    rfl
  | p :: r => by
    rw [List.cons_append, getI_cons, getI_cons, getI_app r]
    by_cases e : p.1 = j
    · rw [if_pos e, if_pos e]
      rfl
    · rw [if_neg e, if_neg e]
theorem getI_put {kds : List (Int × D)} {i j : Int} {d : D} : getI (putI kds i d) j = if j = i then some d else getI kds j := by
  unfold putI
  by_cases h : hasI kds i = true
  · rw [if_pos h, getI_repl]
    by_cases e : j = i
    · subst e
      rw [hasI_get] at h
      cases q : getI kds j with
      | none => rw [q] at h; cases h
      | some x => rw [Option.map_some, if_pos rfl, if_pos rfl]
    · rw [if_neg e]
      cases getI kds j with
      | none => rfl
      | some x => rw [Option.map_some, if_neg e]
  · rw [if_neg h, getI_app]
    by_cases e : j = i
    · subst e
      rw [if_pos rfl, if_pos rfl]
      rw [hasI_get] at h
      cases q : getI kds j with
      | none => rfl
      | some x => rw [q] at h; exact absurd rfl h
    · rw [if_neg (Ne.symm e), if_neg e]
      cases getI kds j <;> rfl
theorem keys_put {kds : List (Int × D)} {i : Int} {d : D} : (putI kds i d).map (·.1) = if hasI kds i = true then kds.map (·.1) else kds.map (·.1) ++ [i] := by
  unfold putI
  by_cases h : hasI kds i = true
  · rw [if_pos h, if_pos h, List.map_map]
    refine List.map_congr_left fun p _ => ?_
    show (if p.1 = i then (p.1, d) else p).1 = p.1
    split <;> rfl
  · rw [if_neg h, if_neg h, List.map_append]
    rfl
theorem len_put {kds : List (Int × D)} {i : Int} {d : D} : (putI kds i d).length ≤ kds.length + 1 := by
  unfold putI
  split
  · rw [List.length_map]
    exact Nat.le_succ _
  · rw [List.length_append]
    exact Nat.le_refl _
theorem mem_keys {kds : List (Int × D)} {i : Int} : i ∈ kds.map (·.1) ↔ hasI kds i = true := by
  unfold hasI
  rw [List.any_eq_true, List.mem_map]
  constructor
  · rintro ⟨p, h, e⟩
    exact ⟨p, h, decide_eq_true e⟩
  · rintro ⟨p, h, e⟩
    exact ⟨p, h, of_decide_eq_true e⟩
section
variable {K : PySem.W.Frag} {G H : Hp}
theorem kvI_cons {k : Int} {ks : List Int} {v : V} {vs : List V} : kvI (k :: ks) (v :: vs) = (Sum.inl k, v) :: kvI ks vs := rfl
theorem kvI_keys : ∀ {ks : List Int} {vs : List V}, vs.length = ks.length → (kvI ks vs).map (·.1) = ks.map Sum.inl
  | [], [], _ => rfl
  | [], _ :: _, h => by cases h
  | _ :: _, [], h => by cases h
  | k :: ks, v :: vs, h => by
    rw [kvI_cons, List.map_cons, List.map_cons, kvI_keys (by simpa using h)]
theorem kvI_len : ∀ {ks : List Int} {vs : List V}, vs.length = ks.length → (kvI ks vs).length = ks.length := fun {ks vs} h => by
  have := congrArg List.length (kvI_keys h)
  rw [List.length_map, List.length_map] at this
  exact this
theorem inl_iff {a b : Int} : ((Sum.inl a : Key) = Sum.inl b) ↔ a = b := ⟨fun h => Sum.inl.inj h, fun h => by rw [h]⟩
theorem kvI_val {i : Int} : ∀ {vs : List V} {kds : List (Int × D)}, DnAll K G vs (kds.map (·.2)) → (∀ d, getI kds i = some d → ∃ v, valV (kvI (kds.map (·.1)) vs) (.inl i) = some v ∧ Dn K G v d) ∧ (getI kds i = none → valV (kvI (kds.map (·.1)) vs) (.inl i) = none)
  | [], [], _ => ⟨(fun d h => by cases h), fun _ => rfl⟩
  | _ :: _, [], h => by cases h
  | [], _ :: _, h => by cases h
  | v :: vs, p :: r, .cons h t => by
    obtain ⟨i1, i2⟩ := kvI_val (i := i) t
    rw [List.map_cons, kvI_cons, getI_cons]
    by_cases e : p.1 = i
    · rw [if_pos e]
      refine ⟨fun d hd => ⟨v, valV_pos (by rw [e]), ?_⟩, fun z => by cases z⟩
      cases hd
      exact h
    · rw [if_neg e, valV_neg (fun z => e (inl_iff.mp z))]
      exact ⟨i1, i2⟩
theorem kvI_any {i : Int} : ∀ {vs : List V} {kds : List (Int × D)}, DnAll K G vs (kds.map (·.2)) → ((kvI (kds.map (·.1)) vs).any fun kv => decide (kv.1 = (Sum.inl i : Key))) = hasI kds i
  | [], [], _ => rfl
  | _ :: _, [], h => by cases h
  | [], _ :: _, h => by cases h
  | v :: vs, p :: r, .cons h t => by
    have ih := kvI_any (i := i) t
    unfold hasI at ih ⊢
    rw [List.map_cons, kvI_cons, List.any_cons, List.any_cons, ih]
    congr 1
    by_cases e : p.1 = i
    · rw [decide_eq_true e, decide_eq_true (inl_iff.mpr e)]
    · rw [decide_eq_false e, decide_eq_false (fun z => e (inl_iff.mp z))]
theorem kvI_repl {i : Int} {w : V} {d : D} (hw : Dn K G w d) : ∀ {vs : List V} {kds : List (Int × D)}, DnAll K G vs (kds.map (·.2)) →
    ∃ vs', (kvI (kds.map (·.1)) vs).map (fun kv => if kv.1 = (Sum.inl i : Key) then (kv.1, w) else kv) = kvI ((kds.map fun p => if p.1 = i then (p.1, d) else p).map (·.1)) vs' ∧ DnAll K G vs' ((kds.map fun p => if p.1 = i then (p.1, d) else p).map (·.2))
  | [], [], _ => ⟨[], rfl, .nil⟩
  | _ :: _, [], h => by cases h
  | [], _ :: _, h => by cases h
  | v :: vs, p :: r, .cons h t => by
    obtain ⟨vs', e1, e2⟩ := kvI_repl (i := i) hw t
    rw [List.map_cons, kvI_cons, List.map_cons, List.map_cons, List.map_cons, List.map_cons, e1]
    by_cases e : p.1 = i
    · refine ⟨w :: vs', ?_, ?_⟩
      · rw [if_pos (inl_iff.mpr e), if_pos e, kvI_cons]
      · rw [if_pos e]
        exact .cons hw e2
    · refine ⟨v :: vs', ?_, ?_⟩
      · rw [if_neg (fun z => e (inl_iff.mp z)), if_neg e, kvI_cons]
      · rw [if_neg e]
        exact .cons h e2
theorem kvI_app {k : Int} {v : V} : ∀ {ks : List Int} {vs : List V}, vs.length = ks.length → kvI (ks ++ [k]) (vs ++ [v]) = kvI ks vs ++ [(Sum.inl k, v)]
  | [], [], _ => rfl
  | [], _ :: _, h => by cases h
  | _ :: _, [], h => by cases h
  | j :: ks, u :: vs, h => by
    rw [List.cons_append, List.cons_append, kvI_cons, kvI_cons, kvI_app (by simpa using h), List.cons_append]
theorem kvI_put {i : Int} {w : V} {d : D} {vs : List V} {kds : List (Int × D)} (hw : Dn K G w d) (h : DnAll K G vs (kds.map (·.2))) :
    ∃ vs', putK (kvI (kds.map (·.1)) vs) (.inl i) w = kvI ((putI kds i d).map (·.1)) vs' ∧ DnAll K G vs' ((putI kds i d).map (·.2)) := by
  unfold putK putI
  rw [kvI_any h]
  by_cases e : hasI kds i = true
  · rw [if_pos e, if_pos e]
    exact kvI_repl hw h
  · rw [if_neg e, if_neg e]
    have hl := h.length
    rw [List.length_map] at hl
    refine ⟨vs ++ [w], ?_, ?_⟩
    · rw [List.map_append]
      exact (kvI_app (by rw [List.length_map]; exact hl)).symm
    · rw [List.map_append]
      exact h.append (.cons hw .nil)
theorem dic_at {O : Ow} (ok : Ok K G H O) {p : Addr} {kds : List (Int × D)} (e : O p = some (.dic kds)) : ∃ vs, H p = some (.dK (kvI (kds.map (·.1)) vs)) ∧ DnAll K G vs (kds.map (·.2)) := (ok.own p _ e).2
end
/-! {} that will be changed -/
def dDicN : DT := fun ds O k => ∀ p, O p = none → k (.opq (.ref p)) (oset O p (.dic []))
/-- d.get(k, x) -/
def dGet2 (td ty tx : DT) : DT := fun ds O k => td ds O fun x O1 => ∃ p, x = .opq (.ref p) ∧ (∃ kds, O1 p = some (.dic kds)) ∧ ty ds O1 fun y O2 => tx ds O2 fun z O3 => ∃ i kds, y = .int i ∧ O3 p = some (.dic kds) ∧ k ((getI kds i).getD z) O3
/-- d[k] -/
def dLoad (td ty : DT) : DT := fun ds O k => td ds O fun x O1 => ty ds O1 fun y O2 => ∃ p i kds d, x = .opq (.ref p) ∧ y = .int i ∧ O2 p = some (.dic kds) ∧ getI kds i = some d ∧ k d O2
/-- d[k] = v -/
def dStore (td ty tv : DT) : DSr := fun E ds O => tv ds O fun v O1 => td ds O1 fun x O2 => ty ds O2 fun y O3 => ∃ p i kds, x = .opq (.ref p) ∧ y = .int i ∧ O3 p = some (.dic kds) ∧ kds.length < sizeLine ∧ E.nx ds (oset O3 p (.dic (putI kds i v)))
section
variable {X : Cx} {W : WX} {ex : EX} {o i e f value : Expr} {td ty tx tv : DT} {pos pos' apos cpos : Pos}
theorem de_dicN : DE X W ex (.Dict [] [] pos) dDicN := by
  refine ⟨_, pe_dnewK, fun ds O k h G H σ Q ok rp xc c p hp => ?_⟩
  obtain ⟨ok2, s2⟩ := ownedD (vs := []) (kds := []) ok hp .nil
  exact c _ _ _ _ _ (h p (ok.none_of hp)) s2 ok2 (.opq _)
theorem de_get2 (hu : X.A.units + 1 < cLine) (ho : DE X W ex o td) (he : DE X W ex e ty) (hf : DE X W ex f tx)
    (m1 : attributeBase o "get" X.env (eval o X.env) = eval o X.env := by rfl)
    (m2 : ((backTo cpos (starEach [e, f] X.env)).all (fun x => !x.1) && (backToKw cpos (keywordEach [] X.env)).all (fun x => x.1.isSome) && decide (([e, f] : List Expr).length + ([] : List Keyword).length + (if ([] : List Keyword).isEmpty then 0 else 1) < 30)) = true := by rfl)
    (m3 : (apos.endLine == cpos.line) = true := by rfl) (m4 : backTo cpos (starEach [e, f] X.env) = [(false, eval e X.env), (false, eval f X.env)] := by rfl) :
    DE X W ex (.Call (.Attribute o "get" apos) [e, f] [] cpos) (dGet2 td ty tx) := by
  obtain ⟨ta, p1, l1⟩ := ho
  obtain ⟨tb, p2, l2⟩ := he
  obtain ⟨tc, p3, l3⟩ := hf
  refine ⟨_, pe_dget2 hu p1 p2 p3 ⟨m1, m2, m3, m4⟩, fun ds O k h G H σ Q ok rp xc c => ?_⟩
  refine l1 ds O _ h G H σ _ ok rp xc fun x O1 v G1 H1 h1 s1 ok1 d1 => ?_
  obtain ⟨p, rfl, ⟨kds, hp⟩, h1⟩ := h1
  cases d1
  obtain ⟨vs, e1, _⟩ := dic_at ok1 hp
  refine ⟨p, rfl, .inl ⟨_, .inl e1⟩, l2 ds O1 _ h1 G1 H1 σ _ ok1 (rp.mono s1.g) (xc.after s1) fun y O2 u G2 H2 h2 s2 ok2 d2 => ?_⟩
  have s12 := s1.trans s2
  refine l3 ds O2 _ h2 G2 H2 σ _ ok2 (rp.mono s12.g) (xc.after s12) fun z O3 w G3 H3 h3 s3 ok3 d3 => ?_
  obtain ⟨i, kds3, rfl, hp3, h3⟩ := h3
  cases d2
  obtain ⟨vs3, e3, a3⟩ := dic_at ok3 hp3
  refine ⟨_, DGet.k (k := Sum.inl i) e3, ?_⟩
  have sc := s12.trans s3
  cases q : getI kds3 i with
  | none =>
    rw [(kvI_val a3).2 q]
    rw [q] at h3
    exact c _ O3 _ G3 H3 h3 sc ok3 d3
  | some d =>
    obtain ⟨v', q1, q2⟩ := (kvI_val a3).1 d q
    rw [q1]
    rw [q] at h3
    exact c _ O3 _ G3 H3 h3 sc ok3 q2
theorem de_load (hu : X.A.units + 1 < cLine) (ho : DE X W ex o td) (hi : DE X W ex i ty) (hs : NoSl i := by exact fun _ _ => rfl) : DE X W ex (.Subscript o i pos) (dLoad td ty) := by
  obtain ⟨ta, p1, l1⟩ := ho
  obtain ⟨tb, p2, l2⟩ := hi
  refine ⟨_, pe_dget hu p1 p2 hs, fun ds O k h G H σ Q ok rp xc c => ?_⟩
  refine l1 ds O _ h G H σ _ ok rp xc fun x O1 v G1 H1 h1 s1 ok1 d1 => ?_
  refine l2 ds O1 _ h1 G1 H1 σ _ ok1 (rp.mono s1.g) (xc.after s1) fun y O2 u G2 H2 h2 s2 ok2 d2 => ?_
  obtain ⟨p, i, kds, d, rfl, rfl, hp, q, h2⟩ := h2
  cases d1
  cases d2
  obtain ⟨vs, e1, a1⟩ := dic_at ok2 hp
  obtain ⟨v', q1, q2⟩ := (kvI_val a1).1 d q
  refine ⟨p, v', rfl, ?_, c _ O2 _ G2 H2 h2 (s1.trans s2) ok2 q2⟩
  have g := DGet.k (k := Sum.inl i) e1
  rw [q1] at g
  exact g
theorem ds_store (hu : X.A.units + 1 < cLine) (ho : DE X W ex o td) (hi : DE X W ex i ty) (hv : DE X W ex value tv) (hs : swapsWith value (some (.Subscript o i pos')) pos.line X.env = pure false := by rfl) :
    DSt X W ex (.Assign [.Subscript o i pos'] value pos) (dStore td ty tv) := by
  obtain ⟨ta, p1, l1⟩ := ho
  obtain ⟨tb, p2, l2⟩ := hi
  obtain ⟨tc, p3, l3⟩ := hv
  refine ⟨_, ps_dput hu p1 p2 p3 hs, fun E ds O h G H σ D ok rp xc c => ?_⟩
  refine l3 ds O _ h G H σ _ ok rp xc fun x O1 v G1 H1 h1 s1 ok1 d1 => ?_
  refine l1 ds O1 _ h1 G1 H1 σ _ ok1 (rp.mono s1.g) (xc.after s1) fun y O2 u G2 H2 h2 s2 ok2 d2 => ?_
  have s12 := s1.trans s2
  refine l2 ds O2 _ h2 G2 H2 σ _ ok2 (rp.mono s12.g) (xc.after s12) fun z O3 w G3 H3 h3 s3 ok3 d3 => ?_
  have sc := s12.trans s3
  obtain ⟨p, i, kds, rfl, rfl, hp, hl, h3⟩ := h3
  cases d2
  cases d3
  obtain ⟨vs, e1, a1⟩ := dic_at ok3 hp
  have hl' := a1.length
  rw [List.length_map] at hl'
  obtain ⟨vs', q1, q2⟩ := kvI_put (i := i) ((d1.mono s2.g).mono s3.g) a1
  obtain ⟨ok4, s4⟩ := rewrittenD ok3 hp q2
  refine ⟨p, _, rfl, DPut.k (k := Sum.inl i) e1 (by rw [kvI_len (by rw [List.length_map]; exact hl'), List.length_map]; exact hl), ?_⟩
  rw [q1]
  exact c.nx ds _ σ G3 _ h3 (sc.trans s4) ok4 (rp.mono sc.g)
end
/-! sorted(d), fewer than 64 keys -/
def qSortD : DRC := fun xs O k => match xs with
  | [.opq (.ref p)] => ∃ kds, O p = some (.dic kds) ∧ kds.length < 64 ∧ ∀ ys : List Int, ys.Perm (kds.map (·.1)) → ys.Pairwise (· ≤ ·) → k (.lst (ys.map D.int)) O
  | _ => False
theorem lc_sortD {K : PySem.W.Frag} : LiftC K (fun xs H Q => ∃ (a : Addr) (kvs : List (Key × V)) (ks : List Int), xs = [.ref a] ∧ Rd H a (.dK kvs) ∧ kvs.map (·.1) = ks.map Sum.inl ∧ ks.length < 64 ∧
    ∀ (ys : List Int) (p : Addr), ys.Perm ks → ys.Pairwise (· ≤ ·) → H p = none → Q (.ref p) (upd H p (.lst (ys.map V.int)))) qSortD := by
  intro xs O k h G H vs Q ok hx c
  unfold qSortD at h
  split at h
  · rename_i p
    obtain ⟨kds, hp, hl, hk⟩ := h
    obtain ⟨v, rfl, hd⟩ := one_of hx
    cases hd
    obtain ⟨ws, e1, a1⟩ := dic_at ok hp
    have hl' := a1.length
    rw [List.length_map] at hl'
    refine ⟨p, _, kds.map (·.1), rfl, .inl e1, kvI_keys (by rw [List.length_map]; exact hl'), by rw [List.length_map]; exact hl, fun ys a hperm hs hn => ?_⟩
    obtain ⟨ok2, s2, e2⟩ := frozen (o := .lst (ys.map V.int)) ok hn
    exact c _ O _ _ _ (hk ys hperm hs) s2 ok2 (.lst upd_same (DnAll.ofInts ys))
  · exact h.elim
end DL
namespace DL
open PySem PySem.Spec PyProof.Rows L2 Evl
/-! ### sorted of a list of fewer than 64 texts (in some order) -/
def qSortedS : DRC := fun xs O k => match xs with
  | [d] => (match listOf O d with
    | some ys => ∃ ss : List Str, ys = ss.map D.str ∧ ss.length < 64 ∧ ∀ ss' : List Str, ss'.Perm ss → k (.lst (ss'.map D.str)) O
    | none => False)
  | _ => False
theorem ofStrs {K : PySem.W.Frag} {G : Hp} : ∀ ss : List Str, DnAll K G (ss.map V.str) (ss.map D.str)
  | [] => .nil
  | s :: ss => .cons (.str s) (ofStrs ss)
theorem lc_sortedS {K : PySem.W.Frag} : LiftC K (rSortedS K) qSortedS := by
  intro xs O k h G H vs Q ok hx c
  unfold qSortedS at h
  split at h
  · obtain ⟨v, rfl, hd⟩ := one_of hx
    split at h
    · rename_i ys e
      obtain ⟨ss, rfl, h64, hk⟩ := h
      obtain ⟨a, us, rfl, a1, a2⟩ := listOf_ok ok hd e
      have z := a2.strs
      subst z
      refine ⟨a, ss, rfl, SqL.of a1, h64, fun ss' p hp _ hn => ?_⟩
      obtain ⟨ok2, s2, e2⟩ := frozen (o := .lst (ss'.map V.str)) ok hn
      exact c _ O _ _ _ (hk ss' hp) s2 ok2 (.lst upd_same (ofStrs _))
    · exact h.elim
  · exact h.elim
end DL
namespace DL
open PySem PySem.Spec PyProof.Rows L2 Evl
/-! ### sorted of a list of (int, int, text) that ascends strictly by the first: the same list anew -/
def sh3 : Nat → Bool := fun i => i == 2
/-- the first of a tuple's key -/
def hd3 (h : Heap) (p : Keyed) : Int := match PyProof.Rows.G.tupKeyC h sh3 p.1 with
  | some (Sum.inl i :: _) => i
  | _ => 0
def TrI (K : PySem.W.Frag) (H : Hp) (x : V) (t : Int × Int × Str) : Prop := ∃ a, x = V.ref a ∧ SqT K H a [V.int t.1, V.int t.2.1, V.str t.2.2]
/-- sorted of such a list -/
def rSort3 (K : PySem.W.Frag) : List V → Hp → VK → Prop := fun vs H Q => ∃ (a : Addr) (xs : List V) (ts : List (Int × Int × Str)), vs = [V.ref a] ∧ SqL K H a xs ∧ xs.length = ts.length ∧ (∀ (i : Nat) (x : V) (t : Int × Int × Str), xs[i]? = some x → ts[i]? = some t → TrI K H x t) ∧ ts.Pairwise (fun s t => s.1 < t.1) ∧
  ∀ p : Addr, H p = none → Q (.ref p) (upd H p (.lst xs))
/-- what keys ascend strictly stays as it lies -/
theorem sorted_same {h : Heap} {its : List Value} {arr : Array Keyed} (hk : ∀ v ∈ its, ∃ i l, PyProof.Rows.G.tupKeyC h sh3 v = some (Sum.inl i :: l)) (asc : its.Pairwise fun u v => hd3 h (u, u) < hd3 h (v, v)) (hp : arr.Perm (pairsOf its)) (hs : SortedToK (PyProof.Rows.G.tupKindC h sh3) arr (pairsOf its).size) : arr = pairsOf its := by
  have hl := Array.perm_iff_toList_perm.mp hp
  have hm : ∀ p ∈ (pairsOf its).toList, p.1 ∈ its ∧ p = (p.1, p.1) := fun p hp => by
    rw [pairsOf_toList] at hp
    obtain ⟨e, m⟩ := mem_zip_self hp
    exact ⟨m, by rw [Prod.ext_iff]; exact ⟨rfl, e.symm⟩⟩
  have hz : (pairsOf its).toList = its.map fun v => (v, v) := by
    rw [pairsOf_toList]
    clear hk asc hp hs hl hm
    induction its with
    | nil => rfl
    | cons v r ih => rw [List.zip_cons_cons, ih, List.map_cons]
  have hsz : arr.size = (pairsOf its).size := hp.size_eq
  have le : arr.toList.Pairwise fun p q => hd3 h p ≤ hd3 h q := by
    rw [List.pairwise_iff_getElem]
    intro i j hi hj hij
    have hi' : i < arr.size := by rw [Array.length_toList] at hi; exact hi
    have hj' : j < arr.size := by rw [Array.length_toList] at hj; exact hj
    have s := hs i j (by omega) (by omega)
    obtain ⟨a1, l1, k1⟩ := hk _ (hm _ (hl.mem_iff.mp (List.getElem_mem hi))).1
    obtain ⟨a2, l2, k2⟩ := hk _ (hm _ (hl.mem_iff.mp (List.getElem_mem hj))).1
    rw [Array.getElem_toList] at k1 k2 ⊢
    rw [Array.getElem_toList]
    have e1 : KK (PyProof.Rows.G.tupKindC h sh3) arr i = Sum.inl a1 :: l1 := by
      unfold KK
      rw [Array.getElem?_eq_getElem hi']
      show (PyProof.Rows.G.tupKeyC h sh3 (arr[i]).1).getD [] = _
      rw [k1]
      rfl
    have e2 : KK (PyProof.Rows.G.tupKindC h sh3) arr j = Sum.inl a2 :: l2 := by
      unfold KK
      rw [Array.getElem?_eq_getElem hj']
      show (PyProof.Rows.G.tupKeyC h sh3 (arr[j]).1).getD [] = _
      rw [k2]
      rfl
    rw [e1, e2] at s
    have s : lexLt itemOrd (Sum.inl a2 :: l2) (Sum.inl a1 :: l1) = false := s
    have s := (lex_false.mp s).1
    have s : decide (a2 < a1) = false := s
    have s := of_decide_eq_false s
    unfold hd3
    rw [k1, k2]
    dsimp only
    omega
  have lt : (pairsOf its).toList.Pairwise fun p q => hd3 h p < hd3 h q := by
    rw [hz, List.pairwise_map]
    exact asc
  have eq : arr.toList = (pairsOf its).toList := by
    refine List.Perm.eq_of_pairwise (le := fun p q => hd3 h p ≤ hd3 h q) (fun p q hp hq a b => ?_) le (lt.imp fun h => Int.le_of_lt h) hl
    have hp' := hl.mem_iff.mp hp
    have e : hd3 h p = hd3 h q := Int.le_antisymm a b
    obtain ⟨i, hi⟩ := List.getElem?_of_mem hp'
    obtain ⟨j, hj⟩ := List.getElem?_of_mem hq
    obtain ⟨hil, hi⟩ := List.getElem?_eq_some_iff.mp hi
    obtain ⟨hjl, hj⟩ := List.getElem?_eq_some_iff.mp hj
    have pw := List.pairwise_iff_getElem.mp lt
    rcases Nat.lt_trichotomy i j with c | c | c
    · have := pw i j hil hjl c
      rw [hi, hj] at this
      omega
    · subst c
      rw [← hi, ← hj]
    · have := pw j i hjl hil c
      rw [hi, hj] at this
      omega
  exact Array.ext' eq
section
variable {X : Cx} {pins : List (Addr × Obj)} {σ : L2.St} {H : Hp} {s : Shared}
theorem tri_items {i j : Int} {x : Str} {t1 t2 t3 : Tok} : tupItems sh3 0 ([Value.int i t1, Value.int j t2, Value.str x t3].toArray).toList = some [Sum.inl i, Sum.inl j, Sum.inr x.cps.toList] := rfl
theorem tri_first {u v w : Value} : ([u, v, w].toArray)[0]? = some u := rfl
theorem tr_key (I : Inv X pins σ H s) {a : Addr} {t : Int × Int × Str} (h : SqT X.K H a [V.int t.1, V.int t.2.1, V.str t.2.2]) : PyProof.Rows.G.tupKeyC s.heap sh3 (.ref a) = some [Sum.inl t.1, Sum.inl t.2.1, Sum.inr t.2.2.cps.toList] ∧ ∃ f, TupOf s.heap sh3 (.ref a) f := by
  obtain ⟨its, rv, hT, _⟩ := I.tuple h
  obtain ⟨o, ho, hc, n, hd⟩ := hT
  cases rv with
  | cons r1 rv => cases rv with
    | cons r2 rv => cases rv with
      | cons r3 rv =>
        cases rv
        obtain ⟨t1, e1⟩ := r1
        obtain ⟨t2, e2⟩ := r2
        obtain ⟨t3, e3⟩ := r3
        subst e1 e2 e3
        exact ⟨PyProof.Rows.G.tupKeyC_of ho hc hd tri_items, Value.int t.1 t1, a, o, _, n, rfl, ho, hc, hd, tri_first, fun _ => ⟨_, _, rfl⟩, fun z => absurd z (by decide)⟩
theorem tups_of {h : Heap} : ∀ {vs : List Value}, (∀ v ∈ vs, ∃ f, TupOf h sh3 v f) → ∃ fs, TupsOf h sh3 vs fs
  | [], _ => ⟨[], .nil⟩
  | v :: vs, hv => by
    obtain ⟨f, hf⟩ := hv v List.mem_cons_self
    obtain ⟨fs, hfs⟩ := tups_of fun x hx => hv x (List.mem_cons_of_mem _ hx)
    exact ⟨f :: fs, .cons hf hfs⟩
theorem cr_sort3 : CallR X (.builtin "sorted") (rSort3 X.K) := by
  intro pins s σ H vs us Q I r h
  obtain ⟨a, xs, ts, rfl, hs, hlen, hx, hp, q⟩ := h
  obtain ⟨its, rv, hl, hz⟩ := I.list hs
  rw [Vals.ref1 r]
  have hlr := rv.length
  have each : ∀ (i : Nat) (v : Value), its[i]? = some v → ∃ t, ts[i]? = some t ∧ PyProof.Rows.G.tupKeyC s.heap sh3 v = some [Sum.inl t.1, Sum.inl t.2.1, Sum.inr t.2.2.cps.toList] ∧ ∃ f, TupOf s.heap sh3 v f := fun i v hv => by
    have il := (List.getElem?_eq_some_iff.mp hv).1
    have hxi : xs[i]? = some xs[i] := List.getElem?_eq_getElem (by omega)
    have hti : ts[i]? = some ts[i] := List.getElem?_eq_getElem (by omega)
    obtain ⟨u, hu, ru⟩ := rv.get hxi
    rw [hv] at hu
    cases hu
    obtain ⟨b, e, hb⟩ := hx i _ _ hxi hti
    rw [e] at ru
    have ru : v = Value.ref b := ru
    subst ru
    exact ⟨_, hti, tr_key I hb⟩
  obtain ⟨fs, ht⟩ := tups_of (h := s.heap) (vs := its) fun v hv => by
    obtain ⟨i, hi⟩ := List.getElem?_of_mem hv
    obtain ⟨t, _, _, k⟩ := each i v hi
    exact k
  refine PyProof.Rows.G.sorted_tups (shape := sh3) hl.isList ht (fun v hv => ?_) (by omega) fun st' h1 h2 _ => ?_
  · obtain ⟨i, hi⟩ := List.getElem?_of_mem hv
    obtain ⟨t, _, k, _⟩ := each i v hi
    exact ⟨_, k⟩
  have same := sorted_same (h := s.heap) (its := its) (fun v hv => by
    obtain ⟨i, hi⟩ := List.getElem?_of_mem hv
    obtain ⟨t, _, k, _⟩ := each i v hi
    exact ⟨_, _, k⟩) (by
    rw [List.pairwise_iff_getElem]
    intro i j hi hj hij
    obtain ⟨t1, a1, k1, _⟩ := each i _ (List.getElem?_eq_getElem hi)
    obtain ⟨t2, a2, k2, _⟩ := each j _ (List.getElem?_eq_getElem hj)
    obtain ⟨l1, a1⟩ := List.getElem?_eq_some_iff.mp a1
    obtain ⟨l2, a2⟩ := List.getElem?_eq_some_iff.mp a2
    have z := List.pairwise_iff_getElem.mp hp i j l1 l2 hij
    rw [a1, a2] at z
    unfold hd3
    rw [k1, k2]
    exact z) h1 h2
  rw [same]
  have out : (pairsOf its).map (·.2) = its.toArray := by
    apply Array.ext'
    rw [Array.toList_map, pairsOf_toList, List.map_snd_zip (Nat.le_refl _)]
  rw [out]
  obtain ⟨ep, he'⟩ := PyProof.Rows.sortedAll_at s.heap its its.toArray
  exact ⟨.ref _, upd H (s.heap.objs.size + 1) (.lst xs), I.laid (t' := s.toks) (fun _ _ => PyProof.Rows.sortedAll_old) (Nat.le_succ _) ⟨by omega, its, ep, rv, he'⟩, rfl, q _ (I.hok.fresh (Nat.le_succ _))⟩
end
/-- a triple -/
def eT3 (t : Int × Int × Str) : D := .tup [.int t.1, .int t.2.1, .str t.2.2]
def qSort3 : DRC := fun xs O k => match xs with
  | [x] => (match listOf O x with
    | some ys => ∃ ts : List (Int × Int × Str), ys = ts.map eT3 ∧ ts.Pairwise (fun s t => s.1 < t.1) ∧ k (.lst (ts.map eT3)) O
    | none => False)
  | _ => False
theorem tri_of {K : PySem.W.Frag} {G H : Hp} (e : Ex G H) {v : V} {t : Int × Int × Str} (h : Dn K G v (eT3 t)) : TrI K H v t := by
  unfold eT3 at h
  cases h with
  | tup q1 q2 =>
    cases q2 with
    | cons a q2 => cases q2 with
      | cons b q2 => cases q2 with
        | cons c q2 =>
          cases q2
          cases a
          cases b
          cases c
          exact ⟨_, rfl, ex_t e q1⟩
theorem lc_sort3 {K : PySem.W.Frag} : LiftC K (rSort3 K) qSort3 := by
  intro xs O k h G H vs Q ok hx c
  unfold qSort3 at h
  split at h
  · obtain ⟨v, rfl, hd⟩ := one_of hx
    split at h
    · rename_i ys e
      obtain ⟨a, us, rfl, a1, a2⟩ := listOf_ok ok hd e
      obtain ⟨ts, rfl, hp, hk⟩ := h
      refine ⟨a, us, ts, rfl, SqL.of a1, by rw [a2.length, List.length_map], fun i x t hxi hti => ?_, hp, fun p hn => ?_⟩
      · obtain ⟨w, w1, w2⟩ := a2.get (i := i) (x := eT3 t) (by rw [List.getElem?_map, hti]; rfl)
        rw [hxi] at w1
        cases w1
        exact tri_of ok.ex w2
      · obtain ⟨ok2, s2, e2⟩ := frozen (o := .lst us) ok hn
        exact c _ O _ _ _ hk s2 ok2 (.lst upd_same (a2.mono e2))
    · exact h.elim
  · exact h.elim
end DL
namespace DL
open PySem PySem.Spec PyProof.Rows L2 Evl
/-! ### from here on a local list changes no more -/
def dFrz (i : Nat) (t : DSr) : DSr := fun E ds O => match ds[i]? with
  | some (some (.opq (.ref p))) => (match O p with
    | some (.lst xs) => t E (ds.set i (some (.lst xs))) (odel O p)
    | _ => False)
  | _ => False
theorem ds_frz {X : Cx} {W : WX} {ex : EX} {st : Stmt} {t : DSr} (i : Nat) (h : DSt X W ex st t) : DSt X W ex st (dFrz i t) := by
  obtain ⟨ts, p1, l1⟩ := h
  refine ⟨ts, p1, fun E ds O hh G H σ D ok rp x c => ?_⟩
  unfold dFrz at hh
  split at hh
  · rename_i p e
    split at hh
    · rename_i xs e2
      obtain ⟨v, e1, h1⟩ := rp.val i _ e
      cases h1
      obtain ⟨G2, ex2, ok2, s2, d2⟩ := froze ok e2
      have il := (List.getElem?_eq_some_iff.mp e).1
      have rp2 : Rep X.K G2 σ (ds.set i (some (.lst xs))) := by
        refine ⟨by rw [List.length_set]; exact rp.len, fun j d hj => ?_⟩
        rw [List.getElem?_set] at hj
        split at hj
        · rename_i z
          subst z
          cases hj
          exact ⟨_, e1, d2⟩
        · obtain ⟨v, v1, v2⟩ := rp.val j d hj
          exact ⟨v, v1, v2.mono ex2⟩
      exact l1 E _ _ hh G2 H σ D ok2 rp2 (x.after s2) (c.after s2)
    · exact hh.elim
  · exact hh.elim
end DL
namespace DL
open PySem PySem.Spec PyProof.Rows L2 Evl
/-! ### *e in a display: the items of a tuple or of a list that stays -/
def dStar (t : DT) (u : DA) : DA := fun ds O k => t ds O fun x O1 => match x with
  | .tup xs => u ds O1 fun ys O2 => k (xs ++ ys) O2
  | .lst xs => u ds O1 fun ys O2 => k (xs ++ ys) O2
  | _ => False
theorem l_star {K : PySem.W.Frag} {W : WX} {ex : EX} {ta : TE} {tr : TA} {t : DT} {u : DA} (ha : LiftE K W ex ta t) (hr : LiftA K W ex tr u) : LiftA K W ex (StX.tStar K ta tr) (dStar t u) := fun ds O k h G H σ Q ok rp x c =>
  ha ds O _ h G H σ _ ok rp x fun d O1 v G1 H1 h1 s1 ok1 d1 => by
    dsimp only at h1
    split at h1
    · cases d1 with
      | tup q1 q2 =>
        exact ⟨_, _, rfl, .inl (ex_t ok1.ex q1), hr ds O1 _ h1 G1 H1 σ _ ok1 (rp.mono s1.g) (x.after s1) fun xs O2 vs G2 H2 h2 s2 ok2 d2 =>
          c _ O2 _ G2 H2 h2 (s1.trans s2) ok2 ((DnAll.mono s2.g q2).append d2)⟩
    · cases d1 with
      | lst q1 q2 =>
        exact ⟨_, _, rfl, .inr (SqL.of (ok1.ex _ _ q1)), hr ds O1 _ h1 G1 H1 σ _ ok1 (rp.mono s1.g) (x.after s1) fun xs O2 vs G2 H2 h2 s2 ok2 d2 =>
          c _ O2 _ G2 H2 h2 (s1.trans s2) ok2 ((DnAll.mono s2.g q2).append d2)⟩
    · exact h1.elim
theorem da_star {X : Cx} {W : WX} {ex : EX} {a : Expr} {es : List Expr} {p : Pos} {t : DT} {u : DA} (ha : DE X W ex a t) (hr : DAs X W ex es u) (he : starEach (.Starred a p :: es) X.env = (true, eval a X.env) :: starEach es X.env := by rfl) : DAs X W ex (.Starred a p :: es) (dStar t u) := by
  obtain ⟨ta, h1, l1⟩ := ha
  obtain ⟨tr, h2, l2⟩ := hr
  exact ⟨_, StX.pa_star h1 h2 he, l_star l1 l2⟩
end DL
namespace DL
open PySem PySem.Spec PyProof.Rows L2 Evl
/-! ### a dict of ints that changes no more: locked, and read -/
/-- a statement ahead of which a dict is locked for good -/
def tLockP (t : TS) : TS := fun D σ H => ∃ d u, H d = some u ∧ Mut (some u) ∧ ∀ od, t D σ (upd H d (.frz od u))
theorem ps_lockP {X : Cx} {st : Stmt} {t : TS} (h : PS X st t) : PS X st (tLockP t) := by
  refine ⟨fun pins s σ H D I q => ?_⟩
  obtain ⟨d, u, hd, mu, q⟩ := q
  obtain ⟨od, I2⟩ := I.lock hd mu
  exact h.run pins s σ _ D I2 (q od)
def dFrzD (i : Nat) (t : DSr) : DSr := fun E ds O => match ds[i]? with
  | some (some (.opq (.ref p))) => (match O p with
    | some (.dic kds) => t E (ds.set i (some (.fdic (kds.map (·.1)) (kds.map (·.2))))) (odel O p)
    | _ => False)
  | _ => False
theorem ds_frzD {X : Cx} {W : WX} {ex : EX} {st : Stmt} {t : DSr} (i : Nat) (h : DSt X W ex st t) : DSt X W ex st (dFrzD i t) := by
  obtain ⟨ts, p1, l1⟩ := h
  refine ⟨_, ps_lockP p1, fun E ds O hh G H σ D ok rp x c => ?_⟩
  unfold dFrzD at hh
  split at hh
  · rename_i p e
    split at hh
    · rename_i kds e2
      obtain ⟨v, e1, h1⟩ := rp.val i _ e
      cases h1
      obtain ⟨vs, hp, fz⟩ := frozeD ok e2
      refine ⟨p, _, hp, True.intro, fun od => ?_⟩
      obtain ⟨G2, ex2, ok2, s2, d2⟩ := fz od
      have rp2 : Rep X.K G2 σ (ds.set i (some (.fdic (kds.map (·.1)) (kds.map (·.2))))) := by
        refine ⟨by rw [List.length_set]; exact rp.len, fun j d hj => ?_⟩
        have il := (List.getElem?_eq_some_iff.mp e).1
        by_cases z : i = j
        · subst z
          rw [List.getElem?_set_self il] at hj
          cases hj
          exact ⟨_, e1, d2⟩
        · rw [List.getElem?_set_ne z] at hj
          obtain ⟨v, v1, v2⟩ := rp.val j d hj
          exact ⟨v, v1, v2.mono ex2⟩
      exact l1 E _ _ hh G2 _ σ D ok2 rp2 (x.after s2) (c.after s2)
    · exact hh.elim
  · exact hh.elim
/-- what a locked dict holds at a key -/
def getF : List Int → List D → Int → Option D
  | k :: ks, d :: ds, i => if k = i then some d else getF ks ds i
  | _, _, _ => none
theorem valF {K : PySem.W.Frag} {G : Hp} {i : Int} {d : D} : ∀ {ks : List Int} {vs : List V} {xs : List D}, vs.length = ks.length → DnAll K G vs xs → getF ks xs i = some d → ∃ v, valV (kvI ks vs) (.inl i) = some v ∧ Dn K G v d
  | [], _, _, _, _, h => by cases h
  | _ :: _, [], _, l, _, _ => by cases l
  | k :: ks, v :: vs, _, l, .cons a b, h => by
    unfold getF at h
    rw [kvI_cons]
    by_cases e : k = i
    · rw [if_pos e] at h
      cases h
      exact ⟨v, valV_pos (by rw [e]), a⟩
    · rw [if_neg e] at h
      rw [valV_neg (fun z => e (inl_iff.mp z))]
      exact valF (by simpa using l) b h
/-- d[k] of a locked dict -/
def dLoadF (td ty : DT) : DT := fun ds O k => td ds O fun x O1 => ty ds O1 fun y O2 => match x, y with
  | .fdic ks xs, .int i => ∃ d, getF ks xs i = some d ∧ k d O2
  | _, _ => False
/-- for k, v in d.items() of a locked dict -/
def dItems (td : DT) : DI := fun ds O k => td ds O fun x O1 => match x with
  | .fdic ks xs => k ((List.range ks.length).map fun i => .tup [.int ((ks[i]?).getD 0), nthD xs i]) O1
  | _ => False
section
variable {X : Cx} {W : WX} {ex : EX} {o i e f value : Expr} {td ty tx tv : DT} {pos pos' apos cpos : Pos}
theorem de_loadF (hu : X.A.units + 1 < cLine) (ho : DE X W ex o td) (hi : DE X W ex i ty) (hs : NoSl i := by exact fun _ _ => rfl) : DE X W ex (.Subscript o i pos) (dLoadF td ty) := by
  obtain ⟨ta, p1, l1⟩ := ho
  obtain ⟨tb, p2, l2⟩ := hi
  refine ⟨_, pe_dget hu p1 p2 hs, fun ds O k h G H σ Q ok rp xc c => ?_⟩
  refine l1 ds O _ h G H σ _ ok rp xc fun x O1 v G1 H1 h1 s1 ok1 d1 => ?_
  refine l2 ds O1 _ h1 G1 H1 σ _ ok1 (rp.mono s1.g) (xc.after s1) fun y O2 u G2 H2 h2 s2 ok2 d2 => ?_
  dsimp only at h2
  split at h2
  · rename_i ks xs i
    obtain ⟨d, q, h2⟩ := h2
    cases d2
    have d1' := d1.mono s2.g
    cases d1' with
    | fdic h3 h4 h5 =>
      obtain ⟨v', q1, q2⟩ := valF h4 h5 q
      exact ⟨_, v', rfl, .inl ⟨_, .inl i, .inr ⟨_, ok2.ex _ _ h3⟩, rfl, q1.symm⟩, c _ O2 _ G2 H2 h2 (s1.trans s2) ok2 q2⟩
  · exact h2.elim
theorem wk_items {K : PySem.W.Frag} {a : Addr} {o : Obj} {ks : List Int} {vs : List V} {xs : List D} {G : Hp} (hG : G a = some (.frz o (.dK (kvI ks vs)))) (hl : vs.length = ks.length) (h : DnAll K G vs xs) :
    Wk K (Iti a o (kvI ks vs)) ((List.range ks.length).map fun i => .tup [.int ((ks[i]?).getD 0), nthD xs i]) G := fun G2 H2 O2 e ok i => by
  have hd : H2 a = some (.frz o (.dK (kvI ks vs))) := ok.ex _ _ (e _ _ hG)
  have len : (kvI ks vs).length = ks.length := kvI_len hl
  have at_ : ∀ {j : Nat} {v : V} {k : Int}, ks[j]? = some k → vs[j]? = some v → (kvI ks vs)[j]? = some (Sum.inl k, v) := fun {j v k} h1 h2 => by
    unfold kvI
    rw [List.getElem?_map]
    have e := List.getElem?_zip_eq_some (l₁ := ks) (l₂ := vs) (i := j) (z := (k, v))
    rw [e.mpr ⟨h1, h2⟩]
    rfl
  refine ⟨fun x hx => ?_, fun l => ⟨hd, by rw [len]; simpa using l⟩⟩
  obtain ⟨hi, rfl⟩ := range_get hx
  have hk : ks[i]? = some ks[i] := List.getElem?_eq_getElem hi
  have hv : vs[i]? = some (vs[i]'(by omega)) := List.getElem?_eq_getElem (by omega)
  obtain ⟨x, h1, h2⟩ := h.getV hv
  refine ⟨⟨hd, by rw [len]; exact hi⟩, fun w H' hy => ?_⟩
  obtain ⟨T, k, v, e1, rfl, hT, rfl⟩ := hy
  rw [at_ hk hv] at e1
  cases e1
  obtain ⟨ok2, s2, e3⟩ := frozen (o := .tup [kV (Sum.inl ks[i]), vs[i]'(by omega)]) ok hT
  refine ⟨_, ok2, s2, .tup (SqT.of upd_same) (.cons ?_ (.cons ?_ .nil))⟩
  · rw [hk]
    exact .int _
  · rw [nthD_of h1]
    exact (h2.mono e).mono e3
theorem di_items {elts : List Expr} {kk : Nat} {tpos : Pos} (he : DE X W ex e td) (hbase : attributeBase e "items" X.env (eval e X.env) = eval e X.env := by rfl) (hline : (apos.endLine == cpos.line) = true := by rfl) :
    DIt X W ex (.Tuple elts kk tpos) (.Call (.Attribute e "items" apos) [] [] cpos) (dItems td) := by
  obtain ⟨te, p1, l1⟩ := he
  refine ⟨_, pi_items p1 hbase hline, fun ds O k h G H σ R ok rp x c => ?_⟩
  refine l1 ds O _ h G H σ _ ok rp x fun d O1 v G1 H1 h1 s1 ok1 d1 => ?_
  dsimp only at h1
  split at h1
  · rename_i ks xs
    cases d1 with
    | fdic h3 h4 h5 =>
      exact ⟨_, _, _, rfl, ok1.ex _ _ h3, c _ O1 G1 H1 _ h1 s1 ok1 (wk_items h3 h4 h5)⟩
  · exact h1.elim
end
/-! ### {k: v, l: w} with ints as keys -/
theorem settledD {K : PySem.W.Frag} {G H G' H' : Hp} {O O' : Ow} {p : Addr} {vs : List V} {kds : List (Int × D)} (s : Stp G H O G' H' O') (k : Ok K G' H' O') (h : H p = none) (g : G' p = none) (o : O' p = none) (a : DnAll K G' vs (kds.map (·.2))) :
    Stp G H O G' (upd H' p (.dK (kvI (kds.map (·.1)) vs))) (oset O' p (.dic kds)) ∧ Ok K G' (upd H' p (.dK (kvI (kds.map (·.1)) vs))) (oset O' p (.dic kds)) := by
  have m1 := mutStp (o := .dK (kvI (kds.map (·.1)) vs)) s h
  have m2 := mutOk (o := .dK (kvI (kds.map (·.1)) vs)) k g o
  refine ⟨⟨m1.g, m1.gn, m1.h, m1.hd, fun q e1 e2 => ?_⟩, ⟨m2.ex, fun q c e => ?_⟩⟩
  · rw [oset_ne (fun z => e1 (by rw [z]; exact h))]
    exact m1.o q e1 e2
  · by_cases z : q = p
    · subst z
      rw [oset_same] at e
      cases e
      exact ⟨g, vs, upd_same, a⟩
    · rw [oset_ne z] at e
      exact m2.own q c e
def dDisp2 (t1 u1 t2 u2 : DT) : DT := fun ds O k => t1 ds O fun a O1 => u1 ds O1 fun b O2 => t2 ds O2 fun c O3 => u2 ds O3 fun d O4 => ∃ i j, a = .int i ∧ c = .int j ∧ ∀ p, O4 p = none → k (.opq (.ref p)) (oset O4 p (.dic (putI (putI [] i b) j d)))
theorem merge2 {K : PySem.W.Frag} {G : Hp} {i j : Int} {v w : V} {b d : D} (hb : Dn K G v b) (hd : Dn K G w d) : ∃ vs, mergeK [] [((Sum.inl i : Key), v), (Sum.inl j, w)] = kvI ((putI (putI [] i b) j d).map (·.1)) vs ∧ DnAll K G vs ((putI (putI [] i b) j d).map (·.2)) := by
  obtain ⟨v1, e1, a1⟩ := kvI_put (i := i) (vs := []) (kds := []) hb .nil
  obtain ⟨v2, e2, a2⟩ := kvI_put (i := j) hd a1
  refine ⟨v2, ?_, a2⟩
  rw [← e2, ← e1]
  rfl
section
variable {X : Cx} {W : WX} {ex : EX} {k1 v1 k2 v2 : Expr} {t1 u1 t2 u2 : DT} {pos : Pos}
theorem de_disp2 (h1 : DE X W ex k1 t1) (g1 : DE X W ex v1 u1) (h2 : DE X W ex k2 t2) (g2 : DE X W ex v2 u2) : DE X W ex (.Dict [some k1, some k2] [v1, v2] pos) (dDisp2 t1 u1 t2 u2) := by
  obtain ⟨ta, p1, l1⟩ := h1
  obtain ⟨tb, p2, l2⟩ := g1
  obtain ⟨tc, p3, l3⟩ := h2
  obtain ⟨td, p4, l4⟩ := g2
  refine ⟨_, pe_disp (pps_cons p1 p2 (pps_cons p3 p4 pps_nil)) rfl rfl (by simp) (by simp), fun ds O k h G H σ Q ok rp x cc => ?_⟩
  intro p hp
  have op := ok.none_of hp
  have gp := ok.gnone hp
  have ok0 := mutOk (o := .dK []) ok gp op
  have s0 := mutStp (o := .dK []) (Stp.refl (G := G) (H := H) (O := O)) hp
  refine l1 ds O _ h G _ σ _ ok0 rp (x.after s0) fun a O1 va G1 H1 q1 s1 ok1 d1 => ?_
  refine l2 ds O1 _ q1 G1 H1 σ _ ok1 (rp.mono s1.g) ((x.after s0).after s1) fun b O2 vb G2 H2 q2 s2 ok2 d2 => ?_
  have s12 := s1.trans s2
  refine l3 ds O2 _ q2 G2 H2 σ _ ok2 (rp.mono s12.g) ((x.after s0).after s12) fun c O3 vc G3 H3 q3 s3 ok3 d3 => ?_
  have s13 := s12.trans s3
  refine l4 ds O3 _ q3 G3 H3 σ _ ok3 (rp.mono s13.g) ((x.after s0).after s13) fun d O4 vd G4 H4 q4 s4 ok4 d4 => ?_
  have s14 := s13.trans s4
  obtain ⟨i, j, rfl, rfl, q4⟩ := q4
  cases d1
  cases d3
  have hp0 : (upd H p (.dK [])) p = some (.dK []) := upd_same
  have np : (upd H p (.dK [])) p ≠ none := by rw [hp0]; exact fun z => by cases z
  have e4 : H4 p = some (.dK []) := s14.h p _ hp0 op
  have o4 : O4 p = none := s14.o p np op
  have g4 : G4 p = none := s14.gn p np gp op
  obtain ⟨vs, em, am⟩ := merge2 (i := i) (j := j) ((d2.mono s3.g).mono s4.g) d4
  obtain ⟨sf, okf⟩ := settledD (s0.trans s14) ok4 hp g4 o4 am
  refine ⟨e4, [(Sum.inl i, vb), (Sum.inl j, vd)], rfl, by simp, ?_⟩
  rw [em]
  exact cc _ _ _ _ _ (q4 p o4) sf okf (.opq _)
end
/-! ### {k: v for x in ..} with ints as keys -/
def dDc (di : DI) (g : DG) (tt : DB) (tk tv : DT) (vs : List Nat) : DT := fun ds O k => di ds O fun xs O1 => xs.length < sizeLine ∧ ∃ Iv : Nat → List (Int × D) → Ow → Prop, Iv 0 [] O1 ∧
  (∀ i x acc O, xs[i]? = some x → Iv i acc O → acc.length ≤ i → g x (dwipe ds vs) O fun ds' O' => tt ds' O' fun b O2 => if b = true then tk ds' O2 fun y O3 => tv ds' O3 fun z O4 => ∃ j, y = .int j ∧ Iv (i + 1) (putI acc j z) O4 else Iv (i + 1) acc O2) ∧
  (∀ acc O, acc.length ≤ xs.length → Iv xs.length acc O → ∀ p, O p = none → k (.opq (.ref p)) (oset O p (.dic acc)))
theorem l_dc {K : PySem.W.Frag} {W : WX} {ex : EX} {wi : TI} {g : TG} {tt : TT} {tk tv : TE} {vs : List Nat} {di : DI} {dg : DG} {dtt : DB} {dtk dtv : DT} {is : List Nat} (l0 : LiftI K W ex wi di) (l1 : LiftG K NoW NoX is g dg) (l2 : LiftB K NoW NoX tt dtt) (l3 : LiftE K NoW NoX tk dtk) (l4 : LiftE K NoW NoX tv dtv) (hsub : ∀ i ∈ is, i ∈ vs) :
    LiftE K W ex (tDc wi g tt tk tv vs) (dDc di dg dtt dtk dtv vs) := by
  intro ds O k h G H σ Q ok rp x c
  refine l0 ds O _ h G H σ _ ok rp x fun xs O1 G1 H1 J h1 s1 ok1 wk => ?_
  obtain ⟨hz, Iv, i0, st, fin⟩ := h1
  intro Dl hD
  have gD : G1 Dl = none := ok1.gnone hD
  have oD : O1 Dl = none := ok1.none_of hD
  let Mid : Nat → Hp → Prop := fun i H' => ∃ acc ws O' G', Iv i acc O' ∧ acc.length ≤ i ∧ H' Dl = some (.dK (kvI (acc.map (·.1)) ws)) ∧ DnAll K G' ws (acc.map (·.2)) ∧ G' Dl = none ∧ O' Dl = none ∧ Stp G1 H1 O1 G' H' O' ∧ Ok K G' H' O'
  have ok1' : Ok K G1 (upd H1 Dl (.dK [])) O1 := mutOk ok1 gD oD
  have s1' : Stp G1 H1 O1 G1 (upd H1 Dl (.dK [])) O1 := mutStp Stp.refl hD
  refine ⟨fun i m H' => m = xs.length - i ∧ i ≤ xs.length ∧ Mid i H', ⟨xs.length, rfl, Nat.zero_le _, [], [], O1, G1, i0, Nat.le_refl _, upd_same, .nil, gD, oD, s1', ok1'⟩, ?_⟩
  rintro i m H2 ⟨rfl, hi, acc, ws, O2, G2, iv2, la, hl2, da, g2, o2, s2, ok2⟩
  obtain ⟨w1, w2⟩ := wk G2 H2 O2 s2.g ok2 i
  by_cases hlt : i < xs.length
  · obtain ⟨go, turn⟩ := w1 xs[i] (List.getElem?_eq_getElem hlt)
    refine .inr ⟨go, Mid (i + 1), fun H' q => ⟨xs.length - (i + 1), by omega, rfl, hlt, q⟩, fun v H3 hy => ?_⟩
    obtain ⟨G3, ok3, s3, d3⟩ := turn v H3 hy
    have nox : ∀ {G H O}, ContX K G H O NoW NoX := fun {_ _ _} _ _ _ _ _ _ _ z => z.elim
    have nD : ∀ {G' H' O'}, Stp G2 H2 O2 G' H' O' → H' Dl = some (.dK (kvI (acc.map (·.1)) ws)) ∧ G' Dl = none ∧ O' Dl = none := fun {_ _ _} s => ⟨s.h _ _ hl2 o2, s.gn _ (by rw [hl2]; exact fun z => by cases z) g2 o2, s.o _ (by rw [hl2]; exact fun z => by cases z) o2⟩
    refine l1 _ (dwipe ds vs) O2 _ (st i _ acc O2 (List.getElem?_eq_getElem hlt) iv2 la) G3 H3 (wipe σ vs) v _ ok3 (((rep_wipe rp vs).mono s1.g).mono (s2.g.trans s3.g)) nox d3 fun ds4 O4 σ4 G4 H4 h4 s4 ok4 rp4 tc => ⟨?_, ?_⟩
    · have e := tc vs hsub
      have e2 : ∀ us : List Nat, (∀ i ∈ us, i ∈ vs) → wipe (wipe σ us) vs = wipe σ vs := fun us => by
        induction us with
        | nil => exact fun _ => rfl
        | cons u us ih =>
          intro h
          show wipe ((wipe σ us).set u none) vs = _
          rw [wipe_set, if_pos (h u List.mem_cons_self)]
          exact ih fun i hi => h i (List.mem_cons_of_mem _ hi)
      rw [e]
      exact e2 vs fun _ h => h
    · refine l2 ds4 O4 _ h4 G4 H4 σ4 _ ok4 rp4 nox fun b O5 G5 H5 h5 s5 ok5 => ?_
      have sc := (s3.trans s4).trans s5
      obtain ⟨n1, n2, n3⟩ := nD sc
      cases b with
      | true =>
        refine l3 ds4 O5 _ h5 G5 H5 σ4 _ ok5 (rp4.mono s5.g) nox fun y O6 u G6 H6 h6 s6 ok6 d6 => ?_
        refine l4 ds4 O6 _ h6 G6 H6 σ4 _ ok6 ((rp4.mono s5.g).mono s6.g) nox fun z O7 uz G7 H7 h7 s7 ok7 d7 => ?_
        have s67 := s6.trans s7
        obtain ⟨n4, n5, n6⟩ := nD (sc.trans s67)
        obtain ⟨j, rfl, h7⟩ := h7
        cases d6
        obtain ⟨ws', e1, a1⟩ := kvI_put (i := j) d7 (da.mono (sc.trans s67).g)
        have ll := da.length
        rw [List.length_map] at ll
        have lp := len_put (kds := acc) (i := j) (d := z)
        refine ⟨_, Sum.inl j, rfl, n4, by rw [kvI_len (by rw [List.length_map]; exact ll), List.length_map]; omega, putI acc j z, ws', O7, G7, h7, by omega, ?_, a1, n5, n6, ?_, ?_⟩
        · rw [upd_same, e1]
        · exact mutStp (s2.trans (sc.trans s67)) hD
        · exact mutOk ok7 n5 n6
      | false => exact ⟨acc, ws, O5, G5, h5, by omega, n1, da.mono sc.g, n2, n3, s2.trans sc, ok5⟩
  · have e : i = xs.length := by omega
    subst e
    obtain ⟨sf, okf⟩ := settledD s2 ok2 hD g2 o2 da
    have eu : upd H2 Dl (.dK (kvI (acc.map (·.1)) ws)) = H2 := by
      funext b
      by_cases z : b = Dl
      · rw [z, upd_same, hl2]
      · rw [upd_ne z]
    rw [eu] at sf okf
    exact .inl ⟨w2 (Nat.le_refl _), c _ _ _ G2 H2 (fin acc O2 la iv2 Dl o2) (s1.trans sf) okf (.opq _)⟩
section
variable {X : Cx} {W : WX} {ex : EX}
theorem de_dc (own : List (Str × Nat)) {is : List Nat} {kx vx tg iter : Expr} {ifs : List Expr} {scope : Scope} {pos : Pos} {di : DI} {g : DG} {tt : DB} {tk tv : DT} (hc : X.calm = true) (hN : X.N.Nodup) (hi : DIt X W ex tg iter di) (ok : BlkOk X.N X.env.scope scope own)
    (hg : ∀ (s : Shared) (H : Hp) (C : Addr) (cl : List (Str × Addr)) (fp : List Addr), DGt (X.blk s H scope (compEnvC scope cl C X.env) fp) NoW NoX is tg g)
    (ht : ∀ (s : Shared) (H : Hp) (C : Addr) (cl : List (Str × Addr)) (fp : List Addr), DTs (X.blk s H scope (compEnvC scope cl C X.env) fp) NoW NoX ifs tt)
    (hk : ∀ (s : Shared) (H : Hp) (C : Addr) (cl : List (Str × Addr)) (fp : List Addr), DE (X.blk s H scope (compEnvC scope cl C X.env) fp) NoW NoX kx tk)
    (he : ∀ (s : Shared) (H : Hp) (C : Addr) (cl : List (Str × Addr)) (fp : List Addr), DE (X.blk s H scope (compEnvC scope cl C X.env) fp) NoW NoX vx tv)
    (hsub : ∀ i ∈ is, i ∈ own.map (·.2) := by decide) (hs : ∀ x, foldedSetIterable iter X.env x = pure x := by intro _; rfl) :
    DE X W ex (.DictComp kx vx [⟨tg, iter, ifs, 0⟩] scope pos) (dDc di g tt tk tv (own.map (·.2))) := by
  obtain ⟨wi, p0, l0⟩ := hi
  exact ⟨_, pe_dc hc hN p0 ok (fun s H C cl fp => gOf_p (hg s H C cl fp)) (fun s H C cl fp => bOf_p (ht s H C cl fp)) (fun s H C cl fp => tOf_p (hk s H C cl fp)) (fun s H C cl fp => tOf_p (he s H C cl fp)) hs, l_dc l0 gOf_l bOf_l tOf_l tOf_l hsub⟩
end
end DL
namespace DL
open PySem PySem.Spec PyProof.Rows L2 Evl
/-! ### xs[::-1] of a list -/
def dRevLst (t : DT) : DT := fun ds O k => t ds O fun x O1 => match x with
  | .lst xs => k (.lst xs.reverse) O1
  | _ => False
theorem de_revLst {X : Cx} {W : WX} {ex : EX} {e : Expr} {t : DT} {k : Nat} {p1 p2 p3 pos : Pos} (he : DE X W ex e t) : DE X W ex (.Subscript e (.Slice none none (some (.UnaryOp .USub (.Constant (.int 1) k p1) p2)) p3) pos) (dRevLst t) := by
  obtain ⟨ta, h1, l1⟩ := he
  refine ⟨_, pe_revL h1, fun ds O k h G H σ Q ok rp x c => l1 ds O _ h G H σ _ ok rp x fun d O1 v G1 H1 h1 s1 ok1 d1 => ?_⟩
  dsimp only at h1
  split at h1
  · cases d1 with
    | lst t1 t2 =>
      refine ⟨_, _, rfl, SqL.of (ok1.ex _ _ t1), fun p hp => ?_⟩
      obtain ⟨ok2, s2, e2⟩ := frozen (o := .lst _) ok1 hp
      exact c _ O1 _ _ _ h1 (s1.trans s2) ok2 (.lst upd_same (t2.rev.mono e2))
  · exact h1.elim
/-! ### xs.index(n) of ints -/
def qIndexI : D → List D → Ow → DK → Prop := fun x xs O k => match xs with
  | [.int i] => (match (listOf O x).bind intsOf with
    | some ys => i ∈ ys ∧ ∀ n : Nat, ys[n]? = some i → (∀ m, m < n → ys[m]? ≠ some i) → k (.int (n : Int)) O
    | none => False)
  | _ => False
theorem first_at {i : Int} : ∀ {ys : List Int}, i ∈ ys → ∃ j : Nat, ys[j]? = some i ∧ ∀ m, m < j → ys[m]? ≠ some i
  | [], h => by cases h
  | y :: ys, h => by
    by_cases e : y = i
    · exact ⟨0, by rw [e]; rfl, fun m hm => by omega⟩
    · rcases List.mem_cons.mp h with z | z
      · exact absurd z.symm e
      · obtain ⟨j, h1, h2⟩ := first_at z
        refine ⟨j + 1, by simpa using h1, fun m hm => ?_⟩
        cases m with
        | zero => simpa using e
        | succ m => simpa using h2 m (by omega)
theorem eqV_int (a b : Int) : eqV (.int a) (.int b) = decide (a = b) := by
  by_cases e : a = b
  · subst e
    simp [eqV]
  · simp [eqV, e]
theorem lm_indexI {K : PySem.W.Frag} : LiftM K (rIndex K) qIndexI := by
  intro x xs O k h G H v vs Q ok hx hxs c
  unfold qIndexI at h
  split at h
  · rename_i i
    obtain ⟨u, rfl, hy⟩ := one_of hxs
    cases hy
    split at h
    · rename_i ys e
      cases q : listOf O x with
      | none => rw [q] at e; cases e
      | some zs =>
        rw [q] at e
        obtain ⟨a, vs, rfl, a1, a2⟩ := listOf_ok ok hx q
        have z := intsOf_eq (show intsOf zs = some ys from e)
        subst z
        rw [a2.ints] at a1
        obtain ⟨hm, hk⟩ := h
        obtain ⟨j, h1, h2⟩ := first_at hm
        refine ⟨a, _, .int i, j, .int i, rfl, rfl, SqL.of a1, rfl, flat_ints ys, by rw [List.getElem?_map, h1]; rfl, by rw [eqV_int, decide_eq_true rfl], fun m z' hm hz => ?_, c _ O _ G H (hk j h1 h2) Stp.refl ok (.int _)⟩
        rw [List.getElem?_map] at hz
        cases q2 : ys[m]? with
        | none => rw [q2] at hz; cases hz
        | some w =>
          rw [q2] at hz
          cases hz
          rw [eqV_int, decide_eq_false (fun z => h2 m hm (by rw [q2, z]))]
    · exact h.elim
  · exact h.elim
end DL
namespace DL
open PySem PySem.Spec PyProof.Rows L2 Evl
/-! ### raise X(e): an own class without __init__ of one argument of any form -/
theorem pmk_ownE {X : Cx} {C : Addr} {bmB : List Value} {B newId initId : String} {x : Str} {e : Expr} {ta : TE} {p pos : Pos} (F : ExcBaseFacts B newId initId bmB) (q : PySem.W.excIn X.K C bmB newId = true) (gC : X.mg x = some (.ref C)) (kC : PySem.W.keepIn X.K (.ref C) = true) (r : Raises X (.ref C)) (hg : Gl X x)
    (he : PE X e ta) (hs : starEach [e] X.env = (false, eval e X.env) :: starEach [] X.env := by rfl) (hdb : (x == ("__debug__" : Str)) = false := by decide) :
    L2N.PMk X (.Call (.Name x p) [e] [] pos) (fun σ H Q => ta σ H fun x1 H1 => [x1].length = 1 ∧ Q (.ref C) none H1) := by
  intro pins s σ H Q I h
  refine wpAny_Call_Name_kw (ld_glob I hg gC ?_ hdb)
  have ha : PA X [e] (tCons ta tNil) := pa_cons he pa_nil hs
  refine PySem.W.callWith_K (h₀ := X.base) I.ok.mod.kin kC (thn (ha.run pos pins s σ H (fun vs H1 => vs.length = 1 ∧ Q (.ref C) none H1) I h) fun us s1 hh => ?_) hs (by rfl)
  obtain ⟨vs, H1, I1, r1, ev, q1⟩ := hh
  refine ⟨I1.kIn, ?_⟩
  cases r1 with
  | nil => cases ev
  | cons ru rn =>
    cases rn with
    | cons _ _ => simp at ev
    | nil =>
      rename_i u
      show wpAny _ _ (call (.ref C) [_]) _ _ _
      obtain ⟨bm, N, nm, qn, bs, hdct, sn, sub, ab, col, dd, k0, k1, k2, k3, k5, mN, hC, hN, hni, T⟩ := exc_obj I1.kIn q
      refine wpAny_call_exc_subT F T hC hN hni (fun h' e hm => ?_) (by show 1 ≤ sizeLine; rw [sizeLine_eq]; omega)
      exact L2N.mk_of I1 hm r q1 (I1.hok.gone hm.new)
/-! ### raise X(f'a{e}b') for an int of few digits -/
theorem joined_fits {a b : Str} {n : Int} (ha : a.length ≤ 1000) (hb : b.length ≤ 1000) (hn : n.natAbs.log2 < 1920) : (Str.empty ++ a).length ≤ sizeLine ∧ (Str.empty ++ a ++ (toString n : Str)).length ≤ sizeLine ∧ (Str.empty ++ a ++ (toString n : Str) ++ b).length ≤ sizeLine := by
  have e := int_text_length_le (k := 1920) (by decide) hn
  have e0 : Str.empty.length = 0 := rfl
  have e1 : (toString n : Str).length = (toString n : String).length := PySem.ofString_length _
  simp only [strLen_append, e0, e1, sizeLine_eq]
  omega
def dRaiseF (a b : Str) (t : DT) (ex : EX) (C : Addr) : DSr := fun _ ds O => a.length ≤ 1000 ∧ b.length ≤ 1000 ∧ t ds O fun x O1 => ∃ n : Int, x = .int n ∧ n.natAbs.log2 < 1920 ∧ ex ⟨.ref C, none⟩ ds O1
section
variable {X : Cx} {W : WX} {ex : EX} {x a b : Str} {C : Addr} {e : Expr} {t : DT} {j j2 : Nat} {p pa pb pf pj pos pos2 : Pos}
theorem ds_raiseF (he : DE X W ex e t) (tk : L2N.Takes X W) (q : PySem.W.excIn X.K C veTail "ValueError.__new__" = true) (gC : X.mg x = some (.ref C)) (kC : PySem.W.keepIn X.K (.ref C) = true) (r : Raises X (.ref C)) (hc : X.calm = true := by rfl) (hg : Gl X x := by rfl) (hdb : (x == ("__debug__" : Str)) = false := by decide) :
    DSt X W ex (.Raise (some (.Call (.Name x p) [.JoinedStr [.Constant (.str a) j pa, .FormattedValue e (-1) none pf, .Constant (.str b) j2 pb] pj] [] pos)) none pos2) (dRaiseF a b t ex C) := by
  obtain ⟨te, h1, l1⟩ := he
  have pj := pe_joined (pos := pj) (PJ.cons (pe_str (x := a) (j := j) (pos := pa)) (PJ.cons (pe_fmt (pos := pf) h1) (PJ.cons (pe_str (x := b) (j := j2) (pos := pb)) PJ.nil)))
  refine ⟨_, L2N.ps_raise hc tk (pmk_ownE PySem.F.excBase_ValueError q gC kC r hg pj rfl hdb), fun E ds O h G H σ D ok rp xc c => ?_⟩
  obtain ⟨ha, hb, h⟩ := h
  refine ⟨a, rfl, (joined_fits (n := 0) ha hb (by decide)).1, ?_⟩
  refine l1 ds O _ h G H σ _ ok rp xc fun d O1 v G1 H1 h' s' ok1 d1 => ?_
  obtain ⟨n, rfl, hn, hx⟩ := h'
  cases d1
  obtain ⟨z1, z2, z3⟩ := joined_fits ha hb hn
  exact .inr ⟨n, rfl, hn, _, rfl, z2, _, rfl, z3, rfl, xc _ ds O1 σ none G1 H1 hx s' ok1 (rp.mono s'.g) rfl⟩
end
/-! ### a, b, .. = a list that changes no more -/
def dgUnl (n : Nat) (t : DGs) : DG := fun x ds O k => match x with
  | .lst xs => xs.length = n ∧ t xs ds O k
  | _ => False
section
variable {X : Cx} {W : WX} {ex : EX} {pos : Pos}
theorem dg_unl {is : List Nat} {es : List Expr} {k : Nat} {t : DGs} {n : Nat} (hc : X.calm = true) (h : DGts X W ex is es t) (hn : (assignEach es X.env).length = n := by rfl) (hst : (assignEach es X.env).findIdx? (·.1) = none := by rfl) : DGt X W ex is (.Tuple es k pos) (dgUnl n t) := by
  obtain ⟨g, p1, l1⟩ := h
  refine ⟨_, pg_unl hc p1 hn hst, fun y ds O k h G H σ v Q ok rp x hv c => ?_⟩
  cases hv with
  | lst a b =>
    obtain ⟨h1, h2⟩ := h
    exact ⟨_, _, rfl, SqL.of (ok.ex _ _ a), by rw [b.length]; exact h1, l1 _ ds O k h2 G H σ _ _ ok rp x b c⟩
  | _ => exact False.elim h
end
end DL
namespace DL
open PySem PySem.Spec PyProof.Rows L2 Evl
/-! ### sorted(d) of a dict of ints, any number of keys -/
theorem call_sortedDA {X : Cx} (hcalm : X.calm = true) : CallR X (.builtin "sorted") (fun xs H Q => ∃ (a : Addr) (kvs : List (Key × V)) (ks : List Int), xs = [.ref a] ∧ Rd H a (.dK kvs) ∧ kvs.map (·.1) = ks.map Sum.inl ∧ ks.length ≤ 1000000 ∧
    ∀ (ys : List Int) (p : Addr), ys.Perm ks → ys.Pairwise (· ≤ ·) → H p = none → Q (.ref p) (upd H p (.lst (ys.map V.int)))) := by
  intro pins s σ H xs us Q I r q
  obtain ⟨a, kvs, ks, rfl, hd, hks, hmax, q⟩ := q
  obtain ⟨u, rfl, rx⟩ := vals1 r
  cases rx
  obtain ⟨z, lo, vs, rel, dd⟩ := dk_rd I.hok hd
  obtain ⟨ep, hat⟩ := dd.dictAt
  have hkeys : vs.map (·.1) = ks.map Sum.inl := rel.keys.symm.trans hks
  have hl : vs.length = ks.length := by
    have e := congrArg List.length hkeys
    rwa [List.length_map, List.length_map] at e
  have big : 1000000 ≤ sizeLine := by decide
  refine Calls.call_function_entry PyProof.Rows.kind_sorted PyProof.Rows.plain_sorted PyProof.Rows.entry_sorted (PyProof.Rows.args_sorted1 _) ?_
  unfold Builtin.«sorted»
  refine wpAny_bind (m := checkCount "sorted" 1 1 _) (wpAny_pure ?_)
  refine wpAny_bind (PySem.W.kdu_collect (A := X.A.in1) (PySem.W.kdl_dict (knd := mixKind X.prog X.w) (kvs := vs) (ep := ep) lo) (I.ok.hd hcalm) hat (by rw [hl]; exact Nat.le_trans hmax big) fun h' tk acc hk hacc => ?_)
  have hal : acc.toList.length = ks.length := by rw [Array.length_toList, hacc.1, hl]
  have hS : IntsAre acc.toList ks := ints_each hal fun j v e => by
    obtain ⟨k, x, e1, e2⟩ := hacc.2 j v (by rw [← Array.getElem?_toList]; exact e)
    have e3 : (vs.map (·.1))[j]? = some k := by rw [List.getElem?_map, e1]; rfl
    rw [hkeys, List.getElem?_map] at e3
    cases e4 : ks[j]? with
    | none => rw [e4] at e3; cases e3
    | some y =>
      rw [e4] at e3
      cases Option.some.inj e3
      rcases keyIs_shape (show keyIs (Sum.inl y) v = true from e2) with ⟨i, t, ek, ev⟩ | ⟨z, t, ek, ev⟩
      · cases ek
        exact ⟨y, t, rfl, ev⟩
      · cases ek
  have I1 : Inv X pins σ H { s with heap := h', toks := tk } := I.kept hk
  have hsz : acc.toList.length ≤ sizeLine := by rw [hal]; exact Nat.le_trans hmax big
  refine wpAny_bind (wpAny_newList ?_ hsz)
  have hoL : (h'.push (seqObj "list" acc.toList.toArray 0)).get? h'.objs.size = some (seqObj "list" acc.toList.toArray 0) := Heap.get?_push_size _ rfl
  show wpAny _ _ _ _ _ { s with heap := h'.push (seqObj "list" acc.toList.toArray 0), toks := tk }
  refine wpAny_bind (wpAny_holding (wpAny_call_entry PyProof.Rows.slot_list_sort ⟨_, hoL, rfl⟩ PyProof.Rows.entry_list_sort
    (PyProof.Rows.list_sort_treeAny (s := { s with heap := h'.push (seqObj "list" acc.toList.toArray 0), toks := tk }) hoL hS hsz fun out ys g1 g2 g3 => ⟨_, rfl, ?_⟩) (PyProof.Rows.args_list_sort _)))
  obtain ⟨e', he'⟩ := PyProof.Rows.sortedHeap_at (vs := acc.toList) (out := out) hoL
  have hlen : (ys.map V.int).length ≤ sizeLine := by
    rw [List.length_map, g2.length_eq]
    exact Nat.le_trans hmax big
  refine wpAny_pure ⟨_, rfl, .ref h'.objs.size, upd H h'.objs.size (.lst (ys.map V.int)), I1.laid (t' := tk) (fun b u e => ?_) (Nat.le_refl _)
    (show ObjOk X.prog X.w _ _ _ (.lst (ys.map V.int)) from ⟨hlen, out.toList, e', vals_of_ints g1, by rw [Array.toArray_toList]; exact he'⟩), rfl, q ys _ g2 g3 (I1.hok.fresh (Nat.le_refl _))⟩
  have hb : b < h'.objs.size := Heap.lt_size e
  rw [PyProof.Rows.sortedHeap_old (Nat.ne_of_lt hb) (by rw [size_push']; exact Nat.lt_succ_of_lt hb)]
  exact Heap.get?_push_of_some _ e
def qSortDA : DRC := fun xs O k => match xs with
  | [.opq (.ref p)] => ∃ kds, O p = some (.dic kds) ∧ kds.length ≤ 1000000 ∧ ∀ ys : List Int, ys.Perm (kds.map (·.1)) → ys.Pairwise (· ≤ ·) → k (.lst (ys.map D.int)) O
  | _ => False
theorem lc_sortDA {K : PySem.W.Frag} : LiftC K (fun xs H Q => ∃ (a : Addr) (kvs : List (Key × V)) (ks : List Int), xs = [.ref a] ∧ Rd H a (.dK kvs) ∧ kvs.map (·.1) = ks.map Sum.inl ∧ ks.length ≤ 1000000 ∧
    ∀ (ys : List Int) (p : Addr), ys.Perm ks → ys.Pairwise (· ≤ ·) → H p = none → Q (.ref p) (upd H p (.lst (ys.map V.int)))) qSortDA := by
  intro xs O k h G H vs Q ok hx c
  unfold qSortDA at h
  split at h
  · rename_i p
    obtain ⟨kds, hp, hl, hk⟩ := h
    obtain ⟨v, rfl, hd⟩ := one_of hx
    cases hd
    obtain ⟨ws, e1, a1⟩ := dic_at ok hp
    have hl' := a1.length
    rw [List.length_map] at hl'
    refine ⟨p, _, kds.map (·.1), rfl, .inl e1, kvI_keys (by rw [List.length_map]; exact hl'), by rw [List.length_map]; exact hl, fun ys a hperm hs hn => ?_⟩
    obtain ⟨ok2, s2, e2⟩ := frozen (o := .lst (ys.map V.int)) ok hn
    exact c _ O _ _ _ (hk ys hperm hs) s2 ok2 (.lst upd_same (DnAll.ofInts ys))
  · exact h.elim
end DL
namespace DL
open PySem PySem.Spec PyProof.Rows L2 Evl
/-! ### sorted(set(list of ints)), at most 4000 of them -/
section
variable {P : Program} {w : World} {A : Around} {E : Value → Shared → Prop} {s : Shared} {a : Addr}
theorem sorted_setA {S : Int → Bool} {n : Nat} {Q : Value → Shared → Prop} (R : SetR w s.heap a S n) (hh : A.handled = none)
    (hQ : ∀ s' p (out : Array Value) (c : Nat) (ns : List Int), (∀ b o, s.heap.get? b = some o → s'.heap.get? b = some o) → s'.gens = s.gens → s'.os = s.os → s.heap.objs.size ≤ p →
      s'.heap.get? p = some (seqObj "list" out c) → IntsAre out.toList ns → ns.Pairwise (· < ·) → (∀ k, k ∈ ns ↔ S k = true) → ns.length = n → n < 4096 → Q (.ref p) s') :
    wpAny (model P w) A (call (.builtin "sorted") [.ref a]) Q E s := by
  obtain ⟨o, es, ep, t, ho, hex, hd, g, nd, hm, hb, hf, hn, hr, hl⟩ := R
  have n4 : n < 4096 := by rw [← hn]; exact hb
  refine Calls.call_function_entry kind_sorted plain_sorted entry_sorted (args_sorted1 _) ?_
  unfold Builtin.«sorted»
  refine wpAny_bind (m := checkCount "sorted" 1 1 _) (wpAny_pure ?_)
  refine wpAny_bind (collect_set (A := A.in1) hh ⟨o, ho, hex.1, hd⟩ hf hb hr hl fun s1 vs k1 hz g1 o1 pm => ?_)
  have hvl : vs.length = n := by rw [pm.length_eq, List.length_map, Array.length_toList]; exact hn
  have hI : IntsAre vs (vs.map Builtin.Re.reRawOf) := L2.ints_of vs fun v hv => by
    obtain ⟨e, he, q⟩ := List.mem_map.mp (pm.mem_iff.mp hv)
    obtain ⟨k, tk, h1, _⟩ := g e he
    exact ⟨k, tk, by rw [← q]; exact h1⟩
  have pk : (vs.map Builtin.Re.reRawOf).Perm (es.toList.map L2.keyOf) := by
    have q := pm.map Builtin.Re.reRawOf
    rw [List.map_map] at q
    exact q
  have hsz : vs.length ≤ sizeLine := by rw [hvl, sizeLine_eq]; omega
  refine wpAny_bind (wpAny_newList ?_ hsz)
  have hoL : (s1.heap.push (seqObj "list" vs.toArray 0)).get? s1.heap.objs.size = some (seqObj "list" vs.toArray 0) := Heap.get?_push_size _ rfl
  refine wpAny_bind (wpAny_holding (wpAny_call_entry slot_list_sort ⟨_, hoL, rfl⟩ entry_list_sort (list_sort_treeAny hoL hI hsz fun out ns' a1 a2 a3 => ⟨_, rfl, ?_⟩) (args_list_sort _)))
  obtain ⟨c, hc⟩ := sortedHeap_at (vs := vs) (out := out) hoL
  have pn : ns'.Perm (es.toList.map L2.keyOf) := a2.trans pk
  refine wpAny_pure ⟨_, rfl, hQ _ s1.heap.objs.size out c ns' (fun b u e => ?_) g1 o1 hz hc a1 (L2.lt_of_le_nodup ns' a3 (pn.nodup_iff.mpr nd)) (fun k => by rw [pn.mem_iff, ← hm k]) ?_ n4⟩
  · have q := k1 b u e
    have hlt := Heap.lt_size q
    show (sortedHeap (s1.heap.push (seqObj "list" vs.toArray 0)) s1.heap.objs.size vs out).get? b = some u
    rw [sortedHeap_old (Nat.ne_of_lt hlt) (by rw [size_push']; exact Nat.lt_succ_of_lt hlt)]
    exact Heap.get?_push_of_some _ q
  · rw [pn.length_eq, List.length_map, Array.length_toList]; exact hn
end
def rSortedSetA (w : World) : List V → Hp → VK → Prop := fun vs H Q => ∃ (a : Addr) (S : Int → Bool) (n : Nat), vs = [V.ref a] ∧ H a = some (SetO w a S n) ∧
  ∀ (ns : List Int) (p : Addr), ns.Pairwise (· < ·) → (∀ k : Int, k ∈ ns ↔ S k = true) → H p = none → Q (.ref p) (upd H p (.lst (ns.map V.int)))
def rSetIA (K : PySem.W.Frag) (w : World) : List V → Hp → VK → Prop := fun xs H Q => ∃ (l : Addr) (ns : List Int), xs = [.ref l] ∧ SqL K H l (ns.map V.int) ∧ ns.length ≤ 4000 ∧ ∀ p c, H p = none → c ≤ ns.length → Q (.ref p) (upd H p (SetO w p (fun j => decide (j ∈ ns)) c))
section
variable {X : Cx}
theorem cr_sortedSetA (hc : X.calm = true) : CallR X (.builtin "sorted") (rSortedSetA X.w) := by
  intro pins s σ H vs us Q I r h
  obtain ⟨a, S, n, rfl, ha, q⟩ := h
  have R := setO_get I ha
  rw [Vals.ref1 r]
  refine sorted_setA R (I.ok.hd hc) fun s' p out c ns k g o hp hg hi hs hm hl n4 => ?_
  have hlen : (ns.map V.int).length ≤ sizeLine := by rw [List.length_map, hl, sizeLine_eq]; omega
  have hn : H p = none := I.hok.fresh hp
  have J : Inv X pins σ (upd H p (.lst (ns.map V.int))) { s with heap := s'.heap, gens := s'.gens, drawn := s'.drawn, toks := s'.toks } :=
    I.call (ch := []) (Un.laid k hp hn) (I.hok.laid k hp ⟨hlen, out.toList, c, vals_of_ints hi, hg⟩) (by rw [g]; exact I.bare) (fun _ z => nomatch z)
  have e : s' = { s with heap := s'.heap, gens := s'.gens, drawn := s'.drawn, toks := s'.toks } := by
    cases s'
    cases s
    cases o
    rfl
  rw [e]
  exact ⟨.ref p, _, J, rfl, q ns p hs hm hn⟩
theorem cr_setIA (hc : X.calm = true) : CallR X (.type "set") (rSetIA X.K X.w) := by
  intro pins s σ H xs us Q I r h
  obtain ⟨l, ns, rfl, hs, hn, q⟩ := h
  obtain ⟨its, rv, pl, hz⟩ := I.list hs
  rw [Vals.ref1 r]
  refine set_of_list ns (I.ok.hd hc) pl.isList (by simpa using ints_of_vals rv) (by unfold scanBound; omega) fun s2 got => ?_
  obtain ⟨h2, t2, c, rfl, hS, hc2, hk⟩ := got
  exact ⟨.ref _, upd H s.heap.objs.size (SetO X.w s.heap.objs.size (fun j => decide (j ∈ ns)) c), I.laid (t' := t2) (fun b o e => hk b o e) (Nat.le_refl _) (setO_new hS), rfl, q _ c (I.hok.fresh (Nat.le_refl _)) hc2⟩
end
def qSSetA : DRC := fun xs O k => match xs with
  | [d] => (match (listOf O d).bind intsOf with
    | some ns => ns.length ≤ 4000 ∧ ∀ ns' : List Int, ns'.Pairwise (· < ·) → (∀ j : Int, j ∈ ns' ↔ j ∈ ns) → k (.lst (ns'.map D.int)) O
    | none => False)
  | _ => False
section
variable {X : Cx} {W : WX} {ex : EX} {e : Expr} {p p2 q1 q2 : Pos} {t : DA}
theorem de_ssetA (hc : X.calm = true) (hm : X.mg "sorted" = none) (hm2 : X.mg "set" = none) (ha : DAs X W ex [e] t) (hg : Gl X "sorted" := by rfl) (hg2 : Gl X "set" := by rfl)
    (he : starEach [e] X.env = (false, eval e X.env) :: starEach [] X.env := by rfl) (hpl : (backTo q2 (starEach [] X.env)).any (·.1) = false := by rfl)
    (he2 : starEach [.Call (.Name "set" p2) [e] [] q2] X.env = (false, eval (.Call (.Name "set" p2) [e] [] q2) X.env) :: starEach [] X.env := by rfl) (hpl2 : (backTo q1 (starEach [] X.env)).any (·.1) = false := by rfl) :
    DE X W ex (.Call (.Name "sorted" p) [.Call (.Name "set" p2) [e] [] q2] [] q1) (dCB qSSetA t) := by
  obtain ⟨ta, h1, l1⟩ := ha
  have a1 := pe_callTy (p := p2) (cr_setIA hc) hg2 hm2 (by decide +kernel) h1 (by decide) (by decide) he hpl
  have a2 := pe_callB (p := p) (cr_sortedSetA hc) hg hm (by decide +kernel) (pa_cons a1 pa_nil he2) (by decide) (by decide) he2 hpl2
  refine ⟨_, a2, fun ds O k h G H σ Q ok rp x c => l1 ds O _ h G H σ _ ok rp x fun xs O1 vs G1 H1 h2 s1 ok1 d1 => ?_⟩
  unfold qSSetA at h2
  dsimp only at h2
  split at h2
  · obtain ⟨v, rfl, hd⟩ := one_of d1
    split at h2
    · rename_i ns e1
      obtain ⟨a, rfl, hs⟩ := DL.ints_of ok1 hd e1
      refine ⟨a, ns, rfl, hs, h2.1, fun p c' hp hc' => ⟨p, _, c', rfl, upd_same, fun ns' p' hpw hmem hp' => ?_⟩⟩
      have ok2 := mutOk (o := SetO X.w p (fun j => decide (j ∈ ns)) c') ok1 (ok1.gnone hp) (ok1.none_of hp)
      have s2 := mutStp (o := SetO X.w p (fun j => decide (j ∈ ns)) c') (Stp.refl (G := G1) (H := H1) (O := O1)) hp
      obtain ⟨ok3, s3, e3⟩ := frozen (o := .lst (ns'.map V.int)) ok2 hp'
      exact c _ O1 _ _ _ (h2.2 ns' hpw fun j => by rw [hmem j]; simp) ((s1.trans s2).trans s3) ok3 (.lst upd_same (DnAll.ofInts _))
    · exact h2.elim
  · exact h2.elim
theorem qssetA_ints {ns : List Int} {O : Ow} {k : DK} : qSSetA [.lst (ns.map D.int)] O k = (ns.length ≤ 4000 ∧ ∀ ns' : List Int, ns'.Pairwise (· < ·) → (∀ j : Int, j ∈ ns' ↔ j ∈ ns) → k (.lst (ns'.map D.int)) O) := by
  unfold qSSetA DL.listOf
  simp only [rs_lst, Option.bind_some, intsOf_map]
end
end DL
namespace Pf
open PySem PySem.Spec PyProof.Rows Evl DL
open L2 hiding take_next
def topS (i : Nat) : Stmt := PySem.Challenge.pw_fairarcs_k10_ranges_of_large_rings.main.body.getD i (.Pass ⟨0, 0, 0, 0⟩)
abbrev s_is_integer : Stmt := topS 6
theorem sc_is_integer : FnScope ["value"] ["value"] (defScope s_is_integer) := ⟨rfl, rfl, rfl, by decide +kernel, rfl, by decide +kernel, by decide +kernel⟩
abbrev s_is_integer_within : Stmt := topS 7
theorem sc_is_integer_within : FnScope ["value", "least", "greatest"] ["value", "least", "greatest"] (defScope s_is_integer_within) := ⟨rfl, rfl, rfl, by decide +kernel, rfl, by decide +kernel, by decide +kernel⟩
abbrev s_is_run : Stmt := topS 11
theorem sc_is_run : FnScope ["value", "colour", "count"] ["value"] (defScope s_is_run) := ⟨rfl, rfl, rfl, by decide +kernel, rfl, by decide +kernel, by decide +kernel⟩
abbrev s_is_strand : Stmt := topS 12
theorem sc_is_strand : FnScope ["value", "last_colour", "run"] ["value"] (defScope s_is_strand) := ⟨rfl, rfl, rfl, by decide +kernel, rfl, by decide +kernel, by decide +kernel⟩
abbrev s_require_strand : Stmt := topS 13
theorem sc_require_strand : FnScope ["value"] ["value"] (defScope s_require_strand) := ⟨rfl, rfl, rfl, by decide +kernel, rfl, by decide +kernel, by decide +kernel⟩
abbrev s_total_beads : Stmt := topS 14
theorem sc_total_beads : FnScope ["runs", "_", "count"] ["runs"] (defScope s_total_beads) := ⟨rfl, rfl, rfl, by decide +kernel, rfl, by decide +kernel, by decide +kernel⟩
abbrev s_total_dark : Stmt := topS 15
theorem sc_total_dark : FnScope ["runs", "colour", "count"] ["runs"] (defScope s_total_dark) := ⟨rfl, rfl, rfl, by decide +kernel, rfl, by decide +kernel, by decide +kernel⟩
abbrev s_cut_between : Stmt := topS 16
theorem sc_cut_between : FnScope ["rows", "start", "end", "found", "begin", "label", "count", "low", "high"] ["rows", "start", "end"] (defScope s_cut_between) := ⟨rfl, rfl, rfl, by decide +kernel, rfl, by decide +kernel, by decide +kernel⟩
abbrev s_runs_between : Stmt := topS 17
theorem sc_runs_between : FnScope ["runs", "start", "end", "colour", "_", "count"] ["runs", "start", "end"] (defScope s_runs_between) := ⟨rfl, rfl, rfl, by decide +kernel, rfl, by decide +kernel, by decide +kernel⟩
abbrev s_strand_of : Stmt := topS 18
theorem sc_strand_of : FnScope ["runs", "found", "colour", "count"] ["runs"] (defScope s_strand_of) := ⟨rfl, rfl, rfl, by decide +kernel, rfl, by decide +kernel, by decide +kernel⟩
abbrev s_require_length : Stmt := topS 20
theorem sc_require_length : FnScope ["value", "beads"] ["value", "beads"] (defScope s_require_length) := ⟨rfl, rfl, rfl, by decide +kernel, rfl, by decide +kernel, by decide +kernel⟩
abbrev s_require_dark : Stmt := topS 21
theorem sc_require_dark : FnScope ["value", "greatest"] ["value", "greatest"] (defScope s_require_dark) := ⟨rfl, rfl, rfl, by decide +kernel, rfl, by decide +kernel, by decide +kernel⟩
abbrev s_arc_runs : Stmt := topS 22
theorem sc_arc_runs : FnScope ["ring", "start", "length"] ["ring", "start", "length"] (defScope s_arc_runs) := ⟨rfl, rfl, rfl, by decide +kernel, rfl, by decide +kernel, by decide +kernel⟩
abbrev s_side_by_side : Stmt := topS 24
theorem sc_side_by_side : FnScope ["runs", "others", "found", "at", "used", "colour", "count", "left", "other", "others_count", "many"] ["runs", "others"] (defScope s_side_by_side) := ⟨rfl, rfl, rfl, by decide +kernel, rfl, by decide +kernel, by decide +kernel⟩
abbrev s_pieces_of : Stmt := topS 25
theorem sc_pieces_of : FnScope ["runs", "length", "found", "start", "dark", "ahead", "leaving", "meeting", "count", "step"] ["runs", "length"] (defScope s_pieces_of) := ⟨rfl, rfl, rfl, by decide +kernel, rfl, by decide +kernel, by decide +kernel⟩
abbrev s_extremes : Stmt := topS 26
theorem sc_extremes : FnScope ["runs", "length", "firsts", "_", "dark"] ["runs", "length"] (defScope s_extremes) := ⟨rfl, rfl, rfl, by decide +kernel, rfl, by decide +kernel, by decide +kernel⟩
abbrev s_least_length : Stmt := topS 28
theorem sc_least_length : FnScope ["ring", "dark", "low", "high", "middle", "_", "greatest"] ["ring", "dark"] (defScope s_least_length) := ⟨rfl, rfl, rfl, by decide +kernel, rfl, by decide +kernel, by decide +kernel⟩
abbrev s_dark_range : Stmt := topS 29
theorem sc_dark_range : FnScope ["ring", "length"] ["ring", "length"] (defScope s_dark_range) := ⟨rfl, rfl, rfl, by decide +kernel, rfl, by decide +kernel, by decide +kernel⟩
abbrev s_length_range : Stmt := topS 30
theorem sc_length_range : FnScope ["ring", "dark", "all_dark"] ["ring", "dark"] (defScope s_length_range) := ⟨rfl, rfl, rfl, by decide +kernel, rfl, by decide +kernel, by decide +kernel⟩
abbrev s_joined : Stmt := topS 32
theorem sc_joined : FnScope ["strand", "more", "rows", "row", "run"] ["strand", "more"] (defScope s_joined) := ⟨rfl, rfl, rfl, by decide +kernel, rfl, by decide +kernel, by decide +kernel⟩
abbrev s_law_cell : Stmt := topS 34
theorem sc_law_cell : FnScope ["script", "k"] ["script", "k"] (defScope s_law_cell) := ⟨rfl, rfl, rfl, by decide +kernel, rfl, by decide +kernel, by decide +kernel⟩
abbrev s_law_source : Stmt := topS 35
theorem sc_law_source : FnScope ["cell"] ["cell"] (defScope s_law_source) := ⟨rfl, rfl, rfl, by decide +kernel, rfl, by decide +kernel, by decide +kernel⟩
abbrev s_law_draw : Stmt := topS 36
theorem sc_law_draw : FnScope ["source", "bound", "digit", "mixed"] ["source", "bound"] (defScope s_law_draw) := ⟨rfl, rfl, rfl, by decide +kernel, rfl, by decide +kernel, by decide +kernel⟩
abbrev s_law_line : Stmt := topS 37
theorem sc_law_line : FnScope ["source", "most", "wide", "at", "found", "part", "many"] ["source", "most", "wide"] (defScope s_law_line) := ⟨rfl, rfl, rfl, by decide +kernel, rfl, by decide +kernel, by decide +kernel⟩
abbrev s_law_amount : Stmt := topS 38
theorem sc_law_amount : FnScope ["line", "side", "many"] ["line"] (defScope s_law_amount) := ⟨rfl, rfl, rfl, by decide +kernel, rfl, by decide +kernel, by decide +kernel⟩
abbrev s_law_dark : Stmt := topS 39
theorem sc_law_dark : FnScope ["line", "spot", "found", "last", "side", "many"] ["line", "spot"] (defScope s_law_dark) := ⟨rfl, rfl, rfl, by decide +kernel, rfl, by decide +kernel, by decide +kernel⟩
abbrev s_law_arc : Stmt := topS 40
theorem sc_law_arc : FnScope ["line", "spot", "size", "total", "far"] ["line", "spot", "size"] (defScope s_law_arc) := ⟨rfl, rfl, rfl, by decide +kernel, rfl, by decide +kernel, by decide +kernel⟩
abbrev s_law_breaks : Stmt := topS 41
theorem sc_law_breaks : FnScope ["line", "size", "total", "edges", "spot"] ["line", "size"] (defScope s_law_breaks) := ⟨rfl, rfl, rfl, by decide +kernel, rfl, by decide +kernel, by decide +kernel⟩
abbrev s_law_low_high : Stmt := topS 42
theorem sc_law_low_high : FnScope ["line", "size", "values", "spot"] ["line", "size"] (defScope s_law_low_high) := ⟨rfl, rfl, rfl, by decide +kernel, rfl, by decide +kernel, by decide +kernel⟩
abbrev s_law_size : Stmt := topS 43
theorem sc_law_size : FnScope ["source", "line", "total", "edges", "far", "some"] ["source", "line"] (defScope s_law_size) := ⟨rfl, rfl, rfl, by decide +kernel, rfl, by decide +kernel, by decide +kernel⟩
abbrev s_law_edges : Stmt := topS 44
theorem sc_law_edges : FnScope ["line", "found", "last", "side", "many"] ["line"] (defScope s_law_edges) := ⟨rfl, rfl, rfl, by decide +kernel, rfl, by decide +kernel, by decide +kernel⟩
abbrev s_law_right : Stmt := topS 45
theorem sc_law_right : FnScope ["source", "line", "total", "all_dark", "turn", "size", "due", "rest", "more", "some", "pick", "many", "least", "greatest"] ["source", "line"] (defScope s_law_right) := ⟨rfl, rfl, rfl, by decide +kernel, rfl, by decide +kernel, by decide +kernel⟩
abbrev s_law_many_runs_right : Stmt := topS 46
theorem sc_law_many_runs_right : FnScope ["source", "some", "line", "turn", "size", "many", "least", "greatest"] ["source"] (defScope s_law_many_runs_right) := ⟨rfl, rfl, rfl, by decide +kernel, rfl, by decide +kernel, by decide +kernel⟩
abbrev s_law : Stmt := topS 47
theorem sc_law : FnScope ["script", "k", "source", "turn", "line"] ["script"] (defScope s_law) := ⟨rfl, rfl, rfl, by decide +kernel, rfl, by decide +kernel, by decide +kernel⟩
/-- what the text's top has left -/
structure Tx (K : PySem.W.Frag) (mg : Str → Option Value) where
  a_is_integer : Addr
  d_is_integer : FuncData
  F_is_integer : Fun K "is_integer" "is_integer" s_is_integer a_is_integer d_is_integer
  g_is_integer : mg "is_integer" = some (.ref a_is_integer)
  a_is_integer_within : Addr
  d_is_integer_within : FuncData
  F_is_integer_within : Fun K "is_integer_within" "is_integer_within" s_is_integer_within a_is_integer_within d_is_integer_within
  g_is_integer_within : mg "is_integer_within" = some (.ref a_is_integer_within)
  a_is_run : Addr
  d_is_run : FuncData
  F_is_run : Fun K "is_run" "is_run" s_is_run a_is_run d_is_run
  g_is_run : mg "is_run" = some (.ref a_is_run)
  a_is_strand : Addr
  d_is_strand : FuncData
  F_is_strand : Fun K "is_strand" "is_strand" s_is_strand a_is_strand d_is_strand
  g_is_strand : mg "is_strand" = some (.ref a_is_strand)
  a_require_strand : Addr
  d_require_strand : FuncData
  F_require_strand : Fun K "require_strand" "require_strand" s_require_strand a_require_strand d_require_strand
  g_require_strand : mg "require_strand" = some (.ref a_require_strand)
  a_total_beads : Addr
  d_total_beads : FuncData
  F_total_beads : Fun K "total_beads" "total_beads" s_total_beads a_total_beads d_total_beads
  g_total_beads : mg "total_beads" = some (.ref a_total_beads)
  a_total_dark : Addr
  d_total_dark : FuncData
  F_total_dark : Fun K "total_dark" "total_dark" s_total_dark a_total_dark d_total_dark
  g_total_dark : mg "total_dark" = some (.ref a_total_dark)
  a_cut_between : Addr
  d_cut_between : FuncData
  F_cut_between : Fun K "cut_between" "cut_between" s_cut_between a_cut_between d_cut_between
  g_cut_between : mg "cut_between" = some (.ref a_cut_between)
  a_runs_between : Addr
  d_runs_between : FuncData
  F_runs_between : Fun K "runs_between" "runs_between" s_runs_between a_runs_between d_runs_between
  g_runs_between : mg "runs_between" = some (.ref a_runs_between)
  a_strand_of : Addr
  d_strand_of : FuncData
  F_strand_of : Fun K "strand_of" "strand_of" s_strand_of a_strand_of d_strand_of
  g_strand_of : mg "strand_of" = some (.ref a_strand_of)
  a_require_length : Addr
  d_require_length : FuncData
  F_require_length : Fun K "require_length" "require_length" s_require_length a_require_length d_require_length
  g_require_length : mg "require_length" = some (.ref a_require_length)
  a_require_dark : Addr
  d_require_dark : FuncData
  F_require_dark : Fun K "require_dark" "require_dark" s_require_dark a_require_dark d_require_dark
  g_require_dark : mg "require_dark" = some (.ref a_require_dark)
  a_arc_runs : Addr
  d_arc_runs : FuncData
  F_arc_runs : Fun K "arc_runs" "arc_runs" s_arc_runs a_arc_runs d_arc_runs
  g_arc_runs : mg "arc_runs" = some (.ref a_arc_runs)
  a_side_by_side : Addr
  d_side_by_side : FuncData
  F_side_by_side : Fun K "side_by_side" "side_by_side" s_side_by_side a_side_by_side d_side_by_side
  g_side_by_side : mg "side_by_side" = some (.ref a_side_by_side)
  a_pieces_of : Addr
  d_pieces_of : FuncData
  F_pieces_of : Fun K "pieces_of" "pieces_of" s_pieces_of a_pieces_of d_pieces_of
  g_pieces_of : mg "pieces_of" = some (.ref a_pieces_of)
  a_extremes : Addr
  d_extremes : FuncData
  F_extremes : Fun K "extremes" "extremes" s_extremes a_extremes d_extremes
  g_extremes : mg "extremes" = some (.ref a_extremes)
  a_least_length : Addr
  d_least_length : FuncData
  F_least_length : Fun K "least_length" "least_length" s_least_length a_least_length d_least_length
  g_least_length : mg "least_length" = some (.ref a_least_length)
  a_dark_range : Addr
  d_dark_range : FuncData
  F_dark_range : Fun K "dark_range" "dark_range" s_dark_range a_dark_range d_dark_range
  g_dark_range : mg "dark_range" = some (.ref a_dark_range)
  a_length_range : Addr
  d_length_range : FuncData
  F_length_range : Fun K "length_range" "length_range" s_length_range a_length_range d_length_range
  g_length_range : mg "length_range" = some (.ref a_length_range)
  a_joined : Addr
  d_joined : FuncData
  F_joined : Fun K "joined" "joined" s_joined a_joined d_joined
  g_joined : mg "joined" = some (.ref a_joined)
  a_law_cell : Addr
  d_law_cell : FuncData
  F_law_cell : Fun K "_law_cell" "_law_cell" s_law_cell a_law_cell d_law_cell
  g_law_cell : mg "_law_cell" = some (.ref a_law_cell)
  a_law_source : Addr
  d_law_source : FuncData
  F_law_source : Fun K "_law_source" "_law_source" s_law_source a_law_source d_law_source
  g_law_source : mg "_law_source" = some (.ref a_law_source)
  a_law_draw : Addr
  d_law_draw : FuncData
  F_law_draw : Fun K "_law_draw" "_law_draw" s_law_draw a_law_draw d_law_draw
  g_law_draw : mg "_law_draw" = some (.ref a_law_draw)
  a_law_line : Addr
  d_law_line : FuncData
  F_law_line : Fun K "_law_line" "_law_line" s_law_line a_law_line d_law_line
  g_law_line : mg "_law_line" = some (.ref a_law_line)
  a_law_amount : Addr
  d_law_amount : FuncData
  F_law_amount : Fun K "_law_amount" "_law_amount" s_law_amount a_law_amount d_law_amount
  g_law_amount : mg "_law_amount" = some (.ref a_law_amount)
  a_law_dark : Addr
  d_law_dark : FuncData
  F_law_dark : Fun K "_law_dark" "_law_dark" s_law_dark a_law_dark d_law_dark
  g_law_dark : mg "_law_dark" = some (.ref a_law_dark)
  a_law_arc : Addr
  d_law_arc : FuncData
  F_law_arc : Fun K "_law_arc" "_law_arc" s_law_arc a_law_arc d_law_arc
  g_law_arc : mg "_law_arc" = some (.ref a_law_arc)
  a_law_breaks : Addr
  d_law_breaks : FuncData
  F_law_breaks : Fun K "_law_breaks" "_law_breaks" s_law_breaks a_law_breaks d_law_breaks
  g_law_breaks : mg "_law_breaks" = some (.ref a_law_breaks)
  a_law_low_high : Addr
  d_law_low_high : FuncData
  F_law_low_high : Fun K "_law_low_high" "_law_low_high" s_law_low_high a_law_low_high d_law_low_high
  g_law_low_high : mg "_law_low_high" = some (.ref a_law_low_high)
  a_law_size : Addr
  d_law_size : FuncData
  F_law_size : Fun K "_law_size" "_law_size" s_law_size a_law_size d_law_size
  g_law_size : mg "_law_size" = some (.ref a_law_size)
  a_law_edges : Addr
  d_law_edges : FuncData
  F_law_edges : Fun K "_law_edges" "_law_edges" s_law_edges a_law_edges d_law_edges
  g_law_edges : mg "_law_edges" = some (.ref a_law_edges)
  a_law_right : Addr
  d_law_right : FuncData
  F_law_right : Fun K "_law_right" "_law_right" s_law_right a_law_right d_law_right
  g_law_right : mg "_law_right" = some (.ref a_law_right)
  a_law_many_runs_right : Addr
  d_law_many_runs_right : FuncData
  F_law_many_runs_right : Fun K "_law_many_runs_right" "_law_many_runs_right" s_law_many_runs_right a_law_many_runs_right d_law_many_runs_right
  g_law_many_runs_right : mg "_law_many_runs_right" = some (.ref a_law_many_runs_right)
  c_InvalidDark : Addr
  g_InvalidDark : mg "InvalidDark" = some (.ref c_InvalidDark)
  x_InvalidDark : PySem.W.excIn K c_InvalidDark veTail "ValueError.__new__" = true
  k_InvalidDark : PySem.W.keepIn K (.ref c_InvalidDark) = true
  b_InvalidDark : PySem.W.subIn K (.ref c_InvalidDark) (.type "BaseException") = some true
  t_InvalidDark : PySem.W.typeIn K (.ref c_InvalidDark) = some (.type "type")
  c_InvalidLength : Addr
  g_InvalidLength : mg "InvalidLength" = some (.ref c_InvalidLength)
  x_InvalidLength : PySem.W.excIn K c_InvalidLength veTail "ValueError.__new__" = true
  k_InvalidLength : PySem.W.keepIn K (.ref c_InvalidLength) = true
  b_InvalidLength : PySem.W.subIn K (.ref c_InvalidLength) (.type "BaseException") = some true
  t_InvalidLength : PySem.W.typeIn K (.ref c_InvalidLength) = some (.type "type")
  c_InvalidStrand : Addr
  g_InvalidStrand : mg "InvalidStrand" = some (.ref c_InvalidStrand)
  x_InvalidStrand : PySem.W.excIn K c_InvalidStrand veTail "ValueError.__new__" = true
  k_InvalidStrand : PySem.W.keepIn K (.ref c_InvalidStrand) = true
  b_InvalidStrand : PySem.W.subIn K (.ref c_InvalidStrand) (.type "BaseException") = some true
  t_InvalidStrand : PySem.W.typeIn K (.ref c_InvalidStrand) = some (.type "type")
  u_DARK : Nat
  g_DARK : mg "DARK" = some (.str "D" u_DARK)
  u_LIGHT : Nat
  g_LIGHT : mg "LIGHT" = some (.str "L" u_LIGHT)
  z_abs : mg "abs" = none
  z_bool : mg "bool" = none
  z_enumerate : mg "enumerate" = none
  z_int : mg "int" = none
  z_isinstance : mg "isinstance" = none
  z_len : mg "len" = none
  z_max : mg "max" = none
  z_min : mg "min" = none
  z_range : mg "range" = none
  z_set : mg "set" = none
  z_sorted : mg "sorted" = none
  z_str : mg "str" = none
  z_sum : mg "sum" = none
  z_tuple : mg "tuple" = none
section
variable {K : PySem.W.Frag} {mg : Str → Option Value}
theorem bn_is_integer (T : Tx K mg) : Binds K T.d_is_integer ["value"] [] := T.F_is_integer.binds (ps := ["value"]) fun _ _ _ _ _ _ us hl => match us, hl with | [_], _ => rfl
theorem bn_is_integer_within (T : Tx K mg) : Binds K T.d_is_integer_within ["value", "least", "greatest"] [] := T.F_is_integer_within.binds (ps := ["value", "least", "greatest"]) fun _ _ _ _ _ _ us hl => match us, hl with | [_, _, _], _ => rfl
theorem bn_is_run (T : Tx K mg) : Binds K T.d_is_run ["value"] [] := T.F_is_run.binds (ps := ["value"]) fun _ _ _ _ _ _ us hl => match us, hl with | [_], _ => rfl
theorem bn_is_strand (T : Tx K mg) : Binds K T.d_is_strand ["value"] [] := T.F_is_strand.binds (ps := ["value"]) fun _ _ _ _ _ _ us hl => match us, hl with | [_], _ => rfl
theorem bn_require_strand (T : Tx K mg) : Binds K T.d_require_strand ["value"] [] := T.F_require_strand.binds (ps := ["value"]) fun _ _ _ _ _ _ us hl => match us, hl with | [_], _ => rfl
theorem bn_total_beads (T : Tx K mg) : Binds K T.d_total_beads ["runs"] [] := T.F_total_beads.binds (ps := ["runs"]) fun _ _ _ _ _ _ us hl => match us, hl with | [_], _ => rfl
theorem bn_total_dark (T : Tx K mg) : Binds K T.d_total_dark ["runs"] [] := T.F_total_dark.binds (ps := ["runs"]) fun _ _ _ _ _ _ us hl => match us, hl with | [_], _ => rfl
theorem bn_cut_between (T : Tx K mg) : Binds K T.d_cut_between ["rows", "start", "end"] [] := T.F_cut_between.binds (ps := ["rows", "start", "end"]) fun _ _ _ _ _ _ us hl => match us, hl with | [_, _, _], _ => rfl
theorem bn_runs_between (T : Tx K mg) : Binds K T.d_runs_between ["runs", "start", "end"] [] := T.F_runs_between.binds (ps := ["runs", "start", "end"]) fun _ _ _ _ _ _ us hl => match us, hl with | [_, _, _], _ => rfl
theorem bn_strand_of (T : Tx K mg) : Binds K T.d_strand_of ["runs"] [] := T.F_strand_of.binds (ps := ["runs"]) fun _ _ _ _ _ _ us hl => match us, hl with | [_], _ => rfl
theorem bn_require_length (T : Tx K mg) : Binds K T.d_require_length ["value", "beads"] [] := T.F_require_length.binds (ps := ["value", "beads"]) fun _ _ _ _ _ _ us hl => match us, hl with | [_, _], _ => rfl
theorem bn_require_dark (T : Tx K mg) : Binds K T.d_require_dark ["value", "greatest"] [] := T.F_require_dark.binds (ps := ["value", "greatest"]) fun _ _ _ _ _ _ us hl => match us, hl with | [_, _], _ => rfl
theorem bn_arc_runs (T : Tx K mg) : Binds K T.d_arc_runs ["ring", "start", "length"] [] := T.F_arc_runs.binds (ps := ["ring", "start", "length"]) fun _ _ _ _ _ _ us hl => match us, hl with | [_, _, _], _ => rfl
theorem bn_side_by_side (T : Tx K mg) : Binds K T.d_side_by_side ["runs", "others"] [] := T.F_side_by_side.binds (ps := ["runs", "others"]) fun _ _ _ _ _ _ us hl => match us, hl with | [_, _], _ => rfl
theorem bn_pieces_of (T : Tx K mg) : Binds K T.d_pieces_of ["runs", "length"] [] := T.F_pieces_of.binds (ps := ["runs", "length"]) fun _ _ _ _ _ _ us hl => match us, hl with | [_, _], _ => rfl
theorem bn_extremes (T : Tx K mg) : Binds K T.d_extremes ["runs", "length"] [] := T.F_extremes.binds (ps := ["runs", "length"]) fun _ _ _ _ _ _ us hl => match us, hl with | [_, _], _ => rfl
theorem bn_least_length (T : Tx K mg) : Binds K T.d_least_length ["ring", "dark"] [] := T.F_least_length.binds (ps := ["ring", "dark"]) fun _ _ _ _ _ _ us hl => match us, hl with | [_, _], _ => rfl
theorem bn_dark_range (T : Tx K mg) : Binds K T.d_dark_range ["ring", "length"] [] := T.F_dark_range.binds (ps := ["ring", "length"]) fun _ _ _ _ _ _ us hl => match us, hl with | [_, _], _ => rfl
theorem bn_length_range (T : Tx K mg) : Binds K T.d_length_range ["ring", "dark"] [] := T.F_length_range.binds (ps := ["ring", "dark"]) fun _ _ _ _ _ _ us hl => match us, hl with | [_, _], _ => rfl
theorem bn_law_cell (T : Tx K mg) : Binds K T.d_law_cell ["script", "k"] [] := T.F_law_cell.binds (ps := ["script", "k"]) fun _ _ _ _ _ _ us hl => match us, hl with | [_, _], _ => rfl
theorem bn_law_source (T : Tx K mg) : Binds K T.d_law_source ["cell"] [] := T.F_law_source.binds (ps := ["cell"]) fun _ _ _ _ _ _ us hl => match us, hl with | [_], _ => rfl
theorem bn_law_draw (T : Tx K mg) : Binds K T.d_law_draw ["source", "bound"] [] := T.F_law_draw.binds (ps := ["source", "bound"]) fun _ _ _ _ _ _ us hl => match us, hl with | [_, _], _ => rfl
theorem bn_law_line (T : Tx K mg) : Binds K T.d_law_line ["source", "most", "wide"] [] := T.F_law_line.binds (ps := ["source", "most", "wide"]) fun _ _ _ _ _ _ us hl => match us, hl with | [_, _, _], _ => rfl
theorem bn_law_amount (T : Tx K mg) : Binds K T.d_law_amount ["line"] [] := T.F_law_amount.binds (ps := ["line"]) fun _ _ _ _ _ _ us hl => match us, hl with | [_], _ => rfl
theorem bn_law_dark (T : Tx K mg) : Binds K T.d_law_dark ["line", "spot"] [] := T.F_law_dark.binds (ps := ["line", "spot"]) fun _ _ _ _ _ _ us hl => match us, hl with | [_, _], _ => rfl
theorem bn_law_arc (T : Tx K mg) : Binds K T.d_law_arc ["line", "spot", "size"] [] := T.F_law_arc.binds (ps := ["line", "spot", "size"]) fun _ _ _ _ _ _ us hl => match us, hl with | [_, _, _], _ => rfl
theorem bn_law_breaks (T : Tx K mg) : Binds K T.d_law_breaks ["line", "size"] [] := T.F_law_breaks.binds (ps := ["line", "size"]) fun _ _ _ _ _ _ us hl => match us, hl with | [_, _], _ => rfl
theorem bn_law_low_high (T : Tx K mg) : Binds K T.d_law_low_high ["line", "size"] [] := T.F_law_low_high.binds (ps := ["line", "size"]) fun _ _ _ _ _ _ us hl => match us, hl with | [_, _], _ => rfl
theorem bn_law_size (T : Tx K mg) : Binds K T.d_law_size ["source", "line"] [] := T.F_law_size.binds (ps := ["source", "line"]) fun _ _ _ _ _ _ us hl => match us, hl with | [_, _], _ => rfl
theorem bn_law_edges (T : Tx K mg) : Binds K T.d_law_edges ["line"] [] := T.F_law_edges.binds (ps := ["line"]) fun _ _ _ _ _ _ us hl => match us, hl with | [_], _ => rfl
theorem bn_law_right (T : Tx K mg) : Binds K T.d_law_right ["source", "line"] [] := T.F_law_right.binds (ps := ["source", "line"]) fun _ _ _ _ _ _ us hl => match us, hl with | [_, _], _ => rfl
theorem bn_law_many_runs_right (T : Tx K mg) : Binds K T.d_law_many_runs_right ["source"] [] := T.F_law_many_runs_right.binds (ps := ["source"]) fun _ _ _ _ _ _ us hl => match us, hl with | [_], _ => rfl
theorem kb_dark_range_0_ring_length (T : Tx K mg) : KB K T.d_dark_range ["ring", "length"] ["ring", "length"] (kwG 0 2 [0, 1]) (kwG 0 2 [0, 1]) (kwG 0 2 [0, 1]) := by
  obtain ⟨oc, od, kV, doc, pm, an, cdv, ct, osl, e, lk, hcd⟩ := T.F_dark_range.ex
  refine kb_mk 0 [0, 1] (by decide) fun s us ws h1 h2 => ?_
  rw [e]
  exact match us, ws, h1, h2 with | [], [_, _], _, _ => .of_eq rfl
theorem kb_length_range_0_dark_ring (T : Tx K mg) : KB K T.d_length_range ["ring", "dark"] ["dark", "ring"] (kwG 0 2 [1, 0]) (kwG 0 2 [1, 0]) (kwG 0 2 [1, 0]) := by
  obtain ⟨oc, od, kV, doc, pm, an, cdv, ct, osl, e, lk, hcd⟩ := T.F_length_range.ex
  refine kb_mk 0 [1, 0] (by decide) fun s us ws h1 h2 => ?_
  rw [e]
  exact match us, ws, h1, h2 with | [], [_, _], _, _ => .of_eq rfl
end
local macro_rules | `(tactic| walk_at "DL") => `(tactic| simp only [dLc, isi_lt_non, isi_lt_bl, isi_lt_int, isi_lt_str, isi_lt_lst, isi_lt_tup, qn_bl, qe_bl, qis_ln, qis_tn, qis_bn, qsset_ints, qsorted_ints, qlistR, atK_last, stK_last, dWhile, qmaxL_ints, qminL_ints, qsl_lst, qsl_tup, qin_ints, qin_2, dEnum, dZip, qCountS, qSorted, eC_len, eC_app, eC_cut, strs_eC, cnt_D, dFor, dRange1, dRange2, dRet, dRetN, dSeq, dNext, dBreak, dCont, dDrop, dDic, dRevT, qisn_t, dIfS, dAsg, dPar, dPar3, dAug, dgName, dgNil, dgCons, dgTup, dgSub, dVar, dC, dCons, dNil, dCB, dOp, dUn, dAndV, dOrV, dNotV, dTru, dTst, dAnd, dOr, dNot, dIf, dTup, dLst, dSl, dNoPart, dPart, dChain, dYes, qTru, qix_lst, qix_tup, qix_eR, qix_scr, qix_str, qix_cellS, atK0, atK1, atK2, qIn, qadd_int, qadd_str, qadd_lst, qadd_tup, qmul_int, qmul_str, qmul_lst, qmul_tup, qInt, qSum, dMeth, qAppend, qCount, oset_same, oset_oset, rs_cellS, tyD_lst, tyD_str, qLen, qAbs, qMax2, qMin2, qIsi, qI0, qII, qNeg, dRaiseX, dCall, dCallK, rs_non, rs_bl, rs_int, rs_str, rs_lst, rs_tup, rs_scr, rs_obj, rs_eR, rs_eS, rs_eL, ty_non, ty_bl, ty_int, ty_str, ty_lst, ty_tup, ty_scr, ty_obj, startD, qe_int, qn_int, qe_ch, qn_ch, qe_chn, qe_chD, qe_chL, qn_chD, qn_chL, qisn_t, qisn_f, qis_t, qis_f, qis_nn, qisn_nn, qis_in, qisn_in, qis_sn, qisn_sn, dSeqI, dwipe, dLstO, intsOf_map, itemsIn, DL.listOf, strsOf, Option.bind_some, Option.map_some, atI0, atI1, atI2, true_and, and_true, decide_true, decide_false,
  List.map_cons, List.map_nil, List.length_cons, List.length_nil, List.replicate, List.cons_append, List.nil_append, Nat.reduceAdd, Nat.reduceSub, Nat.zero_add, Nat.sub_self, List.getElem?_cons_zero, List.getElem?_cons_succ, List.set_cons_succ, List.set_cons_zero, Bool.false_eq_true, if_true, if_false, reduceIte, Bool.not_true, Bool.not_false, kf_NoneType_int, kf_NoneType_str, kf_NoneType_bool, kf_NoneType_tuple, kf_NoneType_list, kf_NoneType_dict, kf_bool_int, kf_bool_str, kf_bool_bool, kf_bool_tuple, kf_bool_list, kf_bool_dict, kf_int_int, kf_int_str, kf_int_bool, kf_int_tuple, kf_int_list, kf_int_dict, kf_str_int, kf_str_str, kf_str_bool, kf_str_tuple, kf_str_list, kf_str_dict, kf_list_int, kf_list_str, kf_list_bool, kf_list_tuple, kf_list_list, kf_list_dict, kf_tuple_int, kf_tuple_str, kf_tuple_bool, kf_tuple_tuple, kf_tuple_list, kf_tuple_dict, kf_dict_int, kf_dict_str, kf_dict_bool, kf_dict_tuple, kf_dict_list, kf_dict_dict])
def isIntD : D → Bool
  | .int _ => true
  | _ => false
def S_is_integer : DSp := fun as O q _ => ∃ x, as = [x] ∧ Kn x ∧ q (.bl (isIntD x)) O
def isWithin (lo hi : Int) : D → Bool
  | .int i => decide (lo ≤ i ∧ i ≤ hi)
  | _ => false
theorem within_yes {lo hi : Int} {x : D} (h : isWithin lo hi x = true) : ∃ i, x = .int i ∧ lo ≤ i ∧ i ≤ hi := by
  cases x with
  | int i => exact ⟨i, rfl, of_decide_eq_true h⟩
  | _ => cases h
theorem within_no {lo hi : Int} {x : D} (h : isWithin lo hi x = false) : ¬ ∃ i, x = .int i ∧ lo ≤ i ∧ i ≤ hi := by
  rintro ⟨i, rfl, a⟩
  exact of_decide_eq_false h a
def S_is_integer_within : DSp := fun as O q _ => ∃ x lo hi, as = [x, .int lo, .int hi] ∧ Kn x ∧ q (.bl (isWithin lo hi x)) O
/-- may be looked at as a run, as a strand: all types met on the way are known -/
def Kr : D → Prop
  | .tup [a, b] => Kn a ∧ Kn b
  | d => Kn d
def Ks : D → Prop
  | .tup xs => ∀ x ∈ xs, Kr x
  | d => Kn d
def isRunD : D → Bool
  | .tup [.str c, .int n] => (c == "D" || c == "L") && decide (1 ≤ n)
  | _ => false
def goesD : Option Str → List D → Bool
  | _, [] => true
  | last, x :: r => match x with
    | .tup [.str c, .int n] => (c == "D" || c == "L") && decide (1 ≤ n) && !(last == some c) && goesD (some c) r
    | _ => false
def isStrandD : D → Bool
  | .tup xs => !xs.isEmpty && goesD none xs
  | _ => false
def S_is_run : DSp := fun as O q _ => ∃ x, as = [x] ∧ Kr x ∧ q (.bl (isRunD x)) O
def S_is_strand : DSp := fun as O q _ => ∃ x, as = [x] ∧ Ks x ∧ q (.bl (isStrandD x)) O
theorem kn_of_kr {x : D} (h : Kr x) : Kn x := by
  unfold Kr at h
  split at h
  · trivial
  · exact h
theorem kn_of_ks {x : D} (h : Ks x) : Kn x := by
  unfold Ks at h
  split at h
  · trivial
  · exact h

section
variable {P : Program} {w : World} {K : PySem.W.Frag} {mg : Str → Option Value} {base : Heap}
theorem ok_is_integer (T : Tx K mg) : FnD P w K mg base 1 T.a_is_integer T.d_is_integer ["value"] S_is_integer := by
  refine fn_D T.F_is_integer sc_is_integer (fun as O q e h => ?_) (fun cdv A outer s H E hr as O q e h => ?_)
  · obtain ⟨x, rfl, _⟩ := h
    rfl
  · refine ⟨_, (dss_one (ds_ret (de_and (de_blt call_isi lc_isi T.z_isinstance (by decide +kernel) (da_cons (de_var 0) (da_cons (de_ty (n := "int") T.z_int (by decide +kernel)) da_nil))) (de_one (de_not (de_blt call_isi lc_isi T.z_isinstance (by decide +kernel) (da_cons (de_var 0) (da_cons (de_ty (n := "bool") T.z_bool (by decide +kernel)) da_nil)))))))), ?_⟩

    obtain ⟨x, rfl, hk, hq⟩ := h
    cases x with
    | opq v => exact hk.elim
    | fdic ks ds => exact hk.elim
    | obj t v =>
      have e : t = .type "dict" := hk
      subst e
      walk_at "DL"
      exact rt_of hq
    | _ =>
      walk_at "DL"
      exact rt_of hq
theorem ok_is_integer_within (T : Tx K mg) : FnD P w K mg base 2 T.a_is_integer_within T.d_is_integer_within ["value", "least", "greatest"] S_is_integer_within := by
  refine fn_D T.F_is_integer_within sc_is_integer_within (fun as O q e h => ?_) (fun cdv A outer s H E hr as O q e h => ?_)
  · obtain ⟨x, lo, hi, rfl, _⟩ := h
    rfl
  · refine ⟨_, (dss_one (ds_ret (de_and (de_call (L2N.takes_of rfl rfl rfl rfl) (ok_is_integer T) hr T.g_is_integer T.F_is_integer.kp (bn_is_integer T) (da_cons (de_var 0) da_nil)) (de_one (de_chain or_le lq_le or_le lq_le (de_var 1) (de_var 0) (de_var 2)))))), ?_⟩

    obtain ⟨x, lo, hi, rfl, hk, hq⟩ := h
    walk_at "DL"
    refine ⟨x, rfl, hk, ?_⟩
    cases x with
    | int i =>
      walk_at "DL"
      by_cases h1 : lo ≤ i
      · simp only [isIntD, isWithin, h1, true_and, decide_true] at hq ⊢
        exact rt_of hq
      · simp only [isIntD, isWithin, h1, false_and, decide_false] at hq ⊢
        exact rt_of hq
    | _ => exact rt_of hq
theorem ok_is_run (T : Tx K mg) : FnD P w K mg base 2 T.a_is_run T.d_is_run ["value"] S_is_run := by
  refine fn_D T.F_is_run sc_is_run (fun as O q e h => ?_) (fun cdv A outer s H E hr as O q e h => ?_)
  · obtain ⟨x, rfl, _⟩ := h
    rfl
  · refine ⟨_, (dss_cons (ds_if (dt_w (dw_or (dt_not (dt_val (de_blt call_isi lc_isi T.z_isinstance (by decide +kernel) (da_cons (de_var 0) (da_cons (de_ty (n := "tuple") T.z_tuple (by decide +kernel)) da_nil))))) (dw_or1 (dt_ne hr (de_blt call_len lc_len T.z_len (by decide +kernel) (da_cons (de_var 0) da_nil)) de_int)))) (dss_one (ds_ret de_bl)) dss_nil)
    (dss_cons (ds_asg (de_var 0) (dg_tup (n := 2) rfl (dg_cons (dg_name 1 sc_is_run.nd) (dg_cons (dg_name 2 sc_is_run.nd) dg_nil))))
    (dss_cons (ds_if (dt_w (dw_or (dt_not (dt_val (de_blt call_isi lc_isi T.z_isinstance (by decide +kernel) (da_cons (de_var 1) (da_cons (de_ty (n := "str") T.z_str (by decide +kernel)) da_nil))))) (dw_or1 (dt_notin (de_var 1) (de_tup (da_cons (de_glob (v := .str "D") (d := .str "D") T.g_DARK ⟨_, rfl⟩ (fun _ => .str _)) (da_cons (de_glob (v := .str "L") (d := .str "L") T.g_LIGHT ⟨_, rfl⟩ (fun _ => .str _)) da_nil))))))) (dss_one (ds_ret de_bl)) dss_nil)
    (dss_one (ds_ret (de_and (de_call (L2N.takes_of rfl rfl rfl rfl) (ok_is_integer T) hr T.g_is_integer T.F_is_integer.kp (bn_is_integer T) (da_cons (de_var 2) da_nil)) (de_one (de_ge (de_var 2) de_int)))))))), ?_⟩

    obtain ⟨x, rfl, hk, hq⟩ := h
    cases x with
    | opq v => exact hk.elim
    | fdic ks ds => exact hk.elim
    | obj t v =>
      have e : t = .type "dict" := hk
      subst e
      walk_at "DL"
      exact rt_of hq
    | tup xs =>
      rcases xs with _ | ⟨a, _ | ⟨b, _ | ⟨c, r⟩⟩⟩
      · walk_at "DL"
        exact rt_of hq
      · walk_at "DL"
        cases a <;> exact rt_of hq
      · obtain ⟨ka, kb⟩ := hk
        walk_at "DL"
        rw [if_neg (by decide)]
        cases a with
        | opq v => exact ka.elim
        | fdic ks ds => exact ka.elim
        | obj t v =>
          have e : t = .type "dict" := ka
          subst e
          walk_at "DL"
          exact rt_of hq
        | str c =>
          walk_at "DL"
          refine ⟨by decide, ?_⟩
          by_cases hc : c ∈ [Str.ofString "D", Str.ofString "L"]
          · have e1 : (c == ("D" : Str) || c == ("L" : Str)) = true := by
              rcases List.mem_cons.mp hc with z | z
              · rw [z]; decide +kernel
              · rw [List.mem_singleton.mp z]; decide +kernel
            rw [decide_eq_true hc]
            walk_at "DL"
            refine ⟨b, rfl, kb, ?_⟩
            cases b with
            | int n =>
              walk_at "DL"
              simp only [isIntD]
              try walk_at "DL"
              have e2 : isRunD (.tup [.str c, .int n]) = decide (1 ≤ n) := by
                show ((c == ("D" : Str) || c == ("L" : Str)) && decide (1 ≤ n)) = _
                rw [e1, Bool.true_and]
              rw [e2] at hq
              exact rt_of hq
            | _ => exact rt_of hq
          · have e1 : (c == ("D" : Str) || c == ("L" : Str)) = false := by
              cases z : (c == ("D" : Str) || c == ("L" : Str)) with
              | false => rfl
              | true =>
                refine absurd ?_ hc
                rcases Bool.or_eq_true _ _ ▸ z with z | z
                · rw [eq_of_beq z]; exact List.mem_cons_self
                · rw [eq_of_beq z]; exact List.mem_cons_of_mem _ List.mem_cons_self
            rw [decide_eq_false hc]
            walk_at "DL"
            have e2 : isRunD (.tup [.str c, b]) = false := by
              cases b with
              | int n =>
                show ((c == ("D" : Str) || c == ("L" : Str)) && decide (1 ≤ n)) = _
                rw [e1, Bool.false_and]
              | _ => rfl
            rw [e2] at hq
            exact rt_of hq
        | _ =>
          walk_at "DL"
          exact rt_of hq
      · walk_at "DL"
        rw [if_pos (by rw [decide_eq_false (by omega)]; rfl)]
        cases a <;> first
          | exact rt_of hq
          | (cases b <;> exact rt_of hq)
    | _ =>
      walk_at "DL"
      exact rt_of hq
end

theorem two_signs {c : Str} (h : (c == ("D" : Str) || c == ("L" : Str)) = true) : ∃ b, c = ch b := by
  rcases Bool.or_eq_true _ _ ▸ h with z | z
  · exact ⟨true, eq_of_beq z⟩
  · exact ⟨false, eq_of_beq z⟩
theorem signs_ch (b : Bool) : (ch b == ("D" : Str) || ch b == ("L" : Str)) = true := by
  cases b <;> decide +kernel
theorem isRun_of {x : D} (h : isRunD x = true) : ∃ b n, x = eR (b, n) ∧ 1 ≤ n := by
  unfold isRunD at h
  split at h
  · rename_i c n
    rw [Bool.and_eq_true] at h
    obtain ⟨b, rfl⟩ := two_signs h.1
    exact ⟨b, n, rfl, of_decide_eq_true h.2⟩
  · cases h
theorem goes_eR (l : Option Bool) (b : Bool) (n : Int) (r : List D) : goesD (l.map ch) (eR (b, n) :: r) = (decide (1 ≤ n) && !decide (l = some b) && goesD (some (ch b)) r) := by
  show ((ch b == ("D" : Str) || ch b == ("L" : Str)) && decide (1 ≤ n) && !(l.map ch == some (ch b)) && goesD (some (ch b)) r) = _
  rw [signs_ch, Bool.true_and]
  have e : (l.map ch == some (ch b)) = decide (l = some b) := by
    cases l with
    | none => rfl
    | some a => cases a <;> cases b <;> decide +kernel
  rw [e]
theorem goes_no {l : Option Str} {x : D} {r : List D} (h : isRunD x = false) : goesD l (x :: r) = false := by
  unfold goesD
  split
  · rename_i c n
    have h' : ((c == ("D" : Str) || c == ("L" : Str)) && decide (1 ≤ n)) = false := h
    rw [h']
    rfl
  · rfl
def lastD : Option Bool → D
  | none => .non
  | some b => .str (ch b)

section
variable {P : Program} {w : World} {K : PySem.W.Frag} {mg : Str → Option Value} {base : Heap}
theorem ok_is_strand (T : Tx K mg) : FnD P w K mg base 3 T.a_is_strand T.d_is_strand ["value"] S_is_strand := by
  refine fn_D T.F_is_strand sc_is_strand (fun as O q e h => ?_) (fun cdv A outer s H E hr as O q e h => ?_)
  · obtain ⟨x, rfl, _⟩ := h
    rfl
  · refine ⟨_, (dss_cons (ds_if (dt_w (dw_or (dt_not (dt_val (de_blt call_isi lc_isi T.z_isinstance (by decide +kernel) (da_cons (de_var 0) (da_cons (de_ty (n := "tuple") T.z_tuple (by decide +kernel)) da_nil))))) (dw_or1 (dt_eq hr (de_blt call_len lc_len T.z_len (by decide +kernel) (da_cons (de_var 0) da_nil)) de_int)))) (dss_one (ds_ret de_bl)) dss_nil)
    (dss_cons (ds_set 1 sc_is_strand.nd de_non)
    (dss_cons (ds_for (by passes_own) rfl (di_seq (de_var 0)) (dg_name 2 sc_is_strand.nd) (dss_cons (ds_if (dt_w (dw_or (dt_not (dt_val (de_call (L2N.takes_of rfl rfl rfl rfl) (ok_is_run T) hr T.g_is_run T.F_is_run.kp (bn_is_run T) (da_cons (de_var 2) da_nil)))) (dw_or1 (dt_eq hr (de_ix (de_var 2) de_int) (de_var 1))))) (dss_one (ds_ret de_bl)) dss_nil)
    (dss_one (ds_set 1 sc_is_strand.nd (de_ix (de_var 2) de_int)))))
    (dss_one (ds_ret de_bl))))), ?_⟩

    obtain ⟨x, rfl, hk, hq⟩ := h
    cases x with
    | opq v => exact hk.elim
    | fdic ks ds => exact hk.elim
    | obj t v =>
      have e : t = .type "dict" := hk
      subst e
      walk_at "DL"
      exact rt_of hq
    | tup xs =>
      walk_at "DL"
      by_cases hz : xs = []
      · subst hz
        walk_at "DL"
        exact rt_of hq
      · have hz' : ¬ ((xs.length : Int) = 0) := fun z => hz (List.length_eq_zero_iff.mp (by omega))
        rw [decide_eq_false hz']
        walk_at "DL"
        have hq' : q (.bl (goesD none xs)) O := by
          have e : isStrandD (.tup xs) = goesD none xs := by
            cases xs with
            | nil => exact absurd rfl hz
            | cons _ _ => rfl
          rw [e] at hq
          exact hq
        refine for_rest (fun r ds' O' => O' = O ∧ ∃ l v, ds' = [some (.tup xs), some (lastD l), v] ∧ (∀ x ∈ r, Kr x) ∧ q (.bl (goesD (l.map ch) r)) O) ⟨rfl, none, none, rfl, hk, hq'⟩ ?_ ?_
        · rintro x r ds' O' ⟨rfl, l, v, rfl, hr', hq2⟩ R hR
          have kx : Kr x := hr' x List.mem_cons_self
          walk_at "DL"
          refine ⟨x, rfl, kx, ?_⟩
          cases hx : isRunD x with
          | false =>
            walk_at "DL"
            rw [goes_no hx] at hq2
            exact rt_of hq2
          | true =>
            obtain ⟨b, n, rfl, hn⟩ := isRun_of hx
            rw [goes_eR, decide_eq_true hn, Bool.true_and] at hq2
            have fin : ∀ k : Bool, k = decide (l = some b) → (if k = true then Rt q (.bl false) O' else R [some (.tup xs), some (.str (ch b)), some (eR (b, n))] O') := fun k hk' => by
              subst hk'
              by_cases e : l = some b
              · rw [decide_eq_true e] at hq2 ⊢
                exact rt_of hq2
              · rw [decide_eq_false e] at hq2 ⊢
                exact hR _ _ ⟨rfl, some b, _, rfl, fun y hy => hr' y (List.mem_cons_of_mem _ hy), hq2⟩
            cases l with
            | none =>
              rw [show lastD none = .non from rfl]
              walk_at "DL"
              exact fin false rfl
            | some a =>
              rw [show lastD (some a) = .str (ch a) from rfl]
              walk_at "DL"
              exact fin (decide (b = a)) (by cases a <;> cases b <;> rfl)
        · rintro ds' O' ⟨rfl, l, v, rfl, _, hq2⟩
          exact rt_of hq2
    | _ =>
      walk_at "DL"
      exact rt_of hq
end
section
variable {K : PySem.W.Frag} {mg : Str → Option Value}
def S_require_strand (T : Tx K mg) : DSp := fun as O q e => ∃ x, as = [x] ∧ Ks x ∧ (isStrandD x = true → q .non O) ∧ (isStrandD x = false → e ⟨.ref T.c_InvalidStrand, none⟩ O)
def S_require_length (T : Tx K mg) : DSp := fun as O q e => ∃ x last, as = [x, .int last] ∧ Kn x ∧ (∀ i, x = .int i → 0 ≤ i → i ≤ last → q .non O) ∧ ((¬ ∃ i, x = .int i ∧ 0 ≤ i ∧ i ≤ last) → e ⟨.ref T.c_InvalidLength, none⟩ O)
def S_require_dark (T : Tx K mg) : DSp := fun as O q e => ∃ x last, as = [x, .int last] ∧ Kn x ∧ (∀ i, x = .int i → 0 ≤ i → i ≤ last → q .non O) ∧ ((¬ ∃ i, x = .int i ∧ 0 ≤ i ∧ i ≤ last) → e ⟨.ref T.c_InvalidDark, none⟩ O)
end

section
variable {P : Program} {w : World} {K : PySem.W.Frag} {mg : Str → Option Value} {base : Heap}
theorem ok_require_strand (T : Tx K mg) : FnD P w K mg base 4 T.a_require_strand T.d_require_strand ["value"] (S_require_strand T) := by
  refine fn_D T.F_require_strand sc_require_strand (fun as O q e h => ?_) (fun cdv A outer s H E hr as O q e h => ?_)
  · obtain ⟨x, rfl, _⟩ := h
    rfl
  · refine ⟨_, (dss_one (ds_if (dt_not (dt_val (de_call (L2N.takes_of rfl rfl rfl rfl) (ok_is_strand T) hr T.g_is_strand T.F_is_strand.kp (bn_is_strand T) (da_cons (de_var 0) da_nil)))) (dss_one (ds_raise (L2N.takes_of rfl rfl rfl rfl) T.x_InvalidStrand T.g_InvalidStrand T.k_InvalidStrand (raises_own T.b_InvalidStrand T.t_InvalidStrand))) dss_nil)), ?_⟩

    obtain ⟨x, rfl, hk, h1, h2⟩ := h
    walk_at "DL"
    refine ⟨x, rfl, hk, ?_⟩
    cases hx : isStrandD x with
    | true =>
      walk_at "DL"
      exact rt_of (h1 hx)
    | false =>
      walk_at "DL"
      exact ex_of (h2 hx)
theorem ok_require_length (T : Tx K mg) : FnD P w K mg base 3 T.a_require_length T.d_require_length ["value", "beads"] (S_require_length T) := by
  refine fn_D T.F_require_length sc_require_length (fun as O q e h => ?_) (fun cdv A outer s H E hr as O q e h => ?_)
  · obtain ⟨x, last, rfl, _⟩ := h
    rfl
  · refine ⟨_, (dss_one (ds_if (dt_not (dt_val (de_call (L2N.takes_of rfl rfl rfl rfl) (ok_is_integer_within T) hr T.g_is_integer_within T.F_is_integer_within.kp (bn_is_integer_within T) (da_cons (de_var 0) (da_cons de_int (da_cons (de_var 1) da_nil)))))) (dss_one (ds_raise (L2N.takes_of rfl rfl rfl rfl) T.x_InvalidLength T.g_InvalidLength T.k_InvalidLength (raises_own T.b_InvalidLength T.t_InvalidLength))) dss_nil)), ?_⟩

    obtain ⟨x, last, rfl, hk, h1, h2⟩ := h
    walk_at "DL"
    refine ⟨x, 0, last, rfl, hk, ?_⟩
    cases hw : isWithin 0 last x with
    | true =>
      obtain ⟨i, rfl, a, b⟩ := within_yes hw
      walk_at "DL"
      exact rt_of (h1 i rfl a b)
    | false =>
      walk_at "DL"
      exact ex_of (h2 (within_no hw))
theorem ok_require_dark (T : Tx K mg) : FnD P w K mg base 3 T.a_require_dark T.d_require_dark ["value", "greatest"] (S_require_dark T) := by
  refine fn_D T.F_require_dark sc_require_dark (fun as O q e h => ?_) (fun cdv A outer s H E hr as O q e h => ?_)
  · obtain ⟨x, last, rfl, _⟩ := h
    rfl
  · refine ⟨_, (dss_one (ds_if (dt_not (dt_val (de_call (L2N.takes_of rfl rfl rfl rfl) (ok_is_integer_within T) hr T.g_is_integer_within T.F_is_integer_within.kp (bn_is_integer_within T) (da_cons (de_var 0) (da_cons de_int (da_cons (de_var 1) da_nil)))))) (dss_one (ds_raise (L2N.takes_of rfl rfl rfl rfl) T.x_InvalidDark T.g_InvalidDark T.k_InvalidDark (raises_own T.b_InvalidDark T.t_InvalidDark))) dss_nil)), ?_⟩

    obtain ⟨x, last, rfl, hk, h1, h2⟩ := h
    walk_at "DL"
    refine ⟨x, 0, last, rfl, hk, ?_⟩
    cases hw : isWithin 0 last x with
    | true =>
      obtain ⟨i, rfl, a, b⟩ := within_yes hw
      walk_at "DL"
      exact rt_of (h1 i rfl a b)
    | false =>
      walk_at "DL"
      exact ex_of (h2 (within_no hw))
end

def stepB (s e : Int) (st : List Rn × Int) (r : Rn) : List Rn × Int := (if max s st.2 < min e (st.2 + r.2) then st.1 ++ [(r.1, min e (st.2 + r.2) - max s st.2)] else st.1, st.2 + r.2)
/-- the runs of the beads s to e - 1 -/
def runsB (rs : List Rn) (s e : Int) : List Rn := (rs.foldl (stepB s e) ([], 0)).1
def S_total_beads : DSp := fun as O q _ => ∃ x rs, as = [x] ∧ (x = eS rs ∨ x = eL rs) ∧ rs.length ≤ 100000 ∧ q (.int (beads rs)) O
def S_total_dark : DSp := fun as O q _ => ∃ x rs, as = [x] ∧ (x = eS rs ∨ x = eL rs) ∧ rs.length ≤ 100000 ∧ q (.int (darks rs)) O
def S_runs_between : DSp := fun as O q _ => ∃ x rs s e, as = [x, .int s, .int e] ∧ (x = eS rs ∨ x = eL rs) ∧ rs.length ≤ 100000 ∧ q (eL (runsB rs s e)) O
theorem sz_lt' {n : Nat} (h : n ≤ 100000) : n < sizeLine := Nat.lt_of_le_of_lt h (by decide)
theorem sz_le' {n : Nat} (h : n ≤ 100000) : n ≤ sizeLine := Nat.le_of_lt (sz_lt' h)
theorem sum_ints (rs : List Rn) : intsOf (rs.map fun r => D.int r.2) = some (rs.map (·.2)) := by
  rw [show (rs.map fun r => D.int r.2) = (rs.map (·.2)).map D.int by rw [List.map_map]; rfl]
  exact intsOf_map _

section
variable {P : Program} {w : World} {K : PySem.W.Frag} {mg : Str → Option Value} {base : Heap}
theorem ok_total_beads (T : Tx K mg) : FnD P w K mg base 1 T.a_total_beads T.d_total_beads ["runs"] S_total_beads := by
  refine fn_D T.F_total_beads sc_total_beads (fun as O q e h => ?_) (fun cdv A outer s H E hr as O q e h => ?_)
  · obtain ⟨x, rs, rfl, _⟩ := h
    rfl
  · refine ⟨_, (dss_one (ds_ret (de_blt (cr_sum rfl) lc_sum T.z_sum (by decide +kernel) (da_cons (de_lc [("_", 1), ("count", 2)] rfl sc_total_beads.nd (di_seq (de_var 0)) (blkOk_by (N := ["runs", "_", "count"]) (sc := defScope s_total_beads) (by decide +kernel)) (fun _ _ _ _ _ => (dg_tup (n := 2) rfl (dg_cons (dg_name 1 sc_total_beads.nd) (dg_cons (dg_name 2 sc_total_beads.nd) dg_nil)))) (fun _ _ _ _ _ => dts_nil) (fun _ _ _ _ _ => (de_var 2))) da_nil)))), ?_⟩

    obtain ⟨x, rs, rfl, hx, hl, hq⟩ := h
    rcases hx with rfl | rfl
    all_goals
      simp only [eS, eL]
      walk_at "DL"
      refine compX_mp eR rs (fun r => D.int r.2) (sz_lt' hl) (fun r hr R1 h1 => ?_) ?_
      · simp only [eR]
        walk_at "DL"
        exact h1
      · walk_at "DL"
        rw [sum_ints]
        exact rt_of hq
theorem ok_total_dark (T : Tx K mg) : FnD P w K mg base 1 T.a_total_dark T.d_total_dark ["runs"] S_total_dark := by
  refine fn_D T.F_total_dark sc_total_dark (fun as O q e h => ?_) (fun cdv A outer s H E hr as O q e h => ?_)
  · obtain ⟨x, rs, rfl, _⟩ := h
    rfl
  · refine ⟨_, (dss_one (ds_ret (de_blt (cr_sum rfl) lc_sum T.z_sum (by decide +kernel) (da_cons (de_lc [("colour", 1), ("count", 2)] rfl sc_total_dark.nd (di_seq (de_var 0)) (blkOk_by (N := ["runs", "colour", "count"]) (sc := defScope s_total_dark) (by decide +kernel)) (fun _ _ _ _ _ => (dg_tup (n := 2) rfl (dg_cons (dg_name 1 sc_total_dark.nd) (dg_cons (dg_name 2 sc_total_dark.nd) dg_nil)))) (fun _ _ _ _ _ => (dts_one (dt_eq hr (de_var 1) (de_glob (v := .str "D") (d := .str "D") T.g_DARK ⟨_, rfl⟩ (fun _ => .str _))))) (fun _ _ _ _ _ => (de_var 2))) da_nil)))), ?_⟩

    obtain ⟨x, rs, rfl, hx, hl, hq⟩ := h
    rcases hx with rfl | rfl
    all_goals
      simp only [eS, eL]
      walk_at "DL"
      refine compX_fm eR rs (fun r => r.1) (fun r => D.int r.2) (sz_lt' hl) (fun r hr R1 R2 h1 h2 => ?_) ?_
      · simp only [eR]
        walk_at "DL"
        cases hb : r.1 with
        | true => 
          walk_at "DL"
          exact h1 hb
        | false =>
          walk_at "DL"
          exact h2 hb
      · walk_at "DL"
        rw [sum_ints]
        exact rt_of hq
end
/-- the runs of the beads s to e - 1, where the first of the runs begins at b -/
def clip (s e : Int) : Int → List Rn → List Rn
  | _, [] => []
  | b, r :: x => if max s b < min e (b + r.2) then (r.1, min e (b + r.2) - max s b) :: clip s e (b + r.2) x else clip s e (b + r.2) x
theorem clip_cons (s e b : Int) (r : Rn) (x : List Rn) : clip s e b (r :: x) = if max s b < min e (b + r.2) then (r.1, min e (b + r.2) - max s b) :: clip s e (b + r.2) x else clip s e (b + r.2) x := rfl
theorem stepB_eq (s e b : Int) (acc : List Rn) (r : Rn) : stepB s e (acc, b) r = (if max s b < min e (b + r.2) then acc ++ [(r.1, min e (b + r.2) - max s b)] else acc, b + r.2) := rfl
theorem fold_clip (s e : Int) : ∀ (rs : List Rn) (acc : List Rn) (b : Int), (rs.foldl (stepB s e) (acc, b)).1 = acc ++ clip s e b rs
  | [], acc, _ => by
    show acc = acc ++ []
    rw [List.append_nil]
  | r :: x, acc, b => by
    rw [List.foldl_cons, stepB_eq, clip_cons]
    by_cases h : max s b < min e (b + r.2)
    · rw [if_pos h, if_pos h, fold_clip s e x, List.append_assoc]
      rfl
    · rw [if_neg h, if_neg h, fold_clip s e x]
theorem runsB_clip (rs : List Rn) (s e : Int) : runsB rs s e = clip s e 0 rs := by
  unfold runsB
  rw [fold_clip, List.nil_append]
theorem beads_nil : beads [] = 0 := rfl
theorem beads_cons (r : Rn) (x : List Rn) : beads (r :: x) = r.2 + beads x := by
  unfold beads
  rw [List.map_cons, List.sum_cons]
theorem beads_app (x y : List Rn) : beads (x ++ y) = beads x + beads y := by
  unfold beads
  rw [List.map_append, List.sum_append]
/-- how many of the beads of a run are dark -/
def dk (r : Rn) : Int := if r.1 = true then r.2 else 0
theorem darks_nil : darks [] = 0 := rfl
theorem darks_cons (r : Rn) (x : List Rn) : darks (r :: x) = dk r + darks x := by
  unfold darks dk
  rw [List.filter_cons]
  by_cases h : r.1 = true
  · rw [if_pos h, if_pos h, List.map_cons, List.sum_cons]
  · rw [if_neg h, if_neg h, Int.zero_add]
theorem darks_app (x y : List Rn) : darks (x ++ y) = darks x + darks y := by
  unfold darks
  rw [List.filter_append, List.map_append, List.sum_append]
def Pos (rs : List Rn) : Prop := ∀ r ∈ rs, 1 ≤ r.2
theorem Pos.tl {r : Rn} {x : List Rn} (h : Pos (r :: x)) : Pos x := fun y hy => h y (List.mem_cons_of_mem _ hy)
theorem Pos.hd {r : Rn} {x : List Rn} (h : Pos (r :: x)) : 1 ≤ r.2 := h r List.mem_cons_self
theorem Pos.l {x y : List Rn} (h : Pos (x ++ y)) : Pos x := fun r hr => h r (List.mem_append_left _ hr)
theorem Pos.r {x y : List Rn} (h : Pos (x ++ y)) : Pos y := fun r hr => h r (List.mem_append_right _ hr)
theorem dk_bds {r : Rn} (h : 1 ≤ r.2) : 0 ≤ dk r ∧ dk r ≤ r.2 := by
  unfold dk
  split <;> omega
theorem beads_nn : ∀ {rs : List Rn}, Pos rs → 0 ≤ darks rs ∧ darks rs ≤ beads rs
  | [], _ => ⟨Int.le_refl _, Int.le_refl _⟩
  | r :: x, h => by
    have a := beads_nn h.tl
    have b := dk_bds h.hd
    rw [beads_cons, darks_cons]
    omega
theorem beads_pos {rs : List Rn} (h : Pos rs) (n : rs ≠ []) : 1 ≤ beads rs := by
  cases rs with
  | nil => exact absurd rfl n
  | cons r x =>
    have a := beads_nn h.tl
    have b := h.hd
    rw [beads_cons]
    omega
theorem clip_app (s e : Int) : ∀ (x y : List Rn) (b : Int), clip s e b (x ++ y) = clip s e b x ++ clip s e (b + beads x) y
  | [], y, b => by
    rw [beads_nil, Int.add_zero]
    rfl
  | r :: x, y, b => by
    rw [List.cons_append, beads_cons, ← Int.add_assoc, clip_cons, clip_cons, clip_app s e x y]
    split
    · rfl
    · rfl
theorem clip_lo {s e : Int} : ∀ {x : List Rn} {b : Int}, Pos x → b + beads x ≤ s → clip s e b x = []
  | [], _, _, _ => rfl
  | r :: x, b, h, l => by
    rw [beads_cons] at l
    have a := beads_nn h.tl
    have c := h.hd
    rw [clip_cons, if_neg (by omega)]
    exact clip_lo h.tl (by omega)
theorem clip_hi {s e : Int} : ∀ {x : List Rn} {b : Int}, Pos x → e ≤ b → clip s e b x = []
  | [], _, _, _ => rfl
  | r :: x, b, h, l => by
    have c := h.hd
    rw [clip_cons, if_neg (by omega)]
    exact clip_hi h.tl (by omega)
theorem clip_all {s e : Int} : ∀ {x : List Rn} {b : Int}, Pos x → s ≤ b → b + beads x ≤ e → clip s e b x = x
  | [], _, _, _, _ => rfl
  | r :: x, b, h, l, u => by
    rw [beads_cons] at u
    have a := beads_nn h.tl
    have c := h.hd
    rw [clip_cons, if_pos (by omega), clip_all h.tl (by omega) (by omega)]
    have e1 : min e (b + r.2) - max s b = r.2 := by omega
    rw [e1]
/-- the one bead -/
theorem clip_one {pre post : List Rn} {r : Rn} {i : Int} (h : Pos (pre ++ r :: post)) (l : beads pre ≤ i) (u : i < beads pre + r.2) : ∃ n x, runsB (pre ++ r :: post) i (i + 1) = (r.1, n) :: x := by
  rw [runsB_clip, clip_app, clip_lo h.l (by omega), List.nil_append]
  rw [clip_cons, if_pos (by omega)]
  exact ⟨_, _, rfl⟩
/-- dark beads before a place -/
theorem clip_dark {pre post : List Rn} {r : Rn} {i : Int} (h : Pos (pre ++ r :: post)) (l : beads pre ≤ i) (u : i ≤ beads pre + r.2) : darks (runsB (pre ++ r :: post) 0 i) = darks pre + (if r.1 = true then i - beads pre else 0) := by
  have a := beads_nn h.l
  rw [runsB_clip, clip_app, clip_all h.l (Int.le_refl _) (by omega), darks_app]
  congr 1
  rw [clip_cons, clip_hi h.r.tl (by omega)]
  by_cases z : max 0 (0 + beads pre) < min i (0 + beads pre + r.2)
  · rw [if_pos z, darks_cons, darks_nil, Int.add_zero]
    unfold dk
    dsimp only
    split
    · omega
    · rfl
  · rw [if_neg z, darks_nil]
    split
    · omega
    · rfl
theorem darks_all {rs : List Rn} (h : Pos rs) : darks (runsB rs 0 (beads rs)) = darks rs := by
  rw [runsB_clip, clip_all h (Int.le_refl _) (by omega)]
/-- the run in which the dark bead i lies -/
theorem dark_run {i : Int} : ∀ {rs : List Rn}, Pos rs → 0 ≤ i → i < darks rs → ∃ pre n post, rs = pre ++ (true, n) :: post ∧ darks pre ≤ i ∧ i < darks pre + n
  | [], _, h0, h1 => by
    rw [darks_nil] at h1
    omega
  | (c, n) :: x, h, h0, h1 => by
    rw [darks_cons] at h1
    by_cases z : i < dk (c, n)
    · cases c with
      | false =>
        have e : dk (false, n) = 0 := rfl
        omega
      | true => exact ⟨[], n, x, rfl, h0, by rw [darks_nil, Int.zero_add]; exact z⟩
    · suffices q : ∀ j : Int, j = i - dk (c, n) → ∃ pre n' post, x = pre ++ (true, n') :: post ∧ darks pre ≤ j ∧ j < darks pre + n' by
        obtain ⟨pre, m, post, e, a, b⟩ := q _ rfl
        refine ⟨(c, n) :: pre, m, post, by rw [e]; rfl, ?_, ?_⟩
        · rw [darks_cons]
          omega
        · rw [darks_cons]
          omega
      intro j hj
      have e := dk_bds h.hd
      exact dark_run (i := j) h.tl (by omega) (by omega)
theorem pos_of {rs : List Rn} (v : Vd rs) : Pos rs := v.pos
theorem beads_le {m : Int} (hm : 0 ≤ m) : ∀ {rs : List Rn}, (∀ r ∈ rs, r.2 ≤ m) → beads rs ≤ rs.length * m
  | [], _ => by
    rw [beads_nil]
    simp
  | r :: x, h => by
    have a := beads_le hm (rs := x) fun y hy => h y (List.mem_cons_of_mem _ hy)
    have b := h r List.mem_cons_self
    rw [beads_cons, List.length_cons]
    have e : ((x.length + 1 : Nat) : Int) * m = x.length * m + m := by
      rw [Int.natCast_add, Int.add_mul]
      simp
    omega
/-- each run with the runs ahead of it -/
def rowsF : List Rn → List Rn → List (List Rn × Rn)
  | _, [] => []
  | p, r :: x => (p, r) :: rowsF (p ++ [r]) x
theorem rowsF_snoc : ∀ (x p : List Rn) (r : Rn), rowsF p (x ++ [r]) = rowsF p x ++ [(p ++ x, r)]
  | [], p, r => by
    rw [List.append_nil]
    rfl
  | a :: x, p, r => by
    show (p, a) :: rowsF (p ++ [a]) (x ++ [r]) = (p, a) :: (rowsF (p ++ [a]) x ++ [(p ++ a :: x, r)])
    rw [rowsF_snoc x, List.append_assoc]
    rfl
theorem rowsF_mem : ∀ {x p q : List Rn} {r : Rn}, (q, r) ∈ rowsF p x → ∃ post, p ++ x = q ++ r :: post
  | [], _, _, _, h => by cases h
  | a :: x, p, q, r, h => by
    rcases List.mem_cons.mp h with h | h
    · cases h
      exact ⟨x, rfl⟩
    · obtain ⟨post, e⟩ := rowsF_mem h
      rw [List.append_assoc] at e
      exact ⟨post, e⟩
theorem rowsF_len : ∀ {x p : List Rn}, (rowsF p x).length = x.length
  | [], _ => rfl
  | a :: x, p => by
    show (rowsF (p ++ [a]) x).length + 1 = x.length + 1
    rw [rowsF_len]
theorem fold_snoc {α : Type} : ∀ (x acc : List α), x.foldl (fun s r => s ++ [r]) acc = acc ++ x
  | [], acc => by
    rw [List.append_nil]
    rfl
  | a :: x, acc => by
    rw [List.foldl_cons, fold_snoc x, List.append_assoc]
    rfl
/-- dark beads at the first x places -/
def gd : List Rn → Int → Int
  | [], _ => 0
  | r :: rs, x => (if r.1 = true then max 0 (min x r.2) else 0) + gd rs (x - r.2)
theorem gd_nil (x : Int) : gd [] x = 0 := rfl
theorem gd_cons (r : Rn) (rs : List Rn) (x : Int) : gd (r :: rs) x = (if r.1 = true then max 0 (min x r.2) else 0) + gd rs (x - r.2) := rfl
theorem gd_app : ∀ (a b : List Rn) (x : Int), gd (a ++ b) x = gd a x + gd b (x - beads a)
  | [], b, x => by
    rw [List.nil_append, beads_nil, gd_nil, Int.sub_zero, Int.zero_add]
  | r :: a, b, x => by
    rw [List.cons_append, gd_cons, gd_cons, gd_app a b, beads_cons, show x - r.2 - beads a = x - (r.2 + beads a) by omega]
    omega
theorem gd_np : ∀ {rs : List Rn} {x : Int}, Pos rs → x ≤ 0 → gd rs x = 0
  | [], _, _, _ => rfl
  | r :: rs, x, h, hx => by
    have := h.hd
    rw [gd_cons, gd_np h.tl (by omega)]
    split <;> omega
theorem gd_all : ∀ {rs : List Rn} {x : Int}, Pos rs → beads rs ≤ x → gd rs x = darks rs
  | [], x, h, hx => rfl
  | r :: rs, x, h, hx => by
    have a := beads_nn h.tl
    have b := h.hd
    rw [beads_cons] at hx
    rw [gd_cons, gd_all h.tl (by omega), darks_cons]
    unfold dk
    split <;> omega
theorem gd_in {pre post : List Rn} {r : Rn} {x : Int} (h : Pos (pre ++ r :: post)) (l : beads pre ≤ x) (u : x ≤ beads pre + r.2) : gd (pre ++ r :: post) x = darks pre + (if r.1 = true then x - beads pre else 0) := by
  rw [gd_app, gd_all h.l l, gd_cons, gd_np h.r.tl (by omega)]
  split <;> omega
theorem gd_step : ∀ {rs : List Rn} {x : Int}, Pos rs → 0 ≤ gd rs (x + 1) - gd rs x ∧ gd rs (x + 1) - gd rs x ≤ 1
  | [], x, _ => by
    rw [gd_nil, gd_nil]
    omega
  | r :: rs, x, h => by
    have b := h.hd
    rw [gd_cons, gd_cons]
    by_cases c : x < r.2
    · rw [gd_np (x := x - r.2) h.tl (by omega), gd_np (x := x + 1 - r.2) h.tl (by omega)]
      split <;> omega
    · have ih := gd_step (x := x - r.2) h.tl
      rw [show x + 1 - r.2 = x - r.2 + 1 by omega]
      split <;> omega
theorem gd_mono {rs : List Rn} (h : Pos rs) {x y : Int} (l : x ≤ y) : 0 ≤ gd rs y - gd rs x ∧ gd rs y - gd rs x ≤ y - x := by
  obtain ⟨n, rfl⟩ : ∃ n : Nat, y = x + n := ⟨(y - x).toNat, by omega⟩
  clear l
  induction n with
  | zero =>
    rw [show x + ((0 : Nat) : Int) = x by omega]
    omega
  | succ n ih =>
    have := gd_step (x := x + n) h
    rw [show x + ((n + 1 : Nat) : Int) = x + n + 1 by omega]
    omega
theorem pos_clip {s e : Int} : ∀ {rs : List Rn} {b : Int}, Pos rs → Pos (clip s e b rs)
  | [], _, _ => fun r hr => by cases hr
  | r :: x, b, h => by
    have c := h.hd
    rw [clip_cons]
    by_cases hc : max s b < min e (b + r.2)
    · rw [if_pos hc]
      intro y hy
      rcases List.mem_cons.mp hy with rfl | hy
      · show 1 ≤ min e (b + r.2) - max s b
        omega
      · exact pos_clip h.tl y hy
    · rw [if_neg hc]
      exact pos_clip h.tl
theorem beads_clip {s e : Int} : ∀ {rs : List Rn} {b : Int}, Pos rs → beads (clip s e b rs) = max 0 (min e (b + beads rs) - max s b)
  | [], b, _ => by
    show beads [] = _
    rw [beads_nil]
    omega
  | r :: x, b, h => by
    have c := h.hd
    have a := beads_nn h.tl
    rw [clip_cons, beads_cons]
    by_cases hc : max s b < min e (b + r.2)
    · rw [if_pos hc, beads_cons, beads_clip h.tl]
      dsimp only
      omega
    · rw [if_neg hc, beads_clip h.tl]
      omega
theorem gd_clip : ∀ {rs : List Rn} {s e b i : Int}, Pos rs → s ≤ e → 0 ≤ i → gd (clip s e b rs) i = gd rs (min (max s b + i) e - b) - gd rs (max s b - b)
  | [], s, e, b, i, _, _, _ => by
    show gd [] i = gd [] _ - gd [] _
    rw [gd_nil, gd_nil, gd_nil]
    omega
  | r :: x, s, e, b, i, h, hse, hi => by
    have c := h.hd
    have ih := fun i hi => gd_clip (s := s) (e := e) (b := b + r.2) (i := i) h.tl hse hi
    rw [clip_cons, gd_cons r x, gd_cons r x]
    by_cases hc : max s b < min e (b + r.2)
    · have e1 : gd x (max s b - b - r.2) = 0 := gd_np h.tl (by omega)
      rw [if_pos hc, gd_cons, e1]
      dsimp only
      by_cases hm : i ≤ min e (b + r.2) - max s b
      · have e2 : gd (clip s e (b + r.2) x) (i - (min e (b + r.2) - max s b)) = 0 := gd_np (pos_clip h.tl) (by omega)
        have e3 : gd x (min (max s b + i) e - b - r.2) = 0 := gd_np h.tl (by omega)
        rw [e2, e3]
        split <;> omega
      · have e2 := ih (i - (min e (b + r.2) - max s b)) (by omega)
        have e4 : gd x (max s (b + r.2) - (b + r.2)) = 0 := gd_np h.tl (by omega)
        rw [e2, e4]
        by_cases he : e ≤ b + r.2
        · have e5 : gd x (min (max s (b + r.2) + (i - (min e (b + r.2) - max s b))) e - (b + r.2)) = 0 := gd_np h.tl (by omega)
          have e6 : gd x (min (max s b + i) e - b - r.2) = 0 := gd_np h.tl (by omega)
          rw [e5, e6]
          split <;> omega
        · have e5 : min (max s (b + r.2) + (i - (min e (b + r.2) - max s b))) e - (b + r.2) = min (max s b + i) e - b - r.2 := by omega
          rw [e5]
          split <;> omega
    · rw [if_neg hc, ih i hi]
      by_cases h1 : b + r.2 ≤ s
      · have e1 : min (max s (b + r.2) + i) e - (b + r.2) = min (max s b + i) e - b - r.2 := by omega
        have e2 : max s (b + r.2) - (b + r.2) = max s b - b - r.2 := by omega
        rw [e1, e2]
        split <;> omega
      · have e1 : gd x (min (max s (b + r.2) + i) e - (b + r.2)) = 0 := gd_np h.tl (by omega)
        have e2 : gd x (max s (b + r.2) - (b + r.2)) = 0 := gd_np h.tl (by omega)
        have e3 : gd x (min (max s b + i) e - b - r.2) = 0 := gd_np h.tl (by omega)
        have e4 : gd x (max s b - b - r.2) = 0 := gd_np h.tl (by omega)
        rw [e1, e2, e3, e4]
        split <;> omega
/-- dark beads of the arc of l beads from s on -/
def dd (rs : List Rn) (l s : Int) : Int := gd (rs ++ rs) (s + l) - gd (rs ++ rs) s
theorem Pos.app {x y : List Rn} (a : Pos x) (b : Pos y) : Pos (x ++ y) := fun r hr => by
  rcases List.mem_append.mp hr with h | h
  · exact a r h
  · exact b r h
theorem gd2 {rs : List Rn} (h : Pos rs) {x : Int} (hx : x ≤ beads rs) : gd (rs ++ rs) x = gd rs x := by
  rw [gd_app, gd_np (x := x - beads rs) h (by omega), Int.add_zero]
theorem gd2' {rs : List Rn} (h : Pos rs) {x : Int} (hx : beads rs ≤ x) : gd (rs ++ rs) x = darks rs + gd rs (x - beads rs) := by
  rw [gd_app, gd_all h hx]
/-- the runs of an arc -/
def ar (rs : List Rn) (s l : Int) : List Rn := runsB (rs ++ rs) s (s + l)
theorem ar_pos {rs : List Rn} (h : Pos rs) {s l : Int} : Pos (ar rs s l) := by
  unfold ar
  rw [runsB_clip]
  exact pos_clip (h.app h)
theorem ar_beads {rs : List Rn} (h : Pos rs) {s l : Int} (h0 : 0 ≤ s) (h1 : 0 ≤ l) (h2 : s + l ≤ 2 * beads rs) : beads (ar rs s l) = l := by
  unfold ar
  rw [runsB_clip, beads_clip (h.app h), beads_app]
  omega
theorem ar_gd {rs : List Rn} (h : Pos rs) {s l i : Int} (h0 : 0 ≤ s) (h1 : 0 ≤ i) (h2 : i ≤ l) : gd (ar rs s l) i = gd (rs ++ rs) (s + i) - gd (rs ++ rs) s := by
  unfold ar
  rw [runsB_clip, gd_clip (h.app h) (by omega) h1]
  rw [show min (max s 0 + i) (s + l) - 0 = s + i by omega, show max s 0 - 0 = s by omega]
theorem ar_darks {rs : List Rn} (h : Pos rs) {s l : Int} (h0 : 0 ≤ s) (h1 : 0 ≤ l) (h2 : s + l ≤ 2 * beads rs) : darks (ar rs s l) = dd rs l s := by
  rw [← gd_all (ar_pos h) (Int.le_of_eq (ar_beads h h0 h1 h2)), ar_gd h h0 h1 (Int.le_refl _)]
  rfl
theorem dd_bds {rs : List Rn} (h : Pos rs) {s l : Int} (hl : 0 ≤ l) : 0 ≤ dd rs l s ∧ dd rs l s ≤ l := by
  have := gd_mono (h.app h) (x := s) (y := s + l) (by omega)
  unfold dd
  omega
theorem dd_turn {rs : List Rn} (h : Pos rs) {l : Int} (h0 : 0 ≤ l) (h1 : l ≤ beads rs) : dd rs l (beads rs) = dd rs l 0 := by
  unfold dd
  rw [gd2' h (x := beads rs + l) (by omega), gd2' h (x := beads rs) (by omega), Int.zero_add, gd2 h h1, gd_np (h.app h) (Int.le_refl 0), gd_np h (by omega : beads rs - beads rs ≤ 0), show beads rs + l - beads rs = l by omega]
  omega
theorem dd_step {rs : List Rn} (h : Pos rs) {l s : Int} : -1 ≤ dd rs l (s + 1) - dd rs l s ∧ dd rs l (s + 1) - dd rs l s ≤ 1 := by
  have a := gd_step (x := s + l) (h.app h)
  have b := gd_step (x := s) (h.app h)
  unfold dd
  rw [show s + 1 + l = s + l + 1 by omega]
  omega
theorem dd_more {rs : List Rn} (h : Pos rs) {l s : Int} : 0 ≤ dd rs (l + 1) s - dd rs l s ∧ dd rs (l + 1) s - dd rs l s ≤ 1 := by
  have a := gd_step (x := s + l) (h.app h)
  unfold dd
  rw [show s + (l + 1) = s + l + 1 by omega]
  omega
/-- two rows side by side: (a colour of one, of the other, how many) -/
abbrev Tr := Bool × Bool × Int
def trA (ts : List Tr) : List Rn := ts.map fun t => (t.1, t.2.2)
def trB (ts : List Tr) : List Rn := ts.map fun t => (t.2.1, t.2.2)
structure Sbs (xs ys : List Rn) (ts : List Tr) (c : Int) : Prop where
  pos : ∀ t ∈ ts, 1 ≤ t.2.2
  sum : beads (trA ts) = c
  a : ∀ i, 0 ≤ i → i ≤ c → gd (trA ts) i = gd xs i
  b : ∀ i, 0 ≤ i → i ≤ c → gd (trB ts) i = gd ys i
theorem trA_pos {ts : List Tr} (h : ∀ t ∈ ts, 1 ≤ t.2.2) : Pos (trA ts) := fun r hr => by
  obtain ⟨t, ht, rfl⟩ := List.mem_map.mp hr
  exact h t ht
theorem trB_pos {ts : List Tr} (h : ∀ t ∈ ts, 1 ≤ t.2.2) : Pos (trB ts) := fun r hr => by
  obtain ⟨t, ht, rfl⟩ := List.mem_map.mp hr
  exact h t ht
theorem trAB (ts : List Tr) : beads (trB ts) = beads (trA ts) := by
  unfold trA trB beads
  rw [List.map_map, List.map_map]
  rfl
theorem trA_app (x y : List Tr) : trA (x ++ y) = trA x ++ trA y := List.map_append
theorem trB_app (x y : List Tr) : trB (x ++ y) = trB x ++ trB y := List.map_append
theorem Sbs.nil {xs ys : List Rn} (h : Pos xs) (h' : Pos ys) : Sbs xs ys [] 0 := ⟨(fun _ h => by cases h), rfl, (fun i h0 h1 => by
  rw [gd_np h h1]
  rfl), (fun i h0 h1 => by
  rw [gd_np h' h1]
  rfl)⟩
theorem Sbs.snoc {xs ys : List Rn} {ts : List Tr} {c m : Int} {u v : Bool} (s : Sbs xs ys ts c) (hm : 1 ≤ m) (ha : ∀ t, 0 ≤ t → t ≤ m → gd xs (c + t) = gd xs c + if u = true then t else 0) (hb : ∀ t, 0 ≤ t → t ≤ m → gd ys (c + t) = gd ys c + if v = true then t else 0) : Sbs xs ys (ts ++ [(u, v, m)]) (c + m) := by
  have pa := trA_pos s.pos
  have pb := trB_pos s.pos
  have c0 : 0 ≤ c := by
    have := beads_nn pa
    have := s.sum
    omega
  have sb := trAB ts
  have p2 : ∀ t ∈ ts ++ [(u, v, m)], 1 ≤ t.2.2 := fun t ht => by
    rcases List.mem_append.mp ht with h | h
    · exact s.pos t h
    · rw [List.mem_singleton.mp h]
      exact hm
  refine ⟨p2, ?_, fun i h0 h1 => ?_, fun i h0 h1 => ?_⟩
  · rw [trA_app, beads_app, s.sum]
    show c + beads [(u, m)] = c + m
    rw [beads_cons, beads_nil, Int.add_zero]
  · rw [trA_app, gd_app, s.sum]
    show gd (trA ts) i + gd [(u, m)] (i - c) = gd xs i
    rw [gd_cons, gd_nil, Int.add_zero]
    dsimp only
    by_cases hi : i ≤ c
    · rw [s.a i h0 hi]
      split <;> omega
    · have e1 : gd (trA ts) i = gd xs c := by
        rw [gd_all pa (by rw [s.sum]; omega), ← s.a c c0 (Int.le_refl _), gd_all pa (by rw [s.sum]; omega)]
      have e2 := ha (i - c) (by omega) (by omega)
      rw [show c + (i - c) = i by omega] at e2
      rw [e1, e2]
      split <;> omega
  · rw [trB_app, gd_app, sb, s.sum]
    show gd (trB ts) i + gd [(v, m)] (i - c) = gd ys i
    rw [gd_cons, gd_nil, Int.add_zero]
    dsimp only
    by_cases hi : i ≤ c
    · rw [s.b i h0 hi]
      split <;> omega
    · have e1 : gd (trB ts) i = gd ys c := by
        rw [gd_all pb (by rw [sb, s.sum]; omega), ← s.b c c0 (Int.le_refl _), gd_all pb (by rw [sb, s.sum]; omega)]
      have e2 := hb (i - c) (by omega) (by omega)
      rw [show c + (i - c) = i by omega] at e2
      rw [e1, e2]
      split <;> omega
/-- within a run -/
theorem gd_within {pre post : List Rn} {r : Rn} {c m : Int} (h : Pos (pre ++ r :: post)) (l : beads pre ≤ c) (u : c + m ≤ beads pre + r.2) : ∀ t, 0 ≤ t → t ≤ m → gd (pre ++ r :: post) (c + t) = gd (pre ++ r :: post) c + if r.1 = true then t else 0 := fun t h0 h1 => by
  rw [gd_in h (by omega) (by omega), gd_in h l (by omega)]
  split <;> omega
theorem sbs_at {xs ys : List Rn} {ts pre post : List Tr} {t : Tr} {c : Int} (s : Sbs xs ys ts c) (e : ts = pre ++ t :: post) {x : Int} (h0 : 0 ≤ x) (h1 : x ≤ t.2.2) :
    gd xs (beads (trA pre) + x) = gd xs (beads (trA pre)) + (if t.1 = true then x else 0) ∧ gd ys (beads (trA pre) + x) = gd ys (beads (trA pre)) + (if t.2.1 = true then x else 0) := by
  subst e
  have pa := trA_pos s.pos
  have pb := trB_pos s.pos
  rw [trA_app] at pa
  rw [trB_app] at pb
  have hs := s.sum
  rw [trA_app, beads_app] at hs
  have hs : beads (trA pre) + beads ((t.1, t.2.2) :: trA post) = c := hs
  have pa : Pos (trA pre ++ (t.1, t.2.2) :: trA post) := pa
  have pb : Pos (trB pre ++ (t.2.1, t.2.2) :: trB post) := pb
  rw [beads_cons] at hs
  have p0 := beads_nn (Pos.l pa)
  have p1 := beads_nn (Pos.tl (Pos.r pa))
  have ht : 1 ≤ t.2.2 := Pos.hd (r := (t.1, t.2.2)) (Pos.r pa)
  dsimp only at hs
  have a1 := s.a (beads (trA pre) + x) (by omega) (by omega)
  have a0 := s.a (beads (trA pre)) (by omega) (by omega)
  have b1 := s.b (beads (trA pre) + x) (by omega) (by omega)
  have b0 := s.b (beads (trA pre)) (by omega) (by omega)
  have sb := trAB pre
  rw [trA_app] at a0 a1
  rw [trB_app, ← sb] at b0 b1
  rw [← a1, ← a0]
  rw [← sb, ← b1, ← b0]
  refine ⟨?_, gd_within (r := (t.2.1, t.2.2)) (m := x) pb (Int.le_refl _) (by dsimp only; omega) x h0 (Int.le_refl _)⟩
  rw [sb]
  exact gd_within (r := (t.1, t.2.2)) (m := x) pa (Int.le_refl _) (by dsimp only; omega) x h0 (Int.le_refl _)
/-- a piece: start, count, dark, step -/
abbrev Pc := Int × Int × Int × Int
def PcL (rs : List Rn) (l : Int) : Int → List Pc → Int → Prop
  | s, [], e => s = e
  | s, p :: ps, e => (p.1 = s ∧ 1 ≤ p.2.1 ∧ p.2.2.1 = dd rs l s ∧ -1 ≤ p.2.2.2 ∧ p.2.2.2 ≤ 1 ∧ ∀ t, 0 ≤ t → t ≤ p.2.1 → dd rs l (s + t) = p.2.2.1 + t * p.2.2.2) ∧ PcL rs l (s + p.2.1) ps e
theorem pcl_snoc {rs : List Rn} {l e : Int} {p : Pc} : ∀ {ps : List Pc} {s : Int}, PcL rs l s ps e → (p.1 = e ∧ 1 ≤ p.2.1 ∧ p.2.2.1 = dd rs l e ∧ -1 ≤ p.2.2.2 ∧ p.2.2.2 ≤ 1 ∧ ∀ t, 0 ≤ t → t ≤ p.2.1 → dd rs l (e + t) = p.2.2.1 + t * p.2.2.2) → PcL rs l s (ps ++ [p]) (e + p.2.1)
  | [], s, h, hp => by
    have h : s = e := h
    subst h
    exact ⟨hp, rfl⟩
  | q :: ps, s, h, hp => ⟨h.1, pcl_snoc h.2 hp⟩
theorem pcl_le {rs : List Rn} {l e : Int} : ∀ {ps : List Pc} {s : Int}, PcL rs l s ps e → s ≤ e
  | [], s, h => Int.le_of_eq h
  | p :: ps, s, h => by
    have := pcl_le h.2
    have := h.1.2.1
    omega
theorem pcl_first {rs : List Rn} {l e : Int} : ∀ {ps : List Pc} {s : Int}, PcL rs l s ps e → ∀ p ∈ ps, s ≤ p.1 ∧ p.1 + p.2.1 ≤ e ∧ 1 ≤ p.2.1 ∧ p.2.2.1 = dd rs l p.1 ∧ -1 ≤ p.2.2.2 ∧ p.2.2.2 ≤ 1 ∧ ∀ t, 0 ≤ t → t ≤ p.2.1 → dd rs l (p.1 + t) = p.2.2.1 + t * p.2.2.2
  | [], _, _, p, hp => by cases hp
  | q :: ps, s, h, p, hp => by
    obtain ⟨⟨h1, h2, h3⟩, h4⟩ := h
    rcases List.mem_cons.mp hp with rfl | hp
    · have := pcl_le h4
      subst h1
      exact ⟨Int.le_refl _, this, h2, h3⟩
    · obtain ⟨a, b⟩ := pcl_first h4 p hp
      exact ⟨by omega, b⟩
/-- no number lies beyond those of the first places -/
theorem pcl_bds {rs : List Rn} {l e lo hi : Int} (he : lo ≤ dd rs l e ∧ dd rs l e ≤ hi) : ∀ {ps : List Pc} {s : Int}, PcL rs l s ps e → (∀ p ∈ ps, lo ≤ p.2.2.1 ∧ p.2.2.1 ≤ hi) → ∀ x, s ≤ x → x ≤ e → lo ≤ dd rs l x ∧ dd rs l x ≤ hi
  | [], s, h, _, x, h0, h1 => by
    have h : s = e := h
    rw [show x = e by omega]
    exact he
  | p :: ps, s, h, hp, x, h0, h1 => by
    obtain ⟨⟨a1, a2, a3, a4, a5, a6⟩, h4⟩ := h
    have ih := pcl_bds he h4 (fun q hq => hp q (List.mem_cons_of_mem _ hq))
    by_cases hx : s + p.2.1 ≤ x
    · exact ih x hx h1
    · have le := pcl_le h4
      have b1 := hp p List.mem_cons_self
      have b2 := ih (s + p.2.1) (Int.le_refl _) le
      have c1 := a6 (x - s) (by omega) (by omega)
      have c2 := a6 p.2.1 (by omega) (by omega)
      rw [show s + (x - s) = x by omega] at c1
      rw [c2] at b2
      rw [c1]
      have cs : p.2.2.2 = -1 ∨ p.2.2.2 = 0 ∨ p.2.2.2 = 1 := by omega
      rcases cs with z | z | z <;> rw [z] at b2 ⊢ <;> omega
/-- which place lies in which piece -/
theorem pcl_find {rs : List Rn} {l e : Int} : ∀ {ps : List Pc} {s : Int}, PcL rs l s ps e → ∀ x, s ≤ x → x < e → ∃ p ∈ ps, p.1 ≤ x ∧ x < p.1 + p.2.1
  | [], s, h, x, h0, h1 => by
    have h : s = e := h
    omega
  | p :: ps, s, h, x, h0, h1 => by
    by_cases hx : x < s + p.2.1
    · exact ⟨p, List.mem_cons_self, by rw [h.1.1]; exact h0, by rw [h.1.1]; exact hx⟩
    · obtain ⟨q, hq, r⟩ := pcl_find h.2 x (by omega) h1
      exact ⟨q, List.mem_cons_of_mem _ hq, r⟩
/-- the pieces, out of the two rows side by side -/
theorem pc_at {rs : List Rn} {l : Int} {ts pre post : List Tr} {t : Tr} (h : Pos rs) (l0 : 0 ≤ l) (l1 : l ≤ beads rs) (s : Sbs rs (ar rs l (beads rs)) ts (beads rs)) (e : ts = pre ++ t :: post) {x : Int} (h0 : 0 ≤ x) (h1 : x ≤ t.2.2) :
    dd rs l (beads (trA pre) + x) = dd rs l (beads (trA pre)) + x * ((if t.2.1 = true then 1 else 0) - (if t.1 = true then 1 else 0)) := by
  obtain ⟨a, b⟩ := sbs_at s e h0 h1
  have hs := s.sum
  have pa := trA_pos s.pos
  rw [e, trA_app] at pa
  rw [e, trA_app, beads_app] at hs
  have hs : beads (trA pre) + beads ((t.1, t.2.2) :: trA post) = beads rs := hs
  have pa : Pos (trA pre ++ (t.1, t.2.2) :: trA post) := pa
  rw [beads_cons] at hs
  have p0 := beads_nn (Pos.l pa)
  have p1 := beads_nn (Pos.tl (Pos.r pa))
  dsimp only at hs
  generalize beads (trA pre) = c at *
  rw [ar_gd h l0 (by omega) (by omega), ar_gd h l0 (by omega) (by omega)] at b
  unfold dd
  rw [show c + x + l = l + (c + x) by omega, show c + l = l + c by omega, gd2 h (x := c + x) (by omega), gd2 h (x := c) (by omega)]
  have m1 : x * ((if t.2.1 = true then 1 else 0) - (if t.1 = true then 1 else 0)) = (if t.2.1 = true then x else 0) - (if t.1 = true then x else 0) := by
    rw [Int.mul_sub]
    split <;> split <;> simp
  rw [m1]
  omega
abbrev Rw := D × Int
def eRw (r : Rw) : D := .tup [r.1, .int r.2]
abbrev Ct := D × Int × Int
def eCt (c : Ct) : D := .tup [c.1, .int c.2.1, .int c.2.2]
def stepC (s e : Int) (st : List Ct × Int) (r : Rw) : List Ct × Int := (if max s st.2 < min e (st.2 + r.2) then st.1 ++ [(r.1, max s st.2 - st.2, min e (st.2 + r.2) - max s st.2)] else st.1, st.2 + r.2)
/-- what lies at the places s to e - 1 of some rows -/
def cutB (rs : List Rw) (s e : Int) : List Ct := (rs.foldl (stepC s e) ([], 0)).1
def S_cut_between : DSp := fun as O q _ => ∃ x rs s e, as = [x, .int s, .int e] ∧ (x = .tup (rs.map eRw) ∨ x = .lst (rs.map eRw)) ∧ rs.length ≤ 100000 ∧ q (.lst ((cutB rs s e).map eCt)) O
def rowsOf (rs : List Rn) : List Rw := rs.map fun r => (D.str (ch r.1), r.2)
theorem rowsOf_eRw (rs : List Rn) : (rowsOf rs).map eRw = rs.map eR := by
  unfold rowsOf
  rw [List.map_map]
  rfl
def ctR (c : Ct) : D := .tup [c.1, .int c.2.2]
theorem cut_runs {s e : Int} : ∀ (rs : List Rn) (acc : List Ct) (acc' : List Rn) (b : Int), acc.map ctR = acc'.map eR → ((rowsOf rs).foldl (stepC s e) (acc, b)).1.map ctR = (rs.foldl (stepB s e) (acc', b)).1.map eR
  | [], acc, acc', b, h => h
  | r :: rs, acc, acc', b, h => by
    show ((rowsOf rs).foldl (stepC s e) (stepC s e (acc, b) (D.str (ch r.1), r.2))).1.map ctR = (rs.foldl (stepB s e) (stepB s e (acc', b) r)).1.map eR
    unfold stepC stepB
    dsimp only
    by_cases hc : max s b < min e (b + r.2)
    · rw [if_pos hc, if_pos hc]
      refine cut_runs rs _ _ _ ?_
      rw [List.map_append, List.map_append, h]
      rfl
    · rw [if_neg hc, if_neg hc]
      exact cut_runs rs _ _ _ h
theorem cutB_runs (rs : List Rn) (s e : Int) : (cutB (rowsOf rs) s e).map ctR = (runsB rs s e).map eR := cut_runs rs [] [] 0 rfl
theorem cut_len {s e : Int} : ∀ (rs : List Rw) (st : List Ct × Int), (rs.foldl (stepC s e) st).1.length ≤ st.1.length + rs.length
  | [], _ => Nat.le_refl _
  | r :: rs, st => by
    have h := cut_len (s := s) (e := e) rs (stepC s e st r)
    rw [List.foldl_cons]
    have h2 : (stepC s e st r).1.length ≤ st.1.length + 1 := by
      unfold stepC
      dsimp only
      split
      · rw [List.length_append]
        exact Nat.le_refl _
      · exact Nat.le_succ _
    rw [List.length_cons]
    omega
theorem cutB_len (rs : List Rw) (s e : Int) : (cutB rs s e).length ≤ rs.length := by
  have := cut_len (s := s) (e := e) rs ([], 0)
  simpa [cutB] using this
theorem runsB_len (rs : List Rn) (s e : Int) : (runsB rs s e).length ≤ rs.length := by
  have a := cutB_len (rowsOf rs) s e
  have b := congrArg List.length (cutB_runs rs s e)
  rw [List.length_map, List.length_map] at b
  rw [← b]
  simpa [rowsOf] using a
def S_arc_runs : DSp := fun as O q _ => ∃ x rs s l, as = [x, .int s, .int l] ∧ (x = eS rs ∨ x = eL rs) ∧ rs.length ≤ 50000 ∧ q (eL (ar rs s l)) O
theorem ar_len (rs : List Rn) (s l : Int) : (ar rs s l).length ≤ 2 * rs.length := by
  have := runsB_len (rs ++ rs) s (s + l)
  rw [List.length_append] at this
  unfold ar
  omega

section
variable {P : Program} {w : World} {K : PySem.W.Frag} {mg : Str → Option Value} {base : Heap}
theorem ok_cut_between (T : Tx K mg) : FnD P w K mg base 1 T.a_cut_between T.d_cut_between ["rows", "start", "end"] S_cut_between := by
  refine fn_D T.F_cut_between sc_cut_between (fun as O q e h => ?_) (fun cdv A outer s H E hr as O q e h => ?_)
  · obtain ⟨x, rs, s, e, rfl, _⟩ := h
    rfl
  · refine ⟨_, (dss_cons (ds_set 3 sc_cut_between.nd (de_lstO da_nil))
    (dss_cons (ds_set 4 sc_cut_between.nd de_int)
    (dss_cons (ds_for (by passes_own) rfl (di_seq (de_var 0)) (dg_tup (n := 2) rfl (dg_cons (dg_name 5 sc_cut_between.nd) (dg_cons (dg_name 6 sc_cut_between.nd) dg_nil))) (dss_cons (ds_set 7 sc_cut_between.nd (de_blt (call_max2 rfl) lc_max2 T.z_max (by decide +kernel) (da_cons (de_var 1) (da_cons (de_var 4) da_nil))))
    (dss_cons (ds_set 8 sc_cut_between.nd (de_blt (call_min2 rfl) lc_min2 T.z_min (by decide +kernel) (da_cons (de_var 2) (da_cons (de_add (de_var 4) (de_var 6)) da_nil))))
    (dss_cons (ds_if (dt_lt (de_var 7) (de_var 8)) (dss_one (ds_expr (de_meth PySem.F.plainAttrs_list PySem.F.slot_list_append PySem.F.type_list_append mt_append lm_append (de_var 3) (da_cons (de_tup (da_cons (de_var 5) (da_cons (de_sub (de_var 7) (de_var 4)) (da_cons (de_sub (de_var 8) (de_var 7)) da_nil)))) da_nil)))) dss_nil)
    (dss_one (ds_aug 4 sc_cut_between.nd (de_var 6) ip_add lip_add))))))
    (dss_one (ds_ret (de_var 3)))))), ?_⟩

    obtain ⟨x, rs, s0, e0, rfl, hx, hl, hq⟩ := h
    rcases hx with rfl | rfl
    all_goals
      walk_at "DL"
      refine ⟨Nat.zero_le _, fun p hp => ?_⟩
      try walk_at "DL"
      refine loopX_map eRw rs (stepC s0 e0) (fun i st ds' O' => (∃ y a b c d, ds' = [some y, some (.int s0), some (.int e0), some (.opq (.ref p)), some (.int st.2), a, b, c, d]) ∧ O' = oset O p (.lst (st.1.map eCt)) ∧ st.1.length ≤ i) ([], 0)
        ⟨⟨_, none, none, none, none, rfl⟩, rfl, Nat.le_refl _⟩ ?_ ?_
      · rintro i ⟨found, begin⟩ ⟨c, n⟩ ds' O' hi ⟨⟨y, a1, a2, a3, a4, rfl⟩, rfl, hle⟩ R hR
        have hil : i < rs.length := (List.getElem?_eq_some_iff.mp hi).1
        simp only [eRw]
        walk_at "DL"
        by_cases hlt : max s0 begin < min e0 (begin + n)
        · rw [decide_eq_true hlt]
          walk_at "DL"
          refine ⟨by decide, by rw [List.length_map]; exact sz_lt' (by have := hle; dsimp only at this; omega), ?_⟩
          refine hR _ _ ⟨⟨y, _, _, _, _, rfl⟩, ?_, ?_⟩
          · simp only [stepC, if_pos hlt, List.map_append, List.map_cons, List.map_nil, eCt]
          · simp only [stepC, if_pos hlt, List.length_append, List.length_cons, List.length_nil]
            exact Nat.succ_le_succ hle
        · rw [decide_eq_false hlt]
          walk_at "DL"
          refine hR _ _ ⟨⟨y, _, _, _, _, rfl⟩, ?_, ?_⟩
          · simp only [stepC, if_neg hlt]
          · simp only [stepC, if_neg hlt]
            exact Nat.le_succ_of_le hle
      · rintro ds' O' ⟨⟨y, a1, a2, a3, a4, rfl⟩, rfl, hle⟩
        walk_at "DL"
        exact rt_new hp hq
theorem ok_runs_between (T : Tx K mg) : FnD P w K mg base 2 T.a_runs_between T.d_runs_between ["runs", "start", "end"] S_runs_between := by
  refine fn_D T.F_runs_between sc_runs_between (fun as O q e h => ?_) (fun cdv A outer s H E hr as O q e h => ?_)
  · obtain ⟨x, rs, s, e, rfl, _⟩ := h
    rfl
  · refine ⟨_, (dss_one (ds_ret (de_lc [("colour", 3), ("_", 4), ("count", 5)] rfl sc_runs_between.nd (di_seq (de_call (L2N.takes_of rfl rfl rfl rfl) (ok_cut_between T) hr T.g_cut_between T.F_cut_between.kp (bn_cut_between T) (da_cons (de_var 0) (da_cons (de_var 1) (da_cons (de_var 2) da_nil))))) (blkOk_by (N := ["runs", "start", "end", "colour", "_", "count"]) (sc := defScope s_runs_between) (by decide +kernel)) (fun _ _ _ _ _ => (dg_tup (n := 3) rfl (dg_cons (dg_name 3 sc_runs_between.nd) (dg_cons (dg_name 4 sc_runs_between.nd) (dg_cons (dg_name 5 sc_runs_between.nd) dg_nil))))) (fun _ _ _ _ _ => dts_nil) (fun _ _ _ _ _ => (de_tup (da_cons (de_var 3) (da_cons (de_var 5) da_nil))))))), ?_⟩

    obtain ⟨x, rs, s0, e0, rfl, hx, hl, hq⟩ := h
    have hlen := cutB_len (rowsOf rs) s0 e0
    rw [show (rowsOf rs).length = rs.length by simp [rowsOf]] at hlen
    try walk_at "DL"
    refine ⟨x, rowsOf rs, s0, e0, rfl, ?_, by simpa [rowsOf] using hl, ?_⟩
    · rw [rowsOf_eRw]
      exact hx
    try walk_at "DL"
    refine compX_mp eCt (cutB (rowsOf rs) s0 e0) ctR (szL (by omega)) (fun c hc R1 h1 => ?_) ?_
    · simp only [eCt]
      try walk_at "DL"
      exact ⟨by decide, h1⟩
    · rw [cutB_runs]
      exact rt_of hq
theorem ok_arc_runs (T : Tx K mg) : FnD P w K mg base 3 T.a_arc_runs T.d_arc_runs ["ring", "start", "length"] S_arc_runs := by
  refine fn_D T.F_arc_runs sc_arc_runs (fun as O q e h => ?_) (fun cdv A outer s H E hr as O q e h => ?_)
  · obtain ⟨x, rs, s, e, rfl, _⟩ := h
    rfl
  · refine ⟨_, (dss_one (ds_ret (de_call (L2N.takes_of rfl rfl rfl rfl) (ok_runs_between T) hr T.g_runs_between T.F_runs_between.kp (bn_runs_between T) (da_cons (de_add (de_var 0) (de_var 0)) (da_cons (de_var 1) (da_cons (de_add (de_var 1) (de_var 2)) da_nil)))))), ?_⟩

    obtain ⟨x, rs, s0, l0, rfl, hx, hl, hq⟩ := h
    rcases hx with rfl | rfl
    all_goals
      simp only [eS, eL]
      try walk_at "DL"
      refine ⟨by rw [List.length_map]; exact szE (by omega), ?_⟩
      rw [← List.map_append]
      try walk_at "DL"
      refine ⟨_, rs ++ rs, s0, s0 + l0, rfl, by first | exact .inl rfl | exact .inr rfl, by rw [List.length_append]; omega, ?_⟩
      exact rt_of hq
end
local macro_rules | `(tactic| walk_at "DL") => `(tactic| simp only [qssetA_ints, qSortDA, dStar, dDisp2, dFrzD, dLoadF, dItems, dRevLst, dDicN, dGet2, dLoad, dStore, qisx_non, qisx_obj, cx_K, dTryKeep, qIsiE, qIsiTE, clsD_ty, clsD_own, qmulC_int, dLc, dLc2, dEnumT, qSumT, dRange3, dChain3, isi_lt_non, isi_lt_bl, isi_lt_int, isi_lt_str, isi_lt_lst, isi_lt_tup, qn_bl, qe_bl, qis_ln, qis_tn, qis_bn, qsset_ints, qsorted_ints, qlistR, atK_last, stK_last, dWhile, qmaxL_ints, qminL_ints, qsl_lst, qsl_tup, qin_ints, qin_2, dEnum, dZip, qCountS, qSorted, eC_len, eC_app, eC_cut, strs_eC, cnt_D, dFor, dRange1, dRange2, dRet, dRetN, dSeq, dNext, dBreak, dCont, dDrop, dDic, dRevT, qisn_t, dIfS, dAsg, dPar, dPar3, dAug, dgName, dgNil, dgCons, dgTup, dgSub, dVar, dC, dCons, dNil, dCB, dOp, dUn, dAndV, dOrV, dNotV, dTru, dTst, dAnd, dOr, dNot, dIf, dTup, dLst, dSl, dNoPart, dPart, dChain, dYes, qTru, qix_lst, qix_tup, qix_eR, qix_scr, qix_str, qix_cellS, atK0, atK1, atK2, qIn, qadd_int, qadd_str, qadd_lst, qadd_tup, qmul_int, qmul_str, qmul_lst, qmul_tup, qInt, qSum, dMeth, qAppend, qCount, oset_same, oset_oset, rs_cellS, tyD_lst, tyD_str, qLen, qAbs, qMax2, qMin2, qIsi, qI0, qII, qNeg, dRaiseX, dCall, dCallK, rs_non, rs_bl, rs_int, rs_str, rs_lst, rs_tup, rs_scr, rs_obj, rs_eR, rs_eS, rs_eL, ty_non, ty_bl, ty_int, ty_str, ty_lst, ty_tup, ty_scr, ty_obj, startD, qe_int, qn_int, qe_ch, qn_ch, qe_chn, qe_chD, qe_chL, qn_chD, qn_chL, qisn_t, qisn_f, qis_t, qis_f, qis_nn, qisn_nn, qis_in, qisn_in, qis_sn, qisn_sn, dSeqI, dwipe, dLstO, intsOf_map, itemsIn, DL.listOf, strsOf, Option.bind_some, Option.map_some, atI0, atI1, atI2, true_and, and_true, decide_true, decide_false,
  List.map_cons, List.map_nil, List.length_cons, List.length_nil, List.replicate, List.cons_append, List.nil_append, Nat.reduceAdd, Nat.reduceSub, Nat.zero_add, Nat.sub_self, List.getElem?_cons_zero, List.getElem?_cons_succ, List.set_cons_succ, List.set_cons_zero, Bool.false_eq_true, if_true, if_false, reduceIte, Bool.not_true, Bool.not_false, kf_NoneType_int, kf_NoneType_str, kf_NoneType_bool, kf_NoneType_tuple, kf_NoneType_list, kf_NoneType_dict, kf_bool_int, kf_bool_str, kf_bool_bool, kf_bool_tuple, kf_bool_list, kf_bool_dict, kf_int_int, kf_int_str, kf_int_bool, kf_int_tuple, kf_int_list, kf_int_dict, kf_str_int, kf_str_str, kf_str_bool, kf_str_tuple, kf_str_list, kf_str_dict, kf_list_int, kf_list_str, kf_list_bool, kf_list_tuple, kf_list_list, kf_list_dict, kf_tuple_int, kf_tuple_str, kf_tuple_bool, kf_tuple_tuple, kf_tuple_list, kf_tuple_dict, kf_dict_int, kf_dict_str, kf_dict_bool, kf_dict_tuple, kf_dict_list, kf_dict_dict])
def eT (t : Tr) : D := .tup [.str (ch t.1), .str (ch t.2.1), .int t.2.2]
def S_side_by_side : DSp := fun as O q _ => ∃ x xs ys, as = [x, eL ys] ∧ (x = eS xs ∨ x = eL xs) ∧ Pos xs ∧ Pos ys ∧ beads xs = beads ys ∧ xs.length + ys.length ≤ 90000 ∧
  ∀ ts : List Tr, Sbs xs ys ts (beads xs) → ts.length ≤ xs.length + ys.length → q (.lst (ts.map eT)) O
/-- where the other row stands -/
structure At (ys : List Rn) (c : Int) (a : Nat) (used : Int) : Prop where
  le : a ≤ ys.length
  c : c = beads (ys.take a) + used
  u0 : 0 ≤ used
  u1 : ∀ r, ys[a]? = some r → used < r.2
  u2 : a = ys.length → used = 0
theorem at_split {ys : List Rn} {a : Nat} {r : Rn} (h : ys[a]? = some r) : ys = ys.take a ++ r :: ys.drop (a + 1) := by
  obtain ⟨l, e⟩ := List.getElem?_eq_some_iff.mp h
  rw [← e, ← List.drop_eq_getElem_cons l, List.take_append_drop]
theorem beads_take {ys : List Rn} {a : Nat} {r : Rn} (h : ys[a]? = some r) : beads (ys.take (a + 1)) = beads (ys.take a) + r.2 := by
  rw [take_next h, beads_app, beads_cons, beads_nil, Int.add_zero]
theorem pos_take {ys : List Rn} (h : Pos ys) (a : Nat) : Pos (ys.take a) := fun r hr => h r (List.mem_of_mem_take hr)
theorem gd_run {xs : List Rn} {i : Nat} {r : Rn} {c m : Int} (h : Pos xs) (hi : xs[i]? = some r) (l : beads (xs.take i) ≤ c) (u : c + m ≤ beads (xs.take i) + r.2) : ∀ t, 0 ≤ t → t ≤ m → gd xs (c + t) = gd xs c + if r.1 = true then t else 0 := fun t h0 h1 => by
  have e := at_split hi
  have q := gd_within (pre := xs.take i) (post := xs.drop (i + 1)) (r := r) (c := c) (m := m) (by rw [← e]; exact h) l u t h0 h1
  rw [← e] at q
  exact q
theorem beads_take_le {ys : List Rn} (h : Pos ys) (a : Nat) : beads (ys.take a) ≤ beads ys := by
  have e : ys = ys.take a ++ ys.drop a := (List.take_append_drop a ys).symm
  have p : Pos (ys.drop a) := fun r hr => h r (List.mem_of_mem_drop hr)
  have := beads_nn p
  have e2 := congrArg beads e
  rw [beads_app] at e2
  omega

section
variable {P : Program} {w : World} {K : PySem.W.Frag} {mg : Str → Option Value} {base : Heap}
theorem ok_side_by_side (T : Tx K mg) : FnD P w K mg base 1 T.a_side_by_side T.d_side_by_side ["runs", "others"] S_side_by_side := by
  refine fn_D T.F_side_by_side sc_side_by_side (fun as O q e h => ?_) (fun cdv A outer s H E hr as O q e h => ?_)
  · obtain ⟨x, xs, ys, rfl, _⟩ := h
    rfl
  · refine ⟨_, (dss_cons (ds_set 2 sc_side_by_side.nd (de_lstO da_nil))
    (dss_cons (ds_set 3 sc_side_by_side.nd de_int)
    (dss_cons (ds_set 4 sc_side_by_side.nd de_int)
    (dss_cons (ds_for (by passes_own) rfl (di_seq (de_var 0)) (dg_tup (n := 2) rfl (dg_cons (dg_name 5 sc_side_by_side.nd) (dg_cons (dg_name 6 sc_side_by_side.nd) dg_nil))) (dss_cons (ds_set 7 sc_side_by_side.nd (de_var 6))
    (dss_one (ds_while (by passes_own) (dt_gt (de_var 7) de_int) (dss_cons (ds_asg (de_ix (de_var 1) (de_var 3)) (dg_tup (n := 2) rfl (dg_cons (dg_name 8 sc_side_by_side.nd) (dg_cons (dg_name 9 sc_side_by_side.nd) dg_nil))))
    (dss_cons (ds_set 10 sc_side_by_side.nd (de_blt (call_min2 rfl) lc_min2 T.z_min (by decide +kernel) (da_cons (de_var 7) (da_cons (de_sub (de_var 9) (de_var 4)) da_nil))))
    (dss_cons (ds_expr (de_meth PySem.F.plainAttrs_list PySem.F.slot_list_append PySem.F.type_list_append mt_append lm_append (de_var 2) (da_cons (de_tup (da_cons (de_var 5) (da_cons (de_var 8) (da_cons (de_var 10) da_nil)))) da_nil)))
    (dss_cons (ds_aug 7 sc_side_by_side.nd (de_var 10) ip_sub lip_sub)
    (dss_cons (ds_aug 4 sc_side_by_side.nd (de_var 10) ip_add lip_add)
    (dss_one (ds_if (dt_eq hr (de_var 4) (de_var 9)) (dss_cons (ds_aug 3 sc_side_by_side.nd de_int ip_add lip_add)
    (dss_one (ds_set 4 sc_side_by_side.nd de_int))) dss_nil)))))))))))
    (dss_one (ds_ret (de_var 2))))))), ?_⟩

    obtain ⟨x, xs, ys, rfl, hx, px, py, hb, hlen, hq⟩ := h
    have hy : ∀ a : Nat, ∀ r, ys[a]? = some r → atI (ys.map eR) (a : Int) = some (eR r) := fun a r h => atI_int (by omega) (by rw [show ((a : Int)).toNat = a by omega, List.getElem?_map, h]; rfl)
    rcases hx with rfl | rfl
    all_goals
      simp only [eS, eL]
      try walk_at "DL"
      refine ⟨Nat.zero_le _, fun p hp => ?_⟩
      try walk_at "DL"
      refine loopX_map eR xs (fun (s : Unit) _ => s) (fun i _ ds' O' => ∃ y ts a used b1 b2 b3 b4 b5 b6, ds' = [some y, some (.lst (ys.map eR)), some (.opq (.ref p)), some (.int ((a : Nat) : Int)), some (.int used), b1, b2, b3, b4, b5, b6] ∧ O' = oset O p (.lst (ts.map eT)) ∧ Sbs xs ys ts (beads (xs.take i)) ∧ At ys (beads (xs.take i)) a used ∧ ts.length ≤ i + a) ()
        ⟨_, [], 0, 0, none, none, none, none, none, none, rfl, rfl, Sbs.nil px py, ⟨Nat.zero_le _, rfl, Int.le_refl _, fun r hr => py r (List.mem_of_getElem? hr), fun _ => rfl⟩, Nat.le_refl _⟩ ?_ ?_
      · rintro i _ ⟨u, n⟩ ds' O' hi ⟨y, ts, a, used, b1, b2, b3, b4, b5, b6, rfl, rfl, sb, at', hle⟩ R hR
        have hil : i < xs.length := (List.getElem?_eq_some_iff.mp hi).1
        have hn : 1 ≤ n := px (u, n) (List.mem_of_getElem? hi)
        have hx1 := at_split hi
        have hx2 := beads_take hi
        have hx3 := beads_take_le px (i + 1)
        dsimp only at hx2
        simp only [eR]
        try walk_at "DL"
        refine ⟨fun m ds' O' => ∃ ts a used left b4 b5 b6, m = left.toNat ∧ 0 ≤ left ∧ left ≤ n ∧ ds' = [some y, some (.lst (ys.map eR)), some (.opq (.ref p)), some (.int ((a : Nat) : Int)), some (.int used), some (.str (ch u)), some (.int n), some (.int left), b4, b5, b6] ∧ O' = oset O p (.lst (ts.map eT)) ∧ Sbs xs ys ts (beads (xs.take i) + (n - left)) ∧ At ys (beads (xs.take i) + (n - left)) a used ∧ ts.length ≤ i + a + (if left ≤ 0 then 1 else 0),
          ⟨_, ts, a, used, n, _, _, _, rfl, by omega, Int.le_refl _, rfl, rfl, by rw [show beads (xs.take i) + (n - n) = beads (xs.take i) by omega]; exact sb, by rw [show beads (xs.take i) + (n - n) = beads (xs.take i) by omega]; exact at', by omega⟩, ?_⟩
        rintro m ds' O' ⟨ts, a, used, left, b4, b5, b6, rfl, hl0, hl1, rfl, rfl, sb, at', hle⟩
        try walk_at "DL"
        by_cases hl : left > 0
        · rw [decide_eq_true hl]
          try walk_at "DL"
          have ha : a < ys.length := by
            rcases Nat.lt_or_ge a ys.length with z | z
            · exact z
            · have e1 : a = ys.length := Nat.le_antisymm at'.le z
              have e2 := at'.c
              rw [at'.u2 e1, e1, List.take_length] at e2
              omega
          obtain ⟨⟨v, on⟩, hr'⟩ : ∃ r, ys[a]? = some r := ⟨_, List.getElem?_eq_getElem ha⟩
          have hy1 := at_split hr'
          have hy2 := beads_take hr'
          have hu := at'.u1 _ hr'
          have hu0 := at'.u0
          have hc := at'.c
          dsimp only at hy2 hu
          rw [atK_of (hy a _ hr')]
          simp only [eR]
          try walk_at "DL"
          rw [if_neg (by omega)] at hle
          refine ⟨by decide, by rw [List.length_map]; exact szL (by omega), ?_⟩
          have hm : 1 ≤ min left (on - used) := by omega
          have sb2 := sb.snoc (u := u) (v := v) hm (gd_run px hi (by omega) (by dsimp only; omega)) (gd_run py hr' (by omega) (by dsimp only; omega))
          generalize hmm : min left (on - used) = m at *
          have e1 : beads (xs.take i) + (n - left) + m = beads (xs.take i) + (n - (left - m)) := by omega
          rw [e1] at sb2
          have app : (oset O p (.lst (ts.map eT ++ [D.tup [.str (ch u), .str (ch v), .int m]]))) = oset O p (.lst ((ts ++ [(u, v, m)]).map eT)) := by
            rw [List.map_append]
            rfl
          try walk_at "DL"
          by_cases hc2 : used + m = on
          · rw [decide_eq_true hc2]
            try walk_at "DL"
            rw [show ((a : Nat) : Int) + 1 = ((a + 1 : Nat) : Int) by omega]
            refine ⟨(left - m).toNat, by omega, ts ++ [(u, v, m)], a + 1, 0, left - m, _, _, _, rfl, by omega, by omega, rfl, app, sb2, ⟨by omega, by rw [hy2]; omega, Int.le_refl _, fun r hr => py r (List.mem_of_getElem? hr), fun _ => rfl⟩, by rw [List.length_append, List.length_singleton]; omega⟩
          · rw [decide_eq_false hc2]
            try walk_at "DL"
            refine ⟨(left - m).toNat, by omega, ts ++ [(u, v, m)], a, used + m, left - m, _, _, _, rfl, by omega, by omega, rfl, app, sb2, ⟨by omega, by omega, by omega, fun r hr => by
              rw [hr'] at hr
              cases hr
              dsimp only
              omega, fun z => by omega⟩, ?_⟩
            rw [List.length_append, List.length_singleton]
            split <;> omega
        · rw [decide_eq_false hl]
          try walk_at "DL"
          have e0 : left = 0 := by omega
          subst e0
          rw [show beads (xs.take i) + (n - 0) = beads (xs.take (i + 1)) by omega] at sb at'
          refine hR _ _ ⟨_, ts, a, used, _, _, _, _, _, _, rfl, rfl, sb, at', by rw [if_pos (by decide)] at hle; omega⟩
      · rintro ds' O' ⟨y, ts, a, used, b1, b2, b3, b4, b5, b6, rfl, rfl, sb, at', hle⟩
        rw [List.take_length] at sb
        try walk_at "DL"
        exact rt_new hp (hq ts sb (by have := at'.le; omega))
end
local macro_rules | `(tactic| walk_at "DL") => `(tactic| simp only [dLc, isi_lt_non, isi_lt_bl, isi_lt_int, isi_lt_str, isi_lt_lst, isi_lt_tup, qn_bl, qe_bl, qis_ln, qis_tn, qis_bn, qsset_ints, qsorted_ints, qlistR, atK_last, stK_last, dWhile, qmaxL_ints, qminL_ints, qsl_lst, qsl_tup, qin_ints, qin_2, dEnum, dZip, qCountS, qSorted, eC_len, eC_app, eC_cut, strs_eC, cnt_D, dFor, dRange1, dRange2, dRet, dRetN, dSeq, dNext, dBreak, dCont, dDrop, dDic, dRevT, qisn_t, dIfS, dAsg, dPar, dPar3, dAug, dgName, dgNil, dgCons, dgTup, dgSub, dVar, dC, dCons, dNil, dCB, dOp, dUn, dAndV, dOrV, dNotV, dTru, dTst, dAnd, dOr, dNot, dIf, dTup, dLst, dSl, dNoPart, dPart, dChain, dYes, qTru, qix_lst, qix_tup, qix_eR, qix_scr, qix_str, qix_cellS, atK0, atK1, atK2, qIn, qadd_int, qadd_str, qadd_lst, qadd_tup, qmul_int, qmul_str, qmul_lst, qmul_tup, qInt, qSum, dMeth, qAppend, qCount, oset_same, oset_oset, rs_cellS, tyD_lst, tyD_str, qLen, qAbs, qMax2, qMin2, qIsi, qI0, qII, qNeg, dRaiseX, dCall, dCallK, rs_non, rs_bl, rs_int, rs_str, rs_lst, rs_tup, rs_scr, rs_obj, rs_eR, rs_eS, rs_eL, ty_non, ty_bl, ty_int, ty_str, ty_lst, ty_tup, ty_scr, ty_obj, startD, qe_int, qn_int, qe_ch, qn_ch, qe_chn, qe_chD, qe_chL, qn_chD, qn_chL, qisn_t, qisn_f, qis_t, qis_f, qis_nn, qisn_nn, qis_in, qisn_in, qis_sn, qisn_sn, dSeqI, dwipe, dLstO, intsOf_map, itemsIn, DL.listOf, strsOf, Option.bind_some, Option.map_some, atI0, atI1, atI2, true_and, and_true, decide_true, decide_false,
  List.map_cons, List.map_nil, List.length_cons, List.length_nil, List.replicate, List.cons_append, List.nil_append, Nat.reduceAdd, Nat.reduceSub, Nat.zero_add, Nat.sub_self, List.getElem?_cons_zero, List.getElem?_cons_succ, List.set_cons_succ, List.set_cons_zero, Bool.false_eq_true, if_true, if_false, reduceIte, Bool.not_true, Bool.not_false, kf_NoneType_int, kf_NoneType_str, kf_NoneType_bool, kf_NoneType_tuple, kf_NoneType_list, kf_NoneType_dict, kf_bool_int, kf_bool_str, kf_bool_bool, kf_bool_tuple, kf_bool_list, kf_bool_dict, kf_int_int, kf_int_str, kf_int_bool, kf_int_tuple, kf_int_list, kf_int_dict, kf_str_int, kf_str_str, kf_str_bool, kf_str_tuple, kf_str_list, kf_str_dict, kf_list_int, kf_list_str, kf_list_bool, kf_list_tuple, kf_list_list, kf_list_dict, kf_tuple_int, kf_tuple_str, kf_tuple_bool, kf_tuple_tuple, kf_tuple_list, kf_tuple_dict, kf_dict_int, kf_dict_str, kf_dict_bool, kf_dict_tuple, kf_dict_list, kf_dict_dict])
theorem dSeq_hide {a b : DSr} {E : DEnds} {ds : Ds} {O : Ow} (h : ∀ N : Ds → Ow → Prop, N = b E → a { E with nx := N } ds O) : dSeq a b E ds O := h _ rfl
/-- a statement, told what it needs and what it leaves -/
theorem dSeq_mid {a b : DSr} {E : DEnds} {ds : Ds} {O : Ow} (De : Ds → Ow → Prop) (h1 : ∀ N : Ds → Ow → Prop, (∀ ds O, De ds O → N ds O) → a { E with nx := N } ds O) (h2 : ∀ ds O, De ds O → b E ds O) : dSeq a b E ds O := h1 _ h2

theorem atI3 {α : Type} {x y z u : α} {r : List α} : atI (x :: y :: z :: u :: r) 3 = some u := by
  unfold atI ixN
  rw [if_pos (by decide), if_pos (by rw [List.length_cons, List.length_cons, List.length_cons, List.length_cons]; omega)]
  rfl
theorem atI_mem {α : Type} {xs : List α} {i : Int} (h0 : 0 ≤ i) (h : i < xs.length) : ∃ x, x ∈ xs ∧ atI xs i = some x := by
  have l : i.toNat < xs.length := by omega
  exact ⟨xs[i.toNat], List.getElem_mem l, atI_int h0 (List.getElem?_eq_getElem l)⟩
/-- the draws' cell p, after at most n draws -/
def Src (O : Ow) (p : Addr) (n : Nat) : Prop := ∃ a b c, O p = some (.lst [.int a, .int b, .int c]) ∧ 0 ≤ a ∧ 0 ≤ b ∧ b < 2 ^ 150 ∧ 0 ≤ c ∧ c ≤ (n : Int)
/-- all else is kept -/
def Kp (O : Ow) (p : Addr) (O' : Ow) : Prop := ∀ b c, b ≠ p → O b = some c → O' b = some c
theorem Kp.refl {O : Ow} {p : Addr} : Kp O p O := fun _ _ _ h => h
theorem Kp.trans {O O' O2 : Ow} {p : Addr} (a : Kp O p O') (b : Kp O' p O2) : Kp O p O2 := fun x c n h => b x c n (a x c n h)
theorem Kp.set {O : Ow} {p : Addr} {c : OC} : Kp O p (oset O p c) := fun b c' n h => by
  rw [oset_ne n]
  exact h
theorem Kp.new {O O' : Ow} {p q : Addr} {c : OC} (k : Kp O p O') (h : O q = none) : Kp O p (oset O' q c) := fun b c' n e => by
  have ne : b ≠ q := fun z => by
    rw [z, h] at e
    cases e
  rw [oset_ne ne]
  exact k b c' n e
theorem Src.mono {O : Ow} {p : Addr} {n m : Nat} (h : Src O p n) (l : n ≤ m) : Src O p m := by
  obtain ⟨a, b, c, h1, h2, h3, h4, h5, h6⟩ := h
  exact ⟨a, b, c, h1, h2, h3, h4, h5, by omega⟩
theorem Src.ne {O : Ow} {p q : Addr} {n : Nat} (h : Src O p n) (hq : O q = none) : q ≠ p := fun z => by
  obtain ⟨a, b, c, h1, _⟩ := h
  rw [z, h1] at hq
  cases hq
theorem Src.new {O : Ow} {p q : Addr} {n : Nat} {c : OC} (h : Src O p n) (ne : q ≠ p) : Src (oset O q c) p n := by
  obtain ⟨a, b, c', h1, h2⟩ := h
  exact ⟨a, b, c', by rw [oset_ne (Ne.symm ne)]; exact h1, h2⟩
theorem bits_le {x : Int} {n : Nat} (h : x.natAbs < 2 ^ n) : Builtin.Int.intBits x ≤ n := intBits_le h
theorem pow_okW {x : Int} {k : Int} (h : x.natAbs < 2 ^ 1000) (h0 : 0 ≤ k) (hk : k ≤ 1000) : CPowW x k := by
  refine ⟨h0, ?_⟩
  have b := bits_le h
  have : (Builtin.Int.intBits x : Int) * k ≤ 1000 * 1000 := Int.mul_le_mul (by omega) hk h0 (by omega)
  omega
theorem abs_lt {x : Int} {n : Nat} (h0 : 0 ≤ x) (h : x < 2 ^ n) : x.natAbs < 2 ^ n := by
  have e : ((2 : Int) ^ n) = ((2 ^ n : Nat) : Int) := by rw [Int.natCast_pow]; rfl
  rw [e] at h
  omega

def S_law_cell : DSp := fun as O q _ => ∃ ns k, as = [.scr ns, .int k] ∧ 0 ≤ k ∧ ∀ c, q (.int c) O
def S_law_source : DSp := fun as O q _ => ∃ cell, as = [.int cell] ∧ ∀ p O', O p = none → Src O' p 0 → Sub O O' → q (.opq (.ref p)) O'
def S_law_draw : DSp := fun as O q _ => ∃ p bound n, as = [.opq (.ref p), .int bound] ∧ Src O p n ∧ n ≤ 1000000 ∧ 0 < bound ∧ bound < 2 ^ 500 ∧ ∀ r O', 0 ≤ r → r < bound → Src O' p (n + 1) → Kp O p O' → (∀ b, O b = none → O' b = none) → q (.int r) O'

theorem lt500 {x : Int} (h : x < 2 ^ 200) : x < 2 ^ 500 := Int.lt_of_lt_of_le h (by have e : ((2 ^ 200 : Nat) : Int) ≤ ((2 ^ 500 : Nat) : Int) := Int.ofNat_le.mpr (Nat.pow_le_pow_right (by decide) (by decide)); rw [Int.natCast_pow, Int.natCast_pow] at e; exact e)
/-- nothing but the draws moves, and new cells -/
def Mv (p : Addr) (O O' : Ow) : Prop := (∀ b c, b ≠ p → O b = some c → O' b = some c) ∧ ∀ b, O b = none → O' b = none
theorem Mv.refl {p : Addr} {O : Ow} : Mv p O O := ⟨fun _ _ _ h => h, fun _ h => h⟩
theorem Mv.trans {p : Addr} {O O1 O2 : Ow} (a : Mv p O O1) (b : Mv p O1 O2) : Mv p O O2 := ⟨fun x c n h => b.1 x c n (a.1 x c n h), fun x h => b.2 x (a.2 x h)⟩
theorem draw_ {O : Ow} {p : Addr} {n : Nat} {bound : Int} {q : DK} {e : Xc → Ow → Prop} (src : Src O p n) (hn : n ≤ 1000000) (hb : 0 < bound) (hb2 : bound < 2 ^ 200)
    (h : ∀ r O', 0 ≤ r → r < bound → Src O' p (n + 1) → Mv p O O' → q (.int r) O') : S_law_draw [.opq (.ref p), .int bound] O q e :=
  ⟨p, bound, n, rfl, src, hn, hb, lt500 hb2, fun r O' a b c d f => h r O' a b c ⟨d, f⟩⟩
theorem Mv.src {p b : Addr} {O O' : Ow} {c : OC} (m : Mv p O O') (ne : b ≠ p) (h : O b = some c) : O' b = some c := m.1 b c ne h
/-- a local cell beside the draws -/
structure Mc (p pf : Addr) (O O' : Ow) : Prop where
  keep : ∀ b c, b ≠ p → b ≠ pf → O b = some c → O' b = some c
  none : ∀ b, b ≠ pf → O b = none → O' b = none
theorem Mc.mv {p pf : Addr} {O O1 O2 : Ow} (a : Mc p pf O O1) (b : Mv p O1 O2) : Mc p pf O O2 := ⟨fun x c n n' h => b.1 x c n (a.keep x c n n' h), fun x n h => b.2 x (a.none x n h)⟩
theorem Mc.set {p pf : Addr} {O O1 : Ow} {c : OC} (a : Mc p pf O O1) : Mc p pf O (oset O1 pf c) := ⟨fun x c' n n' h => by
  rw [oset_ne n']
  exact a.keep x c' n n' h, fun x n h => by
  rw [oset_ne n]
  exact a.none x n h⟩
theorem Mc.del {p pf : Addr} {O O1 : Ow} (a : Mc p pf O O1) (h : O pf = .none) : Mv p O (odel O1 pf) := by
  refine ⟨fun x c n e => ?_, fun x e => ?_⟩
  · have n' : x ≠ pf := fun z => by
      rw [z, h] at e
      cases e
    unfold odel
    rw [if_neg n']
    exact a.keep x c n n' e
  · unfold odel
    by_cases z : x = pf
    · rw [if_pos z]
    · rw [if_neg z]
      exact a.none x z e
theorem odel_sub {O : Ow} {pf : Addr} : Sub (odel O pf) O := fun b c e => by
  unfold odel at e
  split at e
  · cases e
  · exact e
theorem Src.del {O : Ow} {p pf : Addr} {n : Nat} (h : Src O p n) (ne : pf ≠ p) : Src (odel O pf) p n := by
  obtain ⟨a, b, c', h1, h2⟩ := h
  refine ⟨a, b, c', ?_, h2⟩
  unfold odel
  rw [if_neg (Ne.symm ne)]
  exact h1
theorem app_lst {O : Ow} {p : Addr} {ys : List D} {y : D} {k : DK} (h : O p = some (.lst ys)) (l : ys.length < sizeLine) (hk : k .non (oset O p (.lst (ys ++ [y])))) : qAppend (.opq (.ref p)) [y] O k := by
  unfold qAppend
  simp only [h]
  exact ⟨l, hk⟩
theorem tup_cell {O : Ow} {p : Addr} {ys : List D} {k : DK} (h : O p = some (.lst ys)) (hk : k (.tup ys) O) : qTuple [.opq (.ref p)] O k := by
  unfold qTuple
  simp only [rs_cell h]
  exact hk
theorem pw10 {k : Int} (h0 : 0 ≤ k) (h1 : k ≤ 45) : CPowW 10 k := pow_okW (by decide) h0 (by omega)
theorem mulw {a b : Int} (h0 : 0 ≤ a) (h1 : a < 2 ^ 200) (h2 : 0 ≤ b) (h3 : b < 2 ^ 200) : CMulW a b := wide_mul (a := 200) (b := 200) (abs_lt h0 h1) (abs_lt h2 h3) (by decide) (by decide) (by decide)
theorem divw {a b : Int} (h0 : 0 < b) (h1 : b < 2 ^ 200) : CDivW a b := ⟨h0, Nat.lt_of_lt_of_le (PySem.Flt.log2_lt_of (by decide) (abs_lt (by omega) h1)) (by decide)⟩

section
variable {P : Program} {w : World} {K : PySem.W.Frag} {mg : Str → Option Value} {base : Heap}
theorem ok_law_cell (T : Tx K mg) : FnD P w K mg base 1 T.a_law_cell T.d_law_cell ["script", "k"] S_law_cell := by
  refine fn_D T.F_law_cell sc_law_cell (fun as O q e h => ?_) (fun cdv A outer s H E hr as O q e h => ?_)
  · obtain ⟨ns, k, rfl, _⟩ := h
    rfl
  · refine ⟨_, (dss_one (ds_ret (de_ifexp (dt_lt (de_var 1) (de_blt call_len lc_len T.z_len (by decide +kernel) (da_cons (de_var 0) da_nil))) (de_ix (de_var 0) (de_var 1)) de_int))), ?_⟩

    obtain ⟨ns, k, rfl, hk0, hq⟩ := h
    walk_at "DL"
    by_cases hlt : k < (ns.length : Int)
    · rw [decide_eq_true hlt]
      walk_at "DL"
      obtain ⟨n, _, hn⟩ := atI_mem (xs := ns) hk0 hlt
      rw [hn]
      exact rt_of (hq n)
    · rw [decide_eq_false hlt]
      walk_at "DL"
      exact rt_of (hq 0)
theorem ok_law_source (T : Tx K mg) : FnD P w K mg base 1 T.a_law_source T.d_law_source ["cell"] S_law_source := by
  refine fn_D T.F_law_source sc_law_source (fun as O q e h => ?_) (fun cdv A outer s H E hr as O q e h => ?_)
  · obtain ⟨c, rfl, _⟩ := h
    rfl
  · refine ⟨_, (dss_one (ds_ret (de_lstO (da_cons (de_blt (call_max2 rfl) lc_max2 T.z_max (by decide +kernel) (da_cons de_int (da_cons (de_sub (de_blt call_abs lc_abs T.z_abs (by decide +kernel) (da_cons (de_var 0) da_nil)) (de_pow de_int de_int)) da_nil))) (da_cons (de_mod (de_var 0) (de_add (de_pow de_int de_int) de_int)) (da_cons de_int da_nil)))))), ?_⟩

    obtain ⟨cell, rfl, hq⟩ := h
    have p18 : CPowW 10 18 := pow_okW (by decide) (by decide) (by decide)
    have p36 : CPowW 10 36 := pow_okW (by decide) (by decide) (by decide)
    have e36 : ((10 : Int) ^ (36 : Int).toNat) = 10 ^ 36 := rfl
    walk_at "DL"
    refine ⟨p18, p36, by rw [e36]; decide, by decide, fun p hp => rt_of (hq p _ hp ⟨_, _, _, oset_same, ?_, ?_, ?_, Int.le_refl _, Int.le_refl _⟩ (Sub.new hp))⟩
    · omega
    · have := Int.emod_nonneg cell (show (10 : Int) ^ 36 + 67 ≠ 0 by decide)
      rw [e36]
      omega
    · have h1 := Int.emod_lt_of_pos cell (show (0 : Int) < 10 ^ 36 + 67 by decide)
      rw [e36]
      have h2 : (10 : Int) ^ 36 + 67 < 2 ^ 150 := by decide
      omega
theorem ok_law_draw (T : Tx K mg) : FnD P w K mg base 1 T.a_law_draw T.d_law_draw ["source", "bound"] S_law_draw := by
  refine fn_D T.F_law_draw sc_law_draw (fun as O q e h => ?_) (fun cdv A outer s H E hr as O q e h => ?_)
  · obtain ⟨p, b, n, rfl, _⟩ := h
    rfl
  · refine ⟨_, (dss_cons (ds_if (dt_gt (de_ix (de_var 0) de_int) de_int) (dss_cons (ds_set 2 sc_law_draw.nd (de_mod (de_ix (de_var 0) de_int) (de_var 1)))
    (dss_cons (ds_asg (de_fdiv (de_ix (de_var 0) de_int) (de_var 1)) (dg_sub (de_var 0) de_int))
    (dss_one (ds_ret (de_var 2))))) dss_nil)
    (dss_cons (ds_asg (de_add (de_ix (de_var 0) de_int) de_int) (dg_sub (de_var 0) de_int))
    (dss_cons (ds_set 3 sc_law_draw.nd (de_mod (de_pow (de_add (de_add (de_ix (de_var 0) de_int) (de_mul de_int (de_ix (de_var 0) de_int))) de_int) de_int) (de_add (de_pow de_int de_int) de_int)))
    (dss_cons (ds_set 3 sc_law_draw.nd (de_mod (de_pow (de_add (de_var 3) (de_mul de_int (de_ix (de_var 0) de_int))) de_int) (de_add (de_pow de_int de_int) de_int)))
    (dss_one (ds_ret (de_mod (de_fdiv (de_var 3) de_int) (de_var 1)))))))), ?_⟩

    obtain ⟨p, bound, n, rfl, ⟨a, b, c, hp, ha, hb, hb2, hc, hcn⟩, hn, hb0, hb5, hq⟩ := h
    have dv : CDivW a bound := ⟨hb0, Nat.lt_of_lt_of_le (PySem.Flt.log2_lt_of (by decide) (abs_lt (by omega) hb5)) (by decide)⟩
    have nw : ∀ c' b', O b' = none → oset O p c' b' = none := fun c' b' h => by
      rw [oset_ne (fun z => by rw [z, hp] at h; cases h)]
      exact h
    have p43 : CPowW 10 43 := pow_okW (by decide) (by decide) (by decide)
    have p41 : CPowW 10 41 := pow_okW (by decide) (by decide) (by decide)
    have e43 : ((10 : Int) ^ (43 : Int).toNat) = 10 ^ 43 := rfl
    have e41 : ((10 : Int) ^ (41 : Int).toNat) = 10 ^ 41 := rfl
    have i2 : ixN 3 2 = some 2 := by decide
    have i0 : ixN 3 0 = some 0 := by decide
    walk_at "DL"
    simp only [qix_cell hp]
    walk_at "DL"
    by_cases h0 : 0 < a
    · rw [decide_eq_true h0]
      simp only [qix_cell hp, hp]
      walk_at "DL"
      simp only [qix_cell hp, hp]
      walk_at "DL"
      refine ⟨hb0, ?_⟩
      simp only [qix_cell hp, hp]
      walk_at "DL"
      refine ⟨dv, ?_⟩
      simp only [hp, List.length_cons, List.length_nil, Nat.zero_add, Nat.reduceAdd, i0, set0]
      exact rt_of (hq _ _ (Int.emod_nonneg _ (by omega)) (Int.emod_lt_of_pos _ hb0) ⟨a / bound, b, c, oset_same, Int.ediv_nonneg ha (by omega), hb, hb2, hc, by omega⟩ Kp.set (nw _))
    · rw [decide_eq_false h0]
      walk_at "DL"
      simp only [qix_cell hp]
      walk_at "DL"
      simp only [hp, List.length_cons, List.length_nil, Nat.zero_add, Nat.reduceAdd, i2, set2]
      walk_at "DL"
      have hc1 : 0 ≤ c + 1 ∧ c + 1 ≤ 1000001 := ⟨by omega, by omega⟩
      have k1 : (2 : Int) ^ 150 + 86028157 * 1000001 + 7 < 2 ^ 200 := by decide
      have k2 : (10 : Int) ^ 41 + 37 + 141650963 * 1000001 < 2 ^ 200 := by decide
      have b1 : 0 ≤ b + 86028157 * (c + 1) + 7 ∧ b + 86028157 * (c + 1) + 7 < 2 ^ 200 := ⟨by omega, by omega⟩
      have pw : ∀ x : Int, 0 ≤ x → x < 2 ^ 200 → CPowW x 3 := fun x h1 h2 => pow_okW (Nat.lt_of_lt_of_le (abs_lt h1 h2) (Nat.pow_le_pow_right (by decide) (by decide))) (by decide) (by decide)
      have mw : ∀ x : Int, 0 ≤ x → x < 2 ^ 40 → CMulW x (c + 1) := fun x h1 h2 => wide_mul (a := 40) (b := 40) (abs_lt h1 h2) (abs_lt hc1.1 (by omega)) (by decide) (by decide) (by decide)
      rw [e41, e43]
      generalize hm : (b + 86028157 * (c + 1) + 7) ^ (3 : Int).toNat % (10 ^ 41 + 37) = m
      have m1 : 0 ≤ m ∧ m < 10 ^ 41 + 37 := by
        rw [← hm]
        exact ⟨Int.emod_nonneg _ (by decide), Int.emod_lt_of_pos _ (by decide)⟩
      refine ⟨mw _ (by decide) (by decide), pw _ b1.1 b1.2, p41, by decide, mw _ (by decide) (by decide), pw _ (by omega) (by omega), p43, by decide, ⟨by decide, by decide +kernel⟩, hb0, ?_⟩
      exact rt_of (hq _ _ (Int.emod_nonneg _ (by omega)) (Int.emod_lt_of_pos _ hb0) ⟨a, b, c + 1, oset_same, ha, hb, hb2, by omega, by omega⟩ Kp.set (nw _))
end
local macro_rules | `(tactic| walk_at "DL") => `(tactic| simp only [qssetA_ints, qSortDA, dStar, dDisp2, dFrzD, dLoadF, dItems, dRevLst, dDicN, dGet2, dLoad, dStore, qisx_non, qisx_obj, cx_K, dTryKeep, qIsiE, qIsiTE, clsD_ty, clsD_own, qmulC_int, dLc, dLc2, dEnumT, qSumT, dRange3, dChain3, isi_lt_non, isi_lt_bl, isi_lt_int, isi_lt_str, isi_lt_lst, isi_lt_tup, qn_bl, qe_bl, qis_ln, qis_tn, qis_bn, qsset_ints, qsorted_ints, qlistR, atK_last, stK_last, dWhile, qmaxL_ints, qminL_ints, qsl_lst, qsl_tup, qin_ints, qin_2, dEnum, dZip, qCountS, qSorted, eC_len, eC_app, eC_cut, strs_eC, cnt_D, dFor, dRange1, dRange2, dRet, dRetN, dSeq, dNext, dBreak, dCont, dDrop, dDic, dRevT, qisn_t, dIfS, dAsg, dPar, dPar3, dAug, dgName, dgNil, dgCons, dgTup, dgSub, dVar, dC, dCons, dNil, dCB, dOp, dUn, dAndV, dOrV, dNotV, dTru, dTst, dAnd, dOr, dNot, dIf, dTup, dLst, dSl, dNoPart, dPart, dChain, dYes, qTru, qix_lst, qix_tup, qix_eR, qix_scr, qix_str, qix_cellS, atK0, atK1, atK2, qIn, qadd_int, qadd_str, qadd_lst, qadd_tup, qmul_int, qmul_str, qmul_lst, qmul_tup, qInt, qSum, dMeth, qAppend, qCount, oset_same, oset_oset, rs_cellS, tyD_lst, tyD_str, qLen, qAbs, qMax2, qMin2, qIsi, qI0, qII, qNeg, dRaiseX, dCall, dCallK, rs_non, rs_bl, rs_int, rs_str, rs_lst, rs_tup, rs_scr, rs_obj, rs_eR, rs_eS, rs_eL, ty_non, ty_bl, ty_int, ty_str, ty_lst, ty_tup, ty_scr, ty_obj, startD, qe_int, qn_int, qe_ch, qn_ch, qe_chn, qe_chD, qe_chL, qn_chD, qn_chL, qisn_t, qisn_f, qis_t, qis_f, qis_nn, qisn_nn, qis_in, qisn_in, qis_sn, qisn_sn, dSeqI, dwipe, dLstO, intsOf_map, itemsIn, DL.listOf, strsOf, Option.bind_some, Option.map_some, atI0, atI1, atI2, true_and, and_true, decide_true, decide_false,
  List.map_cons, List.map_nil, List.length_cons, List.length_nil, List.replicate, List.cons_append, List.nil_append, Nat.reduceAdd, Nat.reduceSub, Nat.zero_add, Nat.sub_self, List.getElem?_cons_zero, List.getElem?_cons_succ, List.set_cons_succ, List.set_cons_zero, Bool.false_eq_true, if_true, if_false, reduceIte, Bool.not_true, Bool.not_false, kf_NoneType_int, kf_NoneType_str, kf_NoneType_bool, kf_NoneType_tuple, kf_NoneType_list, kf_NoneType_dict, kf_bool_int, kf_bool_str, kf_bool_bool, kf_bool_tuple, kf_bool_list, kf_bool_dict, kf_int_int, kf_int_str, kf_int_bool, kf_int_tuple, kf_int_list, kf_int_dict, kf_str_int, kf_str_str, kf_str_bool, kf_str_tuple, kf_str_list, kf_str_dict, kf_list_int, kf_list_str, kf_list_bool, kf_list_tuple, kf_list_list, kf_list_dict, kf_tuple_int, kf_tuple_str, kf_tuple_bool, kf_tuple_tuple, kf_tuple_list, kf_tuple_dict, kf_dict_int, kf_dict_str, kf_dict_bool, kf_dict_tuple, kf_dict_list, kf_dict_dict])
theorem splitG {α : Type} {ys : List α} {a : Nat} {r : α} (h : ys[a]? = some r) : ys = ys.take a ++ r :: ys.drop (a + 1) := by
  obtain ⟨l, e⟩ := List.getElem?_eq_some_iff.mp h
  rw [← e, ← List.drop_eq_getElem_cons l, List.take_append_drop]
def eP (p : Pc) : D := .tup [.int p.1, .int p.2.1, .int p.2.2.1, .int p.2.2.2]
/-- a row with not too many and not too long runs -/
structure Rg (rs : List Rn) : Prop where
  pos : Pos rs
  ne : rs ≠ []
  len : rs.length ≤ 10000
  big : beads rs < 2 ^ 200
def S_pieces_of : DSp := fun as O q _ => ∃ x rs l, as = [x, .int l] ∧ (x = eS rs ∨ x = eL rs) ∧ Rg rs ∧ 0 ≤ l ∧ l ≤ beads rs ∧ ∀ ps, PcL rs l 0 ps (beads rs) → ps.length ≤ 3 * rs.length → q (.lst (ps.map eP)) O
structure Ext (rs : List Rn) (l lo hi : Int) : Prop where
  atLo : ∃ s, 0 ≤ s ∧ s < beads rs ∧ dd rs l s = lo
  atHi : ∃ s, 0 ≤ s ∧ s < beads rs ∧ dd rs l s = hi
  bds : ∀ s, 0 ≤ s → s < beads rs → lo ≤ dd rs l s ∧ dd rs l s ≤ hi
def S_extremes : DSp := fun as O q _ => ∃ x rs l, as = [x, .int l] ∧ (x = eS rs ∨ x = eL rs) ∧ Rg rs ∧ 0 ≤ l ∧ l ≤ beads rs ∧ ∀ lo hi, Ext rs l lo hi → q (.tup [.int lo, .int hi]) O
structure Least (rs : List Rn) (d L : Int) : Prop where
  r0 : 0 ≤ L
  r1 : L ≤ beads rs
  got : ∃ s, 0 ≤ s ∧ s < beads rs ∧ d ≤ dd rs L s
  no : ∀ l, 0 ≤ l → l < L → ∀ s, 0 ≤ s → s < beads rs → dd rs l s < d
def S_least_length : DSp := fun as O q _ => ∃ rs d, as = [eS rs, .int d] ∧ Rg rs ∧ d ≤ darks rs ∧ ∀ L, Least rs d L → q (.int L) O
theorem trA_take {ts : List Tr} {i : Nat} {t : Tr} (h : ts[i]? = some t) : beads (trA (ts.take (i + 1))) = beads (trA (ts.take i)) + t.2.2 := by
  rw [take_next h, trA_app, beads_app]
  show _ + beads [(t.1, t.2.2)] = _
  rw [beads_cons, beads_nil, Int.add_zero]
theorem Rg.b1 {rs : List Rn} (h : Rg rs) : 1 ≤ beads rs := beads_pos h.pos h.ne
theorem dd_full {rs : List Rn} (h : Pos rs) : dd rs (beads rs) 0 = darks rs := by
  have := (beads_nn h)
  unfold dd
  rw [Int.zero_add, gd2 h (Int.le_refl _), gd_all h (Int.le_refl _), gd_np (h.app h) (Int.le_refl 0), Int.sub_zero]
theorem dd_mono {rs : List Rn} (h : Pos rs) {l m s : Int} (hl : l ≤ m) : dd rs l s ≤ dd rs m s := by
  have := gd_mono (h.app h) (x := s + l) (y := s + m) (by omega)
  unfold dd
  omega
theorem ext_of {rs : List Rn} {l lo hi : Int} {ps : List Pc} (g : Rg rs) (h0 : 0 ≤ l) (h1 : l ≤ beads rs) (h : PcL rs l 0 ps (beads rs)) (hlo : lo ∈ ps.map (·.2.2.1)) (hhi : hi ∈ ps.map (·.2.2.1)) (lo2 : ∀ y ∈ ps.map (·.2.2.1), lo ≤ y) (hi2 : ∀ y ∈ ps.map (·.2.2.1), y ≤ hi) : Ext rs l lo hi := by
  obtain ⟨p1, m1, rfl⟩ := List.mem_map.mp hlo
  obtain ⟨p2, m2, rfl⟩ := List.mem_map.mp hhi
  have f1 := pcl_first h p1 m1
  have f2 := pcl_first h p2 m2
  have b1 := g.b1
  have ne : ps ≠ [] := fun z => by rw [z] at m1; cases m1
  have e : p1.2.2.1 ≤ dd rs l (beads rs) ∧ dd rs l (beads rs) ≤ p2.2.2.1 := by
    rw [dd_turn g.pos h0 h1]
    obtain ⟨p0, m0, a0, a1⟩ := pcl_find h 0 (Int.le_refl _) (by omega)
    have f0 := pcl_first h p0 m0
    have z : p0.1 = 0 := by omega
    rw [z] at f0
    rw [← f0.2.2.2.1]
    exact ⟨lo2 _ (List.mem_map_of_mem m0), hi2 _ (List.mem_map_of_mem m0)⟩
  refine ⟨⟨p1.1, f1.1, by omega, f1.2.2.2.1.symm⟩, ⟨p2.1, f2.1, by omega, f2.2.2.2.1.symm⟩, fun s s0 s1 => ?_⟩
  exact pcl_bds e h (fun p hp => ⟨lo2 _ (List.mem_map_of_mem hp), hi2 _ (List.mem_map_of_mem hp)⟩) s s0 (by omega)

section
variable {P : Program} {w : World} {K : PySem.W.Frag} {mg : Str → Option Value} {base : Heap}
theorem ok_pieces_of (T : Tx K mg) : FnD P w K mg base 4 T.a_pieces_of T.d_pieces_of ["runs", "length"] S_pieces_of := by
  refine fn_D T.F_pieces_of sc_pieces_of (fun as O q e h => ?_) (fun cdv A outer s H E hr as O q e h => ?_)
  · obtain ⟨x, rs, l, rfl, _⟩ := h
    rfl
  · refine ⟨_, (dss_cons (ds_set 2 sc_pieces_of.nd (de_lstO da_nil))
    (dss_cons (ds_set 3 sc_pieces_of.nd de_int)
    (dss_cons (ds_set 4 sc_pieces_of.nd (de_call (L2N.takes_of rfl rfl rfl rfl) (ok_total_dark T) hr T.g_total_dark T.F_total_dark.kp (bn_total_dark T) (da_cons (de_call (L2N.takes_of rfl rfl rfl rfl) (ok_arc_runs T) hr T.g_arc_runs T.F_arc_runs.kp (bn_arc_runs T) (da_cons (de_var 0) (da_cons de_int (da_cons (de_var 1) da_nil)))) da_nil)))
    (dss_cons (ds_set 5 sc_pieces_of.nd (de_call (L2N.takes_of rfl rfl rfl rfl) (ok_arc_runs T) hr T.g_arc_runs T.F_arc_runs.kp (bn_arc_runs T) (da_cons (de_var 0) (da_cons (de_var 1) (da_cons (de_call (L2N.takes_of rfl rfl rfl rfl) (ok_total_beads T) hr T.g_total_beads T.F_total_beads.kp (bn_total_beads T) (da_cons (de_var 0) da_nil)) da_nil)))))
    (dss_cons (ds_for (by passes_own) rfl (di_seq (de_call (L2N.takes_of rfl rfl rfl rfl) (ok_side_by_side T) hr T.g_side_by_side T.F_side_by_side.kp (bn_side_by_side T) (da_cons (de_var 0) (da_cons (de_var 5) da_nil)))) (dg_tup (n := 3) rfl (dg_cons (dg_name 6 sc_pieces_of.nd) (dg_cons (dg_name 7 sc_pieces_of.nd) (dg_cons (dg_name 8 sc_pieces_of.nd) dg_nil)))) (dss_cons (ds_set 9 sc_pieces_of.nd (de_sub (de_bty call_int1 lc_int T.z_int (by decide +kernel) (da_cons (de_eq hr (de_var 7) (de_glob (v := .str "D") (d := .str "D") T.g_DARK ⟨_, rfl⟩ (fun _ => .str _))) da_nil)) (de_bty call_int1 lc_int T.z_int (by decide +kernel) (da_cons (de_eq hr (de_var 6) (de_glob (v := .str "D") (d := .str "D") T.g_DARK ⟨_, rfl⟩ (fun _ => .str _))) da_nil))))
    (dss_cons (ds_expr (de_meth PySem.F.plainAttrs_list PySem.F.slot_list_append PySem.F.type_list_append mt_append lm_append (de_var 2) (da_cons (de_tup (da_cons (de_var 3) (da_cons (de_var 8) (da_cons (de_var 4) (da_cons (de_var 9) da_nil))))) da_nil)))
    (dss_cons (ds_aug 3 sc_pieces_of.nd (de_var 8) ip_add lip_add)
    (dss_one (ds_aug 4 sc_pieces_of.nd (de_mul (de_var 8) (de_var 9)) ip_add lip_add))))))
    (dss_one (ds_ret (de_var 2)))))))), ?_⟩

    obtain ⟨x, rs, l, rfl, hx, g, hl0, hl1, hq⟩ := h
    have px := g.pos
    have hlen := g.len
    have hbig := g.big
    have b1 := g.b1
    have a1 := ar_len rs 0 l
    have a2 := ar_len rs l (beads rs)
    try walk_at "DL"
    refine ⟨Nat.zero_le _, fun p hp => ?_⟩
    try walk_at "DL"
    refine ⟨x, rs, 0, l, rfl, hx, by omega, ?_⟩
    try walk_at "DL"
    refine ⟨_, ar rs 0 l, rfl, .inr rfl, by omega, ?_⟩
    try walk_at "DL"
    rw [ar_darks px (Int.le_refl 0) hl0 (by omega)]
    refine ⟨x, rs, rfl, hx, by omega, ?_⟩
    try walk_at "DL"
    refine ⟨x, rs, l, beads rs, rfl, hx, by omega, ?_⟩
    try walk_at "DL"
    refine ⟨x, rs, ar rs l (beads rs), rfl, hx, px, ar_pos px, (ar_beads px hl0 (by omega) (by omega)).symm, by omega, fun ts sb hts => ?_⟩
    try walk_at "DL"
    refine loopX_map eT ts (fun (s : Unit) _ => s) (fun i _ ds' O' => ∃ ps b1 b2 b3 b4, ds' = [some x, some (.int l), some (.opq (.ref p)), some (.int (beads (trA (ts.take i)))), some (.int (dd rs l (beads (trA (ts.take i))))), some (eL (ar rs l (beads rs))), b1, b2, b3, b4] ∧ O' = oset O p (.lst (ps.map eP)) ∧ PcL rs l 0 ps (beads (trA (ts.take i))) ∧ ps.length ≤ i) ()
      ⟨[], none, none, none, none, rfl, rfl, rfl, Nat.le_refl _⟩ ?_ ?_
    · rintro i _ ⟨u, v, n⟩ ds' O' hi ⟨ps, c1, c2, c3, c4, rfl, rfl, hps, hple⟩ R hR
      have hn : 1 ≤ n := sb.pos _ (List.mem_of_getElem? hi)
      have hil : i < ts.length := (List.getElem?_eq_some_iff.mp hi).1
      have t1 := trA_take hi
      have sp := splitG hi
      have nle : beads (trA (ts.take i)) + n ≤ beads rs := by
        have e : beads (trA ts) = beads (trA (ts.take i ++ (u, v, n) :: ts.drop (i + 1))) := congrArg (fun z => beads (trA z)) sp
        rw [sb.sum, trA_app, beads_app] at e
        have e : beads rs = beads (trA (ts.take i)) + beads ((u, n) :: trA (ts.drop (i + 1))) := e
        rw [beads_cons] at e
        have e : beads rs = beads (trA (ts.take i)) + (n + beads (trA (ts.drop (i + 1)))) := e
        have pp : Pos (trA (ts.drop (i + 1))) := trA_pos fun t ht => sb.pos t (List.mem_of_mem_drop ht)
        have := beads_nn pp
        omega
      have st0 : 0 ≤ beads (trA (ts.take i)) := by
        have := beads_nn (trA_pos fun t ht => sb.pos t (List.mem_of_mem_take (i := i) ht))
        omega
      have pa := fun (z : Int) (z0 : 0 ≤ z) (z1 : z ≤ n) => pc_at (x := z) px hl0 hl1 sb sp z0 z1
      try dsimp only at t1
      try dsimp only at pa
      simp only [eT]
      try walk_at "DL"
      refine ⟨by decide, by rw [List.length_map]; exact szL (by omega), ?_⟩
      have ms : CMulW n ((if v = true then 1 else 0) - (if u = true then 1 else 0)) := wide_mul (a := 200) (b := 20) (abs_lt (by omega) (by omega)) (by cases u <;> cases v <;> decide) (by decide) (by decide) (by decide)
      refine ⟨ms, ?_⟩
      rw [← pa n (by omega) (Int.le_refl _), ← t1]
      refine hR _ _ ⟨ps ++ [(beads (trA (ts.take i)), n, dd rs l (beads (trA (ts.take i))), (if v = true then 1 else 0) - (if u = true then 1 else 0))], _, _, _, _, rfl, ?_, ?_, by rw [List.length_append, List.length_singleton]; omega⟩
      · rw [List.map_append]
        rfl
      · rw [t1]
        exact pcl_snoc hps ⟨rfl, hn, rfl, by dsimp only; cases u <;> cases v <;> decide, by dsimp only; cases u <;> cases v <;> decide, fun t t0 t1 => pa t t0 t1⟩
    · rintro ds' O' ⟨ps, c1, c2, c3, c4, rfl, rfl, hps, hple⟩
      rw [List.take_length, sb.sum] at hps
      try walk_at "DL"
      exact rt_new hp (hq ps hps (by omega))
theorem ok_extremes (T : Tx K mg) : FnD P w K mg base 5 T.a_extremes T.d_extremes ["runs", "length"] S_extremes := by
  refine fn_D T.F_extremes sc_extremes (fun as O q e h => ?_) (fun cdv A outer s H E hr as O q e h => ?_)
  · obtain ⟨x, rs, l, rfl, _⟩ := h
    rfl
  · refine ⟨_, (dss_cons (ds_setLc 2 [("_", 3), ("dark", 4)] rfl sc_extremes.nd rfl rfl (sw_true rfl rfl rfl (by decide +kernel)) (di_seq (de_call (L2N.takes_of rfl rfl rfl rfl) (ok_pieces_of T) hr T.g_pieces_of T.F_pieces_of.kp (bn_pieces_of T) (da_cons (de_var 0) (da_cons (de_var 1) da_nil)))) (blkOk_by (N := ["runs", "length", "firsts", "_", "dark"]) (sc := defScope s_extremes) (by decide +kernel)) (fun _ _ _ _ _ => (dg_tup (n := 4) rfl (dg_cons (dg_name 3 sc_extremes.nd) (dg_cons (dg_name 3 sc_extremes.nd) (dg_cons (dg_name 4 sc_extremes.nd) (dg_cons (dg_name 3 sc_extremes.nd) dg_nil)))))) (fun _ _ _ _ _ => dts_nil) (fun _ _ _ _ _ => (de_var 4)))
    (dss_one (ds_ret (de_tup (da_cons (de_blt (cr_min rfl) lc_minL T.z_min (by decide +kernel) (da_cons (de_var 2) da_nil)) (da_cons (de_blt (cr_max rfl) lc_maxL T.z_max (by decide +kernel) (da_cons (de_var 2) da_nil)) da_nil)))))), ?_⟩

    obtain ⟨x, rs, l, rfl, hx, g, hl0, hl1, hq⟩ := h
    have hlen := g.len
    have b1 := g.b1
    try walk_at "DL"
    refine ⟨x, rs, l, rfl, hx, g, hl0, hl1, fun ps hps hpl => ?_⟩
    have ne : 0 < ps.length := by
      cases ps with
      | nil =>
        have hps : (0 : Int) = beads rs := hps
        omega
      | cons _ _ => exact Nat.succ_pos _
    try walk_at "DL"
    refine compX_mp eP ps (fun p => D.int p.2.2.1) (szL (by omega)) (fun p hp R1 h1 => ?_) ?_
    · simp only [eP]
      try walk_at "DL"
      exact h1
    rw [show ps.map (fun p => D.int p.2.2.1) = (ps.map (·.2.2.1)).map D.int by rw [List.map_map]; rfl]
    try walk_at "DL"
    refine ⟨by rw [List.length_map]; exact ne, fun lo hlo lo2 => ⟨by rw [List.length_map]; exact ne, fun hi hhi hi2 => ⟨by decide, ?_⟩⟩⟩
    exact rt_of (hq lo hi (ext_of g hl0 hl1 hps hlo hhi lo2 hi2))
theorem ok_least_length (T : Tx K mg) : FnD P w K mg base 6 T.a_least_length T.d_least_length ["ring", "dark"] S_least_length := by
  refine fn_D T.F_least_length sc_least_length (fun as O q e h => ?_) (fun cdv A outer s H E hr as O q e h => ?_)
  · obtain ⟨rs, d, rfl, _⟩ := h
    rfl
  · refine ⟨_, (dss_cons (ds_set 2 sc_least_length.nd de_int)
    (dss_cons (ds_set 3 sc_least_length.nd (de_call (L2N.takes_of rfl rfl rfl rfl) (ok_total_beads T) hr T.g_total_beads T.F_total_beads.kp (bn_total_beads T) (da_cons (de_var 0) da_nil)))
    (dss_cons (ds_while (by passes_own) (dt_lt (de_var 2) (de_var 3)) (dss_cons (ds_set 4 sc_least_length.nd (de_fdiv (de_add (de_var 2) (de_var 3)) de_int))
    (dss_cons (ds_asg (de_call (L2N.takes_of rfl rfl rfl rfl) (ok_extremes T) hr T.g_extremes T.F_extremes.kp (bn_extremes T) (da_cons (de_var 0) (da_cons (de_var 4) da_nil))) (dg_tup (n := 2) rfl (dg_cons (dg_name 5 sc_least_length.nd) (dg_cons (dg_name 6 sc_least_length.nd) dg_nil))))
    (dss_one (ds_if (dt_lt (de_var 6) (de_var 1)) (dss_one (ds_set 2 sc_least_length.nd (de_add (de_var 4) de_int))) (dss_one (ds_set 3 sc_least_length.nd (de_var 4))))))))
    (dss_one (ds_ret (de_var 2)))))), ?_⟩

    obtain ⟨rs, d, rfl, g, hd, hq⟩ := h
    have hlen := g.len
    have hbig := g.big
    have b1 := g.b1
    try walk_at "DL"
    refine ⟨_, rs, rfl, .inl rfl, by omega, ?_⟩
    try walk_at "DL"
    refine ⟨fun m ds' O' => ∃ lo hi b1 b2 b3, m = (hi - lo).toNat ∧ 0 ≤ lo ∧ lo ≤ hi ∧ hi ≤ beads rs ∧ ds' = [some (eS rs), some (.int d), some (.int lo), some (.int hi), b1, b2, b3] ∧ O' = O ∧ (∃ s, 0 ≤ s ∧ s < beads rs ∧ d ≤ dd rs hi s) ∧ (∀ l, 0 ≤ l → l < lo → ∀ s, 0 ≤ s → s < beads rs → dd rs l s < d),
      ⟨_, 0, beads rs, _, _, _, rfl, Int.le_refl _, by omega, Int.le_refl _, rfl, rfl, ⟨0, Int.le_refl _, by omega, by rw [dd_full g.pos]; exact hd⟩, fun l l0 l1 => by omega⟩, ?_⟩
    rintro m ds' O' ⟨lo, hi, c1, c2, c3, rfl, h0, h1, h2, rfl, rfl, got, no⟩
    try walk_at "DL"
    by_cases hlt : lo < hi
    · rw [decide_eq_true hlt]
      try walk_at "DL"
      have mid : lo ≤ (lo + hi) / 2 ∧ (lo + hi) / 2 < hi := by omega
      refine ⟨divw (by decide) (by decide), ?_⟩
      generalize (lo + hi) / 2 = mi at *
      try walk_at "DL"
      refine ⟨_, rs, mi, rfl, .inl rfl, g, by omega, by omega, fun elo ehi ex => ?_⟩
      try walk_at "DL"
      by_cases hc : ehi < d
      · rw [decide_eq_true hc]
        try walk_at "DL"
        refine ⟨(hi - (mi + 1)).toNat, by omega, mi + 1, hi, _, _, _, rfl, by omega, by omega, h2, rfl, got, fun l l0 l1 s s0 s1 => ?_⟩
        have := dd_mono g.pos (l := l) (m := mi) (s := s) (by omega)
        have := (ex.bds s s0 s1).2
        omega
      · rw [decide_eq_false hc]
        try walk_at "DL"
        refine ⟨(mi - lo).toNat, by omega, lo, mi, _, _, _, rfl, by omega, by omega, by omega, rfl, ?_, no⟩
        obtain ⟨s, s0, s1, e⟩ := ex.atHi
        exact ⟨s, s0, s1, by omega⟩
    · rw [decide_eq_false hlt]
      try walk_at "DL"
      have e : hi = lo := by omega
      subst e
      exact rt_of (hq hi ⟨h0, h2, got, no⟩)
end
local macro_rules | `(tactic| walk_at "DL") => `(tactic| simp only [dLc, isi_lt_non, isi_lt_bl, isi_lt_int, isi_lt_str, isi_lt_lst, isi_lt_tup, qn_bl, qe_bl, qis_ln, qis_tn, qis_bn, qsset_ints, qsorted_ints, qlistR, atK_last, stK_last, dWhile, qmaxL_ints, qminL_ints, qsl_lst, qsl_tup, qin_ints, qin_2, dEnum, dZip, qCountS, qSorted, eC_len, eC_app, eC_cut, strs_eC, cnt_D, dFor, dRange1, dRange2, dRet, dRetN, dSeq, dNext, dBreak, dCont, dDrop, dDic, dRevT, qisn_t, dIfS, dAsg, dPar, dPar3, dAug, dgName, dgNil, dgCons, dgTup, dgSub, dVar, dC, dCons, dNil, dCB, dOp, dUn, dAndV, dOrV, dNotV, dTru, dTst, dAnd, dOr, dNot, dIf, dTup, dLst, dSl, dNoPart, dPart, dChain, dYes, qTru, qix_lst, qix_tup, qix_eR, qix_scr, qix_str, qix_cellS, atK0, atK1, atK2, qIn, qadd_int, qadd_str, qadd_lst, qadd_tup, qmul_int, qmul_str, qmul_lst, qmul_tup, qInt, qSum, dMeth, qAppend, qCount, oset_same, oset_oset, rs_cellS, tyD_lst, tyD_str, qLen, qAbs, qMax2, qMin2, qIsi, qI0, qII, qNeg, dRaiseX, dCall, dCallK, rs_non, rs_bl, rs_int, rs_str, rs_lst, rs_tup, rs_scr, rs_obj, rs_eR, rs_eS, rs_eL, ty_non, ty_bl, ty_int, ty_str, ty_lst, ty_tup, ty_scr, ty_obj, startD, qe_int, qn_int, qe_ch, qn_ch, qe_chn, qe_chD, qe_chL, qn_chD, qn_chL, qisn_t, qisn_f, qis_t, qis_f, qis_nn, qisn_nn, qis_in, qisn_in, qis_sn, qisn_sn, dSeqI, dwipe, dLstO, intsOf_map, itemsIn, DL.listOf, strsOf, Option.bind_some, Option.map_some, atI0, atI1, atI2, true_and, and_true, decide_true, decide_false,
  List.map_cons, List.map_nil, List.length_cons, List.length_nil, List.replicate, List.cons_append, List.nil_append, Nat.reduceAdd, Nat.reduceSub, Nat.zero_add, Nat.sub_self, List.getElem?_cons_zero, List.getElem?_cons_succ, List.set_cons_succ, List.set_cons_zero, Bool.false_eq_true, if_true, if_false, reduceIte, Bool.not_true, Bool.not_false, kf_NoneType_int, kf_NoneType_str, kf_NoneType_bool, kf_NoneType_tuple, kf_NoneType_list, kf_NoneType_dict, kf_bool_int, kf_bool_str, kf_bool_bool, kf_bool_tuple, kf_bool_list, kf_bool_dict, kf_int_int, kf_int_str, kf_int_bool, kf_int_tuple, kf_int_list, kf_int_dict, kf_str_int, kf_str_str, kf_str_bool, kf_str_tuple, kf_str_list, kf_str_dict, kf_list_int, kf_list_str, kf_list_bool, kf_list_tuple, kf_list_list, kf_list_dict, kf_tuple_int, kf_tuple_str, kf_tuple_bool, kf_tuple_tuple, kf_tuple_list, kf_tuple_dict, kf_dict_int, kf_dict_str, kf_dict_bool, kf_dict_tuple, kf_dict_list, kf_dict_dict])
theorem goes_rs : ∀ (l : Option Bool) (xs : List D), goesD (l.map ch) xs = true → ∃ rs : List Rn, xs = rs.map eR ∧ (∀ r ∈ rs, 1 ≤ r.2) ∧ Alt rs ∧ ∀ a, rs.head? = some a → l ≠ some a.1
  | _, [], _ => ⟨[], rfl, (fun _ h => by cases h), trivial, (fun _ h => by cases h)⟩
  | l, x :: xs, h => by
    cases hx : isRunD x with
    | false =>
      rw [goes_no hx] at h
      cases h
    | true =>
      obtain ⟨b, n, rfl, hn⟩ := isRun_of hx
      rw [goes_eR, Bool.and_eq_true, Bool.and_eq_true] at h
      obtain ⟨⟨_, h2⟩, h3⟩ := h
      obtain ⟨rs, rfl, hp, ha, hh⟩ := goes_rs (some b) xs h3
      refine ⟨(b, n) :: rs, rfl, fun r hr => ?_, ?_, fun a e => ?_⟩
      · rcases List.mem_cons.mp hr with rfl | hr
        · exact hn
        · exact hp r hr
      · cases rs with
        | nil => trivial
        | cons c r => exact ⟨fun z => hh c rfl (congrArg some z), ha⟩
      · cases e
        intro z
        rw [z, decide_eq_true rfl] at h2
        cases h2
theorem strand_of {x : D} (h : isStrandD x = true) : ∃ rs, Vd rs ∧ x = eS rs := by
  cases x with
  | tup xs =>
    have h' : (!xs.isEmpty && goesD none xs) = true := h
    rw [Bool.and_eq_true] at h'
    obtain ⟨rs, rfl, hp, ha, _⟩ := goes_rs none xs h'.2
    refine ⟨rs, ⟨fun z => ?_, hp, ha⟩, rfl⟩
    subst z
    exact absurd h'.1 (by decide)
  | _ => cases h
theorem goes_alt : ∀ (l : Option Bool) (rs : List Rn), (∀ r ∈ rs, 1 ≤ r.2) → Alt rs → (∀ a, rs.head? = some a → l ≠ some a.1) → goesD (l.map ch) (rs.map eR) = true
  | _, [], _, _, _ => rfl
  | l, (b, n) :: rs, hp, ha, hh => by
    rw [List.map_cons, goes_eR, decide_eq_true (hp _ List.mem_cons_self), decide_eq_false (hh _ rfl), Bool.true_and]
    show (!false && _) = true
    rw [Bool.not_false, Bool.true_and]
    refine goes_alt (some b) rs (fun r hr => hp r (List.mem_cons_of_mem _ hr)) ?_ fun a e => ?_
    · cases rs with
      | nil => trivial
      | cons c r => exact ha.2
    · cases rs with
      | nil => cases e
      | cons c r =>
        cases e
        intro z
        exact ha.1 (Option.some.inj z)
theorem strand_yes {rs : List Rn} (v : Vd rs) : isStrandD (eS rs) = true := by
  show (!(rs.map eR).isEmpty && goesD none (rs.map eR)) = true
  rw [show goesD none (rs.map eR) = true from goes_alt none rs v.pos v.alt fun _ _ z => by cases z]
  cases rs with
  | nil => exact absurd rfl v.ne
  | cons _ _ => rfl
theorem ks_eS (rs : List Rn) : Ks (eS rs) := fun x hx => by
  obtain ⟨r, _, rfl⟩ := List.mem_map.mp hx
  exact ⟨trivial, trivial⟩

section
variable {K : PySem.W.Frag} {mg : Str → Option Value}
def S_dark_range (T : Tx K mg) : DSp := fun as O q e => ∃ x p, as = [x, p] ∧ Ks x ∧ Kn p ∧ (isStrandD x = false → e ⟨.ref T.c_InvalidStrand, none⟩ O) ∧ ∀ rs, Vd rs → x = eS rs → rs.length ≤ 10000 ∧ beads rs < 2 ^ 200 ∧
  ((¬ ∃ i, p = .int i ∧ 0 ≤ i ∧ i ≤ beads rs) → e ⟨.ref T.c_InvalidLength, none⟩ O) ∧ ∀ i, p = .int i → 0 ≤ i → i ≤ beads rs → ∀ lo hi, Ext rs i lo hi → q (.tup [.int lo, .int hi]) O
def S_length_range (T : Tx K mg) : DSp := fun as O q e => ∃ x p, as = [x, p] ∧ Ks x ∧ Kn p ∧ (isStrandD x = false → e ⟨.ref T.c_InvalidStrand, none⟩ O) ∧ ∀ rs, Vd rs → x = eS rs → rs.length ≤ 10000 ∧ beads rs < 2 ^ 200 ∧
  ((¬ ∃ i, p = .int i ∧ 0 ≤ i ∧ i ≤ darks rs) → e ⟨.ref T.c_InvalidDark, none⟩ O) ∧ ∀ i, p = .int i → 0 ≤ i → i ≤ darks rs → ∀ L M, Least rs i L → Least rs (darks rs - i) M → q (.tup [.int L, .int (beads rs - M)]) O
end

section
variable {P : Program} {w : World} {K : PySem.W.Frag} {mg : Str → Option Value} {base : Heap}
theorem ok_dark_range (T : Tx K mg) : FnD P w K mg base 6 T.a_dark_range T.d_dark_range ["ring", "length"] (S_dark_range T) := by
  refine fn_D T.F_dark_range sc_dark_range (fun as O q e h => ?_) (fun cdv A outer s H E hr as O q e h => ?_)
  · obtain ⟨x, p, rfl, _⟩ := h
    rfl
  · refine ⟨_, (dss_cons (ds_expr (de_call (L2N.takes_of rfl rfl rfl rfl) (ok_require_strand T) hr T.g_require_strand T.F_require_strand.kp (bn_require_strand T) (da_cons (de_var 0) da_nil)))
    (dss_cons (ds_expr (de_call (L2N.takes_of rfl rfl rfl rfl) (ok_require_length T) hr T.g_require_length T.F_require_length.kp (bn_require_length T) (da_cons (de_var 1) (da_cons (de_call (L2N.takes_of rfl rfl rfl rfl) (ok_total_beads T) hr T.g_total_beads T.F_total_beads.kp (bn_total_beads T) (da_cons (de_var 0) da_nil)) da_nil))))
    (dss_one (ds_ret (de_call (L2N.takes_of rfl rfl rfl rfl) (ok_extremes T) hr T.g_extremes T.F_extremes.kp (bn_extremes T) (da_cons (de_var 0) (da_cons (de_var 1) da_nil))))))), ?_⟩

    obtain ⟨x, p, rfl, hk, hkp, h1, h2⟩ := h
    try walk_at "DL"
    refine ⟨x, rfl, hk, fun hs => ?_, fun hs => ex_of (h1 hs)⟩
    obtain ⟨rs, v, rfl⟩ := strand_of hs
    obtain ⟨hlen, hbig, h3, h4⟩ := h2 rs v rfl
    try walk_at "DL"
    refine ⟨_, rs, rfl, .inl rfl, by omega, ?_⟩
    try walk_at "DL"
    refine ⟨p, beads rs, rfl, hkp, fun i hi a b => ?_, fun hn => ex_of (h3 hn)⟩
    subst hi
    try walk_at "DL"
    refine ⟨_, rs, i, rfl, .inl rfl, ⟨v.pos, v.ne, hlen, hbig⟩, a, b, fun lo hi he => ?_⟩
    exact rt_of (h4 i rfl a b lo hi he)
theorem ok_length_range (T : Tx K mg) : FnD P w K mg base 7 T.a_length_range T.d_length_range ["ring", "dark"] (S_length_range T) := by
  refine fn_D T.F_length_range sc_length_range (fun as O q e h => ?_) (fun cdv A outer s H E hr as O q e h => ?_)
  · obtain ⟨x, p, rfl, _⟩ := h
    rfl
  · refine ⟨_, (dss_cons (ds_expr (de_call (L2N.takes_of rfl rfl rfl rfl) (ok_require_strand T) hr T.g_require_strand T.F_require_strand.kp (bn_require_strand T) (da_cons (de_var 0) da_nil)))
    (dss_cons (ds_set 2 sc_length_range.nd (de_call (L2N.takes_of rfl rfl rfl rfl) (ok_total_dark T) hr T.g_total_dark T.F_total_dark.kp (bn_total_dark T) (da_cons (de_var 0) da_nil)))
    (dss_cons (ds_expr (de_call (L2N.takes_of rfl rfl rfl rfl) (ok_require_dark T) hr T.g_require_dark T.F_require_dark.kp (bn_require_dark T) (da_cons (de_var 1) (da_cons (de_var 2) da_nil))))
    (dss_one (ds_ret (de_tup (da_cons (de_call (L2N.takes_of rfl rfl rfl rfl) (ok_least_length T) hr T.g_least_length T.F_least_length.kp (bn_least_length T) (da_cons (de_var 0) (da_cons (de_var 1) da_nil))) (da_cons (de_sub (de_call (L2N.takes_of rfl rfl rfl rfl) (ok_total_beads T) hr T.g_total_beads T.F_total_beads.kp (bn_total_beads T) (da_cons (de_var 0) da_nil)) (de_call (L2N.takes_of rfl rfl rfl rfl) (ok_least_length T) hr T.g_least_length T.F_least_length.kp (bn_least_length T) (da_cons (de_var 0) (da_cons (de_sub (de_var 2) (de_var 1)) da_nil)))) da_nil)))))))), ?_⟩

    obtain ⟨x, p, rfl, hk, hkp, h1, h2⟩ := h
    try walk_at "DL"
    refine ⟨x, rfl, hk, fun hs => ?_, fun hs => ex_of (h1 hs)⟩
    obtain ⟨rs, v, rfl⟩ := strand_of hs
    obtain ⟨hlen, hbig, h3, h4⟩ := h2 rs v rfl
    try walk_at "DL"
    refine ⟨_, rs, rfl, .inl rfl, by omega, ?_⟩
    try walk_at "DL"
    refine ⟨p, darks rs, rfl, hkp, fun i hi a b => ?_, fun hn => ex_of (h3 hn)⟩
    subst hi
    have g : Rg rs := ⟨v.pos, v.ne, hlen, hbig⟩
    try walk_at "DL"
    refine ⟨rs, i, rfl, g, b, fun L hL => ?_⟩
    try walk_at "DL"
    refine ⟨_, rs, rfl, .inl rfl, by omega, ?_⟩
    try walk_at "DL"
    refine ⟨rs, darks rs - i, rfl, g, by omega, fun M hM => ?_⟩
    try walk_at "DL"
    exact ⟨by decide, rt_of (h4 i rfl a b L M hL hM)⟩
end
local macro_rules | `(tactic| walk_at "DL") => `(tactic| simp only [qssetA_ints, qSortDA, dStar, dDisp2, dFrzD, dLoadF, dItems, dRevLst, dDicN, dGet2, dLoad, dStore, qisx_non, qisx_obj, cx_K, dTryKeep, qIsiE, qIsiTE, clsD_ty, clsD_own, qmulC_int, dLc, dLc2, dEnumT, qSumT, dRange3, dChain3, isi_lt_non, isi_lt_bl, isi_lt_int, isi_lt_str, isi_lt_lst, isi_lt_tup, qn_bl, qe_bl, qis_ln, qis_tn, qis_bn, qsset_ints, qsorted_ints, qlistR, atK_last, stK_last, dWhile, qmaxL_ints, qminL_ints, qsl_lst, qsl_tup, qin_ints, qin_2, dEnum, dZip, qCountS, qSorted, eC_len, eC_app, eC_cut, strs_eC, cnt_D, dFor, dRange1, dRange2, dRet, dRetN, dSeq, dNext, dBreak, dCont, dDrop, dDic, dRevT, qisn_t, dIfS, dAsg, dPar, dPar3, dAug, dgName, dgNil, dgCons, dgTup, dgSub, dVar, dC, dCons, dNil, dCB, dOp, dUn, dAndV, dOrV, dNotV, dTru, dTst, dAnd, dOr, dNot, dIf, dTup, dLst, dSl, dNoPart, dPart, dChain, dYes, qTru, qix_lst, qix_tup, qix_eR, qix_scr, qix_str, qix_cellS, atK0, atK1, atK2, qIn, qadd_int, qadd_str, qadd_lst, qadd_tup, qmul_int, qmul_str, qmul_lst, qmul_tup, qInt, qSum, dMeth, qAppend, qCount, oset_same, oset_oset, rs_cellS, tyD_lst, tyD_str, qLen, qAbs, qMax2, qMin2, qIsi, qI0, qII, qNeg, dRaiseX, dCall, dCallK, rs_non, rs_bl, rs_int, rs_str, rs_lst, rs_tup, rs_scr, rs_obj, rs_eR, rs_eS, rs_eL, ty_non, ty_bl, ty_int, ty_str, ty_lst, ty_tup, ty_scr, ty_obj, startD, qe_int, qn_int, qe_ch, qn_ch, qe_chn, qe_chD, qe_chL, qn_chD, qn_chL, qisn_t, qisn_f, qis_t, qis_f, qis_nn, qisn_nn, qis_in, qisn_in, qis_sn, qisn_sn, dSeqI, dwipe, dLstO, intsOf_map, itemsIn, DL.listOf, strsOf, Option.bind_some, Option.map_some, atI0, atI1, atI2, true_and, and_true, decide_true, decide_false,
  List.map_cons, List.map_nil, List.length_cons, List.length_nil, List.replicate, List.cons_append, List.nil_append, Nat.reduceAdd, Nat.reduceSub, Nat.zero_add, Nat.sub_self, List.getElem?_cons_zero, List.getElem?_cons_succ, List.set_cons_succ, List.set_cons_zero, Bool.false_eq_true, if_true, if_false, reduceIte, Bool.not_true, Bool.not_false, kf_NoneType_int, kf_NoneType_str, kf_NoneType_bool, kf_NoneType_tuple, kf_NoneType_list, kf_NoneType_dict, kf_bool_int, kf_bool_str, kf_bool_bool, kf_bool_tuple, kf_bool_list, kf_bool_dict, kf_int_int, kf_int_str, kf_int_bool, kf_int_tuple, kf_int_list, kf_int_dict, kf_str_int, kf_str_str, kf_str_bool, kf_str_tuple, kf_str_list, kf_str_dict, kf_list_int, kf_list_str, kf_list_bool, kf_list_tuple, kf_list_list, kf_list_dict, kf_tuple_int, kf_tuple_str, kf_tuple_bool, kf_tuple_tuple, kf_tuple_list, kf_tuple_dict, kf_dict_int, kf_dict_str, kf_dict_bool, kf_dict_tuple, kf_dict_list, kf_dict_dict])
/-- not too large -/
structure Bd (rs : List Rn) : Prop where
  vd : Vd rs
  len : rs.length ≤ 60
  le : ∀ r ∈ rs, r.2 ≤ 10 ^ 35
theorem bd_beads {rs : List Rn} (b : Bd rs) : beads rs < 2 ^ 150 := by
  have a := beads_le (m := 10 ^ 35) (by decide) b.le
  have l := b.len
  have e : (rs.length : Int) * 10 ^ 35 ≤ 60 * 10 ^ 35 := Int.mul_le_mul_of_nonneg_right (by omega) (by decide)
  have f : (60 : Int) * 10 ^ 35 < 2 ^ 150 := by decide
  omega
theorem alt_snoc' : ∀ {x : List Rn} {r : Rn}, Alt x → (∀ a, x.getLast? = some a → a.1 ≠ r.1) → Alt (x ++ [r])
  | [], _, _, _ => trivial
  | [a], r, _, h => ⟨h a rfl, trivial⟩
  | a :: b :: x, r, h, g => ⟨h.1, alt_snoc' (x := b :: x) h.2 fun c e => g c (by rw [List.getLast?_cons_cons]; exact e)⟩
def col (t : Int) (i : Nat) : Bool := decide (((i : Int) + t) % 2 = 0)
theorem col_ne (t : Int) (i : Nat) : col t i ≠ col t (i + 1) := by
  unfold col
  intro h
  have h' := decide_eq_decide.mp h
  omega
theorem dl_len : (Str.ofString "DL").length ≤ sizeLine := by decide +kernel
theorem dl_col {t : Int} {i : Nat} {j : Int} (hj : j = ((i : Int) + t) % 2) : ∃ c, atI (Str.ofString "DL").cps.toList j = some c ∧ (⟨#[c]⟩ : Str) = ch (col t i) := by
  subst hj
  have e : ((i : Int) + t) % 2 = 0 ∨ ((i : Int) + t) % 2 = 1 := by omega
  have e0 : (Str.ofString "DL").cps.toList = [68, 76] := by decide +kernel
  unfold col
  rcases e with e | e
  · rw [e, e0, atI0, decide_eq_true rfl]
    exact ⟨_, rfl, by decide +kernel⟩
  · rw [e, e0, atI1, decide_eq_false (by decide)]
    exact ⟨_, rfl, by decide +kernel⟩
/-- counted from the front, as long as beads are left -/
theorem gd_left (r : Rn) (rs : List Rn) (x : Int) (h : Pos (r :: rs)) : gd (r :: rs) x = (if r.1 = true then max 0 (min r.2 x) else 0) + gd rs (x - max 0 (min r.2 x)) := by
  have h1 := h.hd
  rw [gd_cons]
  by_cases c : r.2 ≤ x
  · rw [show max 0 (min r.2 x) = r.2 by omega]
    split <;> omega
  · by_cases d : 0 ≤ x
    · rw [show max 0 (min r.2 x) = x by omega, gd_np h.tl (by omega : x - r.2 ≤ 0), gd_np h.tl (by omega : x - x ≤ 0)]
      split <;> omega
    · rw [show max 0 (min r.2 x) = 0 by omega, gd_np h.tl (by omega : x - r.2 ≤ 0), gd_np h.tl (by omega : x - 0 ≤ 0)]
      split <;> omega
theorem cut_upto {α : Type} {xs : List α} {b : Int} (h : 0 ≤ b) : cutL xs none (some b) = xs.take b.toNat := by
  obtain ⟨m, rfl⟩ : ∃ m : Nat, b = m := ⟨b.toNat, by omega⟩
  unfold cutL
  rw [HT.sIx_nat, HT.sIx_none, List.drop_zero, Nat.sub_zero, show ((m : Int)).toNat = m by omega]
  by_cases c : m ≤ xs.length
  · rw [Nat.min_eq_left c]
  · rw [Nat.min_eq_right (by omega), List.take_length, List.take_of_length_le (by omega)]

/-- where the runs begin -/
def edg : Int → List Rn → List Int
  | _, [] => []
  | b, r :: x => b :: edg (b + r.2) x
theorem edg_snoc : ∀ (x : List Rn) (b : Int) (r : Rn), edg b (x ++ [r]) = edg b x ++ [b + beads x]
  | [], b, r => by
    show [b] = [b + beads []]
    rw [beads_nil, Int.add_zero]
  | a :: x, b, r => by
    show b :: edg (b + a.2) (x ++ [r]) = b :: (edg (b + a.2) x ++ [b + beads (a :: x)])
    rw [edg_snoc x, beads_cons, ← Int.add_assoc]
theorem edg_len : ∀ (x : List Rn) (b : Int), (edg b x).length = x.length
  | [], _ => rfl
  | a :: x, b => by
    show (edg (b + a.2) x).length + 1 = x.length + 1
    rw [edg_len x]
theorem edg_bds : ∀ {x : List Rn} {b : Int}, Pos x → ∀ e ∈ edg b x, b ≤ e ∧ e < b + beads x
  | [], _, _, e, he => by cases he
  | r :: x, b, h, e, he => by
    have h1 := h.hd
    have h2 := beads_nn h.tl
    rw [beads_cons]
    rcases List.mem_cons.mp he with rfl | he
    · omega
    · have := edg_bds h.tl e he
      omega
theorem gd_same : ∀ {rs : List Rn} {b y : Int}, Pos rs → 0 < y → y < beads rs → (b + y) ∉ edg b rs → gd rs (y + 1) - gd rs y = gd rs y - gd rs (y - 1)
  | [], b, y, _, h0, h1, _ => by
    rw [beads_nil] at h1
    omega
  | r :: t, b, y, h, h0, h1, hn => by
    have hr := h.hd
    rw [beads_cons] at h1
    have hn2 : (b + y) ∉ edg (b + r.2) t := fun z => hn (List.mem_cons_of_mem _ z)
    rw [gd_cons, gd_cons, gd_cons]
    by_cases c : y < r.2
    · rw [gd_np h.tl (by omega : y + 1 - r.2 ≤ 0), gd_np h.tl (by omega : y - r.2 ≤ 0), gd_np h.tl (by omega : y - 1 - r.2 ≤ 0)]
      split <;> omega
    · by_cases c2 : y = r.2
      · cases t with
        | nil =>
          rw [beads_nil] at h1
          omega
        | cons a t =>
          exact absurd (show b + y ∈ (b + r.2) :: edg (b + r.2 + a.2) t by rw [c2]; exact List.mem_cons_self) hn2
      · have ih := gd_same (b := b + r.2) (y := y - r.2) h.tl (by omega) (by omega) (by rw [show b + r.2 + (y - r.2) = b + y by omega]; exact hn2)
        rw [show y + 1 - r.2 = y - r.2 + 1 by omega, show y - 1 - r.2 = y - r.2 - 1 by omega]
        split <;> omega
theorem edg_zero {rs : List Rn} (h : rs ≠ []) : (0 : Int) ∈ edg 0 rs := by
  cases rs with
  | nil => exact absurd rfl h
  | cons r x => exact List.mem_cons_self
theorem gd2_same {rs : List Rn} (h : Pos rs) (ne : rs ≠ []) {x : Int} (x0 : 0 < x) (x1 : x < 2 * beads rs) (hn : x % beads rs ∉ edg 0 rs) : gd (rs ++ rs) (x + 1) - gd (rs ++ rs) x = gd (rs ++ rs) x - gd (rs ++ rs) (x - 1) := by
  have b1 := beads_pos h ne
  by_cases c : x < beads rs
  · rw [Int.emod_eq_of_lt (by omega) c] at hn
    rw [gd2 h (x := x + 1) (by omega), gd2 h (x := x) (by omega), gd2 h (x := x - 1) (by omega)]
    exact gd_same (b := 0) h x0 c (by rw [Int.zero_add]; exact hn)
  · have e : x % beads rs = x - beads rs := by
      have q : x = (x - beads rs) + beads rs * 1 := by omega
      rw [q, Int.add_mul_emod_self_left, Int.emod_eq_of_lt (by omega) (by omega)]
      omega
    rw [e] at hn
    have p : 0 < x - beads rs := by
      by_cases z : x - beads rs = 0
      · rw [z] at hn
        exact absurd (edg_zero ne) hn
      · omega
    rw [gd2' h (x := x + 1) (by omega), gd2' h (x := x) (by omega), gd2' h (x := x - 1) (by omega)]
    have := gd_same (b := 0) (y := x - beads rs) h p (by omega) (by rw [Int.zero_add]; exact hn)
    rw [show x + 1 - beads rs = x - beads rs + 1 by omega, show x - 1 - beads rs = x - beads rs - 1 by omega]
    omega
/-- a place at which something begins or ends -/
def isBr (rs : List Rn) (l x : Int) : Prop := x ∈ edg 0 rs ∨ ∃ e ∈ edg 0 rs, x = (e - l) % beads rs
theorem dd_same {rs : List Rn} (h : Pos rs) (ne : rs ≠ []) {l s : Int} (l0 : 0 ≤ l) (l1 : l ≤ beads rs) (s0 : 0 < s) (s1 : s < beads rs) (hn : ¬ isBr rs l s) : dd rs l (s + 1) - dd rs l s = dd rs l s - dd rs l (s - 1) := by
  have a := gd2_same h ne (x := s) s0 (by omega) (by
    rw [Int.emod_eq_of_lt (by omega) s1]
    exact fun z => hn (.inl z))
  have b := gd2_same h ne (x := s + l) (by omega) (by omega) (fun z => hn (.inr ⟨_, z, by
    rw [Int.sub_emod, Int.emod_emod, ← Int.sub_emod, show s + l - l = s by omega, Int.emod_eq_of_lt (by omega) s1]⟩))
  unfold dd
  rw [show s + 1 + l = s + l + 1 by omega, show s - 1 + l = s + l - 1 by omega]
  omega
/-- what changes evenly between some places is greatest at one of them -/
theorem even_top {f : Int → Int} {n : Int} {B : Int → Prop} (hn : 0 < n) (h0 : B 0) (hf : f n = f 0) (ev : ∀ s, 0 < s → s < n → ¬ B s → f (s + 1) - f s = f s - f (s - 1)) : ∀ s, 0 ≤ s → s < n → ∃ b, 0 ≤ b ∧ b < n ∧ B b ∧ f s ≤ f b := by
  have up : ∀ (k : Nat) (s : Int), 0 ≤ s → s + k + 1 = n → f s ≤ f (s + 1) → ∃ b, 0 ≤ b ∧ b < n ∧ B b ∧ f s ≤ f b := by
    intro k
    induction k with
    | zero =>
      intro s s0 e le
      rw [show s + 1 = n by omega, hf] at le
      exact ⟨0, Int.le_refl _, hn, h0, le⟩
    | succ k ih =>
      intro s s0 e le
      by_cases c : B (s + 1)
      · exact ⟨s + 1, by omega, by omega, c, le⟩
      · have q := ev (s + 1) (by omega) (by omega) c
        rw [show s + 1 - 1 = s by omega] at q
        obtain ⟨b, b0, b1, b2, b3⟩ := ih (s + 1) (by omega) (by omega) (by omega)
        exact ⟨b, b0, b1, b2, by omega⟩
  have down : ∀ (k : Nat) (s : Int), s = k → s < n → f (s + 1) ≤ f s → ∃ b, 0 ≤ b ∧ b < n ∧ B b ∧ f s ≤ f b := by
    intro k
    induction k with
    | zero =>
      intro s e s1 le
      have e : s = 0 := e
      subst e
      exact ⟨0, Int.le_refl _, hn, h0, Int.le_refl _⟩
    | succ k ih =>
      intro s e s1 le
      by_cases c : B s
      · exact ⟨s, by omega, s1, c, Int.le_refl _⟩
      · have q := ev s (by omega) s1 c
        obtain ⟨b, b0, b1, b2, b3⟩ := ih (s - 1) (by omega) (by omega) (by rw [show s - 1 + 1 = s by omega]; omega)
        exact ⟨b, b0, b1, b2, by omega⟩
  intro s s0 s1
  by_cases c : f s ≤ f (s + 1)
  · exact up (n - s - 1).toNat s s0 (by omega) c
  · exact down s.toNat s (by omega) s1 (by omega)
/-- the least and the greatest among the breaks -/
theorem ext_breaks {rs : List Rn} (h : Pos rs) (ne : rs ≠ []) {l lo hi : Int} (l0 : 0 ≤ l) (l1 : l ≤ beads rs) {ns : List Int} (hns : ∀ j, j ∈ ns ↔ isBr rs l j) (hlo : lo ∈ ns.map (dd rs l)) (hhi : hi ∈ ns.map (dd rs l)) (lo2 : ∀ y ∈ ns.map (dd rs l), lo ≤ y) (hi2 : ∀ y ∈ ns.map (dd rs l), y ≤ hi) : Ext rs l lo hi := by
  have b1 := beads_pos h ne
  have inr : ∀ j, isBr rs l j → 0 ≤ j ∧ j < beads rs := fun j hj => by
    rcases hj with hj | ⟨e, he, rfl⟩
    · have := edg_bds h j hj
      omega
    · exact ⟨Int.emod_nonneg _ (by omega), Int.emod_lt_of_pos _ (by omega)⟩
  have z0 : isBr rs l 0 := .inl (edg_zero ne)
  obtain ⟨j, hj, rfl⟩ := List.mem_map.mp hlo
  obtain ⟨k, hk, rfl⟩ := List.mem_map.mp hhi
  have jr := inr j ((hns j).mp hj)
  have kr := inr k ((hns k).mp hk)
  refine ⟨⟨j, jr.1, jr.2, rfl⟩, ⟨k, kr.1, kr.2, rfl⟩, fun s s0 s1 => ?_⟩
  obtain ⟨b, b0, b1', b2, b3⟩ := even_top (f := dd rs l) (by omega) z0 (dd_turn h l0 l1) (fun s s0 s1 hb => dd_same h ne l0 l1 s0 s1 hb) s s0 s1
  obtain ⟨c, c0, c1, c2, c3⟩ := even_top (f := fun x => - dd rs l x) (by omega) z0 (by rw [dd_turn h l0 l1]) (fun s s0 s1 hb => by have := dd_same h ne l0 l1 s0 s1 hb; omega) s s0 s1
  have p := hi2 _ (List.mem_map_of_mem ((hns b).mpr b2))
  have q := lo2 _ (List.mem_map_of_mem ((hns c).mpr c2))
  omega
theorem mulw_bit {m : Int} {c : Bool} (h0 : 0 ≤ m) (h : m < 2 ^ 200) : CMulW m (if c = true then 1 else 0) := by
  cases c
  · exact wide_mul (a := 200) (b := 20) (abs_lt h0 h) (by decide) (by decide) (by decide) (by decide)
  · exact wide_mul (a := 200) (b := 20) (abs_lt h0 h) (by decide) (by decide) (by decide) (by decide)
theorem mul_bit' {m : Int} {c : Bool} : m * (if c = true then 1 else 0) = if c = true then m else 0 := by
  cases c
  · rw [if_neg (by decide), if_neg (by decide), Int.mul_zero]
  · rw [if_pos rfl, if_pos rfl, Int.mul_one]
theorem fold_snoc' {α : Type} : ∀ (x acc : List α), x.foldl (fun s r => s ++ [r]) acc = acc ++ x
  | [], acc => by
    rw [List.append_nil]
    rfl
  | a :: x, acc => by
    rw [List.foldl_cons, fold_snoc' x, List.append_assoc]
    rfl
def S_law_line : DSp := fun as O q _ => ∃ p most wide n, as = [.opq (.ref p), .int most, .int wide] ∧ Src O p n ∧ n ≤ 700000 ∧ 1 ≤ most ∧ most ≤ 30 ∧ 1 ≤ wide ∧ wide ≤ 10 ^ 33 ∧ ∀ rs O', Bd rs → (∀ r ∈ rs, r.2 ≤ 10 ^ 33) → (rs.length : Int) ≤ most → Src O' p (n + 130) → Mv p O O' → q (eS rs) O'
def S_law_amount : DSp := fun as O q _ => ∃ rs, as = [eS rs] ∧ rs.length ≤ 100000 ∧ q (.int (beads rs)) O
def S_law_dark : DSp := fun as O q _ => ∃ rs x, as = [eS rs, .int x] ∧ Pos rs ∧ rs.length ≤ 100000 ∧ (∀ r ∈ rs, r.2 < 2 ^ 200) ∧ q (.int (gd rs x)) O
def S_law_edges : DSp := fun as O q _ => ∃ rs, as = [eS rs] ∧ rs.length ≤ 100000 ∧ q (.lst ((edg 0 rs).map D.int)) O
def S_law_arc : DSp := fun as O q _ => ∃ rs s l, as = [eS rs, .int s, .int l] ∧ Pos rs ∧ rs.length ≤ 100000 ∧ (∀ r ∈ rs, r.2 < 2 ^ 200) ∧ 0 ≤ s ∧ s ≤ beads rs ∧ 0 ≤ l ∧ l ≤ beads rs ∧ q (.int (dd rs l s)) O
def S_law_breaks : DSp := fun as O q _ => ∃ rs l, as = [eS rs, .int l] ∧ Pos rs ∧ rs ≠ [] ∧ rs.length ≤ 64 ∧ ∀ ns : List Int, ns.Pairwise (· < ·) → (∀ j, j ∈ ns ↔ isBr rs l j) → ns.length ≤ 128 → q (.lst (ns.map D.int)) O
def S_law_low_high : DSp := fun as O q _ => ∃ rs l, as = [eS rs, .int l] ∧ Pos rs ∧ rs ≠ [] ∧ rs.length ≤ 64 ∧ (∀ r ∈ rs, r.2 < 2 ^ 200) ∧ 0 ≤ l ∧ l ≤ beads rs ∧ ∀ lo hi, Ext rs l lo hi → q (.tup [.int lo, .int hi]) O
def S_law_size : DSp := fun as O q _ => ∃ p rs n, as = [.opq (.ref p), eS rs] ∧ Src O p n ∧ n ≤ 800000 ∧ Bd rs ∧ ∀ r O', 0 ≤ r → r ≤ beads rs → Src O' p (n + 5) → Mv p O O' → q (.int r) O'
def S_law_near : DSp := fun as O q _ => ∃ p rs l n, as = [.opq (.ref p), eS rs, .int l] ∧ Src O p n ∧ n ≤ 800000 ∧ Bd rs ∧ rs.length ≤ 31 ∧ 0 ≤ l ∧ l ≤ beads rs ∧ ∀ r O', 0 ≤ r → r ≤ beads rs + 1 → Src O' p (n + 3) → Mv p O O' → q (.int r) O'
theorem asc_len : ∀ {ns ms : List Int}, ns.Pairwise (· < ·) → (∀ j, j ∈ ns → j ∈ ms) → ns.length ≤ ms.length
  | [], _, _, _ => Nat.zero_le _
  | x :: ns, ms, h, m => by
    rw [List.pairwise_cons] at h
    have hx := m x List.mem_cons_self
    have ih := asc_len (ms := ms.erase x) h.2 fun j hj => (List.mem_erase_of_ne (by have := h.1 j hj; omega)).mpr (m j (List.mem_cons_of_mem _ hj))
    rw [List.length_erase_of_mem hx] at ih
    have := List.length_pos_of_mem hx
    rw [List.length_cons]
    omega

section
variable {P : Program} {w : World} {K : PySem.W.Frag} {mg : Str → Option Value} {base : Heap}
theorem ok_law_line (T : Tx K mg) : FnD P w K mg base 2 T.a_law_line T.d_law_line ["source", "most", "wide"] S_law_line := by
  refine fn_D T.F_law_line sc_law_line (fun as O q e h => ?_) (fun cdv A outer s H E hr as O q e h => ?_)
  · obtain ⟨p, m, w, n, rfl, _⟩ := h
    rfl
  · refine ⟨_, (dss_cons (ds_par 3 4 sc_law_line.nd (da_cons (de_call (L2N.takes_of rfl rfl rfl rfl) (ok_law_draw T) hr T.g_law_draw T.F_law_draw.kp (bn_law_draw T) (da_cons (de_var 0) (da_cons de_int da_nil))) (da_cons (de_lstO da_nil) da_nil)) (fun h => ps_par rfl sc_law_line.nd rfl rfl (by decide) rfl rfl h rfl))
    (dss_cons (ds_for (by passes_own) rfl (di_range1 T.z_range (da_cons (de_add de_int (de_call (L2N.takes_of rfl rfl rfl rfl) (ok_law_draw T) hr T.g_law_draw T.F_law_draw.kp (bn_law_draw T) (da_cons (de_var 0) (da_cons (de_var 1) da_nil)))) da_nil) (fun h => pi_range1 rfl T.z_range h)) (dg_name 5 sc_law_line.nd) (dss_cons (ds_set 6 sc_law_line.nd (de_ix (de_lst (da_cons (de_add de_int (de_call (L2N.takes_of rfl rfl rfl rfl) (ok_law_draw T) hr T.g_law_draw T.F_law_draw.kp (bn_law_draw T) (da_cons (de_var 0) (da_cons de_int da_nil)))) (da_cons (de_add de_int (de_call (L2N.takes_of rfl rfl rfl rfl) (ok_law_draw T) hr T.g_law_draw T.F_law_draw.kp (bn_law_draw T) (da_cons (de_var 0) (da_cons de_int da_nil)))) (da_cons (de_add de_int (de_call (L2N.takes_of rfl rfl rfl rfl) (ok_law_draw T) hr T.g_law_draw T.F_law_draw.kp (bn_law_draw T) (da_cons (de_var 0) (da_cons (de_var 2) da_nil)))) da_nil)))) (de_call (L2N.takes_of rfl rfl rfl rfl) (ok_law_draw T) hr T.g_law_draw T.F_law_draw.kp (bn_law_draw T) (da_cons (de_var 0) (da_cons de_int da_nil)))))
    (dss_one (ds_expr (de_meth PySem.F.plainAttrs_list PySem.F.slot_list_append PySem.F.type_list_append mt_append lm_append (de_var 4) (da_cons (de_tup (da_cons (de_ix de_str (de_mod (de_add (de_var 3) (de_var 5)) de_int)) (da_cons (de_var 6) da_nil))) da_nil))))))
    (dss_one (ds_ret (de_bty call_tuple_of lc_tuple T.z_tuple (by decide +kernel) (da_cons (de_var 4) da_nil)))))), ?_⟩

    obtain ⟨p, most, wide, n, rfl, src, hn, hm0, hm1, hw0, hw1, hq⟩ := h
    have t33 : (10 : Int) ^ 33 < 2 ^ 200 := by decide
    try walk_at "DL"
    refine draw_ src (by omega) (by decide) (by decide) fun t O1 ht0 ht1 src1 mv1 => ?_
    try walk_at "DL"
    refine ⟨by decide, fun pf hpf => ?_⟩
    have nepf : pf ≠ p := src1.ne hpf
    try walk_at "DL"
    refine draw_ (src1.new nepf) (by omega) (by omega) (by omega) fun r O2 hr0 hr1 src2 mv2 => ?_
    try walk_at "DL"
    refine ⟨by omega, by omega, ?_⟩
    have mc2 : Mc p pf O1 O2 := Mc.mv (Mc.set ⟨fun _ _ _ _ h => h, fun _ _ h => h⟩) mv2
    have cell2 : O2 pf = some (.lst []) := mv2.src nepf oset_same
    refine loopX_rng (1 + r).toNat (fun i ds' O' => ∃ rs a b, ds' = [some (.opq (.ref p)), some (.int most), some (.int wide), some (.int t), some (.opq (.ref pf)), a, b] ∧ rs.length = i ∧ Pos rs ∧ Alt rs ∧ (∀ a, rs.getLast? = some a → a.1 ≠ col t i) ∧ (∀ r ∈ rs, r.2 ≤ 10 ^ 33) ∧ Src O' p (n + 2 + 4 * i) ∧ O' pf = some (.lst (rs.map eR)) ∧ Mc p pf O1 O')
      ⟨[], none, none, rfl, rfl, (fun _ h => by cases h), trivial, (fun _ h => by cases h), (fun _ h => by cases h), src2, cell2, mc2⟩ ?_ ?_
    · rintro i ds' O' hi ⟨rs, a, b, rfl, hl, hp, ha, hlast, hle, srcI, cellI, mcI⟩ R hR
      try walk_at "DL"
      refine draw_ srcI (by omega) (by decide) (by decide) fun d1 O4 h10 h11 src4 mv4 => ?_
      try walk_at "DL"
      refine draw_ src4 (by omega) (by decide) (by decide) fun d2 O5 h20 h21 src5 mv5 => ?_
      try walk_at "DL"
      refine draw_ src5 (by omega) (by omega) (by omega) fun d3 O6 h30 h31 src6 mv6 => ?_
      try walk_at "DL"
      refine ⟨by decide, draw_ src6 (by omega) (by decide) (by decide) fun d4 O7 h40 h41 src7 mv7 => ?_⟩
      try walk_at "DL"
      refine atN (fun x => ∃ v, x = .int v ∧ 1 ≤ v ∧ v ≤ 10 ^ 33) h40 h41 ?_ ?_
      · intro x hx
        rcases List.mem_cons.mp hx with rfl | hx
        · exact ⟨_, rfl, by omega, by omega⟩
        rcases List.mem_cons.mp hx with rfl | hx
        · exact ⟨_, rfl, by omega, by omega⟩
        rw [List.mem_singleton.mp hx]
        exact ⟨_, rfl, by omega, by omega⟩
      rintro x ⟨v, rfl, hv0, hv1⟩
      try walk_at "DL"
      have cell7 := mv7.src nepf (mv6.src nepf (mv5.src nepf (mv4.src nepf cellI)))
      obtain ⟨c, hc, ec⟩ := dl_col (t := t) (i := i) (j := (t + (i : Int)) % 2) (by rw [Int.add_comm])
      rw [rs_cell cell7, hc]
      refine ⟨rfl, by decide, dl_len, ?_⟩
      dsimp only
      rw [cell7, ec]
      refine ⟨by decide, by rw [List.length_map]; exact szL (by omega), ?_⟩
      refine hR _ _ ⟨rs ++ [(col t i, v)], _, _, rfl, by rw [List.length_append, hl]; rfl, hp.app (fun r hr => by rw [List.mem_singleton.mp hr]; exact hv0), alt_snoc' ha hlast, ?_, ?_, (src7.new nepf).mono (by omega), ?_, ((((mcI.mv mv4).mv mv5).mv mv6).mv mv7).set⟩
      · intro a' ea
        rw [List.getLast?_concat] at ea
        cases ea
        exact col_ne t i
      · intro r hr
        rcases List.mem_append.mp hr with hr | hr
        · exact hle r hr
        · rw [List.mem_singleton.mp hr]
          exact hv1
      · rw [oset_same, List.map_append]
        rfl
    · rintro ds' O' ⟨rs, a, b, rfl, hl, hp, ha, hlast, hle, srcI, cellI, mcI⟩
      try walk_at "DL"
      refine tup_cell cellI ?_
      refine rt_sub (hq rs (odel O' pf) ⟨⟨fun z => ?_, hp, ha⟩, by omega, fun r hr => Int.le_trans (hle r hr) (by decide)⟩ hle (by omega) ((srcI.del nepf).mono (by omega)) (mv1.trans (mcI.del hpf))) odel_sub
      rw [z] at hl
      have hl' : 0 = (1 + r).toNat := hl
      omega
theorem ok_law_amount (T : Tx K mg) : FnD P w K mg base 1 T.a_law_amount T.d_law_amount ["line"] S_law_amount := by
  refine fn_D T.F_law_amount sc_law_amount (fun as O q e h => ?_) (fun cdv A outer s H E hr as O q e h => ?_)
  · obtain ⟨rs, rfl, _⟩ := h
    rfl
  · refine ⟨_, (dss_one (ds_ret (de_blt (cr_sum rfl) lc_sum T.z_sum (by decide +kernel) (da_cons (de_lc [("side", 1), ("many", 2)] rfl sc_law_amount.nd (di_seq (de_var 0)) (blkOk_by (N := ["line", "side", "many"]) (sc := defScope s_law_amount) (by decide +kernel)) (fun _ _ _ _ _ => (dg_tup (n := 2) rfl (dg_cons (dg_name 1 sc_law_amount.nd) (dg_cons (dg_name 2 sc_law_amount.nd) dg_nil)))) (fun _ _ _ _ _ => dts_nil) (fun _ _ _ _ _ => (de_var 2))) da_nil)))), ?_⟩

    obtain ⟨rs, rfl, hl, hq⟩ := h
    simp only [eS]
    try walk_at "DL"
    refine compX_mp eR rs (fun r => D.int r.2) (szL hl) (fun r hr R1 h1 => ?_) ?_
    · simp only [eR]
      try walk_at "DL"
      exact h1
    try walk_at "DL"
    rw [sum_ints]
    exact rt_of hq
theorem ok_law_dark (T : Tx K mg) : FnD P w K mg base 1 T.a_law_dark T.d_law_dark ["line", "spot"] S_law_dark := by
  refine fn_D T.F_law_dark sc_law_dark (fun as O q e h => ?_) (fun cdv A outer s H E hr as O q e h => ?_)
  · obtain ⟨rs, x, rfl, _⟩ := h
    rfl
  · refine ⟨_, (dss_cons (ds_asg (de_tup (da_cons de_int (da_cons de_int da_nil))) (dg_tup (n := 2) rfl (dg_cons (dg_name 2 sc_law_dark.nd) (dg_cons (dg_name 3 sc_law_dark.nd) dg_nil))))
    (dss_cons (ds_for (by passes_own) rfl (di_seq (de_var 0)) (dg_tup (n := 2) rfl (dg_cons (dg_name 4 sc_law_dark.nd) (dg_cons (dg_name 5 sc_law_dark.nd) dg_nil))) (dss_cons (ds_set 2 sc_law_dark.nd (de_add (de_var 2) (de_mul (de_blt (call_max2 rfl) lc_max2 T.z_max (by decide +kernel) (da_cons de_int (da_cons (de_blt (call_min2 rfl) lc_min2 T.z_min (by decide +kernel) (da_cons (de_var 5) (da_cons (de_sub (de_var 1) (de_var 3)) da_nil))) da_nil))) (de_bty call_int1 lc_int T.z_int (by decide +kernel) (da_cons (de_eq hr (de_var 4) de_str) da_nil)))))
    (dss_one (ds_set 3 sc_law_dark.nd (de_add (de_var 3) (de_var 5))))))
    (dss_one (ds_ret (de_var 2))))), ?_⟩

    obtain ⟨rs, x, rfl, hp, hl, hb, hq⟩ := h
    simp only [eS]
    try walk_at "DL"
    refine ⟨by decide, ?_⟩
    refine loopX_map eR rs (fun st r => st ++ [r]) (fun i st ds' O' => ∃ a b t, ds' = [some t, some (.int x), some (.int (gd st x)), some (.int (beads st)), a, b] ∧ O' = O) []
      ⟨none, none, _, rfl, rfl⟩ ?_ ?_
    · rintro i st ⟨c, n⟩ ds' O' hi ⟨a1, a2, t, rfl, rfl⟩ R hR
      have hn := hp _ (List.mem_of_getElem? hi)
      have hn2 := hb _ (List.mem_of_getElem? hi)
      dsimp only at hn hn2
      simp only [eR]
      try walk_at "DL"
      refine ⟨mulw_bit (by omega) (by omega), ?_⟩
      rw [mul_bit']
      refine hR _ _ ⟨some (.str (ch c)), some (.int n), t, ?_, rfl⟩
      rw [gd_app, gd_cons, gd_nil, beads_app, beads_cons, beads_nil]
      dsimp only
      rw [Int.add_zero, Int.add_zero, show max 0 (min n (x - beads st)) = max 0 (min (x - beads st) n) by omega]
    · rintro ds' O' ⟨a1, a2, t, rfl, rfl⟩
      rw [fold_snoc', List.nil_append]
      try walk_at "DL"
      exact rt_of hq
theorem ok_law_edges (T : Tx K mg) : FnD P w K mg base 1 T.a_law_edges T.d_law_edges ["line"] S_law_edges := by
  refine fn_D T.F_law_edges sc_law_edges (fun as O q e h => ?_) (fun cdv A outer s H E hr as O q e h => ?_)
  · obtain ⟨rs, rfl, _⟩ := h
    rfl
  · refine ⟨_, (dss_cons (ds_par 1 2 sc_law_edges.nd (da_cons (de_lstO da_nil) (da_cons de_int da_nil)) (fun h => ps_par rfl sc_law_edges.nd rfl rfl (by decide) rfl rfl h rfl))
    (dss_cons (ds_for (by passes_own) rfl (di_seq (de_var 0)) (dg_tup (n := 2) rfl (dg_cons (dg_name 3 sc_law_edges.nd) (dg_cons (dg_name 4 sc_law_edges.nd) dg_nil))) (dss_cons (ds_expr (de_meth PySem.F.plainAttrs_list PySem.F.slot_list_append PySem.F.type_list_append mt_append lm_append (de_var 1) (da_cons (de_var 2) da_nil)))
    (dss_one (ds_set 2 sc_law_edges.nd (de_add (de_var 2) (de_var 4))))))
    (dss_one (ds_ret (de_var 1))))), ?_⟩

    obtain ⟨rs, rfl, hl, hq⟩ := h
    simp only [eS]
    try walk_at "DL"
    refine ⟨by decide, fun pf hpf => ?_⟩
    try walk_at "DL"
    refine loopX_map eR rs (fun st r => st ++ [r]) (fun i st ds' O' => ∃ a b t, ds' = [some t, some (.opq (.ref pf)), some (.int (beads st)), a, b] ∧ O' = oset O pf (.lst ((edg 0 st).map D.int)) ∧ st.length ≤ i) []
      ⟨none, none, _, rfl, rfl, Nat.le_refl _⟩ ?_ ?_
    · rintro i st ⟨c, n⟩ ds' O' hi ⟨a1, a2, t, rfl, rfl, hle⟩ R hR
      have hil : i < rs.length := (List.getElem?_eq_some_iff.mp hi).1
      simp only [eR]
      try walk_at "DL"
      refine ⟨by rw [List.length_map, edg_len]; exact szL (by omega), ?_⟩
      refine hR _ _ ⟨some (.str (ch c)), some (.int n), t, ?_, ?_, by rw [List.length_append]; exact Nat.succ_le_succ hle⟩
      · rw [beads_app, beads_cons, beads_nil, Int.add_zero]
      · rw [edg_snoc, List.map_append, Int.zero_add]
        rfl
    · rintro ds' O' ⟨a1, a2, t, rfl, rfl, hle⟩
      rw [fold_snoc', List.nil_append]
      try walk_at "DL"
      exact rt_new hpf hq
theorem ok_law_arc (T : Tx K mg) : FnD P w K mg base 2 T.a_law_arc T.d_law_arc ["line", "spot", "size"] S_law_arc := by
  refine fn_D T.F_law_arc sc_law_arc (fun as O q e h => ?_) (fun cdv A outer s H E hr as O q e h => ?_)
  · obtain ⟨rs, s, l, rfl, _⟩ := h
    rfl
  · refine ⟨_, (dss_cons (ds_set 3 sc_law_arc.nd (de_call (L2N.takes_of rfl rfl rfl rfl) (ok_law_amount T) hr T.g_law_amount T.F_law_amount.kp (bn_law_amount T) (da_cons (de_var 0) da_nil)))
    (dss_cons (ds_set 4 sc_law_arc.nd (de_add (de_var 1) (de_var 2)))
    (dss_cons (ds_if (dt_le (de_var 4) (de_var 3)) (dss_one (ds_ret (de_sub (de_call (L2N.takes_of rfl rfl rfl rfl) (ok_law_dark T) hr T.g_law_dark T.F_law_dark.kp (bn_law_dark T) (da_cons (de_var 0) (da_cons (de_var 4) da_nil))) (de_call (L2N.takes_of rfl rfl rfl rfl) (ok_law_dark T) hr T.g_law_dark T.F_law_dark.kp (bn_law_dark T) (da_cons (de_var 0) (da_cons (de_var 1) da_nil)))))) dss_nil)
    (dss_one (ds_ret (de_add (de_sub (de_call (L2N.takes_of rfl rfl rfl rfl) (ok_law_dark T) hr T.g_law_dark T.F_law_dark.kp (bn_law_dark T) (da_cons (de_var 0) (da_cons (de_var 3) da_nil))) (de_call (L2N.takes_of rfl rfl rfl rfl) (ok_law_dark T) hr T.g_law_dark T.F_law_dark.kp (bn_law_dark T) (da_cons (de_var 0) (da_cons (de_var 1) da_nil)))) (de_call (L2N.takes_of rfl rfl rfl rfl) (ok_law_dark T) hr T.g_law_dark T.F_law_dark.kp (bn_law_dark T) (da_cons (de_var 0) (da_cons (de_sub (de_var 4) (de_var 3)) da_nil))))))))), ?_⟩

    obtain ⟨rs, s, l, rfl, hp, hlen, hb, s0, s1, l0, l1, hq⟩ := h
    try walk_at "DL"
    refine ⟨rs, rfl, hlen, ?_⟩
    try walk_at "DL"
    have b0 := beads_nn hp
    by_cases c : s + l ≤ beads rs
    · rw [decide_eq_true c]
      try walk_at "DL"
      refine ⟨rs, s + l, rfl, hp, hlen, hb, ?_⟩
      try walk_at "DL"
      refine ⟨rs, s, rfl, hp, hlen, hb, ?_⟩
      try walk_at "DL"
      have e : gd rs (s + l) - gd rs s = dd rs l s := by
        unfold dd
        rw [gd2 hp (by omega), gd2 hp (by omega)]
      rw [e]
      exact rt_of hq
    · rw [decide_eq_false c]
      try walk_at "DL"
      refine ⟨rs, beads rs, rfl, hp, hlen, hb, ?_⟩
      try walk_at "DL"
      refine ⟨rs, s, rfl, hp, hlen, hb, ?_⟩
      try walk_at "DL"
      refine ⟨rs, s + l - beads rs, rfl, hp, hlen, hb, ?_⟩
      try walk_at "DL"
      have e : gd rs (beads rs) - gd rs s + gd rs (s + l - beads rs) = dd rs l s := by
        unfold dd
        rw [gd2' hp (x := s + l) (by omega), gd2 hp (x := s) (by omega), gd_all hp (Int.le_refl _)]
        omega
      rw [e]
      exact rt_of hq
theorem ok_law_breaks (T : Tx K mg) : FnD P w K mg base 2 T.a_law_breaks T.d_law_breaks ["line", "size"] S_law_breaks := by
  refine fn_D T.F_law_breaks sc_law_breaks (fun as O q e h => ?_) (fun cdv A outer s H E hr as O q e h => ?_)
  · obtain ⟨rs, l, rfl, _⟩ := h
    rfl
  · refine ⟨_, (dss_cons (ds_asg (de_tup (da_cons (de_call (L2N.takes_of rfl rfl rfl rfl) (ok_law_amount T) hr T.g_law_amount T.F_law_amount.kp (bn_law_amount T) (da_cons (de_var 0) da_nil)) (da_cons (de_call (L2N.takes_of rfl rfl rfl rfl) (ok_law_edges T) hr T.g_law_edges T.F_law_edges.kp (bn_law_edges T) (da_cons (de_var 0) da_nil)) da_nil))) (dg_tup (n := 2) rfl (dg_cons (dg_name 2 sc_law_breaks.nd) (dg_cons (dg_name 3 sc_law_breaks.nd) dg_nil))))
    (dss_one (ds_ret (de_ssetA rfl T.z_sorted T.z_set (da_cons (de_add (de_var 3) (de_lc [("spot", 4)] rfl sc_law_breaks.nd (di_seq (de_var 3)) (blkOk_by (N := ["line", "size", "total", "edges", "spot"]) (sc := defScope s_law_breaks) (by decide +kernel)) (fun _ _ _ _ _ => (dg_name 4 sc_law_breaks.nd)) (fun _ _ _ _ _ => dts_nil) (fun _ _ _ _ _ => (de_mod (de_sub (de_var 4) (de_var 1)) (de_var 2))))) da_nil))))), ?_⟩

    obtain ⟨rs, l, rfl, hp, hne, hl, hq⟩ := h
    have b1 := beads_pos hp hne
    try walk_at "DL"
    refine ⟨rs, rfl, by omega, ?_⟩
    try walk_at "DL"
    refine ⟨rs, rfl, by omega, ?_⟩
    try walk_at "DL"
    refine ⟨by decide, ?_⟩
    refine compX_mp D.int (edg 0 rs) (fun e => D.int ((e - l) % beads rs)) (by rw [edg_len]; exact szL (by omega)) (fun e he R1 h1 => ?_) ?_
    · try walk_at "DL"
      exact ⟨by omega, h1⟩
    try walk_at "DL"
    refine ⟨by rw [List.length_map, List.length_map, edg_len]; exact szE (by omega), ?_⟩
    rw [show (edg 0 rs).map D.int ++ (edg 0 rs).map (fun e => D.int ((e - l) % beads rs)) = (edg 0 rs ++ (edg 0 rs).map fun e => (e - l) % beads rs).map D.int by rw [List.map_append, List.map_map]; rfl]
    try walk_at "DL"
    have ln : (edg 0 rs ++ (edg 0 rs).map fun e => (e - l) % beads rs).length ≤ 128 := by rw [List.length_append, List.length_map, edg_len]; omega
    refine ⟨Nat.le_trans ln (by decide), fun ns asc mem => rt_of (hq ns asc (fun j => ?_) (Nat.le_trans (asc_len asc fun j hj => (mem j).mp hj) ln))⟩
    rw [mem j, List.mem_append, List.mem_map]
    unfold isBr
    constructor
    · rintro (z | ⟨e, he, rfl⟩)
      · exact .inl z
      · exact .inr ⟨e, he, rfl⟩
    · rintro (z | ⟨e, he, rfl⟩)
      · exact .inl z
      · exact .inr ⟨e, he, rfl⟩
theorem ok_law_low_high (T : Tx K mg) : FnD P w K mg base 3 T.a_law_low_high T.d_law_low_high ["line", "size"] S_law_low_high := by
  refine fn_D T.F_law_low_high sc_law_low_high (fun as O q e h => ?_) (fun cdv A outer s H E hr as O q e h => ?_)
  · obtain ⟨rs, l, rfl, _⟩ := h
    rfl
  · refine ⟨_, (dss_cons (ds_setLc 2 [("spot", 3)] rfl sc_law_low_high.nd rfl rfl (sw_true rfl rfl rfl (by decide +kernel)) (di_seq (de_call (L2N.takes_of rfl rfl rfl rfl) (ok_law_breaks T) hr T.g_law_breaks T.F_law_breaks.kp (bn_law_breaks T) (da_cons (de_var 0) (da_cons (de_var 1) da_nil)))) (blkOk_by (N := ["line", "size", "values", "spot"]) (sc := defScope s_law_low_high) (by decide +kernel)) (fun _ _ _ _ _ => (dg_name 3 sc_law_low_high.nd)) (fun _ _ _ _ _ => dts_nil) (fun _ _ _ _ _ => (de_call takes0N (ok_law_arc T) hr T.g_law_arc T.F_law_arc.kp (bn_law_arc T) (da_cons (de_var 0) (da_cons (de_var 3) (da_cons (de_var 1) da_nil))))))
    (dss_one (ds_ret (de_tup (da_cons (de_blt (cr_min rfl) lc_minL T.z_min (by decide +kernel) (da_cons (de_var 2) da_nil)) (da_cons (de_blt (cr_max rfl) lc_maxL T.z_max (by decide +kernel) (da_cons (de_var 2) da_nil)) da_nil)))))), ?_⟩

    obtain ⟨rs, l, rfl, hp, hne, hl, hb, l0, l1, hq⟩ := h
    have b1 := beads_pos hp hne
    try walk_at "DL"
    refine ⟨rs, l, rfl, hp, hne, hl, fun ns _ hns hnl => ?_⟩
    have inr : ∀ j, j ∈ ns → 0 ≤ j ∧ j < beads rs := fun j hj => by
      rcases (hns j).mp hj with hj | ⟨e, he, rfl⟩
      · have := edg_bds hp j hj
        omega
      · exact ⟨Int.emod_nonneg _ (by omega), Int.emod_lt_of_pos _ (by omega)⟩
    try walk_at "DL"
    refine compX_mp D.int ns (fun s => D.int (dd rs l s)) (szL (by omega)) (fun s hs R1 h1 => ?_) ?_
    · have := inr s hs
      try walk_at "DL"
      exact ⟨rs, s, l, rfl, hp, by omega, hb, by omega, by omega, l0, l1, h1⟩
    rw [show ns.map (fun s => D.int (dd rs l s)) = (ns.map (dd rs l)).map D.int by rw [List.map_map]; rfl]
    try walk_at "DL"
    have pos : 0 < (ns.map (dd rs l)).length := by
      rw [List.length_map]
      exact List.length_pos_of_mem ((hns 0).mpr (.inl (edg_zero hne)))
    exact ⟨pos, fun lo hlo lo2 => ⟨pos, fun hi hhi hi2 => ⟨by decide, rt_of (hq lo hi (ext_breaks hp hne l0 l1 hns hlo hhi lo2 hi2))⟩⟩⟩
end
section
variable {P : Program} {w : World} {K : PySem.W.Frag} {mg : Str → Option Value} {base : Heap}
theorem ok_law_size (T : Tx K mg) : FnD P w K mg base 2 T.a_law_size T.d_law_size ["source", "line"] S_law_size := by
  refine fn_D T.F_law_size sc_law_size (fun as O q e h => ?_) (fun cdv A outer s H E hr as O q e h => ?_)
  · obtain ⟨p, rs, n, rfl, _⟩ := h
    rfl
  · refine ⟨_, (dss_cons (ds_par 2 3 sc_law_size.nd (da_cons (de_call (L2N.takes_of rfl rfl rfl rfl) (ok_law_amount T) hr T.g_law_amount T.F_law_amount.kp (bn_law_amount T) (da_cons (de_var 1) da_nil)) (da_cons (de_call (L2N.takes_of rfl rfl rfl rfl) (ok_law_edges T) hr T.g_law_edges T.F_law_edges.kp (bn_law_edges T) (da_cons (de_var 1) da_nil)) da_nil)) (fun h => ps_par rfl sc_law_size.nd rfl rfl (by decide) rfl rfl h rfl))
    (dss_cons (ds_set 4 sc_law_size.nd (de_mod (de_sub (de_ix (de_var 3) (de_call (L2N.takes_of rfl rfl rfl rfl) (ok_law_draw T) hr T.g_law_draw T.F_law_draw.kp (bn_law_draw T) (da_cons (de_var 0) (da_cons (de_blt call_len lc_len T.z_len (by decide +kernel) (da_cons (de_var 3) da_nil)) da_nil)))) (de_ix (de_var 3) (de_call (L2N.takes_of rfl rfl rfl rfl) (ok_law_draw T) hr T.g_law_draw T.F_law_draw.kp (bn_law_draw T) (da_cons (de_var 0) (da_cons (de_blt call_len lc_len T.z_len (by decide +kernel) (da_cons (de_var 3) da_nil)) da_nil))))) (de_var 2)))
    (dss_cons (ds_set 5 sc_law_size.nd (de_lst (da_cons de_int (da_cons (de_var 2) (da_cons (de_var 4) (da_cons (de_blt (call_max2 rfl) lc_max2 T.z_max (by decide +kernel) (da_cons de_int (da_cons (de_sub (de_var 4) de_int) da_nil))) (da_cons (de_blt (call_min2 rfl) lc_min2 T.z_min (by decide +kernel) (da_cons (de_var 2) (da_cons (de_add (de_var 4) de_int) da_nil))) (da_cons (de_call (L2N.takes_of rfl rfl rfl rfl) (ok_law_draw T) hr T.g_law_draw T.F_law_draw.kp (bn_law_draw T) (da_cons (de_var 0) (da_cons (de_add (de_var 2) de_int) da_nil))) (da_cons (de_fdiv (de_var 2) de_int) da_nil)))))))))
    (dss_one (ds_ret (de_ix (de_add (de_var 5) (de_mul (de_lst (da_cons (de_call (L2N.takes_of rfl rfl rfl rfl) (ok_law_draw T) hr T.g_law_draw T.F_law_draw.kp (bn_law_draw T) (da_cons (de_var 0) (da_cons (de_add (de_var 2) de_int) da_nil))) da_nil)) de_int)) (de_call (L2N.takes_of rfl rfl rfl rfl) (ok_law_draw T) hr T.g_law_draw T.F_law_draw.kp (bn_law_draw T) (da_cons (de_var 0) (da_cons de_int da_nil))))))))), ?_⟩

    obtain ⟨p, rs, n, rfl, src, hn, bd, hq⟩ := h
    have b150 := bd_beads bd
    have t200 : (2 : Int) ^ 150 + 1 < 2 ^ 200 := by decide
    have hlen := bd.len
    have b1 := beads_pos bd.vd.pos bd.vd.ne
    have l1 : 0 < rs.length := List.length_pos_iff.mpr bd.vd.ne
    have el : ((edg 0 rs).map D.int).length = rs.length := by rw [List.length_map, edg_len]
    try walk_at "DL"
    refine ⟨rs, rfl, by omega, ?_⟩
    try walk_at "DL"
    refine ⟨rs, rfl, by omega, ?_⟩
    try walk_at "DL"
    simp only [List.length_map, edg_len]
    refine draw_ src (by omega) (by omega) (by omega) fun a O1 a0 a1 src1 mv1 => ?_
    try walk_at "DL"
    refine atN (fun x => ∃ v, x = .int v) a0 (by rw [el]; exact a1) (fun x hx => ?_) ?_
    · obtain ⟨v, _, rfl⟩ := List.mem_map.mp hx
      exact ⟨v, rfl⟩
    rintro x ⟨u, rfl⟩
    refine draw_ src1 (by omega) (by omega) (by omega) fun b O2 b0 b1' src2 mv2 => ?_
    try walk_at "DL"
    refine atN (fun x => ∃ v, x = .int v) b0 (by rw [el]; exact b1') (fun x hx => ?_) ?_
    · obtain ⟨v, _, rfl⟩ := List.mem_map.mp hx
      exact ⟨v, rfl⟩
    rintro x ⟨w, rfl⟩
    try walk_at "DL"
    refine ⟨by omega, ?_⟩
    have f0 := Int.emod_nonneg (u - w) (show beads rs ≠ 0 by omega)
    have f1 := Int.emod_lt_of_pos (u - w) (show 0 < beads rs by omega)
    generalize (u - w) % beads rs = f at *
    refine draw_ src2 (by omega) (by omega) (by omega) fun c O3 c0 c1 src3 mv3 => ?_
    try walk_at "DL"
    refine ⟨divw (by decide) (by decide), by decide, ?_⟩
    refine draw_ src3 (by omega) (by omega) (by omega) fun d O4 d0 d1 src4 mv4 => ?_
    rw [show (List.replicate (Int.toNat 3) [D.int d]).flatten = [D.int d, D.int d, D.int d] from rfl]
    refine ⟨by decide, by decide, by decide, by decide, szE (by simp), draw_ src4 (by omega) (by decide) (by decide) fun i O9 i0 i1 src9 mv9 => ?_⟩
    try walk_at "DL"
    refine atN (fun x => ∃ v, x = .int v ∧ 0 ≤ v ∧ v ≤ beads rs) i0 i1 (fun x hx => ?_) ?_
    · simp only [List.mem_cons, List.not_mem_nil, or_false, List.cons_append, List.nil_append] at hx
      rcases hx with rfl | rfl | rfl | rfl | rfl | rfl | rfl | rfl | rfl | rfl
      all_goals exact ⟨_, rfl, by omega, by omega⟩
    rintro x ⟨v, rfl, v0, v1⟩
    exact rt_of (hq v O9 v0 v1 (src9.mono (by omega)) ((((mv1.trans mv2).trans mv3).trans mv4).trans mv9))
end
theorem snoc_cases {α : Type} (l : List α) : l = [] ∨ ∃ pre z, l = pre ++ [z] := by
  rcases List.eq_nil_or_concat l with rfl | ⟨pre, z, rfl⟩
  · exact .inl rfl
  · exact .inr ⟨pre, z, List.concat_eq_append⟩
theorem alt_fst : ∀ {a b : List Rn}, a.map (·.1) = b.map (·.1) → Alt a → Alt b
  | [], [], _, h => h
  | [], _ :: _, e, _ => by cases e
  | _ :: _, [], e, _ => by cases e
  | [_], [_], _, _ => trivial
  | [_], _ :: _ :: _, e, _ => absurd (congrArg List.length e) (by simp)
  | _ :: _ :: _, [_], e, _ => absurd (congrArg List.length e) (by simp)
  | x :: y :: a, v :: w :: b, e, h => by
    rw [List.map_cons, List.map_cons, List.map_cons, List.map_cons] at e
    injection e with e1 e
    refine ⟨?_, alt_fst (a := y :: a) (b := w :: b) e h.2⟩
    injection e with e2 _
    rw [← e1, ← e2]
    exact h.1
def addR (acc : List Rn) (r : Rn) : List Rn := match acc.getLast? with
  | some z => if z.1 = r.1 then acc.dropLast ++ [(z.1, z.2 + r.2)] else acc ++ [r]
  | none => acc ++ [r]
theorem addR_nil (r : Rn) : addR [] r = [r] := rfl
theorem addR_snoc (acc : List Rn) (z r : Rn) : addR (acc ++ [z]) r = if z.1 = r.1 then acc ++ [(z.1, z.2 + r.2)] else acc ++ [z] ++ [r] := by
  unfold addR
  rw [List.getLast?_concat]
  dsimp only
  rw [List.dropLast_concat]
theorem addR_gd {acc : List Rn} {r : Rn} (h : Pos acc) (hr : 1 ≤ r.2) (x : Int) : gd (addR acc r) x = gd (acc ++ [r]) x := by
  rcases snoc_cases acc with rfl | ⟨pre, z, rfl⟩
  · rfl
  · have hz := h z (List.mem_append_right _ (List.mem_singleton_self _))
    rw [addR_snoc]
    split
    · rename_i e
      rw [List.append_assoc, gd_app, gd_app]
      congr 1
      show gd [(z.1, z.2 + r.2)] (x - beads pre) = gd [z, r] (x - beads pre)
      rw [gd_cons, gd_cons, gd_cons, gd_nil, gd_nil, ← e]
      dsimp only
      cases z.1
      · simp
      · simp only [if_true, reduceIte]
        omega
    · rfl
theorem addR_pos {acc : List Rn} {r : Rn} (h : Pos acc) (hr : 1 ≤ r.2) : Pos (addR acc r) := by
  rcases snoc_cases acc with rfl | ⟨pre, z, rfl⟩
  · exact fun y hy => by rw [List.mem_singleton.mp hy]; exact hr
  · have hz := h z (List.mem_append_right _ (List.mem_singleton_self _))
    rw [addR_snoc]
    split
    · intro y hy
      rcases List.mem_append.mp hy with hy | hy
      · exact h y (List.mem_append_left _ hy)
      · rw [List.mem_singleton.mp hy]
        dsimp only
        omega
    · intro y hy
      rcases List.mem_append.mp hy with hy | hy
      · exact h y hy
      · rw [List.mem_singleton.mp hy]
        exact hr
theorem addR_beads (acc : List Rn) (r : Rn) : beads (addR acc r) = beads acc + r.2 := by
  rcases snoc_cases acc with rfl | ⟨pre, z, rfl⟩
  · rw [addR_nil, beads_cons, beads_nil]
    omega
  · rw [addR_snoc]
    split
    · rw [beads_app, beads_app, beads_cons, beads_cons, beads_nil]
      dsimp only
      omega
    · rw [beads_app (pre ++ [z]), beads_cons, beads_nil]
      omega
def joinR (rs : List Rn) : List Rn := rs.foldl addR []
theorem foldR_gd : ∀ {rs acc : List Rn}, Pos acc → Pos rs → Pos (rs.foldl addR acc) ∧ beads (rs.foldl addR acc) = beads acc + beads rs ∧ ∀ x, gd (rs.foldl addR acc) x = gd (acc ++ rs) x
  | [], acc, h, _ => ⟨h, by rw [beads_nil]; show beads acc = _; omega, fun x => by rw [List.append_nil]; rfl⟩
  | r :: rs, acc, h, hr => by
    have r1 := hr r List.mem_cons_self
    obtain ⟨a, b, c⟩ := foldR_gd (addR_pos h r1) (fun y hy => hr y (List.mem_cons_of_mem _ hy)) (rs := rs)
    refine ⟨a, ?_, fun x => ?_⟩
    · rw [List.foldl_cons, b, addR_beads, beads_cons]
      omega
    · rw [List.foldl_cons, c x, gd_app, addR_gd h r1, addR_beads, gd_app acc [r], gd_app acc (r :: rs), gd_cons r [], gd_cons r rs, gd_nil, show x - (beads acc + r.2) = x - beads acc - r.2 by omega]
      omega
/-- joined runs are the same beads -/
theorem joinR_ok {rs : List Rn} (h : Pos rs) : Pos (joinR rs) ∧ beads (joinR rs) = beads rs ∧ ∀ x, gd (joinR rs) x = gd rs x := by
  obtain ⟨a, b, c⟩ := foldR_gd (acc := []) (fun _ h => by cases h) h
  exact ⟨a, by unfold joinR; rw [b, beads_nil]; omega, fun x => by unfold joinR; rw [c x, List.nil_append]⟩

theorem addR_alt {acc : List Rn} {r : Rn} (h : Alt acc) : Alt (addR acc r) := by
  rcases snoc_cases acc with rfl | ⟨pre, z, rfl⟩
  · trivial
  · rw [addR_snoc]
    split
    · have e : (pre ++ [z]).map (·.1) = (pre ++ [(z.1, z.2 + r.2)]).map (·.1) := by
        rw [List.map_append, List.map_append]
        rfl
      exact alt_fst e h
    · rename_i n
      refine alt_snoc' h fun a ea => ?_
      rw [List.getLast?_concat] at ea
      cases ea
      exact n
theorem foldR_alt : ∀ {rs acc : List Rn}, Alt acc → Alt (rs.foldl addR acc)
  | [], _, h => h
  | r :: rs, _, h => foldR_alt (rs := rs) (addR_alt h)
theorem addR_len (acc : List Rn) (r : Rn) : (addR acc r).length ≤ acc.length + 1 ∧ addR acc r ≠ [] := by
  rcases snoc_cases acc with rfl | ⟨pre, z, rfl⟩
  · exact ⟨Nat.le_refl _, by rw [addR_nil]; exact fun h => by cases h⟩
  · rw [addR_snoc]
    split
    · exact ⟨by simp, by simp⟩
    · exact ⟨by simp, by simp⟩
theorem foldR_len : ∀ {rs acc : List Rn}, (rs.foldl addR acc).length ≤ acc.length + rs.length
  | [], _ => Nat.le_refl _
  | r :: rs, acc => by
    have a := foldR_len (rs := rs) (acc := addR acc r)
    have b := (addR_len acc r).1
    rw [List.foldl_cons, List.length_cons]
    omega
theorem joinR_vd {rs : List Rn} (h : Pos rs) (ne : rs ≠ []) : Vd (joinR rs) ∧ (joinR rs).length ≤ rs.length := by
  obtain ⟨a, b, c⟩ := joinR_ok h
  have l := foldR_len (rs := rs) (acc := [])
  refine ⟨⟨fun z => ?_, a, foldR_alt trivial⟩, by unfold joinR; simpa using l⟩
  rw [z, beads_nil] at b
  have := beads_pos h ne
  omega
def S_strand_of : DSp := fun as O q _ => ∃ x rs, as = [x] ∧ (x = eS rs ∨ x = eL rs) ∧ Pos rs ∧ rs.length ≤ 90000 ∧ q (eS (joinR rs)) O
def S_joined : DSp := fun as O q _ => ∃ rs rss, as = [eS rs, .tup (rss.map eS)] ∧ (∀ x ∈ rs :: rss, Vd x) ∧ (rs :: rss).flatten.length ≤ 90000 ∧ rss.length ≤ 1000 ∧ q (eS (joinR (rs :: rss).flatten)) O
theorem ixN_last {xs : List D} {x : D} : ixN (xs ++ [x]).length (-1) = some xs.length := by
  unfold ixN
  rw [List.length_append, List.length_singleton, if_neg (by decide), if_pos (by omega)]
  exact congrArg some (by omega)
theorem set_last {xs : List D} {x y : D} : (xs ++ [x]).set xs.length y = xs ++ [y] := by
  rw [List.set_append_right _ _ (Nat.le_refl _), Nat.sub_self]
  rfl

section
variable {P : Program} {w : World} {K : PySem.W.Frag} {mg : Str → Option Value} {base : Heap}
theorem ok_strand_of (T : Tx K mg) : FnD P w K mg base 1 T.a_strand_of T.d_strand_of ["runs"] S_strand_of := by
  refine fn_D T.F_strand_of sc_strand_of (fun as O q e h => ?_) (fun cdv A outer s H E hr as O q e h => ?_)
  · obtain ⟨x, rs, rfl, _⟩ := h
    rfl
  · refine ⟨_, (dss_cons (ds_set 1 sc_strand_of.nd (de_lstO da_nil))
    (dss_cons (ds_for (by passes_own) rfl (di_seq (de_var 0)) (dg_tup (n := 2) rfl (dg_cons (dg_name 2 sc_strand_of.nd) (dg_cons (dg_name 3 sc_strand_of.nd) dg_nil))) (dss_one (ds_if (dt_w (dw_and (dt_gt (de_var 3) de_int) (dw_and (dt_gt (de_blt call_len lc_len T.z_len (by decide +kernel) (da_cons (de_var 1) da_nil)) de_int) (dw_and1 (dt_eq hr (de_ix (de_ix (de_var 1) (de_neg de_int)) de_int) (de_var 2)))))) (dss_one (ds_asg (de_tup (da_cons (de_var 2) (da_cons (de_add (de_ix (de_ix (de_var 1) (de_neg de_int)) de_int) (de_var 3)) da_nil))) (dg_sub (de_var 1) (de_neg de_int)))) (dss_one (ds_if (dt_gt (de_var 3) de_int) (dss_one (ds_expr (de_meth PySem.F.plainAttrs_list PySem.F.slot_list_append PySem.F.type_list_append mt_append lm_append (de_var 1) (da_cons (de_tup (da_cons (de_var 2) (da_cons (de_var 3) da_nil))) da_nil)))) dss_nil)))))
    (dss_one (ds_ret (de_bty call_tuple_of lc_tuple T.z_tuple (by decide +kernel) (da_cons (de_var 1) da_nil)))))), ?_⟩

    obtain ⟨x, rs, rfl, hx, hp, hl, hq⟩ := h
    rcases hx with rfl | rfl
    all_goals
      simp only [eS, eL]
      try walk_at "DL"
      refine ⟨Nat.zero_le _, fun pf hpf => ?_⟩
      try walk_at "DL"
      refine loopX_map eR rs addR (fun i st ds' O' => (∃ y a b, ds' = [y, some (.opq (.ref pf)), a, b]) ∧ O' = oset O pf (.lst (st.map eR)) ∧ st.length ≤ i) []
        ⟨⟨_, _, _, rfl⟩, rfl, Nat.le_refl _⟩ ?_ ?_
      · rintro i st ⟨c, n⟩ ds' O' hx ⟨⟨y, a1, a2, rfl⟩, rfl, hle⟩ R hR
        have hil : i < rs.length := (List.getElem?_eq_some_iff.mp hx).1
        have hn : 1 ≤ n := hp (c, n) (List.mem_of_getElem? hx)
        have lj := (addR_len st (c, n)).1
        have h0 : (0 : Int) < n := by omega
        simp only [eR]
        try walk_at "DL"
        simp only [gt_iff_lt, decide_eq_true h0, if_true, reduceIte]
        rcases snoc_cases st with rfl | ⟨pre, ⟨c0, n0⟩, rfl⟩
        · try walk_at "DL"
          refine ⟨by decide, by decide, hR _ _ ⟨⟨_, _, _, rfl⟩, rfl, Nat.le_trans lj (by simp)⟩⟩
        · rw [List.map_append, List.map_singleton]
          try walk_at "DL"
          rw [List.length_append, List.length_singleton] at hle
          rw [addR_snoc] at lj hR
          rw [decide_eq_true (show (0 : Int) < ((List.map eR pre ++ [eR (c0, n0)]).length : Nat) by rw [List.length_append, List.length_singleton]; omega)]
          simp only [if_true, reduceIte]
          by_cases hcb : c0 = c
          · subst hcb
            simp only [decide_true, if_true, reduceIte]
            refine ⟨by decide, ?_⟩
            rw [ixN_last]
            dsimp only
            rw [set_last]
            refine hR _ _ ⟨⟨_, _, _, rfl⟩, ?_, ?_⟩
            · rw [if_pos rfl, List.map_append]
              rfl
            · rw [if_pos rfl, List.length_append, List.length_singleton]
              omega
          · simp only [decide_eq_false hcb, Bool.false_eq_true, if_false, reduceIte]
            refine ⟨by decide, by rw [List.length_append, List.length_map, List.length_singleton]; exact szL (by omega), hR _ _ ⟨⟨_, _, _, rfl⟩, ?_, ?_⟩⟩
            · rw [if_neg hcb, List.map_append, List.map_append]
              rfl
            · rw [if_neg hcb, List.length_append, List.length_append, List.length_singleton, List.length_singleton]
              omega
      · rintro ds' O' ⟨⟨y, a1, a2, rfl⟩, rfl, hle⟩
        try walk_at "DL"
        refine tup_cell oset_same ?_
        exact rt_sub hq (Sub.new hpf)
theorem ok_joined (T : Tx K mg) : FnDR P w K mg base 5 T.a_joined 1 S_joined := by
  refine fn_DR (ps := ["strand"]) T.F_joined sc_joined (fun kV doc pm an cdv ct => StX.bind_star1 (B := fun z => bindArgs _ ⟨z, []⟩) (fun _ => rfl) (fun _ _ _ => rfl)) (fun cdv A outer s H E hr as O q e h => ?_)
  · refine ⟨_, (dss_cons (ds_set 2 sc_joined.nd (de_lst (da_cons (de_var 0) (da_star (de_var 1) da_nil))))
    (dss_cons (ds_for (by passes_own) rfl (di_seq (de_var 2)) (dg_name 3 sc_joined.nd) (dss_one (ds_expr (de_call (L2N.takes_of rfl rfl rfl rfl) (ok_require_strand T) hr T.g_require_strand T.F_require_strand.kp (bn_require_strand T) (da_cons (de_var 3) da_nil)))))
    (dss_one (ds_ret (de_call (L2N.takes_of rfl rfl rfl rfl) (ok_strand_of T) hr T.g_strand_of T.F_strand_of.kp (bn_strand_of T) (da_cons (de_lc2 [("row", 3), ("run", 4)] [4] rfl sc_joined.nd (di_seq (de_var 2)) (blkOk_by (N := ["strand", "more", "rows", "row", "run"]) (sc := defScope s_joined) (by decide +kernel)) (fun _ _ _ _ _ => (dg_name 3 sc_joined.nd)) (fun _ _ _ _ _ => dts_nil) (fun _ _ _ _ _ => (di_seq (de_var 3))) (fun _ _ _ _ _ => (dg_name 4 sc_joined.nd)) (fun _ _ _ _ _ => dts_nil) (fun _ _ _ _ _ => (de_var 4))) da_nil)))))), ?_⟩

    obtain ⟨rs, rss, rfl, hv, hl, hn, hq⟩ := h
    try walk_at "DL"
    refine ⟨by rw [List.length_append, List.length_map]; exact szE (by simp; omega), ?_⟩
    rw [List.append_nil, ← List.map_cons (f := eS)]
    refine loopX_map eS (rs :: rss) (fun (u : Unit) _ => u) (fun i _ ds' O' => ∃ a b, ds' = [some (eS rs), some (.tup (rss.map eS)), some (.lst ((rs :: rss).map eS)), a, b] ∧ O' = O) () ⟨_, _, rfl, rfl⟩ ?_ ?_
    · rintro i _ x ds' O' hx ⟨a, b, rfl, rfl⟩ R hR
      have vx := hv x (List.mem_of_getElem? hx)
      try walk_at "DL"
      exact ⟨_, rfl, ks_eS x, fun _ => hR _ _ ⟨_, _, rfl, rfl⟩, fun z => absurd (strand_yes vx) (by rw [z]; decide)⟩
    · rintro ds' O' ⟨a, b, rfl, rfl⟩
      try walk_at "DL"
      refine comp_mp2 eS eR (rs :: rss) id (by rw [List.flatMap_id]; exact szL (by omega)) ?_ ?_
      · intro x hx acc Jr hJ hz
        simp only [eS]
        try walk_at "DL"
        refine ⟨fun j acc' O2 => j ≤ x.length ∧ acc' = acc ++ (x.take j).map eR ∧ O2 = O', ⟨Nat.zero_le _, by simp, rfl⟩, ?_, ?_⟩
        · rintro j y acc' O2 hy ⟨hj, rfl, rfl⟩
          rw [List.getElem?_map] at hy
          cases q : x[j]? with
          | none => rw [q] at hy; cases hy
          | some r =>
            rw [q] at hy
            cases hy
            have hjl := (List.getElem?_eq_some_iff.mp q).1
            have hz' : acc.length + x.length < sizeLine := hz
            try walk_at "DL"
            refine ⟨?_, hjl, ?_⟩
            · rw [List.length_append, List.length_map, List.length_take]
              omega
            · rw [take_next q, List.map_append, List.append_assoc]
              rfl
        · rintro acc' O2 ⟨_, rfl, rfl⟩
          rw [List.length_map, List.take_length]
          exact hJ _ rfl
      · rw [List.flatMap_id]
        refine ⟨_, (rs :: rss).flatten, rfl, .inr rfl, fun r hr => ?_, hl, rt_of hq⟩
        obtain ⟨x, hx, hr⟩ := List.mem_flatten.mp hr
        exact (hv x hx).pos r hr
end
theorem eR_inj {a b : Rn} (h : eR a = eR b) : a = b := by
  obtain ⟨a1, a2⟩ := a
  obtain ⟨b1, b2⟩ := b
  unfold eR at h
  injection h with h
  injection h with h1 h2
  injection h2 with h2 _
  injection h1 with h1
  injection h2 with h2
  have e := ch_inj h1
  dsimp only at e h2
  rw [e, h2]
theorem map_eR_inj : ∀ {a b : List Rn}, a.map eR = b.map eR → a = b
  | [], [], _ => rfl
  | [], _ :: _, h => by cases h
  | _ :: _, [], h => by cases h
  | x :: a, y :: b, h => by
    rw [List.map_cons, List.map_cons] at h
    injection h with h1 h2
    rw [eR_inj h1, map_eR_inj h2]
theorem eS_inj {a b : List Rn} (h : eS a = eS b) : a = b := by
  unfold eS at h
  injection h with h
  exact map_eR_inj h

theorem no_str {rs : List Rn} {p : Prop} (v : Vd rs) (z : isStrandD (eS rs) = false) : p := by
  rw [strand_yes v] at z
  cases z
section
variable {K : PySem.W.Frag} {mg : Str → Option Value} {T : Tx K mg} {rs : List Rn} {O : Ow} {q : DK} {e : Xc → Ow → Prop}
theorem dark_range_ (v : Vd rs) (g : Rg rs) {i : Int} (h0 : 0 ≤ i) (h1 : i ≤ beads rs) (h : ∀ lo hi, Ext rs i lo hi → q (.tup [.int lo, .int hi]) O) : S_dark_range T [eS rs, .int i] O q e :=
  ⟨eS rs, .int i, rfl, ks_eS rs, trivial, fun z => no_str v z, fun rs' _ eq => by
    cases eS_inj eq
    exact ⟨g.len, g.big, fun z => absurd ⟨i, rfl, h0, h1⟩ z, fun j ej _ _ lo hi ex => by cases ej; exact h lo hi ex⟩⟩
theorem length_range_ (v : Vd rs) (g : Rg rs) {i : Int} (h0 : 0 ≤ i) (h1 : i ≤ darks rs) (h : ∀ L M, Least rs i L → Least rs (darks rs - i) M → q (.tup [.int L, .int (beads rs - M)]) O) : S_length_range T [eS rs, .int i] O q e :=
  ⟨eS rs, .int i, rfl, ks_eS rs, trivial, fun z => no_str v z, fun rs' _ eq => by
    cases eS_inj eq
    exact ⟨g.len, g.big, fun z => absurd ⟨i, rfl, h0, h1⟩ z, fun j ej _ _ L M a b => by cases ej; exact h L M a b⟩⟩
end
theorem dd_oth {rs : List Rn} (h : Pos rs) {l s : Int} (l0 : 0 ≤ l) (l1 : l ≤ beads rs) (s0 : 0 ≤ s) (s1 : s < beads rs) :
    ∃ s', 0 ≤ s' ∧ s' < beads rs ∧ dd rs (beads rs - l) s' = darks rs - dd rs l s := by
  by_cases c : s + l < beads rs
  · refine ⟨s + l, by omega, c, ?_⟩
    unfold dd
    rw [show s + l + (beads rs - l) = beads rs + s by omega, gd2' h (by omega), gd2 h (x := s) (by omega), show beads rs + s - beads rs = s by omega]
    omega
  · refine ⟨s + l - beads rs, by omega, by omega, ?_⟩
    unfold dd
    rw [show s + l - beads rs + (beads rs - l) = s by omega, gd2' h (x := s + l) (by omega), gd2 h (x := s + l - beads rs) (by omega)]
    omega
/-- all numbers between are met -/
theorem ext_one {rs : List Rn} {l lo hi lo' hi' : Int} (a : Ext rs l lo hi) (b : Ext rs l lo' hi') : lo = lo' ∧ hi = hi' := by
  obtain ⟨s1, p1, q1, e1⟩ := a.atLo
  obtain ⟨s2, p2, q2, e2⟩ := a.atHi
  obtain ⟨s3, p3, q3, e3⟩ := b.atLo
  obtain ⟨s4, p4, q4, e4⟩ := b.atHi
  have f1 := b.bds s1 p1 q1
  have f2 := b.bds s2 p2 q2
  have f3 := a.bds s3 p3 q3
  have f4 := a.bds s4 p4 q4
  omega
/-- the row of a length -/

theorem ext_other {rs : List Rn} {l lo hi lo' hi' : Int} (h : Pos rs) (l0 : 0 ≤ l) (l1 : l ≤ beads rs) (a : Ext rs l lo hi) (b : Ext rs (beads rs - l) lo' hi') : lo' + hi = darks rs ∧ hi' + lo = darks rs := by
  obtain ⟨s1, p1, q1, e1⟩ := a.atLo
  obtain ⟨s2, p2, q2, e2⟩ := a.atHi
  obtain ⟨s3, p3, q3, e3⟩ := b.atLo
  obtain ⟨s4, p4, q4, e4⟩ := b.atHi
  obtain ⟨t1, u1, v1, f1⟩ := dd_oth h l0 l1 p1 q1
  obtain ⟨t2, u2, v2, f2⟩ := dd_oth h l0 l1 p2 q2
  obtain ⟨t3, u3, v3, f3⟩ := dd_oth h (l := beads rs - l) (by omega) (by omega) p3 q3
  obtain ⟨t4, u4, v4, f4⟩ := dd_oth h (l := beads rs - l) (by omega) (by omega) p4 q4
  rw [show beads rs - (beads rs - l) = l by omega] at f3 f4
  have g1 := b.bds t1 u1 v1
  have g2 := b.bds t2 u2 v2
  have g3 := a.bds t3 u3 v3
  have g4 := a.bds t4 u4 v4
  omega
theorem ext_more {rs : List Rn} {l lo hi lo' hi' : Int} (h : Pos rs) (a : Ext rs l lo hi) (b : Ext rs (l + 1) lo' hi') : (lo' - lo = 0 ∨ lo' - lo = 1) ∧ (hi' - hi = 0 ∨ hi' - hi = 1) := by
  obtain ⟨s1, p1, q1, e1⟩ := a.atLo
  obtain ⟨s2, p2, q2, e2⟩ := a.atHi
  obtain ⟨s3, p3, q3, e3⟩ := b.atLo
  obtain ⟨s4, p4, q4, e4⟩ := b.atHi
  have d1 := dd_more h (l := l) (s := s1)
  have d2 := dd_more h (l := l) (s := s2)
  have d3 := dd_more h (l := l) (s := s3)
  have d4 := dd_more h (l := l) (s := s4)
  have g1 := b.bds s1 p1 q1
  have g2 := b.bds s2 p2 q2
  have g3 := a.bds s3 p3 q3
  have g4 := a.bds s4 p4 q4
  omega
theorem least_top {rs : List Rn} {d L lo hi : Int} (a : Least rs d L) (x : Ext rs L lo hi) : d ≤ hi := by
  obtain ⟨s, s0, s1, e⟩ := a.got
  have := x.bds s s0 s1
  omega
theorem least_less {rs : List Rn} {d L lo hi : Int} (a : Least rs d L) (l : 0 < L) (x : Ext rs (L - 1) lo hi) : hi < d := by
  obtain ⟨s, s0, s1, e⟩ := x.atHi
  have := a.no (L - 1) (by omega) (by omega) s s0 s1
  omega
theorem most_low {rs : List Rn} {d M lo hi : Int} (h : Pos rs) (b : Least rs (darks rs - d) M) (x : Ext rs (beads rs - M) lo hi) : lo ≤ d := by
  obtain ⟨s, s0, s1, e⟩ := b.got
  obtain ⟨t, t0, t1, f⟩ := dd_oth h b.r0 b.r1 s0 s1
  have := x.bds t t0 t1
  omega
theorem most_more {rs : List Rn} {d M lo hi : Int} (h : Pos rs) (b : Least rs (darks rs - d) M) (m : beads rs - M < beads rs) (x : Ext rs (beads rs - M + 1) lo hi) : d < lo := by
  obtain ⟨s, s0, s1, e⟩ := x.atLo
  have r1 := b.r1
  obtain ⟨t, t0, t1, f⟩ := dd_oth h (l := beads rs - M + 1) (by omega) (by omega) s0 s1
  have := b.no (beads rs - (beads rs - M + 1)) (by omega) (by omega) t t0 t1
  omega
theorem least_most {rs : List Rn} {d L M : Int} (h : Pos rs) (ne : rs ≠ []) (a : Least rs d L) (b : Least rs (darks rs - d) M) (d1 : d ≤ darks rs) : L ≤ beads rs - M := by
  refine Classical.byContradiction fun no => ?_
  have b1 := beads_pos h ne
  have r0 := b.r0
  have r1 := b.r1
  have z := a.no (beads rs - M) (by omega) (by omega)
  by_cases m0 : M = 0
  · have := z 0 (by omega) (by omega)
    rw [m0, Int.sub_zero, dd_full h] at this
    omega
  · obtain ⟨t, t0, t1, f⟩ := dd_oth h (l := M) (s := 0) (by omega) (by omega) (by omega) (by omega)
    have p := z t t0 t1
    have q := b.no (M - 1) (by omega) (by omega) 0 (by omega) (by omega)
    have r := dd_more h (l := M - 1) (s := 0)
    rw [show M - 1 + 1 = M by omega] at r
    omega
theorem beads_ge {rs : List Rn} (h : Pos rs) {r : Rn} (hr : r ∈ rs) : 1 ≤ r.2 ∧ r.2 ≤ beads rs := by
  obtain ⟨a, b, rfl⟩ := List.append_of_mem hr
  have h1 := beads_nn h.l
  have h2 := beads_nn (rs := b) fun x hx => h x (List.mem_append_right _ (List.mem_cons_of_mem _ hx))
  have := h r hr
  rw [beads_app, beads_cons]
  omega
/-- three strands, joined -/
theorem bd_three {a b c : List Rn} (x : Bd a) (y : Bd b) (z : Bd c) (la : a.length ≤ 20) (lb : b.length ≤ 20) (lc : c.length ≤ 20) (ha : ∀ r ∈ a, r.2 ≤ 10 ^ 33) (hb : ∀ r ∈ b, r.2 ≤ 10 ^ 33) (hc : ∀ r ∈ c, r.2 ≤ 10 ^ 33) : Bd (joinR [a, b, c].flatten) := by
  have e : [a, b, c].flatten = a ++ (b ++ c) := by simp
  rw [e]
  have p : Pos (a ++ (b ++ c)) := Pos.app x.vd.pos (Pos.app y.vd.pos z.vd.pos)
  obtain ⟨v, l⟩ := joinR_vd p (fun h => x.vd.ne (List.append_eq_nil_iff.mp h).1)
  obtain ⟨p2, b2, _⟩ := joinR_ok p
  rw [List.length_append, List.length_append] at l
  rw [beads_app, beads_app] at b2
  have n1 := beads_le (m := 10 ^ 33) (by decide) ha
  have n2 := beads_le (m := 10 ^ 33) (by decide) hb
  have n3 := beads_le (m := 10 ^ 33) (by decide) hc
  have m1 := Int.mul_le_mul_of_nonneg_right (show ((a.length : Nat) : Int) ≤ 20 by omega) (show (0 : Int) ≤ 10 ^ 33 by decide)
  have m2 := Int.mul_le_mul_of_nonneg_right (show ((b.length : Nat) : Int) ≤ 20 by omega) (show (0 : Int) ≤ 10 ^ 33 by decide)
  have m3 := Int.mul_le_mul_of_nonneg_right (show ((c.length : Nat) : Int) ≤ 20 by omega) (show (0 : Int) ≤ 10 ^ 33 by decide)
  have t : (60 : Int) * 10 ^ 33 ≤ 10 ^ 35 := by decide
  exact ⟨v, by omega, fun r hr => by have := (beads_ge p2 hr).2; omega⟩
theorem fl_two (a b : Int) : Fl 1 (.tup [.int a, .int b]) := .tup fun x hx => by
  rcases List.mem_cons.mp hx with rfl | hx
  · exact .int _
  · rw [List.mem_singleton.mp hx]
    exact .int _
theorem fl_twoL (a b : Int) : Fl 1 (.lst [.int a, .int b]) := .lst fun x hx => by
  rcases List.mem_cons.mp hx with rfl | hx
  · exact .int _
  · rw [List.mem_singleton.mp hx]
    exact .int _
theorem mem_cut {α : Type} {l : List α} {a b : Option Int} {x : α} (h : x ∈ cutL l a b) : x ∈ l := by
  unfold cutL at h
  exact List.mem_of_mem_drop (List.mem_of_mem_take h)
def S_law_right : DSp := fun as O q _ => ∃ p rs n, as = [.opq (.ref p), eS rs] ∧ Src O p n ∧ n ≤ 600000 ∧ Bd rs ∧ ∀ O', Src O' p (n + 100) → Mv p O O' → q (.bl true) O'
def S_law_many_runs_right : DSp := fun as O q _ => ∃ p n, as = [.opq (.ref p)] ∧ Src O p n ∧ n ≤ 1000 ∧ ∀ O', q (.bl true) O'
section
variable {P : Program} {w : World} {K : PySem.W.Frag} {mg : Str → Option Value} {base : Heap}
theorem ok_law_right (T : Tx K mg) : FnD P w K mg base 8 T.a_law_right T.d_law_right ["source", "line"] S_law_right := by
  refine fn_D T.F_law_right sc_law_right (fun as O q e h => ?_) (fun cdv A outer s H E hr as O q e h => ?_)
  · obtain ⟨p, rs, n, rfl, _⟩ := h
    rfl
  · refine ⟨_, (dss_cons (ds_par 2 3 sc_law_right.nd (da_cons (de_call (L2N.takes_of rfl rfl rfl rfl) (ok_law_amount T) hr T.g_law_amount T.F_law_amount.kp (bn_law_amount T) (da_cons (de_var 1) da_nil)) (da_cons (de_call (L2N.takes_of rfl rfl rfl rfl) (ok_law_dark T) hr T.g_law_dark T.F_law_dark.kp (bn_law_dark T) (da_cons (de_var 1) (da_cons (de_call (L2N.takes_of rfl rfl rfl rfl) (ok_law_amount T) hr T.g_law_amount T.F_law_amount.kp (bn_law_amount T) (da_cons (de_var 1) da_nil)) da_nil))) da_nil)) (fun h => ps_par rfl sc_law_right.nd rfl rfl (by decide) rfl rfl h rfl))
    (dss_cons (ds_for (by passes_own) rfl (di_range1 T.z_range (da_cons de_int da_nil) (fun h => pi_range1 rfl T.z_range h)) (dg_name 4 sc_law_right.nd) (dss_cons (ds_set 5 sc_law_right.nd (de_call (L2N.takes_of rfl rfl rfl rfl) (ok_law_size T) hr T.g_law_size T.F_law_size.kp (bn_law_size T) (da_cons (de_var 0) (da_cons (de_var 1) da_nil))))
    (dss_cons (ds_set 6 sc_law_right.nd (de_call (L2N.takes_of rfl rfl rfl rfl) (ok_law_low_high T) hr T.g_law_low_high T.F_law_low_high.kp (bn_law_low_high T) (da_cons (de_var 1) (da_cons (de_var 5) da_nil))))
    (dss_cons (ds_if (dt_ne hr (de_call (L2N.takes_of rfl rfl rfl rfl) (ok_dark_range T) hr T.g_dark_range T.F_dark_range.kp (bn_dark_range T) (da_cons (de_var 1) (da_cons (de_var 5) da_nil))) (de_var 6)) (dss_one (ds_ret de_bl)) dss_nil)
    (dss_cons (ds_set 7 sc_law_right.nd (de_callK0 (L2N.takes_of rfl rfl rfl rfl) (ok_dark_range T) hr T.g_dark_range T.F_dark_range.kp (kb_dark_range_0_ring_length T) (dk_cons (de_var 1) (dk_cons (de_sub (de_var 2) (de_var 5)) dk_nil))))
    (dss_cons (ds_if (dt_ne hr (de_lst (da_cons (de_add (de_ix (de_var 7) de_int) (de_ix (de_var 6) de_int)) (da_cons (de_add (de_ix (de_var 7) de_int) (de_ix (de_var 6) de_int)) da_nil))) (de_lst (da_cons (de_var 3) (da_cons (de_var 3) da_nil)))) (dss_one (ds_ret de_bl)) dss_nil)
    (dss_one (ds_if (dt_lt (de_var 5) (de_var 2)) (dss_cons (ds_set 8 sc_law_right.nd (de_call (L2N.takes_of rfl rfl rfl rfl) (ok_dark_range T) hr T.g_dark_range T.F_dark_range.kp (bn_dark_range T) (da_cons (de_var 1) (da_cons (de_add (de_var 5) de_int) da_nil))))
    (dss_one (ds_if (dt_w (dw_or (dt_notinI (de_sub (de_ix (de_var 8) de_int) (de_ix (de_var 6) de_int)) (de_lst (da_cons de_int (da_cons de_int da_nil)))) (dw_or1 (dt_notinI (de_sub (de_ix (de_var 8) de_int) (de_ix (de_var 6) de_int)) (de_lst (da_cons de_int (da_cons de_int da_nil))))))) (dss_one (ds_ret de_bl)) dss_nil))) dss_nil))))))))
    (dss_cons (ds_set 9 sc_law_right.nd (de_lst (da_cons de_int (da_cons (de_var 3) (da_cons (de_blt (call_min2 rfl) lc_min2 T.z_min (by decide +kernel) (da_cons de_int (da_cons (de_var 3) da_nil))) (da_cons (de_blt (call_max2 rfl) lc_max2 T.z_max (by decide +kernel) (da_cons de_int (da_cons (de_sub (de_var 3) de_int) da_nil))) (da_cons (de_call (L2N.takes_of rfl rfl rfl rfl) (ok_law_draw T) hr T.g_law_draw T.F_law_draw.kp (bn_law_draw T) (da_cons (de_var 0) (da_cons (de_add (de_var 3) de_int) da_nil))) (da_cons (de_fdiv (de_var 3) de_int) da_nil))))))))
    (dss_cons (ds_set 10 sc_law_right.nd (de_call (L2N.takes_of rfl rfl rfl rfl) (ok_law_draw T) hr T.g_law_draw T.F_law_draw.kp (bn_law_draw T) (da_cons (de_var 0) (da_cons de_int da_nil))))
    (dss_cons (ds_for (by passes_own) rfl (di_enum T.z_enumerate (da_cons (de_slice (de_var 9) (do_some (de_var 10)) (do_some (de_add (de_var 10) de_int))) da_nil)) (dg_tup (n := 2) rfl (dg_cons (dg_name 4 sc_law_right.nd) (dg_cons (dg_name 11 sc_law_right.nd) dg_nil))) (dss_cons (ds_asg (de_ifexp (dt_eq hr (de_var 4) de_int) (de_call (L2N.takes_of rfl rfl rfl rfl) (ok_length_range T) hr T.g_length_range T.F_length_range.kp (bn_length_range T) (da_cons (de_var 1) (da_cons (de_var 11) da_nil))) (de_callK0 (L2N.takes_of rfl rfl rfl rfl) (ok_length_range T) hr T.g_length_range T.F_length_range.kp (kb_length_range_0_dark_ring T) (dk_cons (de_var 11) (dk_cons (de_var 1) dk_nil)))) (dg_tup (n := 2) rfl (dg_cons (dg_name 12 sc_law_right.nd) (dg_cons (dg_name 13 sc_law_right.nd) dg_nil))))
    (dss_cons (ds_if (dt_not (dt_chain3 or_le lq_le or_le lq_le or_le lq_le de_int (de_var 12) (de_var 13) (de_var 2))) (dss_one (ds_ret de_bl)) dss_nil)
    (dss_cons (ds_if (dt_w (dw_or (dt_lt (de_ix (de_call (L2N.takes_of rfl rfl rfl rfl) (ok_law_low_high T) hr T.g_law_low_high T.F_law_low_high.kp (bn_law_low_high T) (da_cons (de_var 1) (da_cons (de_var 12) da_nil))) de_int) (de_var 11)) (dw_or1 (dt_w (dw_and (dt_gt (de_var 12) de_int) (dw_and1 (dt_ge (de_ix (de_call (L2N.takes_of rfl rfl rfl rfl) (ok_law_low_high T) hr T.g_law_low_high T.F_law_low_high.kp (bn_law_low_high T) (da_cons (de_var 1) (da_cons (de_sub (de_var 12) de_int) da_nil))) de_int) (de_var 11)))))))) (dss_one (ds_ret de_bl)) dss_nil)
    (dss_cons (ds_if (dt_gt (de_ix (de_call (L2N.takes_of rfl rfl rfl rfl) (ok_law_low_high T) hr T.g_law_low_high T.F_law_low_high.kp (bn_law_low_high T) (da_cons (de_var 1) (da_cons (de_var 13) da_nil))) de_int) (de_var 11)) (dss_one (ds_ret de_bl)) dss_nil)
    (dss_one (ds_if (dt_w (dw_and (dt_lt (de_var 13) (de_var 2)) (dw_and1 (dt_le (de_ix (de_call (L2N.takes_of rfl rfl rfl rfl) (ok_law_low_high T) hr T.g_law_low_high T.F_law_low_high.kp (bn_law_low_high T) (da_cons (de_var 1) (da_cons (de_add (de_var 13) de_int) da_nil))) de_int) (de_var 11))))) (dss_one (ds_ret de_bl)) dss_nil)))))))
    (dss_one (ds_ret de_bl))))))), ?_⟩

    obtain ⟨p, rs, n, rfl, src, hn, bd, hq⟩ := h
    have v := bd.vd
    have b150 := bd_beads bd
    have t200 : (2 : Int) ^ 150 + 1 < 2 ^ 200 := by decide
    have t35 : (10 : Int) ^ 35 < 2 ^ 200 := by decide
    have hlen := bd.len
    have b1 := beads_pos v.pos v.ne
    have bn := beads_nn v.pos
    have hb : ∀ r ∈ rs, r.2 < 2 ^ 200 := fun r hr => by have := bd.le r hr; omega
    have g : Rg rs := ⟨v.pos, v.ne, by omega, by omega⟩
    have lh : ∀ (l : Int) (O1 : Ow) (q1 : DK) (e1 : Xc → Ow → Prop), 0 ≤ l → l ≤ beads rs → (∀ lo hi, Ext rs l lo hi → q1 (.tup [.int lo, .int hi]) O1) → S_law_low_high [eS rs, .int l] O1 q1 e1 := fun l O1 q1 e1 l0 l1 h => ⟨rs, l, rfl, v.pos, v.ne, by omega, hb, l0, l1, h⟩
    refine dSeq_hide fun N hN => ?_
    try walk_at "DL"
    refine ⟨rs, rfl, by omega, ?_⟩
    try walk_at "DL"
    refine ⟨rs, rfl, by omega, ?_⟩
    try walk_at "DL"
    refine ⟨rs, beads rs, rfl, v.pos, by omega, hb, ?_⟩
    rw [gd_all v.pos (Int.le_refl _)]
    try walk_at "DL"
    subst hN
    refine dSeq_hide fun N hN => ?_
    try walk_at "DL"
    refine ⟨by decide, by decide, ?_⟩
    refine loopX_rng _ (fun i ds' O' => ∃ a b c d e, ds' = [some (.opq (.ref p)), some (eS rs), some (.int (beads rs)), some (.int (darks rs)), a, b, c, d, e, none, none, none, none, none] ∧ Src O' p (n + 5 * i) ∧ Mv p O O') ⟨_, _, _, _, _, rfl, src, Mv.refl⟩ ?_ ?_
    · rintro i ds' O' hi ⟨a, b, c, d, e, rfl, srcI, mvI⟩ R hR
      have hi' : i < 6 := hi
      refine dSeq_hide fun N1 hN1 => ?_
      try walk_at "DL"
      refine ⟨p, rs, _, rfl, srcI, by omega, bd, fun l O2 l0 l1 src2 mv2 => ?_⟩
      try walk_at "DL"
      subst hN1
      refine dSeq_hide fun N1 hN1 => ?_
      try walk_at "DL"
      refine lh l _ _ _ l0 l1 fun lo hi2 ex => ?_
      try walk_at "DL"
      subst hN1
      refine dSeq_hide fun N1 hN1 => ?_
      try walk_at "DL"
      refine dark_range_ v g l0 l1 fun lo' hi' ex' => ?_
      obtain ⟨rfl, rfl⟩ := ext_one ex ex'
      try walk_at "DL"
      refine qn_same (fl_two _ _) (by decide) ?_
      try walk_at "DL"
      subst hN1
      refine dSeq_hide fun N1 hN1 => ?_
      try walk_at "DL"
      refine dark_range_ v g (by omega) (by omega) fun lo2 hi3 ex2 => ?_
      try walk_at "DL"
      subst hN1
      refine dSeq_hide fun N1 hN1 => ?_
      try walk_at "DL"
      obtain ⟨e1, e2⟩ := ext_other v.pos l0 l1 ex ex2
      rw [e1, e2]
      refine ⟨by decide, by decide, ?_⟩
      refine qn_same (fl_twoL _ _) (by decide) ?_
      try walk_at "DL"
      subst hN1
      try walk_at "DL"
      by_cases c : l < beads rs
      · rw [decide_eq_true c]
        try walk_at "DL"
        refine dark_range_ v g (by omega) (by omega) fun lo4 hi4 ex4 => ?_
        obtain ⟨f1, f2⟩ := ext_more v.pos ex ex4
        try walk_at "DL"
        rw [decide_eq_true (show lo4 - lo ∈ [(0 : Int), 1] by rcases f1 with z | z <;> rw [z] <;> simp)]
        rw [decide_eq_true (show hi4 - hi2 ∈ [(0 : Int), 1] by rcases f2 with z | z <;> rw [z] <;> simp)]
        try walk_at "DL"
        refine ⟨by decide, by decide, ?_⟩
        exact hR _ _ ⟨_, _, _, _, _, rfl, src2.mono (by omega), mvI.trans mv2⟩
      · rw [decide_eq_false c]
        try walk_at "DL"
        exact hR _ _ ⟨_, _, _, _, _, rfl, src2.mono (by omega), mvI.trans mv2⟩
    rintro ds' O' ⟨a, b, c, d, e, rfl, src1, mv1⟩
    have src1 : Src O' p (n + 30) := src1
    subst hN
    try dsimp only
    refine dSeq_hide fun N hN => ?_
    try walk_at "DL"
    refine draw_ src1 (by omega) (by omega) (by omega) fun d1 O1 d10 d11 src2 mv2 => ?_
    refine ⟨divw (by omega) (by omega), by decide, ?_⟩
    subst hN
    refine dSeq_hide fun N hN => ?_
    try walk_at "DL"
    refine draw_ src2 (by omega) (by decide) (by decide) fun pk O2 pk0 pk1 src3 mv3 => ?_
    obtain ⟨ms, em, hm⟩ : ∃ ms : List Int, [D.int 0, .int (darks rs), .int (min 1 (darks rs)), .int (max 0 (darks rs - 1)), .int d1, .int (darks rs / 2)] = ms.map D.int ∧ ∀ m ∈ ms, 0 ≤ m ∧ m ≤ darks rs := by
      refine ⟨[0, darks rs, min 1 (darks rs), max 0 (darks rs - 1), d1, darks rs / 2], rfl, fun m hm => ?_⟩
      simp only [List.mem_cons, List.not_mem_nil, or_false] at hm
      omega
    rw [em]
    try walk_at "DL"
    subst hN
    refine dSeq_hide fun N hN => ?_
    try walk_at "DL"
    rw [cut_map]
    have cm : ∀ m ∈ cutL ms (some pk) (some (pk + 2)), 0 ≤ m ∧ m ≤ darks rs := fun m h => hm m (mem_cut h)
    generalize cutL ms (some pk) (some (pk + 2)) = ns at *
    unfold enumD
    refine loopX_map (fun i : Nat => D.tup [.int (i : Int), nthD (ns.map D.int) i]) (List.range (ns.map D.int).length) (fun (u : Unit) _ => u) (fun i _ ds' O' => ∃ x y z w, ds' = [some (.opq (.ref p)), some (eS rs), some (.int (beads rs)), some (.int (darks rs)), x, b, c, d, e, some (.lst (ms.map D.int)), some (.int pk), y, z, w] ∧ O' = O2) () ⟨_, _, _, _, rfl, rfl⟩ ?_ ?_
    · rintro i _ x ds' O' hx ⟨y0, y1, y2, y3, rfl, rfl⟩ R hR
      obtain ⟨hi, hxi⟩ := List.getElem?_eq_some_iff.mp hx
      rw [List.length_range, List.length_map] at hi
      rw [List.getElem_range] at hxi
      subst hxi
      have gi : (ns.map D.int)[i]? = some (D.int ns[i]) := by rw [List.getElem?_map, List.getElem?_eq_getElem hi]; rfl
      have mm := cm ns[i] (List.getElem_mem hi)
      rw [nthD_of gi]
      clear gi
      revert mm
      generalize ns[i] = m
      intro mm
      simp only [dgTup, dgCons, dgName, dgNil, true_and, List.length_cons, List.length_nil, List.set_cons_succ, List.set_cons_zero, Nat.reduceAdd]
      refine dSeq_hide fun N1 hN1 => ?_
      suffices key : ∀ L M, Least rs m L → Least rs (darks rs - m) M → N1 [some (.opq (.ref p)), some (eS rs), some (.int (beads rs)), some (.int (darks rs)), some (.int (i : Int)), b, c, d, e, some (.lst (ms.map D.int)), some (.int pk), some (.int m), some (.int L), some (.int (beads rs - M))] O' by
        try walk_at "DL"
        by_cases c0 : (i : Int) = 0
        · rw [decide_eq_true c0]
          try walk_at "DL"
          refine length_range_ v g mm.1 mm.2 fun L M hL hM => ?_
          try walk_at "DL"
          exact key L M hL hM
        · rw [decide_eq_false c0]
          try walk_at "DL"
          refine length_range_ v g mm.1 mm.2 fun L M hL hM => ?_
          try walk_at "DL"
          exact key L M hL hM
      intro L M hL hM
      subst hN1
      have lm := least_most v.pos v.ne hL hM mm.2
      have L0 := hL.r0
      have M0 := hM.r0
      have M1 := hM.r1
      refine dSeq_hide fun N1 hN1 => ?_
      try walk_at "DL"
      rw [decide_eq_true L0, decide_eq_true lm, decide_eq_true (show beads rs - M ≤ beads rs by omega)]
      try walk_at "DL"
      subst hN1
      refine dSeq_hide fun N1 hN1 => ?_
      suffices key : N1 [some (.opq (.ref p)), some (eS rs), some (.int (beads rs)), some (.int (darks rs)), some (.int (i : Int)), b, c, d, e, some (.lst (ms.map D.int)), some (.int pk), some (.int m), some (.int L), some (.int (beads rs - M))] O' by
        try walk_at "DL"
        refine lh L _ _ _ L0 (by omega) fun lo hi2 ex => ?_
        have t1 := least_top hL ex
        try walk_at "DL"
        rw [decide_eq_false (show ¬ hi2 < m by omega)]
        try walk_at "DL"
        by_cases c0 : 0 < L
        · rw [decide_eq_true c0]
          try walk_at "DL"
          refine lh (L - 1) _ _ _ (by omega) (by omega) fun lo4 hi4 ex4 => ?_
          have t3 := least_less hL c0 ex4
          try walk_at "DL"
          rw [decide_eq_false (show ¬ m ≤ hi4 by omega)]
          try walk_at "DL"
          exact key
        · rw [decide_eq_false c0]
          try walk_at "DL"
          exact key
      subst hN1
      refine dSeq_hide fun N1 hN1 => ?_
      try walk_at "DL"
      refine lh (beads rs - M) _ _ _ (by omega) (by omega) fun lo3 hi3 ex3 => ?_
      have t2 := most_low v.pos hM ex3
      try walk_at "DL"
      rw [decide_eq_false (show ¬ m < lo3 by omega)]
      try walk_at "DL"
      subst hN1
      try walk_at "DL"
      by_cases c0 : beads rs - M < beads rs
      · rw [decide_eq_true c0]
        try walk_at "DL"
        refine lh (beads rs - M + 1) _ _ _ (by omega) (by omega) fun lo4 hi4 ex4 => ?_
        have t3 := most_more v.pos hM c0 ex4
        try walk_at "DL"
        rw [decide_eq_false (show ¬ lo4 ≤ m by omega)]
        try walk_at "DL"
        exact hR _ _ ⟨_, _, _, _, rfl, rfl⟩
      · rw [decide_eq_false c0]
        try walk_at "DL"
        exact hR _ _ ⟨_, _, _, _, rfl, rfl⟩
    · rintro ds' O' ⟨y0, y1, y2, y3, rfl, rfl⟩
      subst hN
      try walk_at "DL"
      exact rt_of (hq _ (src3.mono (by omega)) ((mv1.trans mv2).trans mv3))
end
section
variable {P : Program} {w : World} {K : PySem.W.Frag} {mg : Str → Option Value} {base : Heap}
theorem ok_law_many_runs_right (T : Tx K mg) : FnD P w K mg base 8 T.a_law_many_runs_right T.d_law_many_runs_right ["source"] S_law_many_runs_right := by
  refine fn_D T.F_law_many_runs_right sc_law_many_runs_right (fun as O q e h => ?_) (fun cdv A outer s H E hr as O q e h => ?_)
  · obtain ⟨p, n, rfl, _⟩ := h
    rfl
  · refine ⟨_, (dss_cons (ds_setLc 1 [("turn", 3)] rfl sc_law_many_runs_right.nd rfl rfl (sw_true rfl rfl rfl (by decide +kernel)) (di_range1 T.z_range (da_cons de_int da_nil) (fun h => pi_range1 rfl T.z_range h)) (blkOk_by (N := ["source", "some", "line", "turn", "size", "many", "least", "greatest"]) (sc := defScope s_law_many_runs_right) (by decide +kernel)) (fun _ _ _ _ _ => (dg_name 3 sc_law_many_runs_right.nd)) (fun _ _ _ _ _ => dts_nil) (fun _ _ _ _ _ => (de_call takes0N (ok_law_line T) hr T.g_law_line T.F_law_line.kp (bn_law_line T) (da_cons (de_var 0) (da_cons de_int (da_cons de_int da_nil))))))
    (dss_cons (ds_set 2 sc_law_many_runs_right.nd (de_callR (L2N.takes_of rfl rfl rfl rfl) (ok_joined T) hr T.g_joined T.F_joined.kp (da_cons (de_ix (de_var 1) de_int) (da_cons (de_ix (de_var 1) de_int) (da_cons (de_ix (de_var 1) de_int) da_nil)))))
    (dss_cons (ds_for (by passes_own) rfl (di_range1 T.z_range (da_cons de_int da_nil) (fun h => pi_range1 rfl T.z_range h)) (dg_name 3 sc_law_many_runs_right.nd) (dss_cons (ds_set 4 sc_law_many_runs_right.nd (de_call (L2N.takes_of rfl rfl rfl rfl) (ok_law_size T) hr T.g_law_size T.F_law_size.kp (bn_law_size T) (da_cons (de_var 0) (da_cons (de_var 2) da_nil))))
    (dss_one (ds_if (dt_ne hr (de_call (L2N.takes_of rfl rfl rfl rfl) (ok_dark_range T) hr T.g_dark_range T.F_dark_range.kp (bn_dark_range T) (da_cons (de_var 2) (da_cons (de_var 4) da_nil))) (de_call (L2N.takes_of rfl rfl rfl rfl) (ok_law_low_high T) hr T.g_law_low_high T.F_law_low_high.kp (bn_law_low_high T) (da_cons (de_var 2) (da_cons (de_var 4) da_nil)))) (dss_one (ds_ret de_bl)) dss_nil))))
    (dss_cons (ds_set 5 sc_law_many_runs_right.nd (de_call (L2N.takes_of rfl rfl rfl rfl) (ok_law_draw T) hr T.g_law_draw T.F_law_draw.kp (bn_law_draw T) (da_cons (de_var 0) (da_cons (de_add (de_call (L2N.takes_of rfl rfl rfl rfl) (ok_law_dark T) hr T.g_law_dark T.F_law_dark.kp (bn_law_dark T) (da_cons (de_var 2) (da_cons (de_call (L2N.takes_of rfl rfl rfl rfl) (ok_law_amount T) hr T.g_law_amount T.F_law_amount.kp (bn_law_amount T) (da_cons (de_var 2) da_nil)) da_nil))) de_int) da_nil))))
    (dss_cons (ds_asg (de_call (L2N.takes_of rfl rfl rfl rfl) (ok_length_range T) hr T.g_length_range T.F_length_range.kp (bn_length_range T) (da_cons (de_var 2) (da_cons (de_var 5) da_nil))) (dg_tup (n := 2) rfl (dg_cons (dg_name 6 sc_law_many_runs_right.nd) (dg_cons (dg_name 7 sc_law_many_runs_right.nd) dg_nil))))
    (dss_cons (ds_if (dt_w (dw_or (dt_lt (de_ix (de_call (L2N.takes_of rfl rfl rfl rfl) (ok_law_low_high T) hr T.g_law_low_high T.F_law_low_high.kp (bn_law_low_high T) (da_cons (de_var 2) (da_cons (de_var 6) da_nil))) de_int) (de_var 5)) (dw_or1 (dt_gt (de_ix (de_call (L2N.takes_of rfl rfl rfl rfl) (ok_law_low_high T) hr T.g_law_low_high T.F_law_low_high.kp (bn_law_low_high T) (da_cons (de_var 2) (da_cons (de_var 7) da_nil))) de_int) (de_var 5))))) (dss_one (ds_ret de_bl)) dss_nil)
    (dss_cons (ds_if (dt_w (dw_and (dt_gt (de_var 6) de_int) (dw_and1 (dt_ge (de_ix (de_call (L2N.takes_of rfl rfl rfl rfl) (ok_law_low_high T) hr T.g_law_low_high T.F_law_low_high.kp (bn_law_low_high T) (da_cons (de_var 2) (da_cons (de_sub (de_var 6) de_int) da_nil))) de_int) (de_var 5))))) (dss_one (ds_ret de_bl)) dss_nil)
    (dss_one (ds_ret (de_or (de_eq hr (de_var 7) (de_call (L2N.takes_of rfl rfl rfl rfl) (ok_law_amount T) hr T.g_law_amount T.F_law_amount.kp (bn_law_amount T) (da_cons (de_var 2) da_nil))) (de_one (de_gt (de_ix (de_call (L2N.takes_of rfl rfl rfl rfl) (ok_law_low_high T) hr T.g_law_low_high T.F_law_low_high.kp (bn_law_low_high T) (da_cons (de_var 2) (da_cons (de_add (de_var 7) de_int) da_nil))) de_int) (de_var 5))))))))))))), ?_⟩

    obtain ⟨p, n, rfl, src, hn, hq⟩ := h
    refine dSeq_hide fun N hN => ?_
    try walk_at "DL"
    refine ⟨by decide, by decide, ?_⟩
    refine compX_inv (fun i : Nat => D.int (i : Int)) (List.range 3) (fun (i : Nat) acc O' => ∃ rss : List (List Rn), acc = rss.map eS ∧ rss.length = i ∧ (∀ x ∈ rss, Bd x ∧ x.length ≤ 20 ∧ ∀ r ∈ x, r.2 ≤ 10 ^ 33) ∧ Src O' p (n + 130 * i)) (by rw [List.length_range]; exact szL (by omega)) ⟨[], rfl, rfl, (fun _ h => by cases h), src⟩ ?_ ?_
    · rintro i x acc O3 hx ⟨rss, rfl, hl, hw, srcI⟩ R1 hR
      have hi := (List.getElem?_eq_some_iff.mp hx).1
      rw [List.length_range] at hi
      try walk_at "DL"
      refine ⟨p, 20, 300, _, rfl, srcI, by omega, by decide, by decide, by decide, by decide, fun rs O4 bd h33 rl src4 mv4 => ?_⟩
      try walk_at "DL"
      refine hR _ _ ⟨rss ++ [rs], by rw [List.map_append]; rfl, by rw [List.length_append, hl]; rfl, fun x hx => ?_, src4.mono (by omega)⟩
      rcases List.mem_append.mp hx with z | z
      · exact hw x z
      · rw [List.mem_singleton.mp z]
        exact ⟨bd, by omega, h33⟩
    rintro acc O3 ⟨rss, rfl, hl, hw, src3⟩
    rw [List.length_range] at hl src3
    obtain ⟨a0, b0, c0, rfl⟩ : ∃ a b c, rss = [a, b, c] := match rss, hl with | [a, b, c], _ => ⟨a, b, c, rfl⟩
    obtain ⟨ba, la, ha⟩ := hw a0 (by simp)
    obtain ⟨bb, lb, hb'⟩ := hw b0 (by simp)
    obtain ⟨bc, lc, hc⟩ := hw c0 (by simp)
    have bd := bd_three ba bb bc la lb lc ha hb' hc
    try walk_at "DL"
    subst hN
    refine dSeq_hide fun N hN => ?_
    try walk_at "DL"
    refine ⟨by simp only [List.length_cons, List.length_nil]; decide, by simp only [List.length_cons, List.length_nil]; decide, a0, [b0, c0], rfl, fun x hx => (hw x hx).1.vd, ?_, by show 2 ≤ 1000; decide, ?_⟩
    · simp only [List.flatten_cons, List.flatten_nil, List.length_append, List.length_nil]
      omega
    generalize joinR [a0, b0, c0].flatten = rs at *
    have v := bd.vd
    have b150 := bd_beads bd
    have t200 : (2 : Int) ^ 150 + 1 < 2 ^ 200 := by decide
    have t35 : (10 : Int) ^ 35 < 2 ^ 200 := by decide
    have hlen := bd.len
    have b1 := beads_pos v.pos v.ne
    have bn := beads_nn v.pos
    have hb : ∀ r ∈ rs, r.2 < 2 ^ 200 := fun r hr => by have := bd.le r hr; omega
    have g : Rg rs := ⟨v.pos, v.ne, by omega, by omega⟩
    have lh : ∀ (l : Int) (O1 : Ow) (q1 : DK) (e1 : Xc → Ow → Prop), 0 ≤ l → l ≤ beads rs → (∀ lo hi, Ext rs l lo hi → q1 (.tup [.int lo, .int hi]) O1) → S_law_low_high [eS rs, .int l] O1 q1 e1 := fun l O1 q1 e1 l0 l1 h => ⟨rs, l, rfl, v.pos, v.ne, by omega, hb, l0, l1, h⟩
    try walk_at "DL"
    subst hN
    refine dSeq_hide fun N hN => ?_
    try walk_at "DL"
    refine ⟨by decide, by decide, ?_⟩
    refine loopX_rng _ (fun i ds' O' => ∃ a b, ds' = [some (.opq (.ref p)), some (.lst [eS a0, eS b0, eS c0]), some (eS rs), a, b, none, none, none] ∧ Src O' p (n + 390 + 5 * i)) ⟨_, _, rfl, src3⟩ ?_ ?_
    · rintro i ds' O' hi ⟨a, b, rfl, srcI⟩ R hR
      have hi' : i < 3 := hi
      refine dSeq_hide fun N1 hN1 => ?_
      try walk_at "DL"
      refine ⟨p, rs, _, rfl, srcI, by omega, bd, fun l O2 l0 l1 src2 mv2 => ?_⟩
      try walk_at "DL"
      subst hN1
      try walk_at "DL"
      refine dark_range_ v g l0 l1 fun lo hi2 ex => ?_
      try walk_at "DL"
      refine lh l _ _ _ l0 l1 fun lo' hi' ex' => ?_
      obtain ⟨rfl, rfl⟩ := ext_one ex ex'
      try walk_at "DL"
      refine qn_same (fl_two _ _) (by decide) ?_
      try walk_at "DL"
      exact hR _ _ ⟨_, _, rfl, src2.mono (by omega)⟩
    rintro ds' O' ⟨a, b, rfl, src1⟩
    have src1 : Src O' p (n + 390 + 15) := src1
    subst hN
    try dsimp only
    refine dSeq_hide fun N hN => ?_
    try walk_at "DL"
    refine ⟨rs, rfl, by omega, ?_⟩
    try walk_at "DL"
    refine ⟨rs, beads rs, rfl, v.pos, by omega, hb, ?_⟩
    rw [gd_all v.pos (Int.le_refl _)]
    try walk_at "DL"
    refine draw_ src1 (by omega) (by omega) (by omega) fun m O2 m0 m1 src2 mv2 => ?_
    subst hN
    refine dSeq_hide fun N hN => ?_
    try walk_at "DL"
    refine length_range_ v g m0 (by omega) fun L M hL hM => ?_
    have lm := least_most v.pos v.ne hL hM (by omega)
    have L0 := hL.r0
    have M0 := hM.r0
    have M1 := hM.r1
    try walk_at "DL"
    subst hN
    refine dSeq_hide fun N hN => ?_
    try walk_at "DL"
    refine lh L _ _ _ L0 (by omega) fun lo hi2 ex => ?_
    have t1 := least_top hL ex
    try walk_at "DL"
    rw [decide_eq_false (show ¬ hi2 < m by omega)]
    try walk_at "DL"
    refine lh (beads rs - M) _ _ _ (by omega) (by omega) fun lo3 hi3 ex3 => ?_
    have t2 := most_low v.pos hM ex3
    try walk_at "DL"
    rw [decide_eq_false (show ¬ m < lo3 by omega)]
    try walk_at "DL"
    subst hN
    refine dSeq_hide fun N hN => ?_
    suffices key : N [some (.opq (.ref p)), some (.lst [eS a0, eS b0, eS c0]), some (eS rs), a, b, some (.int m), some (.int L), some (.int (beads rs - M))] O2 by
      try walk_at "DL"
      by_cases c0 : 0 < L
      · rw [decide_eq_true c0]
        try walk_at "DL"
        refine lh (L - 1) _ _ _ (by omega) (by omega) fun lo4 hi4 ex4 => ?_
        have t3 := least_less hL c0 ex4
        try walk_at "DL"
        rw [decide_eq_false (show ¬ m ≤ hi4 by omega)]
        try walk_at "DL"
        exact key
      · rw [decide_eq_false c0]
        try walk_at "DL"
        exact key
    subst hN
    try walk_at "DL"
    refine ⟨rs, rfl, by omega, ?_⟩
    try walk_at "DL"
    by_cases ce : beads rs - M = beads rs
    · rw [decide_eq_true ce]
      exact rt_of (hq _)
    · rw [decide_eq_false ce]
      refine lh (beads rs - M + 1) _ _ _ (by omega) (by omega) fun lo4 hi4 ex4 => ?_
      have t3 := most_more v.pos hM (by omega) ex4
      try walk_at "DL"
      rw [decide_eq_true (show m < lo4 by omega)]
      exact rt_of (hq _)
end
section
variable {P : Program} {w : World} {K : PySem.W.Frag} {mg : Str → Option Value} {base : Heap}
theorem ok_law (T : Tx K mg) {f : Addr} {fd : FuncData} (F : Fun K "law" "law" s_law f fd) : FnOk P w K mg base CX0 9 f fd ["script"] (spLawD K) := by
  refine law_D F sc_law fun cdv A outer s H E hr ns hns => ?_
  refine Exists.intro _ (And.intro (dss_cons (ds_if (dt_not (dt_val (de_call takes0N (ok_law_many_runs_right T) hr T.g_law_many_runs_right T.F_law_many_runs_right.kp (bn_law_many_runs_right T) (da_cons (de_call takes0N (ok_law_source T) hr T.g_law_source T.F_law_source.kp (bn_law_source T) (da_cons (de_add (de_mulC (de_call takes0N (ok_law_cell T) hr T.g_law_cell T.F_law_cell.kp (bn_law_cell T) (da_cons (de_var 0) (da_cons de_int da_nil))) de_int) de_int) da_nil)) da_nil)))) (dss_one (ds_ret de_bl)) dss_nil)
    (dss_cons (ds_for PassesOwn.never rfl (di_range1 T.z_range (da_cons (de_blt (call_max2 rfl) lc_max2 T.z_max (by decide +kernel) (da_cons de_int (da_cons (de_blt (call_min2 rfl) lc_min2 T.z_min (by decide +kernel) (da_cons de_int (da_cons (de_blt call_len lc_len T.z_len (by decide +kernel) (da_cons (de_var 0) da_nil)) da_nil))) da_nil))) da_nil) (fun h => pi_range1 rfl T.z_range h)) (dg_name 1 sc_law.nd) (dss_cons (ds_set 2 sc_law.nd (de_call takes0N (ok_law_source T) hr T.g_law_source T.F_law_source.kp (bn_law_source T) (da_cons (de_add (de_call takes0N (ok_law_cell T) hr T.g_law_cell T.F_law_cell.kp (bn_law_cell T) (da_cons (de_var 0) (da_cons (de_var 1) da_nil))) de_int) da_nil)))
    (dss_one (ds_for PassesOwn.never rfl (di_range1 T.z_range (da_cons de_int da_nil) (fun h => pi_range1 rfl T.z_range h)) (dg_name 3 sc_law.nd) (dss_cons (ds_set 4 sc_law.nd (de_call takes0N (ok_law_line T) hr T.g_law_line T.F_law_line.kp (bn_law_line T) (da_cons (de_var 2) (da_cons (de_ix (de_lst (da_cons de_int (da_cons de_int da_nil))) (de_var 3)) (da_cons (de_ix (de_lst (da_cons de_int (da_cons (de_pow de_int de_int) da_nil))) (de_call takes0N (ok_law_draw T) hr T.g_law_draw T.F_law_draw.kp (bn_law_draw T) (da_cons (de_var 2) (da_cons de_int da_nil)))) da_nil)))))
    (dss_one (ds_if (dt_not (dt_val (de_call takes0N (ok_law_right T) hr T.g_law_right T.F_law_right.kp (bn_law_right T) (da_cons (de_var 2) (da_cons (de_var 4) da_nil))))) (dss_one (ds_ret de_bl)) dss_nil)))))))
    (dss_one (ds_ret de_bl)))) ?_)

  try walk_at "DL"
  refine ⟨ns, 0, rfl, by omega, fun c => ?_⟩
  try walk_at "DL"
  refine ⟨show Builtin.Int.intBits 71 ≤ 64 by decide, ?_⟩
  try walk_at "DL"
  refine ⟨_, rfl, fun p O1 hp src _ => ?_⟩
  try walk_at "DL"
  refine ⟨p, 0, rfl, src, by decide, fun O2 => ?_⟩
  try walk_at "DL"
  refine ⟨by omega, by omega, ?_⟩
  refine loopX_rng _ (fun i ds' O' => ∃ a b c d, ds' = [some (.scr ns), a, b, c, d]) ⟨_, _, _, _, rfl⟩ ?_ ?_
  · rintro i ds' O' hi ⟨a, b, c, d, rfl⟩ R hR
    try walk_at "DL"
    refine ⟨ns, (i : Int), rfl, by omega, fun c2 => ?_⟩
    try walk_at "DL"
    refine ⟨_, rfl, fun p O3 hp src _ => ?_⟩
    try walk_at "DL"
    refine ⟨by decide, by decide, ?_⟩
    refine loopX_rng _ (fun j ds' O' => ∃ x y, ds' = [some (.scr ns), some (.int (i : Int)), some (.opq (.ref p)), x, y] ∧ Src O' p (300 * j)) ⟨_, _, rfl, src⟩ ?_ ?_
    · rintro j ds' O' hj ⟨x, y, rfl, srcJ⟩ R2 hR2
      have hj' : j < 2 := hj
      try walk_at "DL"
      refine ⟨by decide, ?_⟩
      refine atN (fun x => ∃ u : Int, x = .int u ∧ 1 ≤ u ∧ u ≤ 24) (by omega) (by show (j : Int) < 2; omega) ?_ ?_
      · intro x hx
        rcases List.mem_cons.mp hx with rfl | hx
        · exact ⟨_, rfl, by decide, by decide⟩
        rw [List.mem_singleton.mp hx]
        exact ⟨_, rfl, by decide, by decide⟩
      rintro x ⟨u, rfl, u0, u1⟩
      refine ⟨pow_okW (by decide) (by decide) (by decide), by decide, ?_⟩
      refine draw_ srcJ (by omega) (by decide) (by decide) fun d1 O4 d10 d11 src4 mv4 => ?_
      try walk_at "DL"
      refine atN (fun x => ∃ u : Int, x = .int u ∧ 1 ≤ u ∧ u ≤ 10 ^ 33) d10 d11 ?_ ?_
      · intro x hx
        rcases List.mem_cons.mp hx with rfl | hx
        · exact ⟨_, rfl, by decide, by decide⟩
        rw [List.mem_singleton.mp hx]
        exact ⟨_, rfl, by decide, by decide⟩
      rintro x ⟨w, rfl, w0, w1⟩
      refine ⟨p, u, w, _, rfl, src4, by omega, u0, by omega, w0, w1, fun rs O5 bd h33 hl src5 mv5 => ?_⟩
      try walk_at "DL"
      refine ⟨p, rs, _, rfl, src5, by omega, bd, fun O6 src6 mv6 => ?_⟩
      try walk_at "DL"
      exact hR2 _ _ ⟨_, _, rfl, src6.mono (by omega)⟩
    · rintro ds' O' ⟨x, y, rfl, srcJ⟩
      exact hR _ _ ⟨_, _, _, _, rfl⟩
  · rintro ds' O' ⟨a, b, c, d, rfl⟩
    try walk_at "DL"
end
theorem all_mk {l : PySem.W.OpenLaw} {w : World} {K : PySem.W.Frag} {h : Heap} {mg : Str → Option Value} {fa : Addr} (X : K.In h) (G : h.Ns mainGlobals mg) (hfa : mg "law" = some (.ref fa))
    {f0 : Addr} {od0 an0 : Option Addr} {sl0 : Array (Option Value)} {oc0 kV0 dc0 pm0 cd0 ct0 : Value} {f1 : Addr} {od1 an1 : Option Addr} {sl1 : Array (Option Value)} {oc1 kV1 dc1 pm1 cd1 ct1 : Value} {f2 : Addr} {od2 an2 : Option Addr} {sl2 : Array (Option Value)} {oc2 kV2 dc2 pm2 cd2 ct2 : Value} {f3 : Addr} {od3 an3 : Option Addr} {sl3 : Array (Option Value)} {oc3 kV3 dc3 pm3 cd3 ct3 : Value} {f4 : Addr} {od4 an4 : Option Addr} {sl4 : Array (Option Value)} {oc4 kV4 dc4 pm4 cd4 ct4 : Value} {f5 : Addr} {od5 an5 : Option Addr} {sl5 : Array (Option Value)} {oc5 kV5 dc5 pm5 cd5 ct5 : Value} {f6 : Addr} {od6 an6 : Option Addr} {sl6 : Array (Option Value)} {oc6 kV6 dc6 pm6 cd6 ct6 : Value} {f7 : Addr} {od7 an7 : Option Addr} {sl7 : Array (Option Value)} {oc7 kV7 dc7 pm7 cd7 ct7 : Value} {f8 : Addr} {od8 an8 : Option Addr} {sl8 : Array (Option Value)} {oc8 kV8 dc8 pm8 cd8 ct8 : Value} {f9 : Addr} {od9 an9 : Option Addr} {sl9 : Array (Option Value)} {oc9 kV9 dc9 pm9 cd9 ct9 : Value} {f10 : Addr} {od10 an10 : Option Addr} {sl10 : Array (Option Value)} {oc10 kV10 dc10 pm10 cd10 ct10 : Value} {f11 : Addr} {od11 an11 : Option Addr} {sl11 : Array (Option Value)} {oc11 kV11 dc11 pm11 cd11 ct11 : Value} {f12 : Addr} {od12 an12 : Option Addr} {sl12 : Array (Option Value)} {oc12 kV12 dc12 pm12 cd12 ct12 : Value} {f13 : Addr} {od13 an13 : Option Addr} {sl13 : Array (Option Value)} {oc13 kV13 dc13 pm13 cd13 ct13 : Value} {f14 : Addr} {od14 an14 : Option Addr} {sl14 : Array (Option Value)} {oc14 kV14 dc14 pm14 cd14 ct14 : Value} {f15 : Addr} {od15 an15 : Option Addr} {sl15 : Array (Option Value)} {oc15 kV15 dc15 pm15 cd15 ct15 : Value} {f16 : Addr} {od16 an16 : Option Addr} {sl16 : Array (Option Value)} {oc16 kV16 dc16 pm16 cd16 ct16 : Value} {f17 : Addr} {od17 an17 : Option Addr} {sl17 : Array (Option Value)} {oc17 kV17 dc17 pm17 cd17 ct17 : Value} {f18 : Addr} {od18 an18 : Option Addr} {sl18 : Array (Option Value)} {oc18 kV18 dc18 pm18 cd18 ct18 : Value} {f19 : Addr} {od19 an19 : Option Addr} {sl19 : Array (Option Value)} {oc19 kV19 dc19 pm19 cd19 ct19 : Value} {f20 : Addr} {od20 an20 : Option Addr} {sl20 : Array (Option Value)} {oc20 kV20 dc20 pm20 cd20 ct20 : Value} {f21 : Addr} {od21 an21 : Option Addr} {sl21 : Array (Option Value)} {oc21 kV21 dc21 pm21 cd21 ct21 : Value} {f22 : Addr} {od22 an22 : Option Addr} {sl22 : Array (Option Value)} {oc22 kV22 dc22 pm22 cd22 ct22 : Value} {f23 : Addr} {od23 an23 : Option Addr} {sl23 : Array (Option Value)} {oc23 kV23 dc23 pm23 cd23 ct23 : Value} {f24 : Addr} {od24 an24 : Option Addr} {sl24 : Array (Option Value)} {oc24 kV24 dc24 pm24 cd24 ct24 : Value} {f25 : Addr} {od25 an25 : Option Addr} {sl25 : Array (Option Value)} {oc25 kV25 dc25 pm25 cd25 ct25 : Value} {f26 : Addr} {od26 an26 : Option Addr} {sl26 : Array (Option Value)} {oc26 kV26 dc26 pm26 cd26 ct26 : Value} {f27 : Addr} {od27 an27 : Option Addr} {sl27 : Array (Option Value)} {oc27 kV27 dc27 pm27 cd27 ct27 : Value} {f28 : Addr} {od28 an28 : Option Addr} {sl28 : Array (Option Value)} {oc28 kV28 dc28 pm28 cd28 ct28 : Value} {f29 : Addr} {od29 an29 : Option Addr} {sl29 : Array (Option Value)} {oc29 kV29 dc29 pm29 cd29 ct29 : Value} {f30 : Addr} {od30 an30 : Option Addr} {sl30 : Array (Option Value)} {oc30 kV30 dc30 pm30 cd30 ct30 : Value} {f31 : Addr} {od31 an31 : Option Addr} {sl31 : Array (Option Value)} {oc31 kV31 dc31 pm31 cd31 ct31 : Value} {f32 : Addr} {od32 an32 : Option Addr} {sl32 : Array (Option Value)} {oc32 kV32 dc32 pm32 cd32 ct32 : Value} {f33 : Addr} {od33 an33 : Option Addr} {sl33 : Array (Option Value)} {oc33 kV33 dc33 pm33 cd33 ct33 : Value}
    (a0 : PySem.W.nsIn K mainGlobals "is_integer" = some (some (.ref f0))) (l0 : K.lookup f0 = some ⟨oc0, od0, .func (PySem.W.fnOf "is_integer" "is_integer" (defArgs s_is_integer) (defBody s_is_integer) (defScope s_is_integer) .none kV0 dc0 pm0 an0 cd0 ct0), sl0⟩) (c0 : PySem.W.codeIn K cd0 "is_integer" = true) (k0 : PySem.W.keepIn K (.ref f0) = true)
    (a1 : PySem.W.nsIn K mainGlobals "is_integer_within" = some (some (.ref f1))) (l1 : K.lookup f1 = some ⟨oc1, od1, .func (PySem.W.fnOf "is_integer_within" "is_integer_within" (defArgs s_is_integer_within) (defBody s_is_integer_within) (defScope s_is_integer_within) .none kV1 dc1 pm1 an1 cd1 ct1), sl1⟩) (c1 : PySem.W.codeIn K cd1 "is_integer_within" = true) (k1 : PySem.W.keepIn K (.ref f1) = true)
    (a2 : PySem.W.nsIn K mainGlobals "is_run" = some (some (.ref f2))) (l2 : K.lookup f2 = some ⟨oc2, od2, .func (PySem.W.fnOf "is_run" "is_run" (defArgs s_is_run) (defBody s_is_run) (defScope s_is_run) .none kV2 dc2 pm2 an2 cd2 ct2), sl2⟩) (c2 : PySem.W.codeIn K cd2 "is_run" = true) (k2 : PySem.W.keepIn K (.ref f2) = true)
    (a3 : PySem.W.nsIn K mainGlobals "is_strand" = some (some (.ref f3))) (l3 : K.lookup f3 = some ⟨oc3, od3, .func (PySem.W.fnOf "is_strand" "is_strand" (defArgs s_is_strand) (defBody s_is_strand) (defScope s_is_strand) .none kV3 dc3 pm3 an3 cd3 ct3), sl3⟩) (c3 : PySem.W.codeIn K cd3 "is_strand" = true) (k3 : PySem.W.keepIn K (.ref f3) = true)
    (a4 : PySem.W.nsIn K mainGlobals "require_strand" = some (some (.ref f4))) (l4 : K.lookup f4 = some ⟨oc4, od4, .func (PySem.W.fnOf "require_strand" "require_strand" (defArgs s_require_strand) (defBody s_require_strand) (defScope s_require_strand) .none kV4 dc4 pm4 an4 cd4 ct4), sl4⟩) (c4 : PySem.W.codeIn K cd4 "require_strand" = true) (k4 : PySem.W.keepIn K (.ref f4) = true)
    (a5 : PySem.W.nsIn K mainGlobals "total_beads" = some (some (.ref f5))) (l5 : K.lookup f5 = some ⟨oc5, od5, .func (PySem.W.fnOf "total_beads" "total_beads" (defArgs s_total_beads) (defBody s_total_beads) (defScope s_total_beads) .none kV5 dc5 pm5 an5 cd5 ct5), sl5⟩) (c5 : PySem.W.codeIn K cd5 "total_beads" = true) (k5 : PySem.W.keepIn K (.ref f5) = true)
    (a6 : PySem.W.nsIn K mainGlobals "total_dark" = some (some (.ref f6))) (l6 : K.lookup f6 = some ⟨oc6, od6, .func (PySem.W.fnOf "total_dark" "total_dark" (defArgs s_total_dark) (defBody s_total_dark) (defScope s_total_dark) .none kV6 dc6 pm6 an6 cd6 ct6), sl6⟩) (c6 : PySem.W.codeIn K cd6 "total_dark" = true) (k6 : PySem.W.keepIn K (.ref f6) = true)
    (a7 : PySem.W.nsIn K mainGlobals "cut_between" = some (some (.ref f7))) (l7 : K.lookup f7 = some ⟨oc7, od7, .func (PySem.W.fnOf "cut_between" "cut_between" (defArgs s_cut_between) (defBody s_cut_between) (defScope s_cut_between) .none kV7 dc7 pm7 an7 cd7 ct7), sl7⟩) (c7 : PySem.W.codeIn K cd7 "cut_between" = true) (k7 : PySem.W.keepIn K (.ref f7) = true)
    (a8 : PySem.W.nsIn K mainGlobals "runs_between" = some (some (.ref f8))) (l8 : K.lookup f8 = some ⟨oc8, od8, .func (PySem.W.fnOf "runs_between" "runs_between" (defArgs s_runs_between) (defBody s_runs_between) (defScope s_runs_between) .none kV8 dc8 pm8 an8 cd8 ct8), sl8⟩) (c8 : PySem.W.codeIn K cd8 "runs_between" = true) (k8 : PySem.W.keepIn K (.ref f8) = true)
    (a9 : PySem.W.nsIn K mainGlobals "strand_of" = some (some (.ref f9))) (l9 : K.lookup f9 = some ⟨oc9, od9, .func (PySem.W.fnOf "strand_of" "strand_of" (defArgs s_strand_of) (defBody s_strand_of) (defScope s_strand_of) .none kV9 dc9 pm9 an9 cd9 ct9), sl9⟩) (c9 : PySem.W.codeIn K cd9 "strand_of" = true) (k9 : PySem.W.keepIn K (.ref f9) = true)
    (a10 : PySem.W.nsIn K mainGlobals "require_length" = some (some (.ref f10))) (l10 : K.lookup f10 = some ⟨oc10, od10, .func (PySem.W.fnOf "require_length" "require_length" (defArgs s_require_length) (defBody s_require_length) (defScope s_require_length) .none kV10 dc10 pm10 an10 cd10 ct10), sl10⟩) (c10 : PySem.W.codeIn K cd10 "require_length" = true) (k10 : PySem.W.keepIn K (.ref f10) = true)
    (a11 : PySem.W.nsIn K mainGlobals "require_dark" = some (some (.ref f11))) (l11 : K.lookup f11 = some ⟨oc11, od11, .func (PySem.W.fnOf "require_dark" "require_dark" (defArgs s_require_dark) (defBody s_require_dark) (defScope s_require_dark) .none kV11 dc11 pm11 an11 cd11 ct11), sl11⟩) (c11 : PySem.W.codeIn K cd11 "require_dark" = true) (k11 : PySem.W.keepIn K (.ref f11) = true)
    (a12 : PySem.W.nsIn K mainGlobals "arc_runs" = some (some (.ref f12))) (l12 : K.lookup f12 = some ⟨oc12, od12, .func (PySem.W.fnOf "arc_runs" "arc_runs" (defArgs s_arc_runs) (defBody s_arc_runs) (defScope s_arc_runs) .none kV12 dc12 pm12 an12 cd12 ct12), sl12⟩) (c12 : PySem.W.codeIn K cd12 "arc_runs" = true) (k12 : PySem.W.keepIn K (.ref f12) = true)
    (a13 : PySem.W.nsIn K mainGlobals "side_by_side" = some (some (.ref f13))) (l13 : K.lookup f13 = some ⟨oc13, od13, .func (PySem.W.fnOf "side_by_side" "side_by_side" (defArgs s_side_by_side) (defBody s_side_by_side) (defScope s_side_by_side) .none kV13 dc13 pm13 an13 cd13 ct13), sl13⟩) (c13 : PySem.W.codeIn K cd13 "side_by_side" = true) (k13 : PySem.W.keepIn K (.ref f13) = true)
    (a14 : PySem.W.nsIn K mainGlobals "pieces_of" = some (some (.ref f14))) (l14 : K.lookup f14 = some ⟨oc14, od14, .func (PySem.W.fnOf "pieces_of" "pieces_of" (defArgs s_pieces_of) (defBody s_pieces_of) (defScope s_pieces_of) .none kV14 dc14 pm14 an14 cd14 ct14), sl14⟩) (c14 : PySem.W.codeIn K cd14 "pieces_of" = true) (k14 : PySem.W.keepIn K (.ref f14) = true)
    (a15 : PySem.W.nsIn K mainGlobals "extremes" = some (some (.ref f15))) (l15 : K.lookup f15 = some ⟨oc15, od15, .func (PySem.W.fnOf "extremes" "extremes" (defArgs s_extremes) (defBody s_extremes) (defScope s_extremes) .none kV15 dc15 pm15 an15 cd15 ct15), sl15⟩) (c15 : PySem.W.codeIn K cd15 "extremes" = true) (k15 : PySem.W.keepIn K (.ref f15) = true)
    (a16 : PySem.W.nsIn K mainGlobals "least_length" = some (some (.ref f16))) (l16 : K.lookup f16 = some ⟨oc16, od16, .func (PySem.W.fnOf "least_length" "least_length" (defArgs s_least_length) (defBody s_least_length) (defScope s_least_length) .none kV16 dc16 pm16 an16 cd16 ct16), sl16⟩) (c16 : PySem.W.codeIn K cd16 "least_length" = true) (k16 : PySem.W.keepIn K (.ref f16) = true)
    (a17 : PySem.W.nsIn K mainGlobals "dark_range" = some (some (.ref f17))) (l17 : K.lookup f17 = some ⟨oc17, od17, .func (PySem.W.fnOf "dark_range" "dark_range" (defArgs s_dark_range) (defBody s_dark_range) (defScope s_dark_range) .none kV17 dc17 pm17 an17 cd17 ct17), sl17⟩) (c17 : PySem.W.codeIn K cd17 "dark_range" = true) (k17 : PySem.W.keepIn K (.ref f17) = true)
    (a18 : PySem.W.nsIn K mainGlobals "length_range" = some (some (.ref f18))) (l18 : K.lookup f18 = some ⟨oc18, od18, .func (PySem.W.fnOf "length_range" "length_range" (defArgs s_length_range) (defBody s_length_range) (defScope s_length_range) .none kV18 dc18 pm18 an18 cd18 ct18), sl18⟩) (c18 : PySem.W.codeIn K cd18 "length_range" = true) (k18 : PySem.W.keepIn K (.ref f18) = true)
    (a19 : PySem.W.nsIn K mainGlobals "joined" = some (some (.ref f19))) (l19 : K.lookup f19 = some ⟨oc19, od19, .func (PySem.W.fnOf "joined" "joined" (defArgs s_joined) (defBody s_joined) (defScope s_joined) .none kV19 dc19 pm19 an19 cd19 ct19), sl19⟩) (c19 : PySem.W.codeIn K cd19 "joined" = true) (k19 : PySem.W.keepIn K (.ref f19) = true)
    (a20 : PySem.W.nsIn K mainGlobals "_law_cell" = some (some (.ref f20))) (l20 : K.lookup f20 = some ⟨oc20, od20, .func (PySem.W.fnOf "_law_cell" "_law_cell" (defArgs s_law_cell) (defBody s_law_cell) (defScope s_law_cell) .none kV20 dc20 pm20 an20 cd20 ct20), sl20⟩) (c20 : PySem.W.codeIn K cd20 "_law_cell" = true) (k20 : PySem.W.keepIn K (.ref f20) = true)
    (a21 : PySem.W.nsIn K mainGlobals "_law_source" = some (some (.ref f21))) (l21 : K.lookup f21 = some ⟨oc21, od21, .func (PySem.W.fnOf "_law_source" "_law_source" (defArgs s_law_source) (defBody s_law_source) (defScope s_law_source) .none kV21 dc21 pm21 an21 cd21 ct21), sl21⟩) (c21 : PySem.W.codeIn K cd21 "_law_source" = true) (k21 : PySem.W.keepIn K (.ref f21) = true)
    (a22 : PySem.W.nsIn K mainGlobals "_law_draw" = some (some (.ref f22))) (l22 : K.lookup f22 = some ⟨oc22, od22, .func (PySem.W.fnOf "_law_draw" "_law_draw" (defArgs s_law_draw) (defBody s_law_draw) (defScope s_law_draw) .none kV22 dc22 pm22 an22 cd22 ct22), sl22⟩) (c22 : PySem.W.codeIn K cd22 "_law_draw" = true) (k22 : PySem.W.keepIn K (.ref f22) = true)
    (a23 : PySem.W.nsIn K mainGlobals "_law_line" = some (some (.ref f23))) (l23 : K.lookup f23 = some ⟨oc23, od23, .func (PySem.W.fnOf "_law_line" "_law_line" (defArgs s_law_line) (defBody s_law_line) (defScope s_law_line) .none kV23 dc23 pm23 an23 cd23 ct23), sl23⟩) (c23 : PySem.W.codeIn K cd23 "_law_line" = true) (k23 : PySem.W.keepIn K (.ref f23) = true)
    (a24 : PySem.W.nsIn K mainGlobals "_law_amount" = some (some (.ref f24))) (l24 : K.lookup f24 = some ⟨oc24, od24, .func (PySem.W.fnOf "_law_amount" "_law_amount" (defArgs s_law_amount) (defBody s_law_amount) (defScope s_law_amount) .none kV24 dc24 pm24 an24 cd24 ct24), sl24⟩) (c24 : PySem.W.codeIn K cd24 "_law_amount" = true) (k24 : PySem.W.keepIn K (.ref f24) = true)
    (a25 : PySem.W.nsIn K mainGlobals "_law_dark" = some (some (.ref f25))) (l25 : K.lookup f25 = some ⟨oc25, od25, .func (PySem.W.fnOf "_law_dark" "_law_dark" (defArgs s_law_dark) (defBody s_law_dark) (defScope s_law_dark) .none kV25 dc25 pm25 an25 cd25 ct25), sl25⟩) (c25 : PySem.W.codeIn K cd25 "_law_dark" = true) (k25 : PySem.W.keepIn K (.ref f25) = true)
    (a26 : PySem.W.nsIn K mainGlobals "_law_arc" = some (some (.ref f26))) (l26 : K.lookup f26 = some ⟨oc26, od26, .func (PySem.W.fnOf "_law_arc" "_law_arc" (defArgs s_law_arc) (defBody s_law_arc) (defScope s_law_arc) .none kV26 dc26 pm26 an26 cd26 ct26), sl26⟩) (c26 : PySem.W.codeIn K cd26 "_law_arc" = true) (k26 : PySem.W.keepIn K (.ref f26) = true)
    (a27 : PySem.W.nsIn K mainGlobals "_law_breaks" = some (some (.ref f27))) (l27 : K.lookup f27 = some ⟨oc27, od27, .func (PySem.W.fnOf "_law_breaks" "_law_breaks" (defArgs s_law_breaks) (defBody s_law_breaks) (defScope s_law_breaks) .none kV27 dc27 pm27 an27 cd27 ct27), sl27⟩) (c27 : PySem.W.codeIn K cd27 "_law_breaks" = true) (k27 : PySem.W.keepIn K (.ref f27) = true)
    (a28 : PySem.W.nsIn K mainGlobals "_law_low_high" = some (some (.ref f28))) (l28 : K.lookup f28 = some ⟨oc28, od28, .func (PySem.W.fnOf "_law_low_high" "_law_low_high" (defArgs s_law_low_high) (defBody s_law_low_high) (defScope s_law_low_high) .none kV28 dc28 pm28 an28 cd28 ct28), sl28⟩) (c28 : PySem.W.codeIn K cd28 "_law_low_high" = true) (k28 : PySem.W.keepIn K (.ref f28) = true)
    (a29 : PySem.W.nsIn K mainGlobals "_law_size" = some (some (.ref f29))) (l29 : K.lookup f29 = some ⟨oc29, od29, .func (PySem.W.fnOf "_law_size" "_law_size" (defArgs s_law_size) (defBody s_law_size) (defScope s_law_size) .none kV29 dc29 pm29 an29 cd29 ct29), sl29⟩) (c29 : PySem.W.codeIn K cd29 "_law_size" = true) (k29 : PySem.W.keepIn K (.ref f29) = true)
    (a30 : PySem.W.nsIn K mainGlobals "_law_edges" = some (some (.ref f30))) (l30 : K.lookup f30 = some ⟨oc30, od30, .func (PySem.W.fnOf "_law_edges" "_law_edges" (defArgs s_law_edges) (defBody s_law_edges) (defScope s_law_edges) .none kV30 dc30 pm30 an30 cd30 ct30), sl30⟩) (c30 : PySem.W.codeIn K cd30 "_law_edges" = true) (k30 : PySem.W.keepIn K (.ref f30) = true)
    (a31 : PySem.W.nsIn K mainGlobals "_law_right" = some (some (.ref f31))) (l31 : K.lookup f31 = some ⟨oc31, od31, .func (PySem.W.fnOf "_law_right" "_law_right" (defArgs s_law_right) (defBody s_law_right) (defScope s_law_right) .none kV31 dc31 pm31 an31 cd31 ct31), sl31⟩) (c31 : PySem.W.codeIn K cd31 "_law_right" = true) (k31 : PySem.W.keepIn K (.ref f31) = true)
    (a32 : PySem.W.nsIn K mainGlobals "_law_many_runs_right" = some (some (.ref f32))) (l32 : K.lookup f32 = some ⟨oc32, od32, .func (PySem.W.fnOf "_law_many_runs_right" "_law_many_runs_right" (defArgs s_law_many_runs_right) (defBody s_law_many_runs_right) (defScope s_law_many_runs_right) .none kV32 dc32 pm32 an32 cd32 ct32), sl32⟩) (c32 : PySem.W.codeIn K cd32 "_law_many_runs_right" = true) (k32 : PySem.W.keepIn K (.ref f32) = true)
    (a33 : PySem.W.nsIn K mainGlobals "law" = some (some (.ref f33))) (l33 : K.lookup f33 = some ⟨oc33, od33, .func (PySem.W.fnOf "law" "law" (defArgs s_law) (defBody s_law) (defScope s_law) .none kV33 dc33 pm33 an33 cd33 ct33), sl33⟩) (c33 : PySem.W.codeIn K cd33 "law" = true) (k33 : PySem.W.keepIn K (.ref f33) = true)
    {c_InvalidDark : Addr} (g_InvalidDark : PySem.W.nsIn K mainGlobals "InvalidDark" = some (some (.ref c_InvalidDark))) (x_InvalidDark : PySem.W.excIn K c_InvalidDark veTail "ValueError.__new__" = true) (k_InvalidDark : PySem.W.keepIn K (.ref c_InvalidDark) = true) (b_InvalidDark : PySem.W.subIn K (.ref c_InvalidDark) (.type "BaseException") = some true) (t_InvalidDark : PySem.W.typeIn K (.ref c_InvalidDark) = some (.type "type"))
    {c_InvalidLength : Addr} (g_InvalidLength : PySem.W.nsIn K mainGlobals "InvalidLength" = some (some (.ref c_InvalidLength))) (x_InvalidLength : PySem.W.excIn K c_InvalidLength veTail "ValueError.__new__" = true) (k_InvalidLength : PySem.W.keepIn K (.ref c_InvalidLength) = true) (b_InvalidLength : PySem.W.subIn K (.ref c_InvalidLength) (.type "BaseException") = some true) (t_InvalidLength : PySem.W.typeIn K (.ref c_InvalidLength) = some (.type "type"))
    {c_InvalidStrand : Addr} (g_InvalidStrand : PySem.W.nsIn K mainGlobals "InvalidStrand" = some (some (.ref c_InvalidStrand))) (x_InvalidStrand : PySem.W.excIn K c_InvalidStrand veTail "ValueError.__new__" = true) (k_InvalidStrand : PySem.W.keepIn K (.ref c_InvalidStrand) = true) (b_InvalidStrand : PySem.W.subIn K (.ref c_InvalidStrand) (.type "BaseException") = some true) (t_InvalidStrand : PySem.W.typeIn K (.ref c_InvalidStrand) = some (.type "type"))
    {u_DARK : Nat} (g_DARK : PySem.W.nsIn K mainGlobals "DARK" = some (some (.str "D" u_DARK)))
    {u_LIGHT : Nat} (g_LIGHT : PySem.W.nsIn K mainGlobals "LIGHT" = some (some (.str "L" u_LIGHT)))
    (z_abs : PySem.W.nsIn K mainGlobals "abs" = some none)
    (z_bool : PySem.W.nsIn K mainGlobals "bool" = some none)
    (z_enumerate : PySem.W.nsIn K mainGlobals "enumerate" = some none)
    (z_int : PySem.W.nsIn K mainGlobals "int" = some none)
    (z_isinstance : PySem.W.nsIn K mainGlobals "isinstance" = some none)
    (z_len : PySem.W.nsIn K mainGlobals "len" = some none)
    (z_max : PySem.W.nsIn K mainGlobals "max" = some none)
    (z_min : PySem.W.nsIn K mainGlobals "min" = some none)
    (z_range : PySem.W.nsIn K mainGlobals "range" = some none)
    (z_set : PySem.W.nsIn K mainGlobals "set" = some none)
    (z_sorted : PySem.W.nsIn K mainGlobals "sorted" = some none)
    (z_str : PySem.W.nsIn K mainGlobals "str" = some none)
    (z_sum : PySem.W.nsIn K mainGlobals "sum" = some none)
    (z_tuple : PySem.W.nsIn K mainGlobals "tuple" = some none)
    : ∃ fd : FuncData, (∀ (s : Shared) (v : Value), BindsTo s fd ⟨[v], []⟩ [("script", v)]) ∧ ∀ base : Heap, K.In base → base.Ns mainGlobals mg → FnOk l.prog w K mg base CX0 9 fa fd ["script"] (spLawD K) := by
  have e := hfa.symm.trans (PySem.W.mg_of X G a33)
  cases e
  have T : Tx K mg := { a_is_integer := f0, d_is_integer := _, F_is_integer := fun_mk (st := s_is_integer) l0 c0 k0, g_is_integer := PySem.W.mg_of X G a0, a_is_integer_within := f1, d_is_integer_within := _, F_is_integer_within := fun_mk (st := s_is_integer_within) l1 c1 k1, g_is_integer_within := PySem.W.mg_of X G a1, a_is_run := f2, d_is_run := _, F_is_run := fun_mk (st := s_is_run) l2 c2 k2, g_is_run := PySem.W.mg_of X G a2, a_is_strand := f3, d_is_strand := _, F_is_strand := fun_mk (st := s_is_strand) l3 c3 k3, g_is_strand := PySem.W.mg_of X G a3, a_require_strand := f4, d_require_strand := _, F_require_strand := fun_mk (st := s_require_strand) l4 c4 k4, g_require_strand := PySem.W.mg_of X G a4, a_total_beads := f5, d_total_beads := _, F_total_beads := fun_mk (st := s_total_beads) l5 c5 k5, g_total_beads := PySem.W.mg_of X G a5, a_total_dark := f6, d_total_dark := _, F_total_dark := fun_mk (st := s_total_dark) l6 c6 k6, g_total_dark := PySem.W.mg_of X G a6, a_cut_between := f7, d_cut_between := _, F_cut_between := fun_mk (st := s_cut_between) l7 c7 k7, g_cut_between := PySem.W.mg_of X G a7, a_runs_between := f8, d_runs_between := _, F_runs_between := fun_mk (st := s_runs_between) l8 c8 k8, g_runs_between := PySem.W.mg_of X G a8, a_strand_of := f9, d_strand_of := _, F_strand_of := fun_mk (st := s_strand_of) l9 c9 k9, g_strand_of := PySem.W.mg_of X G a9, a_require_length := f10, d_require_length := _, F_require_length := fun_mk (st := s_require_length) l10 c10 k10, g_require_length := PySem.W.mg_of X G a10, a_require_dark := f11, d_require_dark := _, F_require_dark := fun_mk (st := s_require_dark) l11 c11 k11, g_require_dark := PySem.W.mg_of X G a11, a_arc_runs := f12, d_arc_runs := _, F_arc_runs := fun_mk (st := s_arc_runs) l12 c12 k12, g_arc_runs := PySem.W.mg_of X G a12, a_side_by_side := f13, d_side_by_side := _, F_side_by_side := fun_mk (st := s_side_by_side) l13 c13 k13, g_side_by_side := PySem.W.mg_of X G a13, a_pieces_of := f14, d_pieces_of := _, F_pieces_of := fun_mk (st := s_pieces_of) l14 c14 k14, g_pieces_of := PySem.W.mg_of X G a14, a_extremes := f15, d_extremes := _, F_extremes := fun_mk (st := s_extremes) l15 c15 k15, g_extremes := PySem.W.mg_of X G a15, a_least_length := f16, d_least_length := _, F_least_length := fun_mk (st := s_least_length) l16 c16 k16, g_least_length := PySem.W.mg_of X G a16, a_dark_range := f17, d_dark_range := _, F_dark_range := fun_mk (st := s_dark_range) l17 c17 k17, g_dark_range := PySem.W.mg_of X G a17, a_length_range := f18, d_length_range := _, F_length_range := fun_mk (st := s_length_range) l18 c18 k18, g_length_range := PySem.W.mg_of X G a18, a_joined := f19, d_joined := _, F_joined := fun_mk (st := s_joined) l19 c19 k19, g_joined := PySem.W.mg_of X G a19, a_law_cell := f20, d_law_cell := _, F_law_cell := fun_mk (st := s_law_cell) l20 c20 k20, g_law_cell := PySem.W.mg_of X G a20, a_law_source := f21, d_law_source := _, F_law_source := fun_mk (st := s_law_source) l21 c21 k21, g_law_source := PySem.W.mg_of X G a21, a_law_draw := f22, d_law_draw := _, F_law_draw := fun_mk (st := s_law_draw) l22 c22 k22, g_law_draw := PySem.W.mg_of X G a22, a_law_line := f23, d_law_line := _, F_law_line := fun_mk (st := s_law_line) l23 c23 k23, g_law_line := PySem.W.mg_of X G a23, a_law_amount := f24, d_law_amount := _, F_law_amount := fun_mk (st := s_law_amount) l24 c24 k24, g_law_amount := PySem.W.mg_of X G a24, a_law_dark := f25, d_law_dark := _, F_law_dark := fun_mk (st := s_law_dark) l25 c25 k25, g_law_dark := PySem.W.mg_of X G a25, a_law_arc := f26, d_law_arc := _, F_law_arc := fun_mk (st := s_law_arc) l26 c26 k26, g_law_arc := PySem.W.mg_of X G a26, a_law_breaks := f27, d_law_breaks := _, F_law_breaks := fun_mk (st := s_law_breaks) l27 c27 k27, g_law_breaks := PySem.W.mg_of X G a27, a_law_low_high := f28, d_law_low_high := _, F_law_low_high := fun_mk (st := s_law_low_high) l28 c28 k28, g_law_low_high := PySem.W.mg_of X G a28, a_law_size := f29, d_law_size := _, F_law_size := fun_mk (st := s_law_size) l29 c29 k29, g_law_size := PySem.W.mg_of X G a29, a_law_edges := f30, d_law_edges := _, F_law_edges := fun_mk (st := s_law_edges) l30 c30 k30, g_law_edges := PySem.W.mg_of X G a30, a_law_right := f31, d_law_right := _, F_law_right := fun_mk (st := s_law_right) l31 c31 k31, g_law_right := PySem.W.mg_of X G a31, a_law_many_runs_right := f32, d_law_many_runs_right := _, F_law_many_runs_right := fun_mk (st := s_law_many_runs_right) l32 c32 k32, g_law_many_runs_right := PySem.W.mg_of X G a32, c_InvalidDark := c_InvalidDark, g_InvalidDark := PySem.W.mg_of X G g_InvalidDark, x_InvalidDark := x_InvalidDark, k_InvalidDark := k_InvalidDark, b_InvalidDark := b_InvalidDark, t_InvalidDark := t_InvalidDark, c_InvalidLength := c_InvalidLength, g_InvalidLength := PySem.W.mg_of X G g_InvalidLength, x_InvalidLength := x_InvalidLength, k_InvalidLength := k_InvalidLength, b_InvalidLength := b_InvalidLength, t_InvalidLength := t_InvalidLength, c_InvalidStrand := c_InvalidStrand, g_InvalidStrand := PySem.W.mg_of X G g_InvalidStrand, x_InvalidStrand := x_InvalidStrand, k_InvalidStrand := k_InvalidStrand, b_InvalidStrand := b_InvalidStrand, t_InvalidStrand := t_InvalidStrand, u_DARK := u_DARK, g_DARK := PySem.W.mg_of X G g_DARK, u_LIGHT := u_LIGHT, g_LIGHT := PySem.W.mg_of X G g_LIGHT, z_abs := PySem.W.mg_none_of X G z_abs, z_bool := PySem.W.mg_none_of X G z_bool, z_enumerate := PySem.W.mg_none_of X G z_enumerate, z_int := PySem.W.mg_none_of X G z_int, z_isinstance := PySem.W.mg_none_of X G z_isinstance, z_len := PySem.W.mg_none_of X G z_len, z_max := PySem.W.mg_none_of X G z_max, z_min := PySem.W.mg_none_of X G z_min, z_range := PySem.W.mg_none_of X G z_range, z_set := PySem.W.mg_none_of X G z_set, z_sorted := PySem.W.mg_none_of X G z_sorted, z_str := PySem.W.mg_none_of X G z_str, z_sum := PySem.W.mg_none_of X G z_sum, z_tuple := PySem.W.mg_none_of X G z_tuple }
  exact ⟨_, fun s v => .of_eq rfl, fun base _ _ => ok_law T (fun_mk (st := s_law) l33 c33 k33)⟩
end Pf
open PySem PySem.W PyProof.Rows
set_option maxHeartbeats 0 in
theorem PySem.Challenge.cw_fairarcs_k10_ranges_of_large_rings_holds : PySem.Challenge.rw_fairarcs_k10_ranges_of_large_rings.Holds := by
  w_on; o_law; k_head; (case hw => w_witness2)
  k_fill
  refine L2.walk_of (l := PySem.Challenge.rw_fairarcs_k10_ranges_of_large_rings) (n := 63) (k := 9) (x := "script") (CX := fun _ => L2.CX0) (sp := fun w => DL.spLawD _) rfl (by decide) rfl ⟨rfl, by decide, by decide⟩ (fun w h Y => PySem.W.kIn_of Y) ?F (fun _ _ a ns hl _ hS => ⟨a, ns, rfl, hS, hl, fun _ => rfl⟩) (fun _ _ _ _ _ h => h)
  case F =>
    intro w mg fa h KX G hmg
    refine' Pf.all_mk KX G hmg ?a0 ?l0 ?c0 ?k0 ?a1 ?l1 ?c1 ?k1 ?a2 ?l2 ?c2 ?k2 ?a3 ?l3 ?c3 ?k3 ?a4 ?l4 ?c4 ?k4 ?a5 ?l5 ?c5 ?k5 ?a6 ?l6 ?c6 ?k6 ?a7 ?l7 ?c7 ?k7 ?a8 ?l8 ?c8 ?k8 ?a9 ?l9 ?c9 ?k9 ?a10 ?l10 ?c10 ?k10 ?a11 ?l11 ?c11 ?k11 ?a12 ?l12 ?c12 ?k12 ?a13 ?l13 ?c13 ?k13 ?a14 ?l14 ?c14 ?k14 ?a15 ?l15 ?c15 ?k15 ?a16 ?l16 ?c16 ?k16 ?a17 ?l17 ?c17 ?k17 ?a18 ?l18 ?c18 ?k18 ?a19 ?l19 ?c19 ?k19 ?a20 ?l20 ?c20 ?k20 ?a21 ?l21 ?c21 ?k21 ?a22 ?l22 ?c22 ?k22 ?a23 ?l23 ?c23 ?k23 ?a24 ?l24 ?c24 ?k24 ?a25 ?l25 ?c25 ?k25 ?a26 ?l26 ?c26 ?k26 ?a27 ?l27 ?c27 ?k27 ?a28 ?l28 ?c28 ?k28 ?a29 ?l29 ?c29 ?k29 ?a30 ?l30 ?c30 ?k30 ?a31 ?l31 ?c31 ?k31 ?a32 ?l32 ?c32 ?k32 ?a33 ?l33 ?c33 ?k33 ?g_InvalidDark ?x_InvalidDark ?k_InvalidDark ?b_InvalidDark ?t_InvalidDark ?g_InvalidLength ?x_InvalidLength ?k_InvalidLength ?b_InvalidLength ?t_InvalidLength ?g_InvalidStrand ?x_InvalidStrand ?k_InvalidStrand ?b_InvalidStrand ?t_InvalidStrand ?g_DARK ?g_LIGHT ?z_abs ?z_bool ?z_enumerate ?z_int ?z_isinstance ?z_len ?z_max ?z_min ?z_range ?z_set ?z_sorted ?z_str ?z_sum ?z_tuple
    (case a0 => k_is)
    (case l0 => k_is)
    (case c0 => k_is)
    (case k0 => k_is)
    (case a1 => k_is)
    (case l1 => k_is)
    (case c1 => k_is)
    (case k1 => k_is)
    (case a2 => k_is)
    (case l2 => k_is)
    (case c2 => k_is)
    (case k2 => k_is)
    (case a3 => k_is)
    (case l3 => k_is)
    (case c3 => k_is)
    (case k3 => k_is)
    (case a4 => k_is)
    (case l4 => k_is)
    (case c4 => k_is)
    (case k4 => k_is)
    (case a5 => k_is)
    (case l5 => k_is)
    (case c5 => k_is)
    (case k5 => k_is)
    (case a6 => k_is)
    (case l6 => k_is)
    (case c6 => k_is)
    (case k6 => k_is)
    (case a7 => k_is)
    (case l7 => k_is)
    (case c7 => k_is)
    (case k7 => k_is)
    (case a8 => k_is)
    (case l8 => k_is)
    (case c8 => k_is)
    (case k8 => k_is)
    (case a9 => k_is)
    (case l9 => k_is)
    (case c9 => k_is)
    (case k9 => k_is)
    (case a10 => k_is)
    (case l10 => k_is)
    (case c10 => k_is)
    (case k10 => k_is)
    (case a11 => k_is)
    (case l11 => k_is)
    (case c11 => k_is)
    (case k11 => k_is)
    (case a12 => k_is)
    (case l12 => k_is)
    (case c12 => k_is)
    (case k12 => k_is)
    (case a13 => k_is)
    (case l13 => k_is)
    (case c13 => k_is)
    (case k13 => k_is)
    (case a14 => k_is)
    (case l14 => k_is)
    (case c14 => k_is)
    (case k14 => k_is)
    (case a15 => k_is)
    (case l15 => k_is)
    (case c15 => k_is)
    (case k15 => k_is)
    (case a16 => k_is)
    (case l16 => k_is)
    (case c16 => k_is)
    (case k16 => k_is)
    (case a17 => k_is)
    (case l17 => k_is)
    (case c17 => k_is)
    (case k17 => k_is)
    (case a18 => k_is)
    (case l18 => k_is)
    (case c18 => k_is)
    (case k18 => k_is)
    (case a19 => k_is)
    (case l19 => k_is)
    (case c19 => k_is)
    (case k19 => k_is)
    (case a20 => k_is)
    (case l20 => k_is)
    (case c20 => k_is)
    (case k20 => k_is)
    (case a21 => k_is)
    (case l21 => k_is)
    (case c21 => k_is)
    (case k21 => k_is)
    (case a22 => k_is)
    (case l22 => k_is)
    (case c22 => k_is)
    (case k22 => k_is)
    (case a23 => k_is)
    (case l23 => k_is)
    (case c23 => k_is)
    (case k23 => k_is)
    (case a24 => k_is)
    (case l24 => k_is)
    (case c24 => k_is)
    (case k24 => k_is)
    (case a25 => k_is)
    (case l25 => k_is)
    (case c25 => k_is)
    (case k25 => k_is)
    (case a26 => k_is)
    (case l26 => k_is)
    (case c26 => k_is)
    (case k26 => k_is)
    (case a27 => k_is)
    (case l27 => k_is)
    (case c27 => k_is)
    (case k27 => k_is)
    (case a28 => k_is)
    (case l28 => k_is)
    (case c28 => k_is)
    (case k28 => k_is)
    (case a29 => k_is)
    (case l29 => k_is)
    (case c29 => k_is)
    (case k29 => k_is)
    (case a30 => k_is)
    (case l30 => k_is)
    (case c30 => k_is)
    (case k30 => k_is)
    (case a31 => k_is)
    (case l31 => k_is)
    (case c31 => k_is)
    (case k31 => k_is)
    (case a32 => k_is)
    (case l32 => k_is)
    (case c32 => k_is)
    (case k32 => k_is)
    (case a33 => k_is)
    (case l33 => k_is)
    (case c33 => k_is)
    (case k33 => k_is)
    (case g_InvalidDark => k_is)
    (case x_InvalidDark => k_exc)
    (case k_InvalidDark => k_is)
    (case b_InvalidDark => k_is)
    (case t_InvalidDark => k_is)
    (case g_InvalidLength => k_is)
    (case x_InvalidLength => k_exc)
    (case k_InvalidLength => k_is)
    (case b_InvalidLength => k_is)
    (case t_InvalidLength => k_is)
    (case g_InvalidStrand => k_is)
    (case x_InvalidStrand => k_exc)
    (case k_InvalidStrand => k_is)
    (case b_InvalidStrand => k_is)
    (case t_InvalidStrand => k_is)
    (case g_DARK => k_is)
    (case g_LIGHT => k_is)
    (case z_abs => k_is)
    (case z_bool => k_is)
    (case z_enumerate => k_is)
    (case z_int => k_is)
    (case z_isinstance => k_is)
    (case z_len => k_is)
    (case z_max => k_is)
    (case z_min => k_is)
    (case z_range => k_is)
    (case z_set => k_is)
    (case z_sorted => k_is)
    (case z_str => k_is)
    (case z_sum => k_is)
    (case z_tuple => k_is)

import PyProof.Rows.All
import Wide.All
import OpenK.AllK
import Wide.FinOn
import HandS.ForMost
import HandS.ForExc
import HandS.Evl
import HandS.IsInst
import HandS.Wide
import HandS.TupAny
import HandS.Flow
import HandS.Style
import HandS.ExcValue
import HandS.ExcIs
import HandS.TupMul
import HandS.TupLe
import HandS.Iter
import HandS.ExcCtx
import PyProof.ReprRoads
import KE.KRevSl
import PyProof.ReprLen
import PySem.Challenge.RW_fairarcs_k02_beads_of_large_strands
set_option Elab.async false
set_option linter.all false
set_option maxRecDepth 100000
set_option maxHeartbeats 4000000
/-! # A data layer over the hand layer: values as data, lists that are changed as cells of a store -/
namespace DL
open PySem PySem.Spec PyProof.Rows L2 Evl

/-- data: a value with what hangs on it; scr: the script; obj: a thing of a known type; opq: any value -/
inductive D where
  | non | bl (b : Bool) | int (i : Int) | str (x : Str) | lst (xs : List D) | tup (xs : List D) | scr (ns : List Int) | obj (t : Value) (v : V) | opq (v : V)

/-- an own exception that is held: made, or caught -/
def ExK (cls : Value) (a : Addr) : HO := .ext fun h => ∃ (oe : Obj) (vs : Array Value), h.get? a = some oe ∧ oe.cls = cls ∧ oe.dict = none ∧ oe.data = .fields vs
theorem exK_ok {P : Program} {w : World} {H : Hp} {h : Heap} {a : Addr} {cls : Value} {oe : Obj} {vs : Array Value} (e : h.get? a = some oe) (c : oe.cls = cls) (d : oe.dict = none) (f : oe.data = .fields vs) : ObjOk P w H h a (ExK cls a) :=
  ⟨⟨oe, vs, e, c, d, f⟩, ⟨oe, e⟩, fun _ _ ⟨o, v, q, r⟩ k => ⟨o, v, k o q, r⟩⟩
/-- a thing's type; an own exception held as a value too -/
inductive TyD (K : PySem.W.Frag) (H : Hp) : V → Value → Prop
  | x {v : V} {t : Value} : TyX K H v t → TyD K H v t
  | exc {a C : Addr} : H a = some (ExK (.ref C) a) → ExcC K C → TyD K H (.ref a) (.ref C)
mutual
inductive Dn (K : PySem.W.Frag) (G : Hp) : V → D → Prop
  | non : Dn K G .non .non
  | bl (b : Bool) : Dn K G (.bl b) (.bl b)
  | int (i : Int) : Dn K G (.int i) (.int i)
  | str (x : Str) : Dn K G (.str x) (.str x)
  | lst {a : Addr} {vs : List V} {xs : List D} : G a = some (.lst vs) → DnAll K G vs xs → Dn K G (.ref a) (.lst xs)
  | tup {a : Addr} {vs : List V} {xs : List D} : SqT K G a vs → DnAll K G vs xs → Dn K G (.ref a) (.tup xs)
  | scr {a : Addr} {ns : List Int} : SqL K G a (ns.map V.int) → Dn K G (.ref a) (.scr ns)
  | obj {t : Value} {v : V} : TyD K G v t → (t = .type "dict" → ∃ a, v = .ref a ∧ G a = some (.dT [])) → Dn K G v (.obj t v)
  | opq (v : V) : Dn K G v (.opq v)
inductive DnAll (K : PySem.W.Frag) (G : Hp) : List V → List D → Prop
  | nil : DnAll K G [] []
  | cons {v : V} {vs : List V} {x : D} {xs : List D} : Dn K G v x → DnAll K G vs xs → DnAll K G (v :: vs) (x :: xs)
end

theorem tyOf_mono {K : PySem.W.Frag} {G G' : Hp} (e : Ex G G') {v : V} {t : Value} (h : TyOf K G v t) : TyOf K G' v t := by
  cases h with
  | non => exact .non
  | bl b => exact .bl b
  | int i => exact .int i
  | str x => exact .str x
  | flt x => exact .flt x
  | lst h => exact .lst (e _ _ h)
  | frz h => exact .frz (e _ _ h)
  | tup h => exact .tup (e _ _ h)
  | dK h => exact .dK (e _ _ h)
  | dT h => exact .dT (e _ _ h)
  | ins h a b c d f => exact .ins (e _ _ h) a b c d f
theorem tyX_mono {K : PySem.W.Frag} {G G' : Hp} (e : Ex G G') {v : V} {t : Value} (h : TyX K G v t) : TyX K G' v t := by
  cases h with
  | base h => exact .base (tyOf_mono e h)
  | byt b => exact .byt b
  | set h => exact .set (e _ _ h)
  | kList a b => exact .kList a b
  | kTuple a b => exact .kTuple a b
  | kDict a b => exact .kDict a b
  | fTuple h => exact .fTuple (e _ _ h)
  | fDict h => exact .fDict (e _ _ h)

theorem tyD_mono {K : PySem.W.Frag} {G G' : Hp} (e : Ex G G') {v : V} {t : Value} (h : TyD K G v t) : TyD K G' v t := by
  cases h with
  | x h => exact .x (tyX_mono e h)
  | exc h c => exact .exc (e _ _ h) c
mutual
theorem Dn.mono {K : PySem.W.Frag} {G G' : Hp} (e : Ex G G') : ∀ {v : V} {d : D}, Dn K G v d → Dn K G' v d
  | _, _, .non => .non
  | _, _, .bl b => .bl b
  | _, _, .int i => .int i
  | _, _, .str x => .str x
  | _, _, .lst h a => .lst (e _ _ h) (DnAll.mono e a)
  | _, _, .tup h a => .tup (ex_t e h) (DnAll.mono e a)
  | _, _, .scr h => .scr (ex_l e h)
  | _, _, .obj h i => .obj (tyD_mono e h) fun z => let ⟨a, e1, e2⟩ := i z; ⟨a, e1, e _ _ e2⟩
  | _, _, .opq v => .opq v
theorem DnAll.mono {K : PySem.W.Frag} {G G' : Hp} (e : Ex G G') : ∀ {vs : List V} {xs : List D}, DnAll K G vs xs → DnAll K G' vs xs
  | _, _, .nil => .nil
  | _, _, .cons h t => .cons (Dn.mono e h) (DnAll.mono e t)
end
section
variable {K : PySem.W.Frag} {G : Hp}
theorem DnAll.length : ∀ {vs : List V} {xs : List D}, DnAll K G vs xs → vs.length = xs.length
  | _, _, .nil => rfl
  | _, _, .cons _ t => by rw [List.length_cons, List.length_cons, DnAll.length t]
theorem DnAll.append : ∀ {vs ws : List V} {xs ys : List D}, DnAll K G vs xs → DnAll K G ws ys → DnAll K G (vs ++ ws) (xs ++ ys)
  | _, _, _, _, .nil, s => s
  | _, _, _, _, .cons h t, s => .cons h (DnAll.append t s)
theorem DnAll.get : ∀ {vs : List V} {xs : List D} {i : Nat} {x : D}, DnAll K G vs xs → xs[i]? = some x → ∃ v, vs[i]? = some v ∧ Dn K G v x
  | _, _, _, _, .nil, e => by simp at e
  | _, _, 0, _, .cons h _, e => by
    simp at e
    subst e
    exact ⟨_, rfl, h⟩
  | _, _, i + 1, x, .cons _ t, e => by
    obtain ⟨u, h1, h2⟩ := DnAll.get (i := i) (x := x) t (by simpa using e)
    exact ⟨u, by simpa using h1, h2⟩
theorem DnAll.getV : ∀ {vs : List V} {xs : List D} {i : Nat} {v : V}, DnAll K G vs xs → vs[i]? = some v → ∃ x, xs[i]? = some x ∧ Dn K G v x
  | _, _, _, _, .nil, e => by simp at e
  | _, _, 0, _, .cons h _, e => by
    simp at e
    subst e
    exact ⟨_, rfl, h⟩
  | _, _, i + 1, x, .cons _ t, e => by
    obtain ⟨u, h1, h2⟩ := DnAll.getV (i := i) (v := x) t (by simpa using e)
    exact ⟨u, by simpa using h1, h2⟩
theorem DnAll.set {v : V} {x : D} (h : Dn K G v x) : ∀ {vs : List V} {xs : List D} (i : Nat), DnAll K G vs xs → DnAll K G (vs.set i v) (xs.set i x)
  | _, _, _, .nil => .nil
  | _, _, 0, .cons _ t => .cons h t
  | _, _, i + 1, .cons q t => .cons q (DnAll.set h i t)
theorem DnAll.take : ∀ {vs : List V} {xs : List D} (n : Nat), DnAll K G vs xs → DnAll K G (vs.take n) (xs.take n)
  | _, _, 0, _ => .nil
  | _, _, _ + 1, .nil => .nil
  | _, _, n + 1, .cons h t => .cons h (DnAll.take n t)
theorem DnAll.drop : ∀ {vs : List V} {xs : List D} (n : Nat), DnAll K G vs xs → DnAll K G (vs.drop n) (xs.drop n)
  | _, _, 0, h => h
  | _, _, _ + 1, .nil => .nil
  | _, _, n + 1, .cons _ t => DnAll.drop n t
theorem DnAll.reverse : ∀ {vs : List V} {xs : List D}, DnAll K G vs xs → DnAll K G vs.reverse xs.reverse
  | _, _, .nil => .nil
  | _, _, .cons h t => by
    rw [List.reverse_cons, List.reverse_cons]
    exact (DnAll.reverse t).append (.cons h .nil)
theorem DnAll.rep {vs : List V} {xs : List D} (h : DnAll K G vs xs) : ∀ n : Nat, DnAll K G (List.replicate n vs).flatten (List.replicate n xs).flatten
  | 0 => .nil
  | n + 1 => by
    rw [List.replicate_succ, List.replicate_succ, List.flatten_cons, List.flatten_cons]
    exact h.append (DnAll.rep h n)
theorem DnAll.ints : ∀ {vs : List V} {ns : List Int}, DnAll K G vs (ns.map D.int) → vs = ns.map V.int
  | [], [], _ => rfl
  | [], _ :: _, h => by cases h
  | _ :: _, [], h => by cases h
  | _ :: _, _ :: _, .cons h t => by
    cases h
    rw [DnAll.ints t]
    rfl
theorem DnAll.strs : ∀ {vs : List V} {ns : List Str}, DnAll K G vs (ns.map D.str) → vs = ns.map V.str
  | [], [], _ => rfl
  | [], _ :: _, h => by cases h
  | _ :: _, [], h => by cases h
  | _ :: _, _ :: _, .cons h t => by
    cases h
    rw [DnAll.strs t]
    rfl
theorem DnAll.bls : ∀ {vs : List V} {ns : List Bool}, DnAll K G vs (ns.map D.bl) → vs = ns.map V.bl
  | [], [], _ => rfl
  | [], _ :: _, h => by cases h
  | _ :: _, [], h => by cases h
  | _ :: _, _ :: _, .cons h t => by
    cases h
    rw [DnAll.bls t]
    rfl
theorem DnAll.ofInts : ∀ ns : List Int, DnAll K G (ns.map V.int) (ns.map D.int)
  | [] => .nil
  | n :: ns => .cons (.int n) (DnAll.ofInts ns)
end

/-! ### the store of cells that are changed -/
inductive OC where
  | lst (xs : List D)
  | dic (kds : List (Int × D))
abbrev Ow := Addr → Option OC
/-- a dict of ints -/
def kvI (ks : List Int) (vs : List V) : List (Key × V) := (ks.zip vs).map fun p => (Sum.inl p.1, p.2)
def OcOk (K : PySem.W.Frag) (G H : Hp) (p : Addr) : OC → Prop
  | .lst xs => ∃ vs, H p = some (.lst vs) ∧ DnAll K G vs xs
  | .dic kds => ∃ vs, H p = some (.dK (kvI (kds.map (·.1)) vs)) ∧ DnAll K G vs (kds.map (·.2))
theorem OcOk.keep {K : PySem.W.Frag} {G G' H H' : Hp} {p : Addr} {c : OC} (h : OcOk K G H p c) (e : Ex G G') (hp : H' p = H p) : OcOk K G' H' p c := by
  cases c with
  | lst xs =>
    obtain ⟨vs, a, b⟩ := h
    exact ⟨vs, by rw [hp]; exact a, b.mono e⟩
  | dic kds =>
    obtain ⟨vs, a, b⟩ := h
    exact ⟨vs, by rw [hp]; exact a, b.mono e⟩
theorem OcOk.there {K : PySem.W.Frag} {G H : Hp} {p : Addr} {c : OC} (h : OcOk K G H p c) : H p ≠ none := by
  cases c with
  | lst xs =>
    obtain ⟨vs, a, _⟩ := h
    rw [a]
    exact fun z => by cases z
  | dic kds =>
    obtain ⟨vs, a, _⟩ := h
    rw [a]
    exact fun z => by cases z
def oset (O : Ow) (p : Addr) (c : OC) : Ow := fun b => if b = p then some c else O b
theorem oset_same {O : Ow} {p : Addr} {c : OC} : oset O p c p = some c := by
  unfold oset
  rw [if_pos rfl]
theorem oset_ne {O : Ow} {p q : Addr} {c : OC} (h : q ≠ p) : oset O p c q = O q := by
  unfold oset
  rw [if_neg h]
theorem oset_oset {O : Ow} {p : Addr} {c c' : OC} : oset (oset O p c) p c' = oset O p c' := by
  funext b
  unfold oset
  split <;> rfl
structure Ok (K : PySem.W.Frag) (G H : Hp) (O : Ow) : Prop where
  ex : Ex G H
  own : ∀ p c, O p = some c → G p = none ∧ OcOk K G H p c
structure Stp (G H : Hp) (O : Ow) (G' H' : Hp) (O' : Ow) : Prop where
  g : Ex G G'
  gn : ∀ p, H p ≠ none → G p = none → O p = none → G' p = none
  h : ∀ p o, H p = some o → O p = none → H' p = some o
  hd : ∀ p, H p ≠ none → H' p ≠ none
  o : ∀ p, H p ≠ none → O p = none → O' p = none
def Sub (O O' : Ow) : Prop := ∀ p c, O p = some c → O' p = some c
section
variable {K : PySem.W.Frag} {G H G' H' G2 H2 : Hp} {O O' O2 : Ow}
theorem Stp.refl : Stp G H O G H O := ⟨Ex.refl G, fun _ _ h _ => h, fun _ _ h _ => h, fun _ h => h, fun _ _ h => h⟩
theorem Stp.trans (a : Stp G H O G' H' O') (b : Stp G' H' O' G2 H2 O2) : Stp G H O G2 H2 O2 where
  g := a.g.trans b.g
  gn := fun p h1 h2 h3 => b.gn p (a.hd p h1) (a.gn p h1 h2 h3) (a.o p h1 h3)
  h := fun p o h1 h2 => b.h p o (a.h p o h1 h2) (a.o p (fun z => by rw [z] at h1; cases h1) h2)
  hd := fun p h => b.hd p (a.hd p h)
  o := fun p h1 h2 => b.o p (a.hd p h1) (a.o p h1 h2)
theorem Ok.there (k : Ok K G H O) {p : Addr} {c : OC} (h : O p = some c) : H p ≠ none := by
  exact (k.own p c h).2.there
theorem Ok.none_of (k : Ok K G H O) {p : Addr} (h : H p = none) : O p = none := by
  cases e : O p with
  | none => rfl
  | some c => exact absurd h (k.there e)
theorem Ok.gnone (k : Ok K G H O) {p : Addr} (h : H p = none) : G p = none := fresh_back k.ex h
theorem Ok.sub (k : Ok K G H O') (s : Sub O O') : Ok K G H O := ⟨k.ex, fun p c h => k.own p c (s p c h)⟩
theorem Stp.sub (a : Stp G H O G' H' O') (s : Sub O2 O') : Stp G H O G' H' O2 := ⟨a.g, a.gn, a.h, a.hd, fun p h1 h2 => by
  cases e : O2 p with
  | none => rfl
  | some c =>
    have z := s p c e
    rw [a.o p h1 h2] at z
    cases z⟩
theorem Sub.refl (O : Ow) : Sub O O := fun _ _ h => h
theorem Sub.trans {O O' O2 : Ow} (a : Sub O O') (b : Sub O' O2) : Sub O O2 := fun p c h => b p c (a p c h)
theorem Sub.new {O : Ow} {p : Addr} {c : OC} (h : O p = none) : Sub O (oset O p c) := fun q c' e => by
  rw [oset_ne (fun z => by rw [z, h] at e; cases e)]
  exact e
/-- a new object that is data at once -/
theorem frozen (k : Ok K G H O) {p : Addr} {o : HO} (hp : H p = none) : Ok K (upd G p o) (upd H p o) O ∧ Stp G H O (upd G p o) (upd H p o) O ∧ Ex G (upd G p o) := by
  have gp := k.gnone hp
  refine ⟨⟨fun a u e => ?_, fun q c h => ?_⟩, ⟨Ex.new gp, fun q h1 h2 h3 => ?_, fun q u h1 _ => ?_, fun q h1 => ?_, fun _ _ h => h⟩, Ex.new gp⟩
  · by_cases z : a = p
    · subst z
      rw [upd_same] at e ⊢
      exact e
    · rw [upd_ne z] at e ⊢
      exact k.ex a u e
  · obtain ⟨g1, g2⟩ := k.own q c h
    have hq := k.there h
    have ne : q ≠ p := fun z => hq (by rw [z]; exact hp)
    exact ⟨by rw [upd_ne ne]; exact g1, g2.keep (Ex.new gp) (upd_ne ne)⟩
  · have ne : q ≠ p := fun z => h1 (by rw [z]; exact hp)
    rw [upd_ne ne]
    exact h2
  · rw [upd_ne (ne_of_none h1 hp)]
    exact h1
  · by_cases z : q = p
    · rw [z, upd_same]
      exact fun z => by cases z
    · rw [upd_ne z]
      exact h1
/-- a new cell that will be changed -/
theorem owned (k : Ok K G H O) {p : Addr} {vs : List V} {xs : List D} (hp : H p = none) (a : DnAll K G vs xs) : Ok K G (upd H p (.lst vs)) (oset O p (.lst xs)) ∧ Stp G H O G (upd H p (.lst vs)) (oset O p (.lst xs)) := by
  have gp := k.gnone hp
  refine ⟨⟨k.ex.mut gp, fun q c h => ?_⟩, ⟨Ex.refl G, fun _ _ h _ => h, fun q u h1 _ => ?_, fun q h1 => ?_, fun q h1 h2 => ?_⟩⟩
  · by_cases z : q = p
    · subst z
      rw [oset_same] at h
      cases h
      exact ⟨gp, vs, upd_same, a⟩
    · rw [oset_ne z] at h
      obtain ⟨g1, g2⟩ := k.own q c h
      exact ⟨g1, g2.keep (Ex.refl G) (upd_ne z)⟩
  · rw [upd_ne (ne_of_none h1 hp)]
    exact h1
  · by_cases z : q = p
    · rw [z, upd_same]
      exact fun z => by cases z
    · rw [upd_ne z]
      exact h1
  · rw [oset_ne (fun z => h1 (by rw [z]; exact hp))]
    exact h2
/-- a cell is changed -/
theorem rewritten (k : Ok K G H O) {p : Addr} {c : OC} {vs : List V} {xs : List D} (hp : O p = some c) (a : DnAll K G vs xs) : Ok K G (upd H p (.lst vs)) (oset O p (.lst xs)) ∧ Stp G H O G (upd H p (.lst vs)) (oset O p (.lst xs)) := by
  have gp := (k.own p c hp).1
  refine ⟨⟨k.ex.mut gp, fun q c h => ?_⟩, ⟨Ex.refl G, fun _ _ h _ => h, fun q u h1 h2 => ?_, fun q h1 => ?_, fun q h1 h2 => ?_⟩⟩
  · by_cases z : q = p
    · subst z
      rw [oset_same] at h
      cases h
      exact ⟨gp, vs, upd_same, a⟩
    · rw [oset_ne z] at h
      obtain ⟨g1, g2⟩ := k.own q c h
      exact ⟨g1, g2.keep (Ex.refl G) (upd_ne z)⟩
  · rw [upd_ne (fun z => by rw [z, hp] at h2; cases h2)]
    exact h1
  · by_cases z : q = p
    · rw [z, upd_same]
      exact fun z => by cases z
    · rw [upd_ne z]
      exact h1
  · rw [oset_ne (fun z => by rw [z, hp] at h2; cases h2)]
    exact h2
/-- a new dict that will be changed -/
theorem ownedD (k : Ok K G H O) {p : Addr} {vs : List V} {kds : List (Int × D)} (hp : H p = none) (a : DnAll K G vs (kds.map (·.2))) : Ok K G (upd H p (.dK (kvI (kds.map (·.1)) vs))) (oset O p (.dic kds)) ∧ Stp G H O G (upd H p (.dK (kvI (kds.map (·.1)) vs))) (oset O p (.dic kds)) := by
  have gp := k.gnone hp
  refine ⟨⟨k.ex.mut gp, fun q c h => ?_⟩, ⟨Ex.refl G, fun _ _ h _ => h, fun q u h1 _ => ?_, fun q h1 => ?_, fun q h1 h2 => ?_⟩⟩
  · by_cases z : q = p
    · subst z
      rw [oset_same] at h
      cases h
      exact ⟨gp, vs, upd_same, a⟩
    · rw [oset_ne z] at h
      obtain ⟨g1, g2⟩ := k.own q c h
      exact ⟨g1, g2.keep (Ex.refl G) (upd_ne z)⟩
  · rw [upd_ne (ne_of_none h1 hp)]
    exact h1
  · by_cases z : q = p
    · rw [z, upd_same]
      exact fun z => by cases z
    · rw [upd_ne z]
      exact h1
  · rw [oset_ne (fun z => h1 (by rw [z]; exact hp))]
    exact h2
/-- a dict is changed -/
theorem rewrittenD (k : Ok K G H O) {p : Addr} {c : OC} {vs : List V} {kds : List (Int × D)} (hp : O p = some c) (a : DnAll K G vs (kds.map (·.2))) : Ok K G (upd H p (.dK (kvI (kds.map (·.1)) vs))) (oset O p (.dic kds)) ∧ Stp G H O G (upd H p (.dK (kvI (kds.map (·.1)) vs))) (oset O p (.dic kds)) := by
  have gp := (k.own p c hp).1
  refine ⟨⟨k.ex.mut gp, fun q c h => ?_⟩, ⟨Ex.refl G, fun _ _ h _ => h, fun q u h1 h2 => ?_, fun q h1 => ?_, fun q h1 h2 => ?_⟩⟩
  · by_cases z : q = p
    · subst z
      rw [oset_same] at h
      cases h
      exact ⟨gp, vs, upd_same, a⟩
    · rw [oset_ne z] at h
      obtain ⟨g1, g2⟩ := k.own q c h
      exact ⟨g1, g2.keep (Ex.refl G) (upd_ne z)⟩
  · rw [upd_ne (fun z => by rw [z, hp] at h2; cases h2)]
    exact h1
  · by_cases z : q = p
    · rw [z, upd_same]
      exact fun z => by cases z
    · rw [upd_ne z]
      exact h1
  · rw [oset_ne (fun z => by rw [z, hp] at h2; cases h2)]
    exact h2
/-- a cell becomes data -/
def odel (O : Ow) (p : Addr) : Ow := fun b => if b = p then none else O b
theorem froze (k : Ok K G H O) {p : Addr} {xs : List D} (hp : O p = some (.lst xs)) : ∃ G', Ex G G' ∧ Ok K G' H (odel O p) ∧ Stp G H O G' H (odel O p) ∧ Dn K G' (.ref p) (.lst xs) := by
  obtain ⟨gp, vs, e, a⟩ := k.own p _ hp
  have en : Ex G (upd G p (.lst vs)) := Ex.new gp
  refine ⟨upd G p (.lst vs), en, ⟨fun b u h => ?_, fun q c h => ?_⟩, ⟨en, fun q h1 h2 h3 => ?_, fun _ _ h _ => h, fun _ h => h, fun q h1 h2 => ?_⟩, .lst upd_same (DnAll.mono en a)⟩
  · by_cases z : b = p
    · subst z
      rw [upd_same] at h
      rw [e]
      exact h
    · rw [upd_ne z] at h
      exact k.ex b u h
  · have ne : q ≠ p := fun z => by
      subst z
      unfold odel at h
      rw [if_pos rfl] at h
      cases h
    unfold odel at h
    rw [if_neg ne] at h
    obtain ⟨g1, g2⟩ := k.own q c h
    exact ⟨by rw [upd_ne ne]; exact g1, g2.keep en rfl⟩
  · have ne : q ≠ p := fun z => by
      subst z
      rw [hp] at h3
      cases h3
    rw [upd_ne ne]
    exact h2
  · unfold odel
    split
    · rfl
    · exact h2
end
end DL
namespace DL
open PySem PySem.Spec PyProof.Rows L2 Evl

/-! ### the slots, by data -/
abbrev Ds := List (Option D)
structure Rep (K : PySem.W.Frag) (G : Hp) (σ : L2.St) (ds : Ds) : Prop where
  len : σ.length = ds.length
  val : ∀ (i : Nat) (d : D), ds[i]? = some (some d) → ∃ v, σ[i]? = some (some v) ∧ Dn K G v d
section
variable {K : PySem.W.Frag} {G G' H H' : Hp} {O O' : Ow} {σ σ' : L2.St} {ds ds' : Ds}
theorem Rep.mono (r : Rep K G σ ds) (e : Ex G G') : Rep K G' σ ds := ⟨r.len, fun i d h => by
  obtain ⟨v, h1, h2⟩ := r.val i d h
  exact ⟨v, h1, h2.mono e⟩⟩
theorem Rep.set (r : Rep K G σ ds) {v : V} {d : D} (h : Dn K G v d) (i : Nat) : Rep K G (σ.set i (some v)) (ds.set i (some d)) := by
  refine ⟨by rw [List.length_set, List.length_set, r.len], fun j x hj => ?_⟩
  by_cases e : i = j
  · subst e
    by_cases l : i < ds.length
    · rw [List.getElem?_set_self l] at hj
      cases hj
      refine ⟨v, ?_, h⟩
      rw [List.getElem?_set_self (by rw [r.len]; exact l)]
    · rw [List.getElem?_eq_none (by rw [List.length_set]; omega)] at hj
      cases hj
  · rw [List.getElem?_set_ne e] at hj
    obtain ⟨w, h1, h2⟩ := r.val j x hj
    exact ⟨w, by rw [List.getElem?_set_ne e]; exact h1, h2⟩
/-- less is known -/
def Less (ds' ds : Ds) : Prop := ds'.length = ds.length ∧ ∀ (i : Nat) (d : D), ds'[i]? = some (some d) → ds[i]? = some (some d)
theorem Rep.less (r : Rep K G σ ds) (l : Less ds' ds) : Rep K G σ ds' := ⟨by rw [r.len, l.1], fun i d h => r.val i d (l.2 i d h)⟩
end
def dwipe (ds : Ds) : List Nat → Ds
  | [] => ds
  | v :: vs => (dwipe ds vs).set v none
theorem rep_wipe {K : PySem.W.Frag} {G : Hp} {σ : L2.St} {ds : Ds} (r : Rep K G σ ds) : ∀ vs : List Nat, Rep K G (wipe σ vs) (dwipe ds vs)
  | [] => r
  | v :: vs => by
    have q := rep_wipe r vs
    refine ⟨by show ((wipe σ vs).set v none).length = ((dwipe ds vs).set v none).length; rw [List.length_set, List.length_set, q.len], fun i d h => ?_⟩
    have h' : ((dwipe ds vs).set v none)[i]? = some (some d) := h
    by_cases e : v = i
    · subst e
      by_cases l : v < (dwipe ds vs).length
      · rw [List.getElem?_set_self l] at h'
        cases h'
      · rw [List.getElem?_eq_none (by rw [List.length_set]; omega)] at h'
        cases h'
    · rw [List.getElem?_set_ne e] at h'
      obtain ⟨w, h1, h2⟩ := q.val i d h'
      exact ⟨w, by show ((wipe σ vs).set v none)[i]? = _; rw [List.getElem?_set_ne e]; exact h1, h2⟩
theorem wipe_set (σ : L2.St) (i : Nat) (x : Option V) : ∀ vs : List Nat, wipe (σ.set i x) vs = if i ∈ vs then wipe σ vs else (wipe σ vs).set i x
  | [] => by
    rw [if_neg (List.not_mem_nil)]
    rfl
  | v :: vs => by
    show (wipe (σ.set i x) vs).set v none = _
    rw [wipe_set σ i x vs]
    by_cases e : i = v
    · subst e
      rw [if_pos List.mem_cons_self]
      show _ = (wipe σ vs).set i none
      split
      · rfl
      · rw [List.set_set]
    · by_cases h : i ∈ vs
      · rw [if_pos h, if_pos (List.mem_cons_of_mem _ h)]
        rfl
      · rw [if_neg h, if_neg (fun z => by
          rcases List.mem_cons.mp z with z | z
          · exact e z
          · exact h z)]
        show _ = ((wipe σ vs).set v none).set i x
        rw [List.set_comm _ _ e]

/-! ### exceptions, by data -/
structure Xc where
  cls : Value
  pay : Option (Str × D) := none
def Pay (K : PySem.W.Frag) (G H : Hp) (dd : Option Addr) : Option (Str × D) → Prop
  | none => dd = none
  | some (f, x) => ∃ a v, dd = some a ∧ H a = some (.xd [(f, v)]) ∧ Dn K G v x
abbrev EX := Xc → Ds → Ow → Prop

/-! ### what follows -/
abbrev DK := D → Ow → Prop
def Cont (K : PySem.W.Frag) (G H : Hp) (O : Ow) (k : DK) (Q : VK) : Prop := ∀ d O' v G' H', k d O' → Stp G H O G' H' O' → Ok K G' H' O' → Dn K G' v d → Q v H'
def ContB (K : PySem.W.Frag) (G H : Hp) (O : Ow) (k : Bool → Ow → Prop) (Q : Bool → Hp → Prop) : Prop := ∀ b O' G' H', k b O' → Stp G H O G' H' O' → Ok K G' H' O' → Q b H'
def ContA (K : PySem.W.Frag) (G H : Hp) (O : Ow) (k : List D → Ow → Prop) (Q : List V → Hp → Prop) : Prop := ∀ xs O' vs G' H', k xs O' → Stp G H O G' H' O' → Ok K G' H' O' → DnAll K G' vs xs → Q vs H'
def ContG (K : PySem.W.Frag) (G H : Hp) (O : Ow) (k : Ds → Ow → Prop) (Q : L2.St → Hp → Prop) : Prop := ∀ ds O' σ G' H', k ds O' → Stp G H O G' H' O' → Ok K G' H' O' → Rep K G' σ ds → Q σ H'
def ContX (K : PySem.W.Frag) (G H : Hp) (O : Ow) (W : WX) (ex : EX) : Prop := ∀ c ds O' σ dd G' H', ex c ds O' → Stp G H O G' H' O' → Ok K G' H' O' → Rep K G' σ ds → Pay K G' H' dd c.pay → W c.cls dd σ H'
section
variable {K : PySem.W.Frag} {G H G' H' : Hp} {O O' : Ow}
theorem Cont.after {k : DK} {Q : VK} (c : Cont K G H O k Q) (s : Stp G H O G' H' O') : Cont K G' H' O' k Q := fun d O2 v G2 H2 a b => c d O2 v G2 H2 a (s.trans b)
theorem ContB.after {k : Bool → Ow → Prop} {Q : Bool → Hp → Prop} (c : ContB K G H O k Q) (s : Stp G H O G' H' O') : ContB K G' H' O' k Q := fun d O2 G2 H2 a b => c d O2 G2 H2 a (s.trans b)
theorem ContA.after {k : List D → Ow → Prop} {Q : List V → Hp → Prop} (c : ContA K G H O k Q) (s : Stp G H O G' H' O') : ContA K G' H' O' k Q := fun d O2 v G2 H2 a b => c d O2 v G2 H2 a (s.trans b)
theorem ContG.after {k : Ds → Ow → Prop} {Q : L2.St → Hp → Prop} (c : ContG K G H O k Q) (s : Stp G H O G' H' O') : ContG K G' H' O' k Q := fun d O2 v G2 H2 a b => c d O2 v G2 H2 a (s.trans b)
theorem ContX.after {W : WX} {ex : EX} (c : ContX K G H O W ex) (s : Stp G H O G' H' O') : ContX K G' H' O' W ex := fun d ds O2 v dd G2 H2 a b => c d ds O2 v dd G2 H2 a (s.trans b)
end

/-! ### readings by data, and what they lift to -/
abbrev DT := Ds → Ow → DK → Prop
abbrev DB := Ds → Ow → (Bool → Ow → Prop) → Prop
abbrev DA := Ds → Ow → (List D → Ow → Prop) → Prop
def LiftE (K : PySem.W.Frag) (W : WX) (ex : EX) (te : TE) (t : DT) : Prop := ∀ ds O k, t ds O k → ∀ G H σ Q, Ok K G H O → Rep K G σ ds → ContX K G H O W ex → Cont K G H O k Q → te σ H Q
def LiftB (K : PySem.W.Frag) (W : WX) (ex : EX) (te : TT) (t : DB) : Prop := ∀ ds O k, t ds O k → ∀ G H σ Q, Ok K G H O → Rep K G σ ds → ContX K G H O W ex → ContB K G H O k Q → te σ H Q
def LiftA (K : PySem.W.Frag) (W : WX) (ex : EX) (te : TA) (t : DA) : Prop := ∀ ds O k, t ds O k → ∀ G H σ Q, Ok K G H O → Rep K G σ ds → ContX K G H O W ex → ContA K G H O k Q → te σ H Q
def DE (X : Cx) (W : WX) (ex : EX) (e : Expr) (t : DT) : Prop := ∃ te, PE X e te ∧ LiftE X.K W ex te t
def DTe (X : Cx) (W : WX) (ex : EX) (e : Expr) (t : DB) : Prop := ∃ te, PT X e te ∧ LiftB X.K W ex te t
def DW (X : Cx) (W : WX) (ex : EX) (e : Expr) (t : DB) : Prop := ∃ te, PW X e te ∧ LiftB X.K W ex te t
def DAs (X : Cx) (W : WX) (ex : EX) (es : List Expr) (t : DA) : Prop := ∃ te, PA X es te ∧ LiftA X.K W ex te t

def dVar (i : Nat) : DT := fun ds O k => match ds[i]? with
  | some (some d) => k d O
  | _ => False
def dC (d : D) : DT := fun _ O k => k d O
def dNil : DA := fun _ O k => k [] O
def dCons (t : DT) (u : DA) : DA := fun ds O k => t ds O fun x O1 => u ds O1 fun xs O2 => k (x :: xs) O2
abbrev DR2 := D → D → Ow → DK → Prop
abbrev DR1 := D → Ow → DK → Prop
abbrev DRC := List D → Ow → DK → Prop
def dOp (r : DR2) (t u : DT) : DT := fun ds O k => t ds O fun x O1 => u ds O1 fun y O2 => r x y O2 k
def dUn (r : DR1) (t : DT) : DT := fun ds O k => t ds O fun x O1 => r x O1 k
def dCB (r : DRC) (t : DA) : DT := fun ds O k => t ds O fun xs O1 => r xs O1 k
def LiftR (K : PySem.W.Frag) (r : R2) (q : DR2) : Prop := ∀ x y O k, q x y O k → ∀ G H v u Q, Ok K G H O → Dn K G v x → Dn K G u y → Cont K G H O k Q → r v u H Q
def LiftU (K : PySem.W.Frag) (r : V → Hp → VK → Prop) (q : DR1) : Prop := ∀ x O k, q x O k → ∀ G H v Q, Ok K G H O → Dn K G v x → Cont K G H O k Q → r v H Q
def LiftC (K : PySem.W.Frag) (r : List V → Hp → VK → Prop) (q : DRC) : Prop := ∀ xs O k, q xs O k → ∀ G H vs Q, Ok K G H O → DnAll K G vs xs → Cont K G H O k Q → r vs H Q
section
variable {K : PySem.W.Frag} {W : WX} {ex : EX}
theorem l_var (i : Nat) : LiftE K W ex (tVar i) (dVar i) := by
  intro ds O k h G H σ Q ok r _ c
  unfold dVar at h
  split at h
  · rename_i d e
    obtain ⟨v, e1, h1⟩ := r.val i d e
    exact ⟨v, e1, c d O v G H h Stp.refl ok h1⟩
  · exact h.elim
theorem l_c {v : V} {d : D} (hd : ∀ G, Dn K G v d) : LiftE K W ex (tC v) (dC d) := fun ds O k h G H σ Q ok _ _ c => c d O v G H h Stp.refl ok (hd G)
theorem l_op {ta tb : TE} {t u : DT} {r : R2} {q : DR2} (hr : LiftR K r q) (ha : LiftE K W ex ta t) (hb : LiftE K W ex tb u) : LiftE K W ex (tOp r ta tb) (dOp q t u) := fun ds O k h G H σ Q ok rp x c =>
  ha ds O _ h G H σ _ ok rp x fun d O1 v G1 H1 h1 s1 ok1 d1 => hb ds O1 _ h1 G1 H1 σ _ ok1 (rp.mono s1.g) (x.after s1) fun e O2 w G2 H2 h2 s2 ok2 d2 =>
    hr d e O2 k h2 G2 H2 v w Q ok2 (d1.mono s2.g) d2 (c.after (s1.trans s2))
theorem l_un {ta : TE} {t : DT} {r : V → Hp → VK → Prop} {q : DR1} (hr : LiftU K r q) (ha : LiftE K W ex ta t) : LiftE K W ex (tUn r ta) (dUn q t) := fun ds O k h G H σ Q ok rp x c =>
  ha ds O _ h G H σ _ ok rp x fun d O1 v G1 H1 h1 s1 ok1 d1 => hr d O1 k h1 G1 H1 v Q ok1 d1 (c.after s1)
theorem l_nil : LiftA K W ex tNil dNil := fun ds O k h G H σ Q ok _ _ c => c [] O [] G H h Stp.refl ok .nil
theorem l_cons {ta : TE} {tr : TA} {t : DT} {u : DA} (ha : LiftE K W ex ta t) (hr : LiftA K W ex tr u) : LiftA K W ex (tCons ta tr) (dCons t u) := fun ds O k h G H σ Q ok rp x c =>
  ha ds O _ h G H σ _ ok rp x fun d O1 v G1 H1 h1 s1 ok1 d1 => hr ds O1 _ h1 G1 H1 σ _ ok1 (rp.mono s1.g) (x.after s1) fun xs O2 vs G2 H2 h2 s2 ok2 d2 =>
    c _ O2 _ G2 H2 h2 (s1.trans s2) ok2 (.cons (d1.mono s2.g) d2)
theorem l_cb {ta : TA} {t : DA} {r : List V → Hp → VK → Prop} {q : DRC} (hr : LiftC K r q) (ha : LiftA K W ex ta t) : LiftE K W ex (tCB r ta) (dCB q t) := fun ds O k h G H σ Q ok rp x c =>
  ha ds O _ h G H σ _ ok rp x fun xs O1 vs G1 H1 h1 s1 ok1 d1 => hr xs O1 k h1 G1 H1 vs Q ok1 d1 (c.after s1)
end

/-! ### names, constants, displays -/
section
variable {X : Cx} {W : WX} {ex : EX} {a b c : Expr} {pos : Pos} {t u : DT}
theorem de_var (i : Nat) {x : Str} (hN : X.N[i]? = some x := by rfl) (hv : Vis X.env.scope x := by first | exact Or.inl rfl | exact Or.inr (Or.inl rfl) | exact Or.inr (Or.inr rfl)) (hd : (x == ("__debug__" : Str)) = false := by decide)
    (hcd : (x == ("__classdict__" : Str)) = false := by decide) : DE X W ex (.Name x pos) (dVar i) := ⟨_, pe_var hN hv hd hcd, l_var i⟩
theorem de_int {i j} : DE X W ex (.Constant (.int i) j pos) (dC (.int i)) := ⟨_, pe_int, l_c fun _ => .int i⟩
theorem de_bl {b j} : DE X W ex (.Constant (.bool b) j pos) (dC (.bl b)) := ⟨_, pe_bl, l_c fun _ => .bl b⟩
theorem de_non {j} : DE X W ex (.Constant .none j pos) (dC .non) := ⟨_, pe_non, l_c fun _ => .non⟩
theorem de_str {x j} : DE X W ex (.Constant (.str x) j pos) (dC (.str x)) := ⟨_, pe_str, l_c fun _ => .str x⟩
/-- a module's name as a value: a text, an int, a def, a class -/
theorem de_glob {x : Str} {v : V} {d : D} {w : Value} (hm : X.mg x = some w) (r : RelV v w) (hd : ∀ G, Dn X.K G v d) (hg : Gl X x := by rfl) (hdb : (x == ("__debug__" : Str)) = false := by decide) : DE X W ex (.Name x pos) (dC d) := ⟨_, pe_glob hg hm r hdb, l_c hd⟩
/-- a built-in class as a value -/
theorem de_ty {x : Str} {n : String} (hm : X.mg x = none) (hv : bootBuiltins x = some (.type n)) (hg : Gl X x := by rfl) (hn : x ≠ "__name__" := by decide) (hd : (x == ("__debug__" : Str)) = false := by decide) : DE X W ex (.Name x pos) (dC (.opq (.ty n))) := ⟨_, pe_bltn (v := .ty n) hg hm hv rfl hn hd, l_c fun _ => .opq _⟩
theorem da_nil : DAs X W ex [] dNil := ⟨_, pa_nil, l_nil⟩
theorem da_cons {es : List Expr} {u : DA} (ha : DE X W ex a t) (hr : DAs X W ex es u) (he : starEach (a :: es) X.env = (false, eval a X.env) :: starEach es X.env := by rfl) : DAs X W ex (a :: es) (dCons t u) := by
  obtain ⟨ta, h1, l1⟩ := ha
  obtain ⟨tr, h2, l2⟩ := hr
  exact ⟨_, pa_cons h1 h2 he, l_cons l1 l2⟩
def dTup (t : DA) : DT := fun ds O k => t ds O fun xs O1 => xs.length ≤ sizeLine ∧ k (.tup xs) O1
/-- a list that stays as it is | a list that will be changed -/
def dLst (t : DA) : DT := fun ds O k => t ds O fun xs O1 => xs.length ≤ sizeLine ∧ k (.lst xs) O1
def dLstO (t : DA) : DT := fun ds O k => t ds O fun xs O1 => xs.length ≤ sizeLine ∧ ∀ p, O1 p = none → k (.opq (.ref p)) (oset O1 p (.lst xs))
theorem de_tup {es : List Expr} {t : DA} {x1} (h : DAs X W ex es t) : DE X W ex (.Tuple es x1 pos) (dTup t) := by
  obtain ⟨ta, h1, l1⟩ := h
  refine ⟨_, pe_tup h1, fun ds O k h G H σ Q ok rp x c => l1 ds O _ h G H σ _ ok rp x fun xs O1 vs G1 H1 ⟨hz, h1⟩ s1 ok1 d1 => ⟨by rw [d1.length]; exact hz, fun p hp => ?_⟩⟩
  obtain ⟨ok2, s2, e2⟩ := frozen (o := .tup vs) ok1 hp
  exact c _ O1 _ _ _ h1 (s1.trans s2) ok2 (.tup (SqT.of upd_same) (d1.mono e2))
theorem de_lst {es : List Expr} {t : DA} (h : DAs X W ex es t) : DE X W ex (.List es pos) (dLst t) := by
  obtain ⟨ta, h1, l1⟩ := h
  refine ⟨_, pe_lst h1, fun ds O k h G H σ Q ok rp x c => l1 ds O _ h G H σ _ ok rp x fun xs O1 vs G1 H1 ⟨hz, h1⟩ s1 ok1 d1 => ⟨by rw [d1.length]; exact hz, fun p hp => ?_⟩⟩
  obtain ⟨ok2, s2, e2⟩ := frozen (o := .lst vs) ok1 hp
  exact c _ O1 _ _ _ h1 (s1.trans s2) ok2 (.lst upd_same (d1.mono e2))
theorem de_lstO {es : List Expr} {t : DA} (h : DAs X W ex es t) : DE X W ex (.List es pos) (dLstO t) := by
  obtain ⟨ta, h1, l1⟩ := h
  refine ⟨_, pe_lst h1, fun ds O k h G H σ Q ok rp x c => l1 ds O _ h G H σ _ ok rp x fun xs O1 vs G1 H1 ⟨hz, h1⟩ s1 ok1 d1 => ⟨by rw [d1.length]; exact hz, fun p hp => ?_⟩⟩
  obtain ⟨ok2, s2⟩ := owned ok1 hp d1
  exact c _ _ _ _ _ (h1 p (ok1.none_of hp)) (s1.trans s2) ok2 (.opq _)
end
end DL
namespace DL
open PySem PySem.Spec PyProof.Rows L2 Evl

/-! ### a cell read as what it holds now -/
def res (O : Ow) : D → D
  | .opq (.ref p) => match O p with
    | some (.lst xs) => .lst xs
    | _ => .opq (.ref p)
  | d => d
theorem res_cases (O : Ow) (d : D) : res O d = d ∨ ∃ p xs, d = .opq (.ref p) ∧ O p = some (.lst xs) ∧ res O d = .lst xs := by
  cases d with
  | opq v =>
    cases v with
    | ref p =>
      cases q : O p with
      | none =>
        refine .inl ?_
        simp only [res, q]
      | some c =>
        cases c with
        | lst ys =>
          refine .inr ⟨p, ys, rfl, q, ?_⟩
          simp only [res, q]
        | dic kds =>
          refine .inl ?_
          simp only [res, q]
    | _ => exact .inl rfl
  | _ => exact .inl rfl
theorem res_tupD {O : Ow} {d : D} {xs : List D} (e : res O d = .tup xs) : d = .tup xs := by
  rcases res_cases O d with h | ⟨p, ys, _, _, h⟩
  · rw [h] at e
    exact e
  · rw [h] at e
    cases e
section
variable {K : PySem.W.Frag} {G H : Hp} {O : Ow} {v : V} {d : D}
theorem res_lst (ok : Ok K G H O) (h : Dn K G v d) {xs : List D} (e : res O d = .lst xs) : ∃ a vs, v = .ref a ∧ H a = some (.lst vs) ∧ DnAll K G vs xs := by
  rcases res_cases O d with q | ⟨p, ys, rfl, ho, q⟩
  · rw [q] at e
    subst e
    cases h with
    | lst h1 h2 => exact ⟨_, _, rfl, ok.ex _ _ h1, h2⟩
  · rw [q] at e
    cases e
    cases h
    obtain ⟨_, vs, h1, h2⟩ := ok.own p _ ho
    exact ⟨p, vs, rfl, h1, h2⟩
theorem res_nl {O : Ow} {d e : D} (h : res O d = e) (n : ∀ xs, e ≠ .lst xs) : d = e := by
  rcases res_cases O d with q | ⟨p, ys, _, _, q⟩
  · rw [← h, q]
  · rw [q] at h
    exact absurd h.symm (n ys)
theorem res_tup (ok : Ok K G H O) (h : Dn K G v d) {xs : List D} (e : res O d = .tup xs) : ∃ a vs, v = .ref a ∧ SqT K H a vs ∧ DnAll K G vs xs := by
  have q := res_nl e (fun _ z => by cases z)
  subst q
  cases h with
  | tup h1 h2 => exact ⟨_, _, rfl, ex_t ok.ex h1, h2⟩
theorem res_scr (ok : Ok K G H O) (h : Dn K G v d) {ns : List Int} (e : res O d = .scr ns) : ∃ a, v = .ref a ∧ SqL K H a (ns.map V.int) := by
  have q := res_nl e (fun _ z => by cases z)
  subst q
  cases h with
  | scr h1 => exact ⟨_, rfl, ex_l ok.ex h1⟩
theorem res_non (h : Dn K G v d) (e : res O d = .non) : v = .non := by
  have q := res_nl e (fun _ z => by cases z)
  subst q
  cases h
  rfl
theorem res_bl (h : Dn K G v d) {b : Bool} (e : res O d = .bl b) : v = .bl b := by
  have q := res_nl e (fun _ z => by cases z)
  subst q
  cases h
  rfl
theorem res_int (h : Dn K G v d) {i : Int} (e : res O d = .int i) : v = .int i := by
  have q := res_nl e (fun _ z => by cases z)
  subst q
  cases h
  rfl
theorem res_str (h : Dn K G v d) {x : Str} (e : res O d = .str x) : v = .str x := by
  have q := res_nl e (fun _ z => by cases z)
  subst q
  cases h
  rfl
end

/-! ### data as the library's data -/
mutual
def D.py : D → PyData
  | .non => .none
  | .bl b => .bool b
  | .int i => .int i
  | .str x => .str x
  | .lst xs => .list (D.pyAll xs)
  | .tup xs => .tuple (D.pyAll xs)
  | .scr ns => .list (ns.map .int)
  | .obj _ _ => .dict []
  | .opq _ => .none
def D.pyAll : List D → List PyData
  | [] => []
  | x :: xs => x.py :: D.pyAll xs
end
mutual
def D.pure : D → Bool
  | .lst xs => D.pureAll xs
  | .tup xs => D.pureAll xs
  | .obj _ _ => false
  | .opq _ => false
  | .scr _ => false
  | _ => true
def D.pureAll : List D → Bool
  | [] => true
  | x :: xs => x.pure && D.pureAll xs
end
section
variable {K : PySem.W.Frag} {G H : Hp}
mutual
theorem Dn.py (e : Ex G H) : ∀ {v : V} {d : D}, Dn K G v d → d.pure = true → Dp K H v d.py
  | _, _, .non, _ => .non
  | _, _, .bl b, _ => .bl b
  | _, _, .int b, _ => .int b
  | _, _, .str b, _ => .str b
  | _, _, .lst h a, p => by
    unfold D.pure at p
    unfold D.py
    exact .lst (SqL.of (e _ _ h)) (DnAll.py e a p)
  | _, _, .tup h a, p => by
    unfold D.pure at p
    unfold D.py
    exact .tup (ex_t e h) (DnAll.py e a p)
  | _, _, .scr _, p => by unfold D.pure at p; cases p
  | _, _, .obj _ _, p => by unfold D.pure at p; cases p
  | _, _, .opq _, p => by unfold D.pure at p; cases p
theorem DnAll.py (e : Ex G H) : ∀ {vs : List V} {xs : List D}, DnAll K G vs xs → D.pureAll xs = true → DpAll K H vs (D.pyAll xs)
  | _, _, .nil, _ => by
    unfold D.pyAll
    exact .nil
  | _, _, .cons h t, p => by
    unfold D.pureAll at p
    rw [Bool.and_eq_true] at p
    unfold D.pyAll
    exact .cons (Dn.py e h p.1) (DnAll.py e t p.2)
end
theorem res_py {O : Ow} {v : V} {d : D} (ok : Ok K G H O) (h : Dn K G v d) (p : (res O d).pure = true) : Dp K H v (res O d).py := by
  cases q : res O d with
  | lst xs =>
    obtain ⟨a, vs, rfl, h1, h2⟩ := res_lst ok h q
    rw [q] at p
    unfold D.pure at p
    unfold D.py
    exact .lst (SqL.of h1) (DnAll.py ok.ex h2 p)
  | tup xs =>
    obtain ⟨a, vs, rfl, h1, h2⟩ := res_tup ok h q
    rw [q] at p
    unfold D.pure at p
    unfold D.py
    exact .tup h1 (DnAll.py ok.ex h2 p)
  | non =>
    rw [res_non h q]
    exact .non
  | bl b =>
    rw [res_bl h q]
    exact .bl b
  | int b =>
    rw [res_int h q]
    exact .int b
  | str b =>
    rw [res_str h q]
    exact .str b
  | scr _ => rw [q] at p; unfold D.pure at p; cases p
  | obj _ _ => rw [q] at p; unfold D.pure at p; cases p
  | opq _ => rw [q] at p; unfold D.pure at p; cases p
end
/-- fit for == : pure, not too deep -/
def D.ok (d : D) : Bool := d.pure && SeqAt.shaped d.py
def deq (x y : D) : Bool := PyData.eqv x.py y.py

/-! ### two-place operations -/
section
variable {X : Cx}
def qAdd : DR2 := fun x y O k => match res O x, res O y with
  | .int i, .int j => k (.int (i + j)) O
  | .str a, .str b => a.length + b.length ≤ sizeLine ∧ k (.str (a ++ b)) O
  | .lst a, .lst b => a.length + b.length ≤ sizeLine ∧ k (.lst (a ++ b)) O
  | .tup a, .tup b => a.length + b.length ≤ sizeLine ∧ k (.tup (a ++ b)) O
  | _, _ => False
def hAdd (K : PySem.W.Frag) : R2 := fun x y H Q => rI0 (fun i j => .int (i + j)) x y H Q ∨ (∃ i j, x = .str i ∧ y = .str j ∧ i.length + j.length ≤ sizeLine ∧ Q (.str (i ++ j)) H) ∨ rCat x y H Q ∨ rCatA K x y H Q
theorem op_addAll : OpR X (binaryOp .Add) (hAdd X.K) := OpR.or op_add (OpR.or op_add_str (OpR.or op_cat op_catA))
theorem lr_add {K : PySem.W.Frag} : LiftR K (hAdd K) qAdd := by
  intro x y O k h G H v u Q ok hx hy c
  unfold qAdd at h
  split at h
  · rename_i i j e1 e2
    rw [res_int hx e1, res_int hy e2]
    exact .inl ⟨i, j, rfl, rfl, c _ O _ G H h Stp.refl ok (.int _)⟩
  · rename_i i j e1 e2
    rw [res_str hx e1, res_str hy e2]
    exact .inr (.inl ⟨i, j, rfl, rfl, h.1, c _ O _ G H h.2 Stp.refl ok (.str _)⟩)
  · rename_i i j e1 e2
    obtain ⟨a, vs, rfl, a1, a2⟩ := res_lst ok hx e1
    obtain ⟨b, ws, rfl, b1, b2⟩ := res_lst ok hy e2
    refine .inr (.inr (.inl ⟨a, b, vs, ws, rfl, rfl, a1, b1, by rw [a2.length, b2.length]; exact h.1, fun p hp => ?_⟩))
    obtain ⟨ok2, s2, e2⟩ := frozen (o := .lst (vs ++ ws)) ok hp
    exact c _ O _ _ _ h.2 s2 ok2 (.lst upd_same ((a2.append b2).mono e2))
  · rename_i i j e1 e2
    obtain ⟨a, vs, rfl, a1, a2⟩ := res_tup ok hx e1
    obtain ⟨b, ws, rfl, b1, b2⟩ := res_tup ok hy e2
    have ga : ∃ vs', vs' = vs := ⟨_, rfl⟩
    refine .inr (.inr (.inr ⟨a, b, vs, ws, rfl, rfl, a1, b1, by rw [a2.length, b2.length]; exact h.1, fun z => ?_, fun _ z => ?_, fun _ _ p hp => ?_⟩))
    · subst z
      cases a2
      have e3 := res_tupD e2
      subst e3
      exact c _ O _ G H h.2 Stp.refl ok hy
    · subst z
      cases b2
      rw [List.append_nil] at h
      have e3 := res_tupD e1
      subst e3
      exact c _ O _ G H h.2 Stp.refl ok hx
    · obtain ⟨ok2, s2, e2⟩ := frozen (o := .tup (vs ++ ws)) ok hp
      exact c _ O _ _ _ h.2 s2 ok2 (.tup (SqT.of upd_same) ((a2.append b2).mono e2))
  · exact h.elim
/-- two ints in, under C, a value out -/
def qII (C : Int → Int → Prop) (g : Int → Int → D) : DR2 := fun x y O k => match x, y with
  | .int i, .int j => C i j ∧ k (g i j) O
  | _, _ => False
theorem lr_II {K : PySem.W.Frag} {C : Int → Int → Prop} {g : Int → Int → V} {g' : Int → Int → D} (hg : ∀ G i j, Dn K G (g i j) (g' i j)) : LiftR K (rI C g) (qII C g') := by
  intro x y O k h G H v u Q ok hx hy c
  unfold qII at h
  split at h
  · rename_i i j
    cases hx
    cases hy
    exact ⟨i, j, rfl, rfl, h.1, c _ O _ G H h.2 Stp.refl ok (hg _ _ _)⟩
  · exact h.elim
def qI0 (g : Int → Int → D) : DR2 := fun x y O k => match x, y with
  | .int i, .int j => k (g i j) O
  | _, _ => False
theorem lr_I0 {K : PySem.W.Frag} {g : Int → Int → V} {g' : Int → Int → D} (hg : ∀ G i j, Dn K G (g i j) (g' i j)) : LiftR K (rI0 g) (qI0 g') := by
  intro x y O k h G H v u Q ok hx hy c
  unfold qI0 at h
  split at h
  · rename_i i j
    cases hx
    cases hy
    exact ⟨i, j, rfl, rfl, c _ O _ G H h Stp.refl ok (hg _ _ _)⟩
  · exact h.elim
def CPowW (i j : Int) : Prop := 0 ≤ j ∧ (Builtin.Int.intBits i : Int) * j ≤ 2 ^ 27
theorem op_powW : OpR X (binaryOp .Pow) (rI CPowW fun i j => .int (i ^ j.toNat)) := opI fun _ _ _ _ _ _ _ hc q => pow_int hc.1 hc.2 q
/-- * : ints, texts, lists, tuples by an int -/
def qMul : DR2 := fun x y O k => match res O x, res O y with
  | .int i, .int j => CMulW i j ∧ k (.int (i * j)) O
  | .str a, .int n => MulOk a n ∧ k (.str (Txt.mul a n)) O
  | .lst a, .int n => -(2 ^ 63) ≤ n ∧ n < 2 ^ 63 ∧ a.length * n.toNat ≤ sizeLine ∧ k (.lst (List.replicate n.toNat a).flatten) O
  | .tup a, .int n => a ≠ [] ∧ 2 ≤ n ∧ n ≤ 1000 ∧ a.length ≤ 1000 ∧ k (.tup (List.replicate n.toNat a).flatten) O
  | _, _ => False
theorem op_mulS : OpR X (binaryOp .Mult) (fun x y H Q => ∃ a n, x = .str a ∧ y = .int n ∧ MulOk a n ∧ Q (.str (Txt.mul a n)) H) := by
  intro pins s σ H x y v u Q I rx ry h
  obtain ⟨a, n, rfl, rfl, hm, q⟩ := h
  obtain ⟨t, rfl⟩ := rx
  obtain ⟨t', rfl⟩ := ry
  exact SB.mul hm fun t2 k => ⟨.str _, H, I.tok _, ⟨_, rfl⟩, q⟩
def hMul (K : PySem.W.Frag) : R2 := fun x y H Q => rI CMulW (fun i j => .int (i * j)) x y H Q ∨ (∃ a n, x = .str a ∧ y = .int n ∧ MulOk a n ∧ Q (.str (Txt.mul a n)) H) ∨ rRep x y H Q ∨ rRepT K x y H Q
theorem op_mulAll : OpR X (binaryOp .Mult) (hMul X.K) := OpR.or op_mulW (OpR.or op_mulS (OpR.or op_rep op_repT))
theorem lr_mul {K : PySem.W.Frag} : LiftR K (hMul K) qMul := by
  intro x y O k h G H v u Q ok hx hy c
  unfold qMul at h
  split at h
  · rename_i i j e1 e2
    rw [res_int hx e1, res_int hy e2]
    exact .inl ⟨i, j, rfl, rfl, h.1, c _ O _ G H h.2 Stp.refl ok (.int _)⟩
  · rename_i i j e1 e2
    rw [res_str hx e1, res_int hy e2]
    exact .inr (.inl ⟨i, j, rfl, rfl, h.1, c _ O _ G H h.2 Stp.refl ok (.str _)⟩)
  · rename_i i j e1 e2
    obtain ⟨a, vs, rfl, a1, a2⟩ := res_lst ok hx e1
    rw [res_int hy e2]
    refine .inr (.inr (.inl ⟨a, j, vs, rfl, rfl, a1, h.1, h.2.1, by rw [a2.length]; exact h.2.2.1, fun p hp => ?_⟩))
    obtain ⟨ok2, s2, e2⟩ := frozen (o := .lst (List.replicate j.toNat vs).flatten) ok hp
    exact c _ O _ _ _ h.2.2.2 s2 ok2 (.lst upd_same ((a2.rep _).mono e2))
  · rename_i i j e1 e2
    obtain ⟨a, vs, rfl, a1, a2⟩ := res_tup ok hx e1
    rw [res_int hy e2]
    refine .inr (.inr (.inr ⟨a, j, vs, rfl, rfl, a1, fun z => h.1 ?_, h.2.1, h.2.2.1, by rw [a2.length]; exact h.2.2.2.1, fun p hp => ?_⟩))
    · subst z
      cases a2
      rfl
    · obtain ⟨ok2, s2, e2⟩ := frozen (o := .tup (List.replicate j.toNat vs).flatten) ok hp
      exact c _ O _ _ _ h.2.2.2.2 s2 ok2 (.tup (SqT.of upd_same) ((a2.rep _).mono e2))
  · exact h.elim
/-! ### comparisons -/
def qEq (neg : Bool) : DR2 := fun x y O k => (res O x).ok = true ∧ (res O y).ok = true ∧ k (.bl (if neg then !deq (res O x) (res O y) else deq (res O x) (res O y))) O
theorem lr_eq {K : PySem.W.Frag} : LiftR K (rEqD K) (qEq false) := by
  intro x y O k h G H v u Q ok hx hy c
  obtain ⟨h1, h2, h3⟩ := h
  unfold D.ok at h1 h2
  rw [Bool.and_eq_true] at h1 h2
  exact ⟨_, _, res_py ok hx h1.1, res_py ok hy h2.1, h1.2, h2.2, c _ O _ G H h3 Stp.refl ok (.bl _)⟩
theorem lr_ne {K : PySem.W.Frag} : LiftR K (rNeD K) (qEq true) := by
  intro x y O k h G H v u Q ok hx hy c
  obtain ⟨h1, h2, h3⟩ := h
  unfold D.ok at h1 h2
  rw [Bool.and_eq_true] at h1 h2
  exact ⟨_, _, res_py ok hx h1.1, res_py ok hy h2.1, h1.2, h2.2, c _ O _ G H h3 Stp.refl ok (.bl _)⟩
/-- is, is not: None, True, False -/
def isD : D → D → Option Bool
  | .opq _, _ => none
  | .obj _ _, _ => none
  | .non, .non => some true
  | _, .non => some false
  | .bl a, .bl b => some (decide (a = b))
  | _, _ => none
def qIs (neg : Bool) : DR2 := fun x y O k => match isD x y with
  | some b => k (.bl (if neg then !b else b)) O
  | none => False
def hIs (neg : Bool) : R2 := fun x y H Q => (y = .non ∧ Q (.bl (if neg then !decide (x = .non) else decide (x = .non))) H) ∨ (∃ a b : Bool, x = .bl a ∧ y = .bl b ∧ Q (.bl (if neg then !decide (a = b) else decide (a = b))) H)
theorem op_isAll : OpR X (compareOp .Is) (hIs false) := OpR.or op_isN op_isBl
theorem op_isnotAll : OpR X (compareOp .IsNot) (hIs true) := OpR.or op_notN op_notBl
theorem isD_ok {K : PySem.W.Frag} {G : Hp} {x y : D} {v u : V} {b : Bool} (e : isD x y = some b) (hx : Dn K G v x) (hy : Dn K G u y) : (u = .non ∧ decide (v = .non) = b) ∨ ∃ i j : Bool, v = .bl i ∧ u = .bl j ∧ decide (i = j) = b := by
  cases hy <;> cases hx <;> first
    | (have e' : none = some b := e; cases e'; done)
    | (have e' : some true = some b := e; cases e'; exact .inl ⟨rfl, decide_eq_true rfl⟩)
    | (have e' : some false = some b := e; cases e'; exact .inl ⟨rfl, decide_eq_false (fun z => by cases z)⟩)
    | (have e' : some (decide _) = some b := e; cases e'; exact .inr ⟨_, _, rfl, rfl, rfl⟩)
theorem lr_is {K : PySem.W.Frag} (neg : Bool) : LiftR K (hIs neg) (qIs neg) := by
  intro x y O k h G H v u Q ok hx hy c
  unfold qIs at h
  split at h
  · rename_i b e
    rcases isD_ok e hx hy with ⟨rfl, z⟩ | ⟨i, j, rfl, rfl, z⟩
    · subst z
      exact .inl ⟨rfl, c _ O _ G H h Stp.refl ok (.bl _)⟩
    · subst z
      exact .inr ⟨i, j, rfl, rfl, c _ O _ G H h Stp.refl ok (.bl _)⟩
  · exact h.elim
/-- a text among written texts; anything flat among them -/
def strsOf : List D → Option (List Str)
  | [] => some []
  | .str x :: r => (strsOf r).map fun l => x :: l
  | _ :: _ => none
theorem strsOf_eq : ∀ {xs : List D} {ss : List Str}, strsOf xs = some ss → xs = ss.map D.str
  | [], _, e => by cases e; rfl
  | d :: r, ss, e => by
    cases d with
    | str x =>
      have e' : (strsOf r).map (fun l => x :: l) = some ss := e
      cases q : strsOf r with
      | none => rw [q] at e'; cases e'
      | some l =>
        rw [q] at e'
        cases e'
        rw [strsOf_eq q]
        rfl
    | _ => cases e
def itemsIn (O : Ow) (d : D) : Option (List D) := match res O d with
  | .lst xs => some xs
  | .tup xs => some xs
  | _ => none
def qIn (neg : Bool) : DR2 := fun x y O k => match x, (itemsIn O y).bind strsOf with
  | .str s, some ss => k (.bl (if neg then !decide (s ∈ ss) else decide (s ∈ ss))) O
  | _, _ => False
theorem inV_str (s : Str) : ∀ ss : List Str, inV (.str s) (ss.map V.str) = decide (s ∈ ss)
  | [] => by simp [inV]
  | t :: ss => by
    have ih := inV_str s ss
    unfold inV at ih ⊢
    rw [List.map_cons, List.any_cons, ih]
    by_cases e : t = s
    · subst e
      have : eqV (.str t) (.str t) = true := by simp [eqV]
      rw [this]
      simp
    · have : eqV (.str t) (.str s) = false := by simp [eqV, e]
      rw [this]
      have e' : ¬ s = t := fun z => e z.symm
      simp [e']
theorem flat_strs : ∀ ss : List Str, (ss.map V.str).all flatV = true
  | [] => rfl
  | s :: ss => by
    rw [List.map_cons, List.all_cons, flat_strs ss]
    rfl
theorem lr_in {K : PySem.W.Frag} (neg : Bool) : LiftR K (rIn K neg) (qIn neg) := by
  intro x y O k h G H v u Q ok hx hy c
  unfold qIn at h
  split at h
  · rename_i s ss e
    cases hx
    cases q : itemsIn O y with
    | none => rw [q] at e; cases e
    | some xs =>
      rw [q] at e
      have e' : strsOf xs = some ss := e
      have ex := strsOf_eq e'
      subst ex
      have fin : ∀ vs, DnAll K G vs (ss.map D.str) → (vs = ss.map V.str) := fun vs a => a.strs
      unfold itemsIn at q
      split at q
      · rename_i ys r
        cases q
        obtain ⟨a, vs, rfl, a1, a2⟩ := res_lst ok hy r
        have z := a2.strs
        subst z
        exact ⟨a, _, rfl, .inl (SqL.of a1), rfl, flat_strs ss, by rw [inV_str]; exact c _ O _ G H h Stp.refl ok (.bl _)⟩
      · rename_i ys r
        cases q
        obtain ⟨a, vs, rfl, a1, a2⟩ := res_tup ok hy r
        have z := a2.strs
        subst z
        exact ⟨a, _, rfl, .inr a1, rfl, flat_strs ss, by rw [inV_str]; exact c _ O _ G H h Stp.refl ok (.bl _)⟩
      · cases q
  · exact h.elim
end
end DL
namespace DL
open PySem PySem.Spec PyProof.Rows L2 Evl

section
variable {K : PySem.W.Frag} {W : WX} {ex : EX} {G H : Hp} {O : Ow}
theorem cut_all {vs : List V} {xs : List D} (h : DnAll K G vs xs) (lo hi : Option Int) : DnAll K G (cutV vs lo hi) ((xs.drop (HT.sIx xs.length 0 lo)).take (HT.sIx xs.length xs.length hi - HT.sIx xs.length 0 lo)) := by
  unfold cutV
  rw [h.length]
  exact (h.drop _).take _
end
/-- a part of a list -/
def cutL {α : Type} (xs : List α) (lo hi : Option Int) : List α := (xs.drop (HT.sIx xs.length 0 lo)).take (HT.sIx xs.length xs.length hi - HT.sIx xs.length 0 lo)

/-! ### subscripts -/
def qIx : DR2 := fun x y O k => match res O x, y with
  | .lst xs, .int i => (match atI xs i with | some d => k d O | none => False)
  | .tup xs, .int i => (match atI xs i with | some d => k d O | none => False)
  | .scr ns, .int i => (match atI ns i with | some n => k (.int n) O | none => False)
  | .str s, .int i => s.length ≤ sizeLine ∧ (match atI s.cps.toList i with | some c => k (.str ⟨#[c]⟩) O | none => False)
  | _, _ => False
theorem atI_all {K : PySem.W.Frag} {G : Hp} {vs : List V} {xs : List D} (h : DnAll K G vs xs) {i : Int} {d : D} (e : atI xs i = some d) : ∃ v, atI vs i = some v ∧ Dn K G v d := by
  unfold atI at e ⊢
  rw [h.length]
  cases q : ixN xs.length i with
  | none => rw [q] at e; cases e
  | some j =>
    rw [q] at e
    exact h.get e
theorem atI_ints {ns : List Int} {i n : Int} (e : atI ns i = some n) : atI (ns.map V.int) i = some (.int n) := by
  unfold atI at e ⊢
  rw [List.length_map]
  cases q : ixN ns.length i with
  | none => rw [q] at e; cases e
  | some j =>
    rw [q] at e
    have e' : ns[j]? = some n := e
    show (ns.map V.int)[j]? = _
    rw [List.getElem?_map, e']
    rfl
theorem lr_ix {K : PySem.W.Frag} : LiftR K (rIx K) qIx := by
  intro x y O k h G H v u Q ok hx hy c
  unfold qIx at h
  split at h
  · rename_i xs i e1
    cases hy
    split at h
    · rename_i d e
      obtain ⟨a, vs, rfl, a1, a2⟩ := res_lst ok hx e1
      obtain ⟨w, h1, h2⟩ := atI_all a2 e
      exact .inl ⟨a, vs, i, w, rfl, rfl, SqL.of a1, h1, c _ O _ G H h Stp.refl ok h2⟩
    · exact h.elim
  · rename_i xs i e1
    cases hy
    split at h
    · rename_i d e
      obtain ⟨a, vs, rfl, a1, a2⟩ := res_tup ok hx e1
      obtain ⟨w, h1, h2⟩ := atI_all a2 e
      exact .inr (.inl ⟨a, vs, i, w, rfl, rfl, a1, h1, c _ O _ G H h Stp.refl ok h2⟩)
    · exact h.elim
  · rename_i xs i e1
    cases hy
    split at h
    · rename_i d e
      obtain ⟨a, rfl, a1⟩ := res_scr ok hx e1
      exact .inl ⟨a, _, i, .int d, rfl, rfl, a1, atI_ints e, c _ O _ G H h Stp.refl ok (.int _)⟩
    · exact h.elim
  · rename_i s i e1
    cases hy
    obtain ⟨hz, h⟩ := h
    split at h
    · rename_i d e
      rw [res_str hx e1]
      exact .inr (.inr ⟨s, i, d, rfl, rfl, hz, e, c _ O _ G H h Stp.refl ok (.str _)⟩)
    · exact h.elim
  · exact h.elim

/-! ### slices -/
abbrev DO := Ds → Ow → (Option Int → Ow → Prop) → Prop
def LiftO (K : PySem.W.Frag) (W : WX) (ex : EX) (te : TO) (t : DO) : Prop := ∀ ds O k, t ds O k → ∀ G H σ Q, Ok K G H O → Rep K G σ ds → ContX K G H O W ex → (∀ i O' G' H', k i O' → Stp G H O G' H' O' → Ok K G' H' O' → Q i H') → te σ H Q
def dNoPart : DO := fun _ O k => k none O
def dPart (t : DT) : DO := fun ds O k => t ds O fun x O1 => match x with
  | .int i => k (some i) O1
  | _ => False
def qSl : D → Option Int → Option Int → Ow → DK → Prop := fun x lo hi O k => match res O x with
  | .lst xs => k (.lst (cutL xs lo hi)) O
  | .tup xs => k (.tup (cutL xs lo hi)) O
  | .scr ns => k (.lst ((cutL ns lo hi).map D.int)) O
  | .str s => s.length ≤ sizeLine ∧ k (.str (cutS s lo hi)) O
  | _ => False
def dSl (t : DT) (lo hi : DO) : DT := fun ds O k => t ds O fun x O1 => lo ds O1 fun l O2 => hi ds O2 fun u O3 => qSl x l u O3 k
def hSl (K : PySem.W.Frag) : V → Option Int → Option Int → Hp → VK → Prop := fun x lo hi H Q => rSlL K x lo hi H Q ∨ rSlA K x lo hi H Q ∨ rSlS x lo hi H Q
section
variable {X : Cx} {K : PySem.W.Frag} {W : WX} {ex : EX}
theorem sl_all : SlR X (hSl X.K) := SlR.or sl_list (SlR.or sl_tupA sl_str)
theorem lo_none : LiftO K W ex tNoPart dNoPart := fun ds O k h G H σ Q ok _ _ c => c none O G H h Stp.refl ok
theorem lo_part {te : TE} {t : DT} (ht : LiftE K W ex te t) : LiftO K W ex (tPart te) (dPart t) := fun ds O k h G H σ Q ok rp x c =>
  ht ds O _ h G H σ _ ok rp x fun d O1 v G1 H1 h1 s1 ok1 d1 => by
    cases d1 with
    | int i => exact ⟨i, rfl, c (some i) O1 G1 H1 h1 s1 ok1⟩
    | _ => exact False.elim h1
theorem l_qsl {x : D} {lo hi : Option Int} {O : Ow} {k : DK} (h : qSl x lo hi O k) {G H : Hp} {v : V} {Q : VK} (ok : Ok K G H O) (hx : Dn K G v x) (c : Cont K G H O k Q) : hSl K v lo hi H Q := by
  unfold qSl at h
  split at h
  · rename_i xs e1
    obtain ⟨a, vs, rfl, a1, a2⟩ := res_lst ok hx e1
    refine .inl ⟨a, vs, rfl, SqL.of a1, fun p hp => ?_⟩
    obtain ⟨ok2, s2, e2⟩ := frozen (o := .lst (cutV vs lo hi)) ok hp
    exact c _ O _ _ _ h s2 ok2 (.lst upd_same ((cut_all a2 lo hi).mono e2))
  · rename_i xs e1
    obtain ⟨a, vs, rfl, a1, a2⟩ := res_tup ok hx e1
    have e3 := res_tupD e1
    refine .inr (.inl ⟨a, vs, rfl, a1, fun z => ?_, fun _ p hp => ?_⟩)
    · rw [a2.length] at z
      have e4 : cutL xs lo hi = xs := by
        unfold cutL
        rw [z.1, z.2, List.drop_zero, Nat.sub_zero, List.take_length]
      rw [e4] at h
      subst e3
      exact c _ O _ G H h Stp.refl ok hx
    · obtain ⟨ok2, s2, e2⟩ := frozen (o := .tup (cutV vs lo hi)) ok hp
      exact c _ O _ _ _ h s2 ok2 (.tup (SqT.of upd_same) ((cut_all a2 lo hi).mono e2))
  · rename_i ns e1
    obtain ⟨a, rfl, a1⟩ := res_scr ok hx e1
    refine .inl ⟨a, _, rfl, a1, fun p hp => ?_⟩
    obtain ⟨ok2, s2, e2⟩ := frozen (o := .lst (cutV (ns.map V.int) lo hi)) ok hp
    refine c _ O _ _ _ h s2 ok2 (.lst upd_same (DnAll.mono e2 ?_))
    have q : cutV (ns.map V.int) lo hi = (cutL ns lo hi).map V.int := by
      unfold cutV cutL
      rw [List.length_map, List.map_take, List.map_drop]
    rw [q]
    exact DnAll.ofInts _
  · rename_i s e1
    rw [res_str hx e1]
    exact .inr (.inr ⟨s, rfl, h.1, c _ O _ G H h.2 Stp.refl ok (.str _)⟩)
  · exact h.elim
theorem l_sl {te : TE} {tl th : TO} {t : DT} {lo hi : DO} (ht : LiftE K W ex te t) (hl : LiftO K W ex tl lo) (hh : LiftO K W ex th hi) : LiftE K W ex (tSl (hSl K) te tl th) (dSl t lo hi) := fun ds O k h G H σ Q ok rp x c =>
  ht ds O _ h G H σ _ ok rp x fun d O1 v G1 H1 h1 s1 ok1 d1 => hl ds O1 _ h1 G1 H1 σ _ ok1 (rp.mono s1.g) (x.after s1) fun i O2 G2 H2 h2 s2 ok2 => hh ds O2 _ h2 G2 H2 σ _ ok2 ((rp.mono s1.g).mono s2.g) ((x.after s1).after s2) fun j O3 G3 H3 h3 s3 ok3 =>
    l_qsl h3 ok3 ((d1.mono s2.g).mono s3.g) (c.after ((s1.trans s2).trans s3))
end

/-! ### truth -/
def qTru (x : D) (O : Ow) (k : Bool → Ow → Prop) : Prop := match res O x with
  | .non => k false O
  | .bl b => k b O
  | .int i => k (i != 0) O
  | .str s => s.length ≤ sizeLine ∧ k ((s.length : Int) != 0) O
  | .lst xs => k (!xs.isEmpty) O
  | .tup xs => k (!xs.isEmpty) O
  | _ => False
theorem empty_all {K : PySem.W.Frag} {G : Hp} {vs : List V} {xs : List D} (h : DnAll K G vs xs) : (!vs.isEmpty) = !xs.isEmpty := by
  cases h <;> rfl
theorem l_tru {K : PySem.W.Frag} {x : D} {O : Ow} {k : Bool → Ow → Prop} (h : qTru x O k) {G H : Hp} {v : V} (ok : Ok K G H O) (hx : Dn K G v x) : ∃ b, TruV K v H b ∧ k b O := by
  unfold qTru at h
  split at h
  · rename_i e
    rw [res_non hx e]
    exact ⟨false, rfl, h⟩
  · rename_i b e
    rw [res_bl hx e]
    exact ⟨b, rfl, h⟩
  · rename_i b e
    rw [res_int hx e]
    exact ⟨_, rfl, h⟩
  · rename_i b e
    rw [res_str hx e]
    exact ⟨_, ⟨h.1, rfl⟩, h.2⟩
  · rename_i xs e
    obtain ⟨a, vs, rfl, a1, a2⟩ := res_lst ok hx e
    exact ⟨_, .inl ⟨vs, SqL.of a1, rfl⟩, by rw [empty_all a2]; exact h⟩
  · rename_i xs e
    obtain ⟨a, vs, rfl, a1, a2⟩ := res_tup ok hx e
    exact ⟨_, .inr (.inl ⟨vs, a1, rfl⟩), by rw [empty_all a2]; exact h⟩
  · exact h.elim

/-! ### the terms -/
def dTru (t : DT) : DB := fun ds O k => t ds O fun x O1 => qTru x O1 k
def dTst (t : DT) : DB := fun ds O k => t ds O fun x O1 => match x with
  | .bl b => k b O1
  | _ => False
def dAnd (t u : DB) : DB := fun ds O k => t ds O fun b O1 => if b = true then u ds O1 k else k false O1
def dOr (t u : DB) : DB := fun ds O k => t ds O fun b O1 => if b = true then k true O1 else u ds O1 k
def dNot (t : DB) : DB := fun ds O k => t ds O fun b O1 => k (!b) O1
def dAndV (t u : DT) : DT := fun ds O k => t ds O fun x O1 => match x with
  | .bl true => u ds O1 k
  | .bl false => k (.bl false) O1
  | _ => False
def dOrV (t u : DT) : DT := fun ds O k => t ds O fun x O1 => match x with
  | .bl true => k (.bl true) O1
  | .bl false => u ds O1 k
  | _ => False
def dNotV (t : DT) : DT := fun ds O k => t ds O fun x O1 => match x with
  | .bl b => k (.bl (!b)) O1
  | _ => False
def dIf (c : DB) (t u : DT) : DT := fun ds O k => c ds O fun b O1 => if b = true then t ds O1 k else u ds O1 k
def dChain (q q' : DR2) (t u v : DT) : DT := fun ds O k => t ds O fun x O1 => u ds O1 fun y O2 => q x y O2 fun z O3 => match z with
  | .bl true => v ds O3 fun w O4 => q' y w O4 k
  | .bl false => k (.bl false) O3
  | _ => False
section
variable {X : Cx} {W : WX} {ex : EX} {a b c : Expr} {pos : Pos} {t u v : DT} {tb ub : DB}
theorem de_bin {op : Operator} {r : R2} {q : DR2} (ho : OpR X (binaryOp op) r) (hl : LiftR X.K r q) (ha : DE X W ex a t) (hb : DE X W ex b u) : DE X W ex (.BinOp a op b pos) (dOp q t u) := by
  obtain ⟨ta, h1, l1⟩ := ha
  obtain ⟨tb, h2, l2⟩ := hb
  exact ⟨_, pe_op ho h1 h2, l_op hl l1 l2⟩
theorem de_add (ha : DE X W ex a t) (hb : DE X W ex b u) : DE X W ex (.BinOp a .Add b pos) (dOp qAdd t u) := de_bin op_addAll lr_add ha hb
abbrev qSub : DR2 := qI0 fun i j => .int (i - j)
theorem de_sub (ha : DE X W ex a t) (hb : DE X W ex b u) : DE X W ex (.BinOp a .Sub b pos) (dOp qSub t u) := de_bin op_sub (lr_I0 fun _ _ _ => .int _) ha hb
theorem de_mul (ha : DE X W ex a t) (hb : DE X W ex b u) : DE X W ex (.BinOp a .Mult b pos) (dOp qMul t u) := de_bin op_mulAll lr_mul ha hb
abbrev qDiv : DR2 := qII CDivW fun i j => .int (i / j)
theorem de_fdiv (ha : DE X W ex a t) (hb : DE X W ex b u) : DE X W ex (.BinOp a .FloorDiv b pos) (dOp qDiv t u) := de_bin op_fdivW (lr_II fun _ _ _ => .int _) ha hb
abbrev qMod : DR2 := qII (fun _ j => 0 < j) fun i j => .int (i % j)
theorem de_mod (ha : DE X W ex a t) (hb : DE X W ex b u) : DE X W ex (.BinOp a .Mod b pos) (dOp qMod t u) := de_bin op_mod (lr_II fun _ _ _ => .int _) ha hb
abbrev qPow : DR2 := qII CPowW fun i j => .int (i ^ j.toNat)
theorem de_pow (ha : DE X W ex a t) (hb : DE X W ex b u) : DE X W ex (.BinOp a .Pow b pos) (dOp qPow t u) := de_bin op_powW (lr_II fun _ _ _ => .int _) ha hb
def qNeg : DR1 := fun x O k => match x with
  | .int i => k (.int (-i)) O
  | _ => False
theorem de_neg (ha : DE X W ex a t) : DE X W ex (.UnaryOp .USub a pos) (dUn qNeg t) := by
  obtain ⟨ta, h1, l1⟩ := ha
  refine ⟨_, pe_un un_neg h1, l_un ?_ l1⟩
  intro x O k h G H v Q ok hx c
  cases hx with
  | int i => exact ⟨i, rfl, c _ O _ G H h Stp.refl ok (.int _)⟩
  | _ => exact False.elim h
theorem de_cmp {op : CmpOp} {r : R2} {q : DR2} (ho : OpR X (compareOp op) r) (hl : LiftR X.K r q) (ha : DE X W ex a t) (hb : DE X W ex b u) (hm : behindInMarks op b = false) : DE X W ex (.Compare a [op] [b] pos) (dOp q t u) := by
  obtain ⟨ta, h1, l1⟩ := ha
  obtain ⟨tb, h2, l2⟩ := hb
  exact ⟨_, pe_cmpR ho h1 h2 hm, l_op hl l1 l2⟩
abbrev qLt : DR2 := qI0 fun i j => .bl (decide (i < j))
abbrev qLe : DR2 := qI0 fun i j => .bl (decide (i ≤ j))
abbrev qGt : DR2 := qI0 fun i j => .bl (decide (j < i))
abbrev qGe : DR2 := qI0 fun i j => .bl (decide (j ≤ i))
theorem de_lt (ha : DE X W ex a t) (hb : DE X W ex b u) : DE X W ex (.Compare a [.Lt] [b] pos) (dOp qLt t u) := de_cmp op_lt (lr_I0 fun _ _ _ => .bl _) ha hb (nomark _)
theorem de_le (ha : DE X W ex a t) (hb : DE X W ex b u) : DE X W ex (.Compare a [.LtE] [b] pos) (dOp qLe t u) := de_cmp op_le (lr_I0 fun _ _ _ => .bl _) ha hb (nomark _)
theorem de_gt (ha : DE X W ex a t) (hb : DE X W ex b u) : DE X W ex (.Compare a [.Gt] [b] pos) (dOp qGt t u) := de_cmp op_gt (lr_I0 fun _ _ _ => .bl _) ha hb (nomark _)
theorem de_ge (ha : DE X W ex a t) (hb : DE X W ex b u) : DE X W ex (.Compare a [.GtE] [b] pos) (dOp qGe t u) := de_cmp op_ge (lr_I0 fun _ _ _ => .bl _) ha hb (nomark _)
theorem de_eq {k : Nat} (hr : Room k X.A) (ha : DE X W ex a t) (hb : DE X W ex b u) : DE X W ex (.Compare a [.Eq] [b] pos) (dOp (qEq false) t u) := de_cmp (op_eqD (by have := hr.un; omega)) lr_eq ha hb (nomark _)
theorem de_ne {k : Nat} (hr : Room k X.A) (ha : DE X W ex a t) (hb : DE X W ex b u) : DE X W ex (.Compare a [.NotEq] [b] pos) (dOp (qEq true) t u) := de_cmp (op_neD (by have := hr.un; omega)) lr_ne ha hb (nomark _)
theorem de_is (ha : DE X W ex a t) (hb : DE X W ex b u) : DE X W ex (.Compare a [.Is] [b] pos) (dOp (qIs false) t u) := de_cmp op_isAll (lr_is false) ha hb (nomark _)
theorem de_isnot (ha : DE X W ex a t) (hb : DE X W ex b u) : DE X W ex (.Compare a [.IsNot] [b] pos) (dOp (qIs true) t u) := de_cmp op_isnotAll (lr_is true) ha hb (nomark _)
theorem de_in (ha : DE X W ex a t) (hb : DE X W ex b u) (hm : behindInMarks .In b = false := by with_unfolding_all rfl) : DE X W ex (.Compare a [.In] [b] pos) (dOp (qIn false) t u) := de_cmp op_in_seq (lr_in false) ha hb hm
theorem de_notin (ha : DE X W ex a t) (hb : DE X W ex b u) (hm : behindInMarks .NotIn b = false := by with_unfolding_all rfl) : DE X W ex (.Compare a [.NotIn] [b] pos) (dOp (qIn true) t u) := de_cmp op_notIn_seq (lr_in true) ha hb hm
theorem l_chain {K : PySem.W.Frag} {ta tb tc : TE} {r r' : R2} {q q' : DR2} (hr : LiftR K r q) (hr' : LiftR K r' q') (ha : LiftE K W ex ta t) (hb : LiftE K W ex tb u) (hc : LiftE K W ex tc v) : LiftE K W ex (tChain r r' ta tb tc) (dChain q q' t u v) := fun ds O k h G H σ Q ok rp x c =>
  ha ds O _ h G H σ _ ok rp x fun d O1 w1 G1 H1 h1 s1 ok1 d1 => hb ds O1 _ h1 G1 H1 σ _ ok1 (rp.mono s1.g) (x.after s1) fun e O2 w2 G2 H2 h2 s2 ok2 d2 =>
    hr d e O2 _ h2 G2 H2 w1 w2 _ ok2 (d1.mono s2.g) d2 fun z O3 w3 G3 H3 h3 s3 ok3 d3 => by
      cases d3 with
      | bl b =>
        refine ⟨b, rfl, ?_⟩
        cases b with
        | true =>
          show tc σ H3 _
          exact hc ds O3 _ h3 G3 H3 σ _ ok3 (((rp.mono s1.g).mono s2.g).mono s3.g) (((x.after s1).after s2).after s3) fun f O4 w4 G4 H4 h4 s4 ok4 d4 =>
            hr' e f O4 k h4 G4 H4 w2 w4 Q ok4 ((d2.mono s3.g).mono s4.g) d4 (c.after (((s1.trans s2).trans s3).trans s4))
        | false =>
          show Q _ _
          exact c _ O3 _ G3 H3 h3 ((s1.trans s2).trans s3) ok3 (.bl _)
      | _ => exact False.elim h3
theorem de_chain {op op' : CmpOp} {r r' : R2} {q q' : DR2} (ho : OpR X (compareOp op) r) (hl : LiftR X.K r q) (ho' : OpR X (compareOp op') r') (hl' : LiftR X.K r' q') (ha : DE X W ex a t) (hb : DE X W ex b u) (hc : DE X W ex c v) (hm : lastMarks [op, op'] [b, c] = false := by with_unfolding_all rfl) :
    DE X W ex (.Compare a [op, op'] [b, c] pos) (dChain q q' t u v) := by
  obtain ⟨ta, h1, l1⟩ := ha
  obtain ⟨tb, h2, l2⟩ := hb
  obtain ⟨tc, h3, l3⟩ := hc
  exact ⟨_, pe_chain ho ho' h1 h2 h3 hm, l_chain hl hl' l1 l2 l3⟩
theorem or_le : OpR X (compareOp .LtE) (rI0 fun i j => .bl (decide (i ≤ j))) := op_le
theorem lq_le {K : PySem.W.Frag} : LiftR K (rI0 fun i j => .bl (decide (i ≤ j))) qLe := lr_I0 fun _ _ _ => .bl _
theorem lq_lt {K : PySem.W.Frag} : LiftR K (rI0 fun i j => .bl (decide (i < j))) qLt := lr_I0 fun _ _ _ => .bl _
theorem de_ix (ha : DE X W ex a t) (hb : DE X W ex b u) (hp : PlainIx b := by exact fun _ _ => rfl) : DE X W ex (.Subscript a b pos) (dOp qIx t u) := by
  obtain ⟨ta, h1, l1⟩ := ha
  obtain ⟨tb, h2, l2⟩ := hb
  exact ⟨_, pe_ix ix_seq h1 h2 hp, l_op lr_ix l1 l2⟩
def DOe (X : Cx) (W : WX) (ex : EX) (e : Option Expr) (t : DO) : Prop := ∃ te, PO X e te ∧ LiftO X.K W ex te t
theorem do_none : DOe X W ex none dNoPart := ⟨_, po_none, lo_none⟩
theorem do_some (ha : DE X W ex a t) : DOe X W ex (some a) (dPart t) := by
  obtain ⟨ta, h1, l1⟩ := ha
  exact ⟨_, po_some h1, lo_part l1⟩
theorem de_slice {lo hi : Option Expr} {l h : DO} {p2 : Pos} (ha : DE X W ex a t) (hl : DOe X W ex lo l) (hh : DOe X W ex hi h) : DE X W ex (.Subscript a (.Slice lo hi none p2) pos) (dSl t l h) := by
  obtain ⟨ta, h1, l1⟩ := ha
  obtain ⟨tl, h2, l2⟩ := hl
  obtain ⟨th, h3, l3⟩ := hh
  exact ⟨_, pe_slice sl_all h1 h2 h3, l_sl l1 l2 l3⟩
/-! tests -/
theorem dt_val (ha : DE X W ex a t) (he : ∀ whole, isTrue a X.env whole = (do let v ← whole; standAt a.pos; holding [v] (truthy v)) := by intro _; rfl) : DTe X W ex a (dTru t) := by
  obtain ⟨ta, h1, l1⟩ := ha
  refine ⟨_, pt_truth h1 he, fun ds O k h G H σ Q ok rp x c => l1 ds O _ h G H σ _ ok rp x fun d O1 v G1 H1 h1 s1 ok1 d1 => ?_⟩
  obtain ⟨b, t1, k1⟩ := l_tru h1 ok1 d1
  exact ⟨b, t1, c b O1 G1 H1 k1 s1 ok1⟩
theorem l_tst {K : PySem.W.Frag} {ta : TE} (l1 : LiftE K W ex ta t) : LiftB K W ex (tTest ta) (dTst t) := fun ds O k h G H σ Q ok rp x c => l1 ds O _ h G H σ _ ok rp x fun d O1 v G1 H1 h1 s1 ok1 d1 => by
  cases d1 with
  | bl b => exact ⟨b, rfl, c b O1 G1 H1 h1 s1 ok1⟩
  | _ => exact False.elim h1
theorem dt_cmp {op : CmpOp} {r : R2} {q : DR2} (ho : OpR X (compareOp op) r) (hl : LiftR X.K r q) (ha : DE X W ex a t) (hb : DE X W ex b u) (hm : behindInMarks op b = false) : DTe X W ex (.Compare a [op] [b] pos) (dTst (dOp q t u)) := by
  obtain ⟨ta, h1, l1⟩ := ha
  obtain ⟨tb, h2, l2⟩ := hb
  exact ⟨_, pt_cmpR ho h1 h2 hm, l_tst (l_op hl l1 l2)⟩
theorem dt_lt (ha : DE X W ex a t) (hb : DE X W ex b u) : DTe X W ex (.Compare a [.Lt] [b] pos) (dTst (dOp qLt t u)) := dt_cmp op_lt (lr_I0 fun _ _ _ => .bl _) ha hb (nomark _)
theorem dt_le (ha : DE X W ex a t) (hb : DE X W ex b u) : DTe X W ex (.Compare a [.LtE] [b] pos) (dTst (dOp qLe t u)) := dt_cmp op_le (lr_I0 fun _ _ _ => .bl _) ha hb (nomark _)
theorem dt_gt (ha : DE X W ex a t) (hb : DE X W ex b u) : DTe X W ex (.Compare a [.Gt] [b] pos) (dTst (dOp qGt t u)) := dt_cmp op_gt (lr_I0 fun _ _ _ => .bl _) ha hb (nomark _)
theorem dt_ge (ha : DE X W ex a t) (hb : DE X W ex b u) : DTe X W ex (.Compare a [.GtE] [b] pos) (dTst (dOp qGe t u)) := dt_cmp op_ge (lr_I0 fun _ _ _ => .bl _) ha hb (nomark _)
theorem dt_eq {k : Nat} (hr : Room k X.A) (ha : DE X W ex a t) (hb : DE X W ex b u) : DTe X W ex (.Compare a [.Eq] [b] pos) (dTst (dOp (qEq false) t u)) := dt_cmp (op_eqD (by have := hr.un; omega)) lr_eq ha hb (nomark _)
theorem dt_ne {k : Nat} (hr : Room k X.A) (ha : DE X W ex a t) (hb : DE X W ex b u) : DTe X W ex (.Compare a [.NotEq] [b] pos) (dTst (dOp (qEq true) t u)) := dt_cmp (op_neD (by have := hr.un; omega)) lr_ne ha hb (nomark _)
theorem dt_is (ha : DE X W ex a t) (hb : DE X W ex b u) : DTe X W ex (.Compare a [.Is] [b] pos) (dTst (dOp (qIs false) t u)) := dt_cmp op_isAll (lr_is false) ha hb (nomark _)
theorem dt_isnot (ha : DE X W ex a t) (hb : DE X W ex b u) : DTe X W ex (.Compare a [.IsNot] [b] pos) (dTst (dOp (qIs true) t u)) := dt_cmp op_isnotAll (lr_is true) ha hb (nomark _)
theorem dt_in (ha : DE X W ex a t) (hb : DE X W ex b u) (hm : behindInMarks .In b = false := by with_unfolding_all rfl) : DTe X W ex (.Compare a [.In] [b] pos) (dTst (dOp (qIn false) t u)) := dt_cmp op_in_seq (lr_in false) ha hb hm
theorem dt_notin (ha : DE X W ex a t) (hb : DE X W ex b u) (hm : behindInMarks .NotIn b = false := by with_unfolding_all rfl) : DTe X W ex (.Compare a [.NotIn] [b] pos) (dTst (dOp (qIn true) t u)) := dt_cmp op_notIn_seq (lr_in true) ha hb hm
theorem dt_chain {op op' : CmpOp} {r r' : R2} {q q' : DR2} (ho : OpR X (compareOp op) r) (hl : LiftR X.K r q) (ho' : OpR X (compareOp op') r') (hl' : LiftR X.K r' q') (ha : DE X W ex a t) (hb : DE X W ex b u) (hc : DE X W ex c v) (hm : lastMarks [op, op'] [b, c] = false := by with_unfolding_all rfl) :
    DTe X W ex (.Compare a [op, op'] [b, c] pos) (dTst (dChain q q' t u v)) := by
  obtain ⟨ta, h1, l1⟩ := ha
  obtain ⟨tb, h2, l2⟩ := hb
  obtain ⟨tc, h3, l3⟩ := hc
  exact ⟨_, pt_chain ho ho' h1 h2 h3 hm, l_tst (l_chain hl hl' l1 l2 l3)⟩
theorem dw_and1 (ha : DTe X W ex a tb) : DW X W ex (.BoolOp .And [a] pos) tb := by
  obtain ⟨ta, h1, l1⟩ := ha
  exact ⟨_, pw_and1 h1, l1⟩
theorem dw_or1 (ha : DTe X W ex a tb) : DW X W ex (.BoolOp .Or [a] pos) tb := by
  obtain ⟨ta, h1, l1⟩ := ha
  exact ⟨_, pw_or1 h1, l1⟩
theorem l_and {K : PySem.W.Frag} {ta tc : TT} (l1 : LiftB K W ex ta tb) (l2 : LiftB K W ex tc ub) : LiftB K W ex (tAnd ta tc) (dAnd tb ub) := fun ds O k h G H σ Q ok rp x c => l1 ds O _ h G H σ _ ok rp x fun b O1 G1 H1 h1 s1 ok1 => by
  cases b with
  | true =>
    show tc σ H1 Q
    exact l2 ds O1 k h1 G1 H1 σ Q ok1 (rp.mono s1.g) (x.after s1) (c.after s1)
  | false =>
    show Q false H1
    exact c false O1 G1 H1 h1 s1 ok1
theorem l_or {K : PySem.W.Frag} {ta tc : TT} (l1 : LiftB K W ex ta tb) (l2 : LiftB K W ex tc ub) : LiftB K W ex (tOr ta tc) (dOr tb ub) := fun ds O k h G H σ Q ok rp x c => l1 ds O _ h G H σ _ ok rp x fun b O1 G1 H1 h1 s1 ok1 => by
  cases b with
  | true =>
    show Q true H1
    exact c true O1 G1 H1 h1 s1 ok1
  | false =>
    show tc σ H1 Q
    exact l2 ds O1 k h1 G1 H1 σ Q ok1 (rp.mono s1.g) (x.after s1) (c.after s1)
theorem dw_and {rest : List Expr} (ha : DTe X W ex a tb) (hb : DW X W ex (.BoolOp .And (b :: rest) pos) ub) : DW X W ex (.BoolOp .And (a :: b :: rest) pos) (dAnd tb ub) := by
  obtain ⟨ta, h1, l1⟩ := ha
  obtain ⟨tc, h2, l2⟩ := hb
  exact ⟨_, pw_and h1 h2, l_and l1 l2⟩
theorem dw_or {rest : List Expr} (ha : DTe X W ex a tb) (hb : DW X W ex (.BoolOp .Or (b :: rest) pos) ub) : DW X W ex (.BoolOp .Or (a :: b :: rest) pos) (dOr tb ub) := by
  obtain ⟨ta, h1, l1⟩ := ha
  obtain ⟨tc, h2, l2⟩ := hb
  exact ⟨_, pw_or h1 h2, l_or l1 l2⟩
theorem dt_w (ha : DW X W ex a tb) : DTe X W ex a tb := by
  obtain ⟨ta, h1, l1⟩ := ha
  exact ⟨_, h1.pt, l1⟩
theorem dt_not (ha : DTe X W ex a tb) : DTe X W ex (.UnaryOp .Not a pos) (dNot tb) := by
  obtain ⟨ta, h1, l1⟩ := ha
  exact ⟨_, pt_not h1, fun ds O k h G H σ Q ok rp x c => l1 ds O _ h G H σ _ ok rp x fun b O1 G1 H1 h1 s1 ok1 => c _ O1 G1 H1 h1 s1 ok1⟩
/-! as values -/
theorem de_one {op : BoolOp} (ha : DE X W ex a t) : DE X W ex (.BoolOp op [a] pos) t := by
  obtain ⟨ta, h1, l1⟩ := ha
  exact ⟨_, pe_one h1, l1⟩
theorem de_and {rest : List Expr} (ha : DE X W ex a t) (hb : DE X W ex (.BoolOp .And (b :: rest) pos) u) : DE X W ex (.BoolOp .And (a :: b :: rest) pos) (dAndV t u) := by
  obtain ⟨ta, h1, l1⟩ := ha
  obtain ⟨tc, h2, l2⟩ := hb
  refine ⟨_, pe_and h1 h2, fun ds O k h G H σ Q ok rp x c => l1 ds O _ h G H σ _ ok rp x fun d O1 v G1 H1 h1 s1 ok1 d1 => ?_⟩
  cases d1 with
  | bl b =>
    refine ⟨b, rfl, ?_⟩
    cases b with
    | true =>
      show tc σ H1 Q
      exact l2 ds O1 k h1 G1 H1 σ Q ok1 (rp.mono s1.g) (x.after s1) (c.after s1)
    | false => exact c _ O1 _ G1 H1 h1 s1 ok1 (.bl _)
  | _ => exact False.elim h1
theorem de_or {rest : List Expr} (ha : DE X W ex a t) (hb : DE X W ex (.BoolOp .Or (b :: rest) pos) u) : DE X W ex (.BoolOp .Or (a :: b :: rest) pos) (dOrV t u) := by
  obtain ⟨ta, h1, l1⟩ := ha
  obtain ⟨tc, h2, l2⟩ := hb
  refine ⟨_, pe_or h1 h2, fun ds O k h G H σ Q ok rp x c => l1 ds O _ h G H σ _ ok rp x fun d O1 v G1 H1 h1 s1 ok1 d1 => ?_⟩
  cases d1 with
  | bl b =>
    refine ⟨b, rfl, ?_⟩
    cases b with
    | false =>
      show tc σ H1 Q
      exact l2 ds O1 k h1 G1 H1 σ Q ok1 (rp.mono s1.g) (x.after s1) (c.after s1)
    | true => exact c _ O1 _ G1 H1 h1 s1 ok1 (.bl _)
  | _ => exact False.elim h1
theorem de_not (ha : DE X W ex a t) : DE X W ex (.UnaryOp .Not a pos) (dNotV t) := by
  obtain ⟨ta, h1, l1⟩ := ha
  refine ⟨_, pe_not h1, fun ds O k h G H σ Q ok rp x c => l1 ds O _ h G H σ _ ok rp x fun d O1 v G1 H1 h1 s1 ok1 d1 => ?_⟩
  cases d1 with
  | bl b => exact ⟨b, rfl, c _ O1 _ G1 H1 h1 s1 ok1 (.bl _)⟩
  | _ => exact False.elim h1
theorem de_ifexp (hc : DTe X W ex c tb) (ha : DE X W ex a t) (hb : DE X W ex b u) : DE X W ex (.IfExp c a b pos) (dIf tb t u) := by
  obtain ⟨tc, h0, l0⟩ := hc
  obtain ⟨ta, h1, l1⟩ := ha
  obtain ⟨tb, h2, l2⟩ := hb
  refine ⟨_, pe_ifExp h0 h1 h2, fun ds O k h G H σ Q ok rp x c => l0 ds O _ h G H σ _ ok rp x fun b O1 G1 H1 h1 s1 ok1 => ?_⟩
  cases b with
  | true => exact l1 ds O1 k h1 G1 H1 σ Q ok1 (rp.mono s1.g) (x.after s1) (c.after s1)
  | false => exact l2 ds O1 k h1 G1 H1 σ Q ok1 (rp.mono s1.g) (x.after s1) (c.after s1)
end
end DL
namespace DL
open PySem PySem.Spec PyProof.Rows L2 Evl

/-! ### calls of built-ins -/
section
variable {X : Cx} {W : WX} {ex : EX} {e : Expr} {es : List Expr} {pos p : Pos} {x : Str} {t : DA}
theorem de_blt {id : String} {r : List V → Hp → VK → Prop} {q : DRC} (hr : CallR X (.builtin id) r) (hl : LiftC X.K r q) (hm : X.mg x = none) (hb : bootBuiltins x = some (.builtin id)) (ha : DAs X W ex (e :: es) t) (hg : Gl X x := by rfl)
    (hn : x ≠ "__name__" := by decide) (hdb : (x == ("__debug__" : Str)) = false := by decide) (he : starEach (e :: es) X.env = (false, eval e X.env) :: starEach es X.env := by rfl) (hpl : (backTo pos (starEach es X.env)).any (·.1) = false := by rfl) :
    DE X W ex (.Call (.Name x p) (e :: es) [] pos) (dCB q t) := by
  obtain ⟨ta, h1, l1⟩ := ha
  exact ⟨_, pe_callB hr hg hm hb h1 hn hdb he hpl, l_cb hl l1⟩
theorem de_bty {T : String} {r : List V → Hp → VK → Prop} {q : DRC} (hr : CallR X (.type T) r) (hl : LiftC X.K r q) (hm : X.mg x = none) (hb : bootBuiltins x = some (.type T)) (ha : DAs X W ex (e :: es) t) (hg : Gl X x := by rfl)
    (hn : x ≠ "__name__" := by decide) (hdb : (x == ("__debug__" : Str)) = false := by decide) (he : starEach (e :: es) X.env = (false, eval e X.env) :: starEach es X.env := by rfl) (hpl : (backTo pos (starEach es X.env)).any (·.1) = false := by rfl) :
    DE X W ex (.Call (.Name x p) (e :: es) [] pos) (dCB q t) := by
  obtain ⟨ta, h1, l1⟩ := ha
  exact ⟨_, pe_callTy hr hg hm hb h1 hn hdb he hpl, l_cb hl l1⟩
end
/-- ints in a list -/
def intsOf : List D → Option (List Int)
  | [] => some []
  | .int x :: r => (intsOf r).map fun l => x :: l
  | _ :: _ => none
theorem intsOf_eq : ∀ {xs : List D} {ns : List Int}, intsOf xs = some ns → xs = ns.map D.int
  | [], _, e => by cases e; rfl
  | d :: r, ss, e => by
    cases d with
    | int x =>
      have e' : (intsOf r).map (fun l => x :: l) = some ss := e
      cases q : intsOf r with
      | none => rw [q] at e'; cases e'
      | some l =>
        rw [q] at e'
        cases e'
        rw [intsOf_eq q]
        rfl
    | _ => cases e
theorem intsOf_map : ∀ ns : List Int, intsOf (ns.map D.int) = some ns
  | [] => rfl
  | n :: ns => by
    show (intsOf (ns.map D.int)).map (fun l => n :: l) = _
    rw [intsOf_map ns]
    rfl
def blsOf : List D → Option (List Bool)
  | [] => some []
  | .bl x :: r => (blsOf r).map fun l => x :: l
  | _ :: _ => none
theorem blsOf_eq : ∀ {xs : List D} {ns : List Bool}, blsOf xs = some ns → xs = ns.map D.bl
  | [], _, e => by cases e; rfl
  | d :: r, ss, e => by
    cases d with
    | bl x =>
      have e' : (blsOf r).map (fun l => x :: l) = some ss := e
      cases q : blsOf r with
      | none => rw [q] at e'; cases e'
      | some l =>
        rw [q] at e'
        cases e'
        rw [blsOf_eq q]
        rfl
    | _ => cases e
theorem blsOf_map : ∀ ns : List Bool, blsOf (ns.map D.bl) = some ns
  | [] => rfl
  | n :: ns => by
    show (blsOf (ns.map D.bl)).map (fun l => n :: l) = _
    rw [blsOf_map ns]
    rfl
theorem strsOf_map : ∀ ns : List Str, strsOf (ns.map D.str) = some ns
  | [] => rfl
  | n :: ns => by
    show (strsOf (ns.map D.str)).map (fun l => n :: l) = _
    rw [strsOf_map ns]
    rfl
def listOf (O : Ow) (d : D) : Option (List D) := match res O d with
  | .lst xs => some xs
  | _ => none
theorem listOf_ok {K : PySem.W.Frag} {G H : Hp} {O : Ow} {v : V} {d : D} (ok : Ok K G H O) (h : Dn K G v d) {xs : List D} (e : listOf O d = some xs) : ∃ a vs, v = .ref a ∧ H a = some (.lst vs) ∧ DnAll K G vs xs := by
  unfold listOf at e
  split at e
  · rename_i ys q
    cases e
    exact res_lst ok h q
  · cases e

/-! the readings of built-ins -/
def qLen : DRC := fun xs O k => match xs with
  | [d] => (match res O d with
    | .lst xs => k (.int (xs.length : Int)) O
    | .tup xs => k (.int (xs.length : Int)) O
    | .scr ns => k (.int (ns.length : Int)) O
    | .str s => s.length ≤ sizeLine ∧ k (.int (s.length : Int)) O
    | _ => False)
  | _ => False
def qAbs : DRC := fun xs O k => match xs with
  | [.int i] => k (.int (if i < 0 then -i else i)) O
  | _ => False
def qMax2 : DRC := fun xs O k => match xs with
  | [.int i, .int j] => k (.int (max i j)) O
  | _ => False
def qMin2 : DRC := fun xs O k => match xs with
  | [.int i, .int j] => k (.int (min i j)) O
  | _ => False
def qSum : DRC := fun xs O k => match xs with
  | [d] => (match (listOf O d).bind intsOf with
    | some ns => k (.int ns.sum) O
    | none => False)
  | _ => False
def qAll : DRC := fun xs O k => match xs with
  | [d] => (match (listOf O d).bind blsOf with
    | some ns => k (.bl (ns.all id)) O
    | none => False)
  | _ => False
def qAny : DRC := fun xs O k => match xs with
  | [d] => (match (listOf O d).bind blsOf with
    | some ns => k (.bl (ns.any id)) O
    | none => False)
  | _ => False
def qInt : DRC := fun xs O k => match xs with
  | [.int i] => k (.int i) O
  | [.bl b] => k (.int (if b then 1 else 0)) O
  | _ => False
def qMaxL : DRC := fun xs O k => match xs with
  | [d] => (match (listOf O d).bind intsOf with
    | some ns => 0 < ns.length ∧ ∀ m, m ∈ ns → (∀ y, y ∈ ns → y ≤ m) → k (.int m) O
    | none => False)
  | _ => False
def qMinL : DRC := fun xs O k => match xs with
  | [d] => (match (listOf O d).bind intsOf with
    | some ns => 0 < ns.length ∧ ∀ m, m ∈ ns → (∀ y, y ∈ ns → m ≤ y) → k (.int m) O
    | none => False)
  | _ => False
/-- tuple(x) -/
def qTuple : DRC := fun xs O k => match xs with
  | [d] => (match res O d with
    | .lst xs => k (.tup xs) O
    | .tup xs => k (.tup xs) O
    | _ => False)
  | _ => False
/-- list(x): that stays | that will be changed -/
def qList : DRC := fun xs O k => match xs with
  | [d] => (match res O d with
    | .lst xs => k (.lst xs) O
    | .tup xs => k (.lst xs) O
    | .scr ns => k (.lst (ns.map D.int)) O
    | _ => False)
  | _ => False
def qListO : DRC := fun xs O k => match xs with
  | [d] => (match res O d with
    | .lst xs => ∀ p, O p = none → k (.opq (.ref p)) (oset O p (.lst xs))
    | .tup xs => ∀ p, O p = none → k (.opq (.ref p)) (oset O p (.lst xs))
    | .scr ns => ∀ p, O p = none → k (.opq (.ref p)) (oset O p (.lst (ns.map D.int)))
    | _ => False)
  | _ => False
section
variable {K : PySem.W.Frag}
theorem one_of {G : Hp} {vs : List V} {d : D} (h : DnAll K G vs [d]) : ∃ v, vs = [v] ∧ Dn K G v d := by
  cases h with
  | cons h t =>
    cases t
    exact ⟨_, rfl, h⟩
theorem two_of {G : Hp} {vs : List V} {d e : D} (h : DnAll K G vs [d, e]) : ∃ v u, vs = [v, u] ∧ Dn K G v d ∧ Dn K G u e := by
  cases h with
  | cons h t =>
    obtain ⟨u, rfl, h2⟩ := one_of t
    exact ⟨_, _, rfl, h, h2⟩
theorem lc_len : LiftC K (fun xs H Q => ∃ x n, xs = [x] ∧ LenV K x H n ∧ Q (.int n) H) qLen := by
  intro xs O k h G H vs Q ok hx c
  unfold qLen at h
  split at h
  · rename_i d
    obtain ⟨v, rfl, hd⟩ := one_of hx
    split at h
    · rename_i ys e
      obtain ⟨a, vs, rfl, a1, a2⟩ := res_lst ok hd e
      exact ⟨_, vs.length, rfl, .inl ⟨vs, SqL.of a1, rfl⟩, by rw [a2.length]; exact c _ O _ G H h Stp.refl ok (.int _)⟩
    · rename_i ys e
      obtain ⟨a, vs, rfl, a1, a2⟩ := res_tup ok hd e
      exact ⟨_, vs.length, rfl, .inr ⟨vs, a1, rfl⟩, by rw [a2.length]; exact c _ O _ G H h Stp.refl ok (.int _)⟩
    · rename_i ys e
      obtain ⟨a, rfl, a1⟩ := res_scr ok hd e
      exact ⟨_, ys.length, rfl, .inl ⟨_, a1, by rw [List.length_map]⟩, c _ O _ G H h Stp.refl ok (.int _)⟩
    · rename_i s e
      rw [res_str hd e]
      exact ⟨_, s.length, rfl, ⟨h.1, rfl⟩, c _ O _ G H h.2 Stp.refl ok (.int _)⟩
    · exact h.elim
  · exact h.elim
theorem lc_abs : LiftC K (fun xs H Q => ∃ i, xs = [.int i] ∧ Q (.int (if i < 0 then -i else i)) H) qAbs := by
  intro xs O k h G H vs Q ok hx c
  unfold qAbs at h
  split at h
  · rename_i d
    obtain ⟨v, rfl, hd⟩ := one_of hx
    cases hd
    exact ⟨_, rfl, c _ O _ G H h Stp.refl ok (.int _)⟩
  · exact h.elim
theorem lc_max2 : LiftC K (fun xs H Q => ∃ i j, xs = [.int i, .int j] ∧ Q (.int (if j > i then j else i)) H) qMax2 := by
  intro xs O k h G H vs Q ok hx c
  unfold qMax2 at h
  split at h
  · rename_i i j
    obtain ⟨v, u, rfl, hd, he⟩ := two_of hx
    cases hd
    cases he
    have e : (if j > i then j else i) = max i j := by
      split <;> omega
    exact ⟨i, j, rfl, by rw [e]; exact c _ O _ G H h Stp.refl ok (.int _)⟩
  · exact h.elim
theorem lc_min2 : LiftC K (fun xs H Q => ∃ i j, xs = [.int i, .int j] ∧ Q (.int (if j < i then j else i)) H) qMin2 := by
  intro xs O k h G H vs Q ok hx c
  unfold qMin2 at h
  split at h
  · rename_i i j
    obtain ⟨v, u, rfl, hd, he⟩ := two_of hx
    cases hd
    cases he
    have e : (if j < i then j else i) = min i j := by
      split <;> omega
    exact ⟨i, j, rfl, by rw [e]; exact c _ O _ G H h Stp.refl ok (.int _)⟩
  · exact h.elim
theorem ints_of {G H : Hp} {O : Ow} {v : V} {d : D} (ok : Ok K G H O) (h : Dn K G v d) {ns : List Int} (e : (listOf O d).bind intsOf = some ns) : ∃ a, v = .ref a ∧ SqL K H a (ns.map V.int) := by
  cases q : listOf O d with
  | none => rw [q] at e; cases e
  | some xs =>
    rw [q] at e
    obtain ⟨a, vs, rfl, a1, a2⟩ := listOf_ok ok h q
    have z := intsOf_eq (show intsOf xs = some ns from e)
    subst z
    rw [a2.ints] at a1
    exact ⟨a, rfl, SqL.of a1⟩
theorem bls_of {G H : Hp} {O : Ow} {v : V} {d : D} (ok : Ok K G H O) (h : Dn K G v d) {ns : List Bool} (e : (listOf O d).bind blsOf = some ns) : ∃ a, v = .ref a ∧ SqL K H a (ns.map V.bl) := by
  cases q : listOf O d with
  | none => rw [q] at e; cases e
  | some xs =>
    rw [q] at e
    obtain ⟨a, vs, rfl, a1, a2⟩ := listOf_ok ok h q
    have z := blsOf_eq (show blsOf xs = some ns from e)
    subst z
    rw [a2.bls] at a1
    exact ⟨a, rfl, SqL.of a1⟩
theorem lc_sum : LiftC K (rSum K) qSum := by
  intro xs O k h G H vs Q ok hx c
  unfold qSum at h
  split at h
  · obtain ⟨v, rfl, hd⟩ := one_of hx
    split at h
    · rename_i ns e
      obtain ⟨a, rfl, a1⟩ := ints_of ok hd e
      exact ⟨a, ns, rfl, a1, c _ O _ G H h Stp.refl ok (.int _)⟩
    · exact h.elim
  · exact h.elim
theorem lc_all : LiftC K (rAll K) qAll := by
  intro xs O k h G H vs Q ok hx c
  unfold qAll at h
  split at h
  · obtain ⟨v, rfl, hd⟩ := one_of hx
    split at h
    · rename_i ns e
      obtain ⟨a, rfl, a1⟩ := bls_of ok hd e
      exact ⟨a, ns, rfl, a1, c _ O _ G H h Stp.refl ok (.bl _)⟩
    · exact h.elim
  · exact h.elim
theorem lc_any : LiftC K (rAny K) qAny := by
  intro xs O k h G H vs Q ok hx c
  unfold qAny at h
  split at h
  · obtain ⟨v, rfl, hd⟩ := one_of hx
    split at h
    · rename_i ns e
      obtain ⟨a, rfl, a1⟩ := bls_of ok hd e
      exact ⟨a, ns, rfl, a1, c _ O _ G H h Stp.refl ok (.bl _)⟩
    · exact h.elim
  · exact h.elim
theorem lc_maxL : LiftC K (rMax K) qMaxL := by
  intro xs O k h G H vs Q ok hx c
  unfold qMaxL at h
  split at h
  · obtain ⟨v, rfl, hd⟩ := one_of hx
    split at h
    · rename_i ns e
      obtain ⟨a, rfl, a1⟩ := ints_of ok hd e
      exact ⟨a, ns, rfl, a1, h.1, fun m m1 m2 => c _ O _ G H (h.2 m m1 m2) Stp.refl ok (.int _)⟩
    · exact h.elim
  · exact h.elim
theorem lc_minL : LiftC K (rMin K) qMinL := by
  intro xs O k h G H vs Q ok hx c
  unfold qMinL at h
  split at h
  · obtain ⟨v, rfl, hd⟩ := one_of hx
    split at h
    · rename_i ns e
      obtain ⟨a, rfl, a1⟩ := ints_of ok hd e
      exact ⟨a, ns, rfl, a1, h.1, fun m m1 m2 => c _ O _ G H (h.2 m m1 m2) Stp.refl ok (.int _)⟩
    · exact h.elim
  · exact h.elim
theorem lc_int : LiftC K (fun xs H Q => (∃ i, xs = [.int i] ∧ Q (.int i) H) ∨ ∃ k, xs = [.bl k] ∧ Q (.int (if k then 1 else 0)) H) qInt := by
  intro xs O k h G H vs Q ok hx c
  unfold qInt at h
  split at h
  · obtain ⟨v, rfl, hd⟩ := one_of hx
    cases hd
    exact .inl ⟨_, rfl, c _ O _ G H h Stp.refl ok (.int _)⟩
  · obtain ⟨v, rfl, hd⟩ := one_of hx
    cases hd
    exact .inr ⟨_, rfl, c _ O _ G H h Stp.refl ok (.int _)⟩
  · exact h.elim
theorem lc_tuple : LiftC K (fun xs H Q => ∃ p ys, xs = [.ref p] ∧ ((SqL K H p ys ∧ ∀ l, H l = none → Q (.ref l) (upd H l (.tup ys))) ∨ (SqT K H p ys ∧ Q (.ref p) H))) qTuple := by
  intro xs O k h G H vs Q ok hx c
  unfold qTuple at h
  split at h
  · rename_i d
    obtain ⟨v, rfl, hd⟩ := one_of hx
    split at h
    · rename_i ys e
      obtain ⟨a, vs, rfl, a1, a2⟩ := res_lst ok hd e
      refine ⟨a, vs, rfl, .inl ⟨SqL.of a1, fun p hp => ?_⟩⟩
      obtain ⟨ok2, s2, e2⟩ := frozen (o := .tup vs) ok hp
      exact c _ O _ _ _ h s2 ok2 (.tup (SqT.of upd_same) (a2.mono e2))
    · rename_i ys e
      obtain ⟨a, vs, rfl, a1, a2⟩ := res_tup ok hd e
      have e3 := res_tupD e
      subst e3
      exact ⟨a, vs, rfl, .inr ⟨a1, c _ O _ G H h Stp.refl ok hd⟩⟩
    · exact h.elim
  · exact h.elim
theorem lc_list : LiftC K (fun xs H Q => ∃ p ys, xs = [.ref p] ∧ (SqL K H p ys ∨ SqT K H p ys) ∧ ∀ l, H l = none → Q (.ref l) (upd H l (.lst ys))) qList := by
  intro xs O k h G H vs Q ok hx c
  unfold qList at h
  split at h
  · rename_i d
    obtain ⟨v, rfl, hd⟩ := one_of hx
    have fin : ∀ {ys : List D} {vs : List V}, DnAll K G vs ys → k (.lst ys) O → ∀ l, H l = none → Q (.ref l) (upd H l (.lst vs)) := fun {ys vs} a2 h p hp => by
      obtain ⟨ok2, s2, e2⟩ := frozen (o := .lst vs) ok hp
      exact c _ O _ _ _ h s2 ok2 (.lst upd_same (a2.mono e2))
    split at h
    · rename_i ys e
      obtain ⟨a, vs, rfl, a1, a2⟩ := res_lst ok hd e
      exact ⟨a, vs, rfl, .inl (SqL.of a1), fin a2 h⟩
    · rename_i ys e
      obtain ⟨a, vs, rfl, a1, a2⟩ := res_tup ok hd e
      exact ⟨a, vs, rfl, .inr a1, fin a2 h⟩
    · rename_i ys e
      obtain ⟨a, rfl, a1⟩ := res_scr ok hd e
      exact ⟨a, _, rfl, .inl a1, fin (DnAll.ofInts _) h⟩
    · exact h.elim
  · exact h.elim
theorem lc_listO : LiftC K (fun xs H Q => ∃ p ys, xs = [.ref p] ∧ (SqL K H p ys ∨ SqT K H p ys) ∧ ∀ l, H l = none → Q (.ref l) (upd H l (.lst ys))) qListO := by
  intro xs O k h G H vs Q ok hx c
  unfold qListO at h
  split at h
  · rename_i d
    obtain ⟨v, rfl, hd⟩ := one_of hx
    have fin : ∀ {ys : List D} {vs : List V}, DnAll K G vs ys → (∀ p, O p = none → k (.opq (.ref p)) (oset O p (.lst ys))) → ∀ l, H l = none → Q (.ref l) (upd H l (.lst vs)) := fun {ys vs} a2 h p hp => by
      obtain ⟨ok2, s2⟩ := owned ok hp a2
      exact c _ _ _ _ _ (h p (ok.none_of hp)) s2 ok2 (.opq _)
    split at h
    · rename_i ys e
      obtain ⟨a, vs, rfl, a1, a2⟩ := res_lst ok hd e
      exact ⟨a, vs, rfl, .inl (SqL.of a1), fin a2 h⟩
    · rename_i ys e
      obtain ⟨a, vs, rfl, a1, a2⟩ := res_tup ok hd e
      exact ⟨a, vs, rfl, .inr a1, fin a2 h⟩
    · rename_i ys e
      obtain ⟨a, rfl, a1⟩ := res_scr ok hd e
      exact ⟨a, _, rfl, .inl a1, fin (DnAll.ofInts _) h⟩
    · exact h.elim
  · exact h.elim
end

/-! ### isinstance -/
def D.ty : D → Option Value
  | .non => some (.type "NoneType")
  | .bl _ => some (.type "bool")
  | .int _ => some (.type "int")
  | .str _ => some (.type "str")
  | .lst _ => some (.type "list")
  | .tup _ => some (.type "tuple")
  | .scr _ => some (.type "list")
  | .obj t _ => some t
  | .opq _ => none
theorem ty_ok {K : PySem.W.Frag} {G H : Hp} {O : Ow} {v : V} {d : D} (ok : Ok K G H O) (h : Dn K G v d) {t : Value} (e : (res O d).ty = some t) : TyD K H v t := by
  cases q : res O d with
  | non => rw [q] at e; cases e; rw [res_non h q]; exact .x <| .base .non
  | bl b => rw [q] at e; cases e; rw [res_bl h q]; exact .x <| .base (.bl _)
  | int b => rw [q] at e; cases e; rw [res_int h q]; exact .x <| .base (.int _)
  | str b => rw [q] at e; cases e; rw [res_str h q]; exact .x <| .base (.str _)
  | lst xs =>
    rw [q] at e
    cases e
    obtain ⟨a, vs, rfl, a1, a2⟩ := res_lst ok h q
    exact .x <| .base (.lst a1)
  | tup xs =>
    rw [q] at e
    cases e
    obtain ⟨a, vs, rfl, a1, a2⟩ := res_tup ok h q
    rcases a1 with (z | ⟨o, z⟩) | ⟨o, its, n, z, z1, _⟩
    · exact .x <| .base (.tup z)
    · exact .x <| .fTuple z
    · exact .x <| .kTuple z z1
  | scr ns =>
    rw [q] at e
    cases e
    obtain ⟨a, rfl, a1⟩ := res_scr ok h q
    rcases a1 with (z | ⟨o, z⟩) | ⟨o, its, n, z, z1, _⟩
    · exact .x <| .base (.lst z)
    · exact .x <| .base (.frz z)
    · exact .x <| .kList z z1
  | obj t' v' =>
    rw [q] at e
    cases e
    have z := res_nl q (fun _ z => by cases z)
    subst z
    cases h with
    | obj h _ => exact tyD_mono ok.ex h
  | opq v' => rw [q] at e; cases e
theorem tyD_type {K : PySem.W.Frag} {H : Hp} {v : V} {m : String} (h : TyD K H v (.type m)) : TyX K H v (.type m) := by
  cases h with
  | x h => exact h
/-- isinstance(x, c) for a built-in class -/
def qIsi : DRC := fun xs O k => match xs with
  | [d, .opq (.ty n)] => (match (res O d).ty with
    | some (.type m) => (match kitB m n with | some b => k (.bl b) O | none => False)
    | _ => False)
  | _ => False
def kitAnyB (m : String) : List String → Option Bool
  | [] => some false
  | n :: ns => match kitB m n with
    | some true => some true
    | some false => kitAnyB m ns
    | none => none
def tysOf : List D → Option (List String)
  | [] => some []
  | .opq (.ty x) :: r => (tysOf r).map fun l => x :: l
  | _ :: _ => none
theorem tysOf_eq : ∀ {xs : List D} {ns : List String}, tysOf xs = some ns → xs = ns.map (fun n => D.opq (.ty n))
  | [], _, e => by cases e; rfl
  | d :: r, ss, e => by
    cases d with
    | opq v =>
      cases v with
      | ty x =>
        have e' : (tysOf r).map (fun l => x :: l) = some ss := e
        cases q : tysOf r with
        | none => rw [q] at e'; cases e'
        | some l =>
          rw [q] at e'
          cases e'
          rw [tysOf_eq q]
          rfl
      | _ => cases e
    | _ => cases e
def qIsiT : DRC := fun xs O k => match xs with
  | [d, .tup cs] => (match (res O d).ty, tysOf cs with
    | some (.type m), some ns => (match kitAnyB m ns with | some b => k (.bl b) O | none => False)
    | _, _ => False)
  | _ => False
section
variable {K : PySem.W.Frag}
theorem lc_isi : LiftC K (rIsi K) qIsi := by
  intro xs O k h G H vs Q ok hx c
  unfold qIsi at h
  split at h
  · rename_i d n
    obtain ⟨v, u, rfl, hd, he⟩ := two_of hx
    split at h
    · rename_i m e
      split at h
      · rename_i b eb
        cases he
        exact ⟨v, .ty n, .type m, .type n, b, rfl, .ty n, tyD_type (ty_ok ok hd e), kit_ty eb, c _ O _ G H h Stp.refl ok (.bl _)⟩
      · exact h.elim
    · exact h.elim
  · exact h.elim
theorem tys_all {G : Hp} : ∀ {vs : List V} {ns : List String}, DnAll K G vs (ns.map fun n => D.opq (.ty n)) → Paired ClsV vs (ns.map Value.type)
  | [], [], _ => .nil
  | [], _ :: _, h => by cases h
  | _ :: _, [], h => by cases h
  | _ :: _, _ :: _, .cons h t => by
    cases h
    exact .cons (.ty _) (tys_all t)
theorem kitAny_ok {m : String} : ∀ {ns : List String} {b : Bool}, kitAnyB m ns = some b → PySem.W.kitAny K (.type m) (ns.map Value.type) = some b
  | [], b, e => by
    cases e
    rfl
  | n :: ns, b, e => by
    unfold kitAnyB at e
    split at e
    · rename_i q
      cases e
      exact kitAny_cons (kit_ty q) (fun z => by cases z) fun _ => rfl
    · rename_i q
      exact kitAny_cons (kit_ty q) (fun _ => kitAny_ok e) fun z => by cases z
    · cases e
theorem lc_isiT : LiftC K (fun xs H Q => ∃ (x : V) (tp : Addr) (cs : List V) (t : Value) (us : List Value) (b : Bool), xs = [x, .ref tp] ∧ SqT K H tp cs ∧ Paired ClsV cs us ∧ TyX K H x t ∧ PySem.W.kitAny K t us = some b ∧ Q (.bl b) H) qIsiT := by
  intro xs O k h G H vs Q ok hx c
  unfold qIsiT at h
  split at h
  · rename_i d cs
    obtain ⟨v, u, rfl, hd, he⟩ := two_of hx
    split at h
    · rename_i m ns e1 e2
      split at h
      · rename_i b eb
        have z := tysOf_eq e2
        subst z
        cases he with
        | tup q1 q2 =>
          exact ⟨v, _, _, .type m, _, b, rfl, ex_t ok.ex q1, tys_all q2, tyD_type (ty_ok ok hd e1), kitAny_ok eb, c _ O _ G H h Stp.refl ok (.bl _)⟩
      · exact h.elim
    · exact h.elim
  · exact h.elim
end
section
variable {X : Cx}
theorem call_isiTS : CallR X (.builtin "isinstance") (fun xs H Q => ∃ (x : V) (tp : Addr) (cs : List V) (t : Value) (us : List Value) (b : Bool), xs = [x, .ref tp] ∧ SqT X.K H tp cs ∧ Paired ClsV cs us ∧ TyX X.K H x t ∧ PySem.W.kitAny X.K t us = some b ∧ Q (.bl b) H) := by
  intro pins s σ H xs us Q I r h
  obtain ⟨x, tp, cs, t, ws, b, rfl, hT, k, ty, e, q⟩ := h
  obtain ⟨u1, u2, rfl, r1, r2⟩ := vals2 r
  cases (show u2 = Value.ref tp from r2)
  obtain ⟨P, Z, p, hx⟩ := kit_of I r1 ty
  obtain ⟨its, rv, ⟨o, h1, h2, n, h3⟩, _⟩ := I.tuple hT
  have e3 := ClsV.all k rv
  subst e3
  obtain ⟨oc, od, dt, sl⟩ := o
  simp only at h2 h3
  subst h2 h3
  exact PySem.W.kia_tup Z I.kIn p h1 e hx fun tk => ⟨.bl b, H, I.tok tk, rfl, q⟩
end
theorem kit_tab : kitB "int" "int" = some true ∧ kitB "bool" "int" = some true ∧ kitB "bool" "bool" = some true ∧ kitB "int" "bool" = some false := by decide +kernel

/-! ### methods of built-in values -/
def tyD (T : String) : D → Bool
  | .str _ => T == "str"
  | .lst _ => T == "list"
  | .scr _ => T == "list"
  | _ => false
def dMeth (T : String) (q : D → List D → Ow → DK → Prop) (t : DT) (u : DA) : DT := fun ds O k => t ds O fun x O1 => tyD T (res O1 x) = true ∧ u ds O1 fun xs O2 => q x xs O2 k
def LiftM (K : PySem.W.Frag) (r : V → List V → Hp → VK → Prop) (q : D → List D → Ow → DK → Prop) : Prop := ∀ x xs O k, q x xs O k → ∀ G H v vs Q, Ok K G H O → Dn K G v x → DnAll K G vs xs → Cont K G H O k Q → r v vs H Q
theorem tyD_ok {K : PySem.W.Frag} {T : String} {G H : Hp} {O : Ow} {v : V} {d : D} (ok : Ok K G H O) (h : Dn K G v d) (e : tyD T (res O d) = true) : tyV K T v H := by
  cases q : res O d with
  | str b =>
    rw [q] at e
    rw [res_str h q]
    exact (eq_of_beq (show (T == "str") = true from e) : T = "str")
  | lst xs =>
    rw [q] at e
    obtain ⟨a, vs, rfl, a1, a2⟩ := res_lst ok h q
    exact .inl ⟨eq_of_beq (show (T == "list") = true from e), vs, SqL.of a1⟩
  | scr ns =>
    rw [q] at e
    obtain ⟨a, rfl, a1⟩ := res_scr ok h q
    exact .inl ⟨eq_of_beq (show (T == "list") = true from e), _, a1⟩
  | _ => rw [q] at e; cases e
section
variable {X : Cx} {W : WX} {ex : EX} {o e : Expr} {es : List Expr} {apos cpos : Pos} {t : DT} {u : DA} {name : Str} {T id : String} {r : V → List V → Hp → VK → Prop} {q : D → List D → Ow → DK → Prop}
theorem de_meth (hA : PlainAttrs T) (hS : Slot T name id) (hT : typeOf (.builtin id) = pure (.type "method_descriptor")) (hr : MtR X id r) (hl : LiftM X.K r q) (ho : DE X W ex o t) (ha : DAs X W ex (e :: es) u)
    (h1 : attributeBase o name X.env (eval o X.env) = eval o X.env := by rfl)
    (h2 : ((backTo cpos (starEach (e :: es) X.env)).all (fun x => !x.1) && (backToKw cpos (keywordEach [] X.env)).all (fun x => x.1.isSome) && decide ((e :: es).length + ([] : List Keyword).length + (if ([] : List Keyword).isEmpty = true then 0 else 1) < 30)) = true := by rfl)
    (h3 : (apos.endLine == cpos.line) = true := by rfl)
    (he : starEach (e :: es) X.env = (false, eval e X.env) :: starEach es X.env := by rfl) (hpl : (backTo cpos (starEach es X.env)).any (·.1) = false := by rfl) :
    DE X W ex (.Call (.Attribute o name apos) (e :: es) [] cpos) (dMeth T q t u) := by
  obtain ⟨ta, p1, l1⟩ := ho
  obtain ⟨tb, p2, l2⟩ := ha
  refine ⟨_, pe_bm hA hS hT hr p1 p2 h1 h2 h3 he hpl, fun ds O k h G H σ Q ok rp x c => l1 ds O _ h G H σ _ ok rp x fun d O1 v G1 H1 h1 s1 ok1 d1 => ⟨tyD_ok ok1 d1 h1.1, ?_⟩⟩
  exact l2 ds O1 _ h1.2 G1 H1 σ _ ok1 (rp.mono s1.g) (x.after s1) fun xs O2 vs G2 H2 h2 s2 ok2 d2 => hl d xs O2 k h2 G2 H2 v vs Q ok2 (d1.mono s2.g) d2 (c.after (s1.trans s2))
def qAppend : D → List D → Ow → DK → Prop := fun x xs O k => match x, xs with
  | .opq (.ref p), [y] => (match O p with
    | some (.lst ys) => ys.length < sizeLine ∧ k .non (oset O p (.lst (ys ++ [y])))
    | _ => False)
  | _, _ => False
theorem lm_append {K : PySem.W.Frag} : LiftM K rAppend qAppend := by
  intro x xs O k h G H v vs Q ok hx hxs c
  unfold qAppend at h
  split at h
  · rename_i p y
    cases hx
    obtain ⟨u, rfl, hy⟩ := one_of hxs
    split at h
    · rename_i ys e
      obtain ⟨_, ws, w1, w2⟩ := ok.own p _ e
      obtain ⟨ok2, s2⟩ := rewritten (vs := ws ++ [u]) (xs := ys ++ [y]) ok e (w2.append (.cons hy .nil))
      exact ⟨p, ws, u, rfl, rfl, w1, by rw [w2.length]; exact h.1, c _ _ _ _ _ h.2 s2 ok2 .non⟩
    · exact h.elim
  · exact h.elim
def qCount : D → List D → Ow → DK → Prop := fun x xs O k => match x, xs with
  | .str a, [.str b] => k (.int (Txt.count a b)) O
  | _, _ => False
theorem lm_count {K : PySem.W.Frag} : LiftM K (fun x xs H Q => ∃ a b, x = .str a ∧ xs = [.str b] ∧ Q (.int (Txt.count a b)) H) qCount := by
  intro x xs O k h G H v vs Q ok hx hxs c
  unfold qCount at h
  split at h
  · cases hx
    obtain ⟨u, rfl, hy⟩ := one_of hxs
    cases hy
    exact ⟨_, _, rfl, rfl, c _ O _ G H h Stp.refl ok (.int _)⟩
  · exact h.elim
def qJoin : D → List D → Ow → DK → Prop := fun x xs O k => match x, xs with
  | .str a, [d] => (match (itemsIn O d).bind strsOf with
    | some ys => (ys.map (·.length)).sum + ys.length * a.length ≤ 16777216 ∧ k (.str (Txt.join a ys)) O
    | none => False)
  | _, _ => False
theorem lm_join {K : PySem.W.Frag} : LiftM K (fun x xs H Q => ∃ a p, ∃ ys : List Str, x = .str a ∧ xs = [.ref p] ∧ (SqL K H p (ys.map V.str) ∨ SqT K H p (ys.map V.str)) ∧ (ys.map (·.length)).sum + ys.length * a.length ≤ 16777216 ∧ Q (.str (Txt.join a ys)) H) qJoin := by
  intro x xs O k h G H v vs Q ok hx hxs c
  unfold qJoin at h
  split at h
  · cases hx
    obtain ⟨u, rfl, hy⟩ := one_of hxs
    split at h
    · rename_i ss e
      cases q : itemsIn O _ with
      | none => rw [q] at e; cases e
      | some xs =>
        rw [q] at e
        have ex := strsOf_eq (show strsOf xs = some ss from e)
        subst ex
        unfold itemsIn at q
        split at q
        · rename_i ys r
          cases q
          obtain ⟨a, vs, rfl, a1, a2⟩ := res_lst ok hy r
          have z := a2.strs
          subst z
          exact ⟨_, a, ss, rfl, rfl, .inl (SqL.of a1), h.1, c _ O _ G H h.2 Stp.refl ok (.str _)⟩
        · rename_i ys r
          cases q
          obtain ⟨a, vs, rfl, a1, a2⟩ := res_tup ok hy r
          have z := a2.strs
          subst z
          exact ⟨_, a, ss, rfl, rfl, .inr a1, h.1, c _ O _ G H h.2 Stp.refl ok (.str _)⟩
        · cases q
    · exact h.elim
  · exact h.elim
end
end DL
namespace DL
open PySem PySem.Spec PyProof.Rows L2 Evl

/-! ### statements -/
structure DEnds where
  nx : Ds → Ow → Prop
  rt : DK
  bk : Ds → Ow → Prop := fun _ _ => False
  ct : Ds → Ow → Prop := fun _ _ => False
abbrev DSr := DEnds → Ds → Ow → Prop
structure ContS (K : PySem.W.Frag) (G H : Hp) (O : Ow) (E : DEnds) (D : Ends) : Prop where
  nx : ContG K G H O E.nx D.nx
  rt : Cont K G H O E.rt D.rt
  bk : ContG K G H O E.bk D.bk
  ct : ContG K G H O E.ct D.ct
theorem ContS.after {K : PySem.W.Frag} {G H G' H' : Hp} {O O' : Ow} {E : DEnds} {D : Ends} (c : ContS K G H O E D) (s : Stp G H O G' H' O') : ContS K G' H' O' E D := ⟨c.nx.after s, c.rt.after s, c.bk.after s, c.ct.after s⟩
def LiftS (K : PySem.W.Frag) (W : WX) (ex : EX) (ts : TS) (t : DSr) : Prop := ∀ E ds O, t E ds O → ∀ G H σ D, Ok K G H O → Rep K G σ ds → ContX K G H O W ex → ContS K G H O E D → ts D σ H
def DSt (X : Cx) (W : WX) (ex : EX) (st : Stmt) (t : DSr) : Prop := ∃ ts, PS X st ts ∧ LiftS X.K W ex ts t
def DSs (X : Cx) (W : WX) (ex : EX) (st : List Stmt) (t : DSr) : Prop := ∃ ts, PSs X st ts ∧ LiftS X.K W ex ts t
/-! targets -/
abbrev DG := D → Ds → Ow → (Ds → Ow → Prop) → Prop
abbrev DGs := List D → Ds → Ow → (Ds → Ow → Prop) → Prop
def Tch (is : List Nat) (σ σ' : L2.St) : Prop := ∀ vs : List Nat, (∀ i ∈ is, i ∈ vs) → wipe σ' vs = wipe σ vs
theorem Tch.trans {is js : List Nat} {σ σ' σ2 : L2.St} (a : Tch is σ σ') (b : Tch js σ' σ2) : Tch (is ++ js) σ σ2 := fun vs h => (b vs fun i hi => h i (List.mem_append_right _ hi)).trans (a vs fun i hi => h i (List.mem_append_left _ hi))
def LiftG (K : PySem.W.Frag) (W : WX) (ex : EX) (is : List Nat) (g : TG) (t : DG) : Prop := ∀ x ds O k, t x ds O k → ∀ G H σ v Q, Ok K G H O → Rep K G σ ds → ContX K G H O W ex → Dn K G v x → (∀ ds' O' σ' G' H', k ds' O' → Stp G H O G' H' O' → Ok K G' H' O' → Rep K G' σ' ds' → Tch is σ σ' → Q σ' H') → g v σ H Q
def LiftGs (K : PySem.W.Frag) (W : WX) (ex : EX) (is : List Nat) (g : TGs) (t : DGs) : Prop := ∀ xs ds O k, t xs ds O k → ∀ G H σ vs Q, Ok K G H O → Rep K G σ ds → ContX K G H O W ex → DnAll K G vs xs → (∀ ds' O' σ' G' H', k ds' O' → Stp G H O G' H' O' → Ok K G' H' O' → Rep K G' σ' ds' → Tch is σ σ' → Q σ' H') → g vs σ H Q
def DGt (X : Cx) (W : WX) (ex : EX) (is : List Nat) (tg : Expr) (t : DG) : Prop := ∃ g, PG X tg g ∧ LiftG X.K W ex is g t
def DGts (X : Cx) (W : WX) (ex : EX) (is : List Nat) (tgs : List Expr) (t : DGs) : Prop := ∃ g, PGs X tgs g ∧ LiftGs X.K W ex is g t
def dgName (i : Nat) : DG := fun x ds O k => k (ds.set i (some x)) O
def dgNil : DGs := fun xs ds O k => match xs with
  | [] => k ds O
  | _ => False
def dgCons (t : DG) (u : DGs) : DGs := fun xs ds O k => match xs with
  | x :: r => t x ds O fun ds' O' => u r ds' O' k
  | _ => False
def dgTup (n : Nat) (t : DGs) : DG := fun x ds O k => match x with
  | .tup xs => xs.length = n ∧ t xs ds O k
  | _ => False
/-- xs[i] = .. -/
def dgSub (t u : DT) : DG := fun x ds O k => t ds O fun o O1 => u ds O1 fun i O2 => match o, i with
  | .opq (.ref p), .int j => (match O2 p with
    | some (.lst ys) => (match ixN ys.length j with
      | some m => k ds (oset O2 p (.lst (ys.set m x)))
      | none => False)
    | _ => False)
  | _, _ => False
section
variable {X : Cx} {W : WX} {ex : EX} {pos : Pos}
theorem dg_name (i : Nat) {x : Str} (hN : X.N.Nodup) (hi : X.N[i]? = some x := by rfl) (hx : Loc X.env.scope x := by first | exact Or.inl rfl | exact Or.inr rfl) (hf : X.fn x = true ∨ X.env.scope.names.lookup x = some .local := by first | exact .inl rfl | exact .inr rfl | assumption) : DGt X W ex [i] (.Name x pos) (dgName i) := by
  refine ⟨_, pg_name hN hi hx hf, fun y ds O k h G H σ v Q ok rp x hv c => c _ O _ G H h Stp.refl ok (rp.set hv i) fun vs hm => ?_⟩
  rw [wipe_set, if_pos (hm i List.mem_cons_self)]
theorem dg_nil : DGts X W ex [] [] dgNil := by
  refine ⟨_, pgs_nil, fun xs ds O k h G H σ vs Q ok rp x hv c => ?_⟩
  cases hv with
  | nil => exact ⟨rfl, c ds O σ G H h Stp.refl ok rp fun _ _ => rfl⟩
  | cons _ _ => exact h.elim
theorem dg_cons {is js : List Nat} {e : Expr} {es : List Expr} {t : DG} {u : DGs} (h1 : DGt X W ex is e t) (h2 : DGts X W ex js es u) (hs : (assignEach (e :: es) X.env).map (·.2) = assign e X.env :: (assignEach es X.env).map (·.2) := by rfl) : DGts X W ex (is ++ js) (e :: es) (dgCons t u) := by
  obtain ⟨g, p1, l1⟩ := h1
  obtain ⟨g2, p2, l2⟩ := h2
  refine ⟨_, pgs_cons p1 p2 hs, fun xs ds O k h G H σ vs Q ok rp x hv c => ?_⟩
  cases hv with
  | nil => exact h.elim
  | cons hv ht => exact ⟨_, _, rfl, l1 _ ds O _ h G H σ _ _ ok rp x hv fun ds' O' σ' G' H' h' s' ok' rp' t' => l2 _ ds' O' k h' G' H' σ' _ _ ok' rp' (x.after s') (ht.mono s'.g) fun ds2 O2 σ2 G2 H2 h2 s2 ok2 rp2 t2 => c ds2 O2 σ2 G2 H2 h2 (s'.trans s2) ok2 rp2 (t'.trans t2)⟩
theorem dg_tup {is : List Nat} {es : List Expr} {k : Nat} {t : DGs} {n : Nat} (hc : X.calm = true) (h : DGts X W ex is es t) (hn : (assignEach es X.env).length = n := by rfl) (hst : (assignEach es X.env).findIdx? (·.1) = none := by rfl) : DGt X W ex is (.Tuple es k pos) (dgTup n t) := by
  obtain ⟨g, p1, l1⟩ := h
  refine ⟨_, pg_tup hc p1 hn hst, fun y ds O k h G H σ v Q ok rp x hv c => ?_⟩
  cases hv with
  | tup a b =>
    obtain ⟨h1, h2⟩ := h
    exact ⟨_, _, rfl, ex_t ok.ex a, by rw [b.length]; exact h1, l1 _ ds O k h2 G H σ _ _ ok rp x b c⟩
  | _ => exact False.elim h
theorem dg_sub {o i : Expr} {t u : DT} (ho : DE X W ex o t) (hi : DE X W ex i u)
    (ha : ∀ v, assign (.Subscript o i pos) X.env v = (do
      let ov ← holding [v] (eval o X.env)
      let iv ← holding [v, ov] (eval i X.env)
      standAt pos
      holding [v, ov, iv] (setItem ov iv v)
      release [v, ov, iv] []) := by intro _; rfl) : DGt X W ex [] (.Subscript o i pos) (dgSub t u) := by
  obtain ⟨ta, p1, l1⟩ := ho
  obtain ⟨tb, p2, l2⟩ := hi
  refine ⟨_, pg_sub p1 p2 set_list ha, fun y ds O k h G H σ v Q ok rp x hv c => l1 ds O _ h G H σ _ ok rp x fun d O1 w G1 H1 h1 s1 ok1 d1 => l2 ds O1 _ h1 G1 H1 σ _ ok1 (rp.mono s1.g) (x.after s1) fun e O2 u2 G2 H2 h2 s2 ok2 d2 => ?_⟩
  dsimp only at h2
  split at h2
  · rename_i p j
    split at h2
    · rename_i ys e1
      split at h2
      · rename_i m em
        cases d1
        cases d2
        obtain ⟨_, ws, w1, w2⟩ := ok2.own p _ e1
        obtain ⟨ok3, s3⟩ := rewritten (vs := ws.set m v) (xs := ys.set m y) ok2 e1 (DnAll.set (hv.mono (s1.g.trans s2.g)) m w2)
        exact ⟨p, ws, j, m, rfl, rfl, w1, by rw [w2.length]; exact em, c ds _ σ _ _ h2 ((s1.trans s2).trans s3) ok3 ((rp.mono s1.g).mono s2.g) fun _ _ => rfl⟩
      · exact h2.elim
    · exact h2.elim
  · exact h2.elim
end

/-! ### ghost steps: less is said, a cell becomes data -/
inductive Gh : Ds → Ow → Ds → Ow → Prop
  | less {ds ds' : Ds} {O O' : Ow} (a : Less ds' ds) (b : Sub O' O) : Gh ds O ds' O'
  | frz {ds : Ds} {O : Ow} (i : Nat) (p : Addr) (xs : List D) (a : ds[i]? = some (some (.opq (.ref p)))) (b : O p = some (.lst xs)) : Gh ds O (ds.set i (some (.lst xs))) (odel O p)
theorem gh_ok {K : PySem.W.Frag} {G H : Hp} {O O' : Ow} {σ : L2.St} {ds ds' : Ds} (g : Gh ds O ds' O') (ok : Ok K G H O) (rp : Rep K G σ ds) : ∃ G', Ok K G' H O' ∧ Stp G H O G' H O' ∧ Rep K G' σ ds' := by
  cases g with
  | less a b => exact ⟨G, ok.sub b, Stp.refl.sub b, rp.less a⟩
  | frz i p xs a b =>
    obtain ⟨G', e, ok', s', d'⟩ := froze ok b
    refine ⟨G', ok', s', ?_⟩
    obtain ⟨v, h1, h2⟩ := rp.val i _ a
    cases h2
    have q := (rp.mono e).set d' i
    have l : i < σ.length := (List.getElem?_eq_some_iff.mp h1).1
    have e2 : σ.set i (some (.ref p)) = σ := by
      apply List.ext_getElem?
      intro j
      by_cases z : i = j
      · subst z
        rw [List.getElem?_set_self l, h1]
      · rw [List.getElem?_set_ne z]
    rw [e2] at q
    exact q
def dGh (t : DSr) : DSr := fun E ds O => ∃ ds' O', Gh ds O ds' O' ∧ t E ds' O'
theorem ds_gh {X : Cx} {W : WX} {ex : EX} {sts : List Stmt} {t : DSr} (h : DSs X W ex sts t) : DSs X W ex sts (dGh t) := by
  obtain ⟨ts, p, l⟩ := h
  refine ⟨ts, p, fun E ds O ⟨ds', O', g, h⟩ G H σ D ok rp x c => ?_⟩
  obtain ⟨G', ok', s', rp'⟩ := gh_ok g ok rp
  exact l E ds' O' h G' H σ D ok' rp' (x.after s') (c.after s')

/-! ### the statements' readings -/
def dNext : DSr := fun E ds O => E.nx ds O
def dSeq (t u : DSr) : DSr := fun E ds O => t { E with nx := u E } ds O
def dBreak : DSr := fun E ds O => E.bk ds O
def dCont : DSr := fun E ds O => E.ct ds O
def dDrop (t : DT) : DSr := fun E ds O => t ds O fun _ O1 => E.nx ds O1
def dRet (t : DT) : DSr := fun E ds O => t ds O E.rt
def dRetN : DSr := fun E _ O => E.rt .non O
def dIfS (c : DB) (t u : DSr) : DSr := fun E ds O => c ds O fun b O1 => if b = true then t E ds O1 else u E ds O1
def dAsg (t : DT) (g : DG) : DSr := fun E ds O => t ds O fun x O1 => g x ds O1 E.nx
def dPar (i j : Nat) (t : DA) : DSr := fun E ds O => t ds O fun xs O1 => match xs with
  | [x, y] => E.nx ((ds.set i (some x)).set j (some y)) O1
  | _ => False
def dAug (i : Nat) (q : DR2) (t : DT) : DSr := fun E ds O => match ds[i]? with
  | some (some x) => t ds O fun y O1 => q x y O1 fun z O2 => E.nx (ds.set i (some z)) O2
  | _ => False
def dWhile (c : DB) (tb : DSr) : DSr := fun E ds O => ∃ Iv : Nat → Ds → Ow → Prop, (∃ m, Iv m ds O) ∧ ∀ m ds O, Iv m ds O → c ds O fun b O1 =>
  if b = true then tb { E with nx := fun ds' O' => ∃ m', m' < m ∧ Iv m' ds' O', ct := fun ds' O' => ∃ m', m' < m ∧ Iv m' ds' O', bk := E.nx } ds O1 else E.nx ds O1
section
variable {X : Cx} {W : WX} {ex : EX} {pos : Pos} {e : Expr} {st : Stmt} {rest : List Stmt} {t u : DSr} {te : DT}
theorem dss_nil : DSs X W ex [] dNext := ⟨_, pss_nil, fun E ds O h G H σ D ok rp x c => c.nx ds O σ G H h Stp.refl ok rp⟩
theorem l_seq {K : PySem.W.Frag} {ta tb : TS} (l1 : LiftS K W ex ta t) (l2 : LiftS K W ex tb u) : LiftS K W ex (tSeq ta tb) (dSeq t u) := fun E ds O h G H σ D ok rp x c =>
  l1 _ ds O h G H σ _ ok rp x ⟨fun ds' O' σ' G' H' h' s' ok' rp' => l2 E ds' O' h' G' H' σ' D ok' rp' (x.after s') (c.after s'), c.rt, c.bk, c.ct⟩
theorem dss_cons (h1 : DSt X W ex st t) (h2 : DSs X W ex rest u) : DSs X W ex (st :: rest) (dSeq t u) := by
  obtain ⟨ta, p1, l1⟩ := h1
  obtain ⟨tb, p2, l2⟩ := h2
  exact ⟨_, pss_cons p1 p2, l_seq l1 l2⟩
theorem dss_one (h1 : DSt X W ex st t) : DSs X W ex [st] t := by
  obtain ⟨ta, p1, l1⟩ := h1
  exact ⟨_, pss_one p1, l1⟩
theorem ds_pass : DSt X W ex (.Pass pos) dNext := ⟨_, ps_pass, fun E ds O h G H σ D ok rp x c => c.nx ds O σ G H h Stp.refl ok rp⟩
theorem ds_break : DSt X W ex (.Break pos) dBreak := ⟨_, ps_break, fun E ds O h G H σ D ok rp x c => c.bk ds O σ G H h Stp.refl ok rp⟩
theorem ds_cont : DSt X W ex (.Continue pos) dCont := ⟨_, ps_continue, fun E ds O h G H σ D ok rp x c => c.ct ds O σ G H h Stp.refl ok rp⟩
theorem ds_doc {y j pos'} : DSt X W ex (.Expr (.Constant (.str y) j pos) pos') dNext := ⟨_, ps_doc, fun E ds O h G H σ D ok rp x c => c.nx ds O σ G H h Stp.refl ok rp⟩
theorem ds_expr (he : DE X W ex e te) (hs : swapsWith e none pos.line X.env = pure false := by rfl) : DSt X W ex (.Expr e pos) (dDrop te) := by
  obtain ⟨ta, p1, l1⟩ := he
  exact ⟨_, ps_expr p1 hs, fun E ds O h G H σ D ok rp x c => l1 ds O _ h G H σ _ ok rp x fun d O1 v G1 H1 h1 s1 ok1 _ => c.nx ds O1 σ G1 H1 h1 s1 ok1 (rp.mono s1.g)⟩
theorem ds_ret (he : DE X W ex e te) : DSt X W ex (.Return (some e) pos) (dRet te) := by
  obtain ⟨ta, p1, l1⟩ := he
  exact ⟨_, ps_ret p1, fun E ds O h G H σ D ok rp x c => l1 ds O _ h G H σ _ ok rp x c.rt⟩
theorem ds_retN : DSt X W ex (.Return none pos) dRetN := ⟨_, ps_retN, fun E ds O h G H σ D ok rp x c => c.rt .non O _ G H h Stp.refl ok .non⟩
theorem ds_if {c : Expr} {a b : List Stmt} {tc : DB} (hc : DTe X W ex c tc) (ha : DSs X W ex a t) (hb : DSs X W ex b u) : DSt X W ex (.If c a b pos) (dIfS tc t u) := by
  obtain ⟨t0, p0, l0⟩ := hc
  obtain ⟨ta, p1, l1⟩ := ha
  obtain ⟨tb, p2, l2⟩ := hb
  refine ⟨_, ps_if p0 p1 p2, fun E ds O h G H σ D ok rp x c => l0 ds O _ h G H σ _ ok rp x fun b O1 G1 H1 h1 s1 ok1 => ?_⟩
  cases b with
  | true => exact l1 E ds O1 h1 G1 H1 σ D ok1 (rp.mono s1.g) (x.after s1) (c.after s1)
  | false => exact l2 E ds O1 h1 G1 H1 σ D ok1 (rp.mono s1.g) (x.after s1) (c.after s1)
theorem l_asg {K : PySem.W.Frag} {ta : TE} {g : TG} {is : List Nat} {tg : DG} (l1 : LiftE K W ex ta te) (l2 : LiftG K W ex is g tg) : LiftS K W ex (tAsg ta g) (dAsg te tg) := fun E ds O h G H σ D ok rp x c =>
  l1 ds O _ h G H σ _ ok rp x fun d O1 v G1 H1 h1 s1 ok1 d1 => l2 d ds O1 _ h1 G1 H1 σ v _ ok1 (rp.mono s1.g) (x.after s1) d1 fun ds' O' σ' G' H' h' s' ok' rp' _ => c.nx ds' O' σ' G' H' h' (s1.trans s') ok' rp'
theorem ds_asg {is : List Nat} {tg : Expr} {g : DG} (he : DE X W ex e te) (hg : DGt X W ex is tg g) (hs : swapsWithSole [tg] e pos.line X.env = pure false := by rfl) (hw : swappedStores [tg] e X.env = pure none := by rfl)
    (h1 : (assignEach [tg] X.env).map (·.2) = [assign tg X.env] := by rfl) : DSt X W ex (.Assign [tg] e pos) (dAsg te g) := by
  obtain ⟨ta, p1, l1⟩ := he
  obtain ⟨g0, p2, l2⟩ := hg
  exact ⟨_, ps_asg p1 p2 hs hw h1, l_asg l1 l2⟩
theorem l_name {K : PySem.W.Frag} (i : Nat) : LiftG K W ex [i] (gName i) (dgName i) := fun y ds O k h G H σ v Q ok rp x hv c => c _ O _ G H h Stp.refl ok (rp.set hv i) fun vs hm => by
  rw [wipe_set, if_pos (hm i List.mem_cons_self)]
theorem ds_set (i : Nat) {x : Str} {pos' : Pos} (hN : X.N.Nodup) (he : DE X W ex e te) (hi : X.N[i]? = some x := by rfl) (hx : Loc X.env.scope x := by first | exact Or.inl rfl | exact Or.inr rfl) (hs : swapsWith e (some (.Name x pos')) pos.line X.env = pure false := by rfl) (hf : X.fn x = true ∨ X.env.scope.names.lookup x = some .local := by first | exact .inl rfl | exact .inr rfl | assumption) :
    DSt X W ex (.Assign [.Name x pos'] e pos) (dAsg te (dgName i)) := by
  obtain ⟨ta, p1, l1⟩ := he
  exact ⟨_, ps_set hN hi hx p1 hs hf, l_asg l1 (l_name i)⟩
theorem ds_par (i j : Nat) {x y : Str} {a b : Expr} {ta : DA} {px py pt : Pos} {kt k2 pt2} (hN : X.N.Nodup) (ha : DAs X W ex [a, b] ta)
    (hp : ∀ {tp : TA}, PA X [a, b] tp → PS X (.Assign [.Tuple [.Name x px, .Name y py] kt pt] (.Tuple [a, b] k2 pt2) pos) (tPar i j tp)) :
    DSt X W ex (.Assign [.Tuple [.Name x px, .Name y py] kt pt] (.Tuple [a, b] k2 pt2) pos) (dPar i j ta) := by
  obtain ⟨tp, p1, l1⟩ := ha
  refine ⟨_, hp p1, fun E ds O h G H σ D ok rp x c => l1 ds O _ h G H σ _ ok rp x fun xs O1 vs G1 H1 h1 s1 ok1 d1 => ?_⟩
  dsimp only at h1
  split at h1
  · obtain ⟨v, u, rfl, hv, hu⟩ := two_of d1
    exact ⟨v, u, rfl, c.nx _ O1 _ G1 H1 h1 s1 ok1 (((rp.mono s1.g).set hv i).set hu j)⟩
  · exact h1.elim
theorem ds_aug (i : Nat) {x : Str} {op : Operator} {ti : TIp} {q : DR2} {pos' : Pos} (hN : X.N.Nodup) (he : DE X W ex e te) (ho : PIp X op ti) (hl : LiftR X.K ti q) (hi : X.N[i]? = some x := by rfl) (hx : Loc X.env.scope x := by first | exact Or.inl rfl | exact Or.inr rfl) (hf : X.fn x = true ∨ X.env.scope.names.lookup x = some .local := by first | exact .inl rfl | exact .inr rfl | assumption) :
    DSt X W ex (.AugAssign (.Name x pos') op e pos) (dAug i q te) := by
  obtain ⟨ta, p1, l1⟩ := he
  refine ⟨_, ps_aug hN hi hx p1 ho hf, fun E ds O h G H σ D ok rp x c => ?_⟩
  unfold dAug at h
  split at h
  · rename_i y ey
    obtain ⟨v, ev, hv⟩ := rp.val i y ey
    exact ⟨v, ev, l1 ds O _ h G H σ _ ok rp x fun d O1 w G1 H1 h1 s1 ok1 d1 => hl y d O1 _ h1 G1 H1 v w _ ok1 (hv.mono s1.g) d1 fun z O2 r G2 H2 h2 s2 ok2 d2 => c.nx _ O2 _ G2 H2 h2 (s1.trans s2) ok2 (((rp.mono s1.g).mono s2.g).set d2 i)⟩
  · exact h.elim
theorem lip_add {K : PySem.W.Frag} : LiftR K (ipI fun i j => i + j) (qI0 fun i j => .int (i + j)) := lr_I0 (g := fun i j => V.int (i + j)) fun _ _ _ => .int _
theorem lip_sub {K : PySem.W.Frag} : LiftR K (ipI fun i j => i - j) (qI0 fun i j => .int (i - j)) := lr_I0 (g := fun i j => V.int (i - j)) fun _ _ _ => .int _
theorem ds_while {c : Expr} {body : List Stmt} {tc : DB} {tb : DSr} (hp : PassesOwn (model X.prog X.w) X.A X.env X.xe) (hc : DTe X W ex c tc) (hb : DSs X W ex body tb) : DSt X W ex (.While c body [] pos) (dWhile tc tb) := by
  obtain ⟨t0, p0, l0⟩ := hc
  obtain ⟨ta, p1, l1⟩ := hb
  refine ⟨_, ps_while hp p0 p1, fun E ds O ⟨Iv, ⟨m0, h0⟩, hs⟩ G H σ D ok rp x c => ?_⟩
  refine ⟨fun m σ' H' => ∃ ds' O' G', Iv m ds' O' ∧ Stp G H O G' H' O' ∧ Ok X.K G' H' O' ∧ Rep X.K G' σ' ds', ⟨m0, ds, O, G, h0, Stp.refl, ok, rp⟩, ?_⟩
  rintro m σ1 H1 ⟨ds1, O1, G1, i1, s1, ok1, rp1⟩
  refine l0 ds1 O1 _ (hs m ds1 O1 i1) G1 H1 σ1 _ ok1 rp1 (x.after s1) fun b O2 G2 H2 h2 s2 ok2 => ?_
  cases b with
  | true =>
    refine ⟨fun σ' H' => ∃ m', m' < m ∧ ∃ ds' O' G', Iv m' ds' O' ∧ Stp G H O G' H' O' ∧ Ok X.K G' H' O' ∧ Rep X.K G' σ' ds', fun σ' H' q => q, ?_⟩
    refine l1 _ ds1 O2 h2 G2 H2 σ1 _ ok2 (rp1.mono s2.g) ((x.after s1).after s2) ⟨?_, c.rt.after (s1.trans s2), c.nx.after (s1.trans s2), ?_⟩
    · rintro ds' O' σ' G' H' ⟨m', hm, i'⟩ s' ok' rp'
      exact ⟨m', hm, ds', O', G', i', (s1.trans s2).trans s', ok', rp'⟩
    · rintro ds' O' σ' G' H' ⟨m', hm, i'⟩ s' ok' rp'
      exact ⟨m', hm, ds', O', G', i', (s1.trans s2).trans s', ok', rp'⟩
  | false =>
    exact c.nx ds1 O2 σ1 G2 H2 h2 (s1.trans s2) ok2 (rp1.mono s2.g)
end
end DL
namespace DL
open PySem PySem.Spec PyProof.Rows L2 Evl

/-! ### what a loop goes over -/
abbrev DI := Ds → Ow → (List D → Ow → Prop) → Prop
/-- J yields the items xs, whatever comes to the heap -/
def Wk (K : PySem.W.Frag) (J : It) (xs : List D) (G : Hp) : Prop := ∀ G2 H2 O2, Ex G G2 → Ok K G2 H2 O2 → ∀ i : Nat,
  (∀ x, xs[i]? = some x → J.go i H2 ∧ ∀ v H', J.yld i H2 v H' → ∃ G3, Ok K G3 H' O2 ∧ Stp G2 H2 O2 G3 H' O2 ∧ Dn K G3 v x) ∧ (xs.length ≤ i → J.stop i H2)
def LiftI (K : PySem.W.Frag) (W : WX) (ex : EX) (wi : TI) (t : DI) : Prop := ∀ ds O k, t ds O k → ∀ G H σ (R : It → Hp → Prop), Ok K G H O → Rep K G σ ds → ContX K G H O W ex →
  (∀ xs O' G' H' J, k xs O' → Stp G H O G' H' O' → Ok K G' H' O' → Wk K J xs G' → R J H') → wi σ H R
def DIt (X : Cx) (W : WX) (ex : EX) (tg it : Expr) (t : DI) : Prop := ∃ wi, PI X tg it wi ∧ LiftI X.K W ex wi t
def signs (s : Str) : List D := s.cps.toList.map fun c => D.str ⟨#[c]⟩
def dSeqI (t : DT) : DI := fun ds O k => t ds O fun x O1 => match x with
  | .lst xs => k xs O1
  | .tup xs => k xs O1
  | .scr ns => k (ns.map D.int) O1
  | .str s => k (signs s) O1
  | _ => False
theorem pi_or {X : Cx} {tg it : Expr} {w1 w2 : TI} (h1 : PI X tg it w1) (h2 : PI X tg it w2) : PI X tg it (fun σ H R => w1 σ H R ∨ w2 σ H R) := ⟨fun pins s σ H R I h => h.elim (h1.run pins s σ H R I) (h2.run pins s σ H R I)⟩
section
variable {K : PySem.W.Frag}
theorem wk_list {a : Addr} {vs : List V} {xs : List D} {G : Hp} (hG : ∀ G2 H2 O2, Ex G G2 → Ok K G2 H2 O2 → SqL K H2 a vs) (h : DnAll K G vs xs) : Wk K (Itl K a) xs G := fun G2 H2 O2 e ok i => by
  have hS := hG G2 H2 O2 e ok
  refine ⟨fun x hx => ?_, fun l => ⟨vs, hS, by rw [h.length]; exact l⟩⟩
  obtain ⟨v, h1, h2⟩ := h.get hx
  refine ⟨⟨vs, v, hS, h1⟩, fun w H' hy => ?_⟩
  obtain ⟨e1, y⟩ := hy
  subst e1
  have e2 := y vs hS
  rw [h1] at e2
  cases e2
  exact ⟨G2, ok, Stp.refl, h2.mono e⟩
theorem wk_tup {a : Addr} {vs : List V} {xs : List D} {G : Hp} (hG : SqT K G a vs) (h : DnAll K G vs xs) : Wk K (Itt K a) xs G := fun G2 H2 O2 e ok i => by
  have hS := ex_t ok.ex (ex_t e hG)
  refine ⟨fun x hx => ?_, fun l => ⟨vs, hS, by rw [h.length]; exact l⟩⟩
  obtain ⟨v, h1, h2⟩ := h.get hx
  refine ⟨⟨vs, v, hS, h1⟩, fun w H' hy => ?_⟩
  obtain ⟨e1, y⟩ := hy
  subst e1
  have e2 := y vs hS
  rw [h1] at e2
  cases e2
  exact ⟨G2, ok, Stp.refl, h2.mono e⟩
theorem wk_str {s : Str} {G : Hp} : Wk K (Its s) (signs s) G := fun G2 H2 O2 e ok i => by
  refine ⟨fun x hx => ?_, fun l => ?_⟩
  · unfold signs at hx
    rw [List.getElem?_map] at hx
    cases q : s.cps.toList[i]? with
    | none => rw [q] at hx; cases hx
    | some c =>
      rw [q] at hx
      cases hx
      have hi : i < s.cps.toList.length := (List.getElem?_eq_some_iff.mp q).1
      refine ⟨(by rw [Array.length_toList] at hi; exact hi), fun w H' hy => ?_⟩
      obtain ⟨e1, c', y1, y2⟩ := hy
      subst e1
      subst y2
      have z : s.cps.toList[i]? = some c' := by
        rw [Array.getElem?_toList]
        exact y1
      rw [q] at z
      cases z
      exact ⟨G2, ok, Stp.refl, .str _⟩
  · unfold signs at l
    rw [List.length_map] at l
    show s.cps.size ≤ i
    simpa using l
theorem wk_range {lo : Int} {n : Nat} {G : Hp} : Wk K (Itr lo n) ((List.range n).map fun i : Nat => D.int (lo + (i : Int))) G := fun G2 H2 O2 e ok i => by
  refine ⟨fun x hx => ?_, fun l => ?_⟩
  · rw [List.getElem?_map] at hx
    cases q : (List.range n)[i]? with
    | none => rw [q] at hx; cases hx
    | some c =>
      rw [q] at hx
      cases hx
      obtain ⟨h1, h2⟩ := List.getElem?_eq_some_iff.mp q
      rw [List.getElem_range] at h2
      subst h2
      rw [List.length_range] at h1
      refine ⟨h1, fun w H' hy => ?_⟩
      obtain ⟨e1, y⟩ := hy
      subst e1
      subst y
      exact ⟨G2, ok, Stp.refl, .int _⟩
  · rw [List.length_map, List.length_range] at l
    exact l
end
def dRange1 (t : DA) : DI := fun ds O k => t ds O fun xs O1 => match xs with
  | [.int j] => -(2 ^ 62) ≤ j ∧ j < 2 ^ 62 ∧ k ((List.range j.toNat).map fun i => D.int ((i : Nat) : Int)) O1
  | _ => False
def dRange2 (t : DA) : DI := fun ds O k => t ds O fun xs O1 => match xs with
  | [.int i, .int j] => (-(2 ^ 62) ≤ i ∧ i < 2 ^ 62 ∧ -(2 ^ 62) ≤ j ∧ j < 2 ^ 62) ∧ k ((List.range (j - i).toNat).map fun m => D.int (i + ((m : Nat) : Int))) O1
  | _ => False
section
variable {X : Cx} {W : WX} {ex : EX} {tg e : Expr} {t : DT} {ta : DA}
/-- a list, a tuple, a text: whichever comes -/
def iSeqA (K : PySem.W.Frag) (te : TE) : TI := fun σ H R => te σ H fun x H1 => (∃ a vs, x = .ref a ∧ SqL K H1 a vs ∧ R (Itl K a) H1) ∨ (∃ a vs, x = .ref a ∧ SqT K H1 a vs ∧ R (Itt K a) H1) ∨ ∃ z, x = .str z ∧ R (Its z) H1
/-- one value is read, then the loop goes over it -/
theorem pi_after {w : TI} {te : TE} {P : V → Hp → (It → Hp → Prop) → Prop} (p : PE X e te)
    (h : ∀ x, PI X tg e (fun _ H R => P x H R) → True) : True := trivial
theorem pi_seqA {te : TE} (p : PE X e te) : PI X tg e (iSeqA X.K te) := by
  constructor
  intro pins s σ H R I h
  refine thn (p.run pins s σ H _ I h) fun v s1 hv => ?_
  obtain ⟨x, H1, I1, r1, q1⟩ := hv
  rcases q1 with ⟨a, vs, ex, hq, q⟩ | ⟨a, vs, ex, hq, q⟩ | ⟨z, ex, q⟩
  · subst ex
    cases r1
    obtain ⟨its, rv, pl, _⟩ := I1.list hq
    refine wpAny_pyIter_list pl.isList ⟨_, [s1.heap.objs.size], _, _, H1, rfl, I1.kept (t' := s1.toks) (fun b o e => Heap.get?_push_of_some _ e), turn_list a _, ⟨_, Heap.get?_push_size _ rfl, rfl, rfl⟩, ?_, q⟩
    intro b hb
    rw [List.mem_singleton] at hb
    rw [hb]
    exact I1.fpOk (Nat.le_refl _) (I1.hok.fresh (Nat.le_refl _))
  · subst ex
    cases r1
    obtain ⟨its, rv, pl, _⟩ := I1.tuple hq
    refine wpAny_pyIter_tuple (show s1.heap.IsTuple a its.toArray from pl) ⟨_, [s1.heap.objs.size], _, _, H1, rfl, I1.kept (t' := s1.toks) (fun b o e => Heap.get?_push_of_some _ e), turn_tuple a _, ⟨_, Heap.get?_push_size _ rfl, rfl, rfl⟩, ?_, q⟩
    intro b hb
    rw [List.mem_singleton] at hb
    rw [hb]
    exact I1.fpOk (Nat.le_refl _) (I1.hok.fresh (Nat.le_refl _))
  · subst ex
    obtain ⟨t, rfl⟩ := r1
    by_cases ha : z.cps.all (· < 128) = true
    · exact wpAny_pyIter_ascii ha (pi_one (tk := s1.toks) I1 _ (turn_str _ z t "str_ascii_iterator" (.inl rfl)) ⟨_, Heap.get?_push_size _ rfl, rfl, rfl⟩ q)
    · exact wpAny_pyIter_wide (Bool.eq_false_iff.mpr ha) (pi_one (tk := s1.toks) I1 _ (turn_str _ z t "str_iterator" (.inr rfl)) ⟨_, Heap.get?_push_size _ rfl, rfl, rfl⟩ q)
theorem di_seq (he : DE X W ex e t) : DIt X W ex tg e (dSeqI t) := by
  obtain ⟨te, p, l⟩ := he
  refine ⟨_, pi_seqA p, fun ds O k h G H σ R ok rp x c => l ds O _ h G H σ _ ok rp x fun d O1 v G1 H1 h1 s1 ok1 d1 => ?_⟩
  cases d1 with
  | lst q1 q2 => exact .inl ⟨_, _, rfl, SqL.of (ok1.ex _ _ q1), c _ O1 G1 H1 _ h1 s1 ok1 (wk_list (fun G2 H2 O2 e ok => SqL.of (ok.ex _ _ (e _ _ q1))) q2)⟩
  | tup q1 q2 => exact .inr (.inl ⟨_, _, rfl, ex_t ok1.ex q1, c _ O1 G1 H1 _ h1 s1 ok1 (wk_tup q1 q2)⟩)
  | scr q1 => exact .inl ⟨_, _, rfl, ex_l ok1.ex q1, c _ O1 G1 H1 _ h1 s1 ok1 (wk_list (fun G2 H2 O2 e ok => ex_l ok.ex (ex_l e q1)) (DnAll.ofInts _))⟩
  | str z => exact .inr (.inr ⟨z, rfl, c _ O1 G1 H1 _ h1 s1 ok1 wk_str⟩)
  | _ => exact False.elim h1
theorem ints1 {G : Hp} {K : PySem.W.Frag} {vs : List V} {i : Int} (h : DnAll K G vs [.int i]) : vs = [.int i] := by
  obtain ⟨v, rfl, hv⟩ := one_of h
  cases hv
  rfl
theorem ints2 {G : Hp} {K : PySem.W.Frag} {vs : List V} {i j : Int} (h : DnAll K G vs [.int i, .int j]) : vs = [.int i, .int j] := by
  obtain ⟨v, u, rfl, hv, hu⟩ := two_of h
  cases hv
  cases hu
  rfl
end
section
variable {X : Cx} {W : WX} {ex : EX} {tg a b : Expr} {ta : DA}
theorem di_range1 {x : Str} {p pos : Pos} (hm : X.mg x = none) (ha : DAs X W ex [a] ta)
    (hp : ∀ {t : TA}, PA X [a] t → PI X tg (.Call (.Name x p) [a] [] pos) (iRng1 t)) : DIt X W ex tg (.Call (.Name x p) [a] [] pos) (dRange1 ta) := by
  obtain ⟨te, p1, l⟩ := ha
  refine ⟨_, hp p1, fun ds O k h G H σ R ok rp x c => l ds O _ h G H σ _ ok rp x fun xs O1 vs G1 H1 h1 s1 ok1 d1 => ?_⟩
  dsimp only at h1
  split at h1
  · rename_i j
    rw [ints1 d1]
    have q := wk_range (K := X.K) (lo := 0) (n := j.toNat) (G := G1)
    simp only [Int.zero_add] at q
    exact ⟨j, rfl, h1.1, h1.2.1, c _ O1 G1 H1 _ h1.2.2 s1 ok1 q⟩
  · exact h1.elim
theorem di_range2 {x : Str} {p pos : Pos} (hm : X.mg x = none) (ha : DAs X W ex [a, b] ta)
    (hp : ∀ {t : TA}, PA X [a, b] t → PI X tg (.Call (.Name x p) [a, b] [] pos) (iRng2 t)) : DIt X W ex tg (.Call (.Name x p) [a, b] [] pos) (dRange2 ta) := by
  obtain ⟨te, p1, l⟩ := ha
  refine ⟨_, hp p1, fun ds O k h G H σ R ok rp x c => l ds O _ h G H σ _ ok rp x fun xs O1 vs G1 H1 h1 s1 ok1 d1 => ?_⟩
  dsimp only at h1
  split at h1
  · rename_i i j
    rw [ints2 d1]
    exact ⟨i, j, rfl, h1.1, c _ O1 G1 H1 _ h1.2 s1 ok1 wk_range⟩
  · exact h1.elim
end

/-! ### for -/
def dForX (xs : List D) (g : DG) (tb : DSr) (E : DEnds) (ds : Ds) (O1 : Ow) : Prop := ∃ Iv : Nat → Ds → Ow → Prop, Iv 0 ds O1 ∧
  (∀ i x ds O, xs[i]? = some x → Iv i ds O → g x ds O fun ds' O' => tb { E with nx := Iv (i + 1), ct := Iv (i + 1), bk := E.nx } ds' O') ∧ (∀ ds O, Iv xs.length ds O → E.nx ds O)
def dFor (di : DI) (g : DG) (tb : DSr) : DSr := fun E ds O => di ds O fun xs O1 => dForX xs g tb E ds O1
section
variable {X : Cx} {W : WX} {ex : EX} {tg it : Expr} {body : List Stmt} {pos : Pos}
theorem ds_for {is : List Nat} {di : DI} {g : DG} {tb : DSr} (hp : PassesOwn (model X.prog X.w) X.A X.env X.xe) (hc : X.calm = true) (hi : DIt X W ex tg it di) (hg : DGt X W ex is tg g) (hb : DSs X W ex body tb)
    (hs : ∀ x, foldedSetIterable it X.env x = pure x := by intro _; rfl) : DSt X W ex (.For tg it body [] pos) (dFor di g tb) := by
  obtain ⟨wi, p0, l0⟩ := hi
  obtain ⟨g0, p1, l1⟩ := hg
  obtain ⟨tb0, p2, l2⟩ := hb
  refine ⟨_, ps_for hp hc p0 p1 p2 hs, fun E ds O h G H σ D ok rp x c => l0 ds O _ h G H σ _ ok rp x fun xs O1 G1 H1 J h1 s1 ok1 wk => ?_⟩
  obtain ⟨Iv, i0, st, fin⟩ := h1
  refine ⟨fun i m σ' H' => m = xs.length - i ∧ i ≤ xs.length ∧ ∃ ds' O' G', Iv i ds' O' ∧ Stp G1 H1 O1 G' H' O' ∧ Ok X.K G' H' O' ∧ Rep X.K G' σ' ds', ⟨xs.length, rfl, Nat.zero_le _, ds, O1, G1, i0, Stp.refl, ok1, rp.mono s1.g⟩, ?_⟩
  rintro i m σ2 H2 ⟨rfl, hi, ds2, O2, G2, iv2, s2, ok2, rp2⟩
  obtain ⟨w1, w2⟩ := wk G2 H2 O2 s2.g ok2 i
  by_cases hlt : i < xs.length
  · obtain ⟨go, turn⟩ := w1 xs[i] (List.getElem?_eq_getElem hlt)
    refine .inr ⟨go, fun σ' H' => ∃ ds' O' G', Iv (i + 1) ds' O' ∧ Stp G1 H1 O1 G' H' O' ∧ Ok X.K G' H' O' ∧ Rep X.K G' σ' ds', fun σ' H' q => ⟨xs.length - (i + 1), by omega, rfl, hlt, q⟩, fun v H3 hy => ?_⟩
    obtain ⟨G3, ok3, s3, d3⟩ := turn v H3 hy
    have xc := ((x.after s1).after s2).after s3
    have sc := (s1.trans s2).trans s3
    refine l1 _ ds2 O2 _ (st i _ ds2 O2 (List.getElem?_eq_getElem hlt) iv2) G3 H3 σ2 v _ ok3 (rp2.mono s3.g) xc d3 fun ds4 O4 σ4 G4 H4 h4 s4 ok4 rp4 _ => ?_
    refine l2 _ ds4 O4 h4 G4 H4 σ4 _ ok4 rp4 (xc.after s4) ⟨?_, c.rt.after (sc.trans s4), c.nx.after (sc.trans s4), ?_⟩
    · intro ds5 O5 σ5 G5 H5 h5 s5 ok5 rp5
      exact ⟨ds5, O5, G5, h5, ((s2.trans s3).trans s4).trans s5, ok5, rp5⟩
    · intro ds5 O5 σ5 G5 H5 h5 s5 ok5 rp5
      exact ⟨ds5, O5, G5, h5, ((s2.trans s3).trans s4).trans s5, ok5, rp5⟩
  · have e : i = xs.length := by omega
    subst e
    exact .inl ⟨w2 (Nat.le_refl _), c.nx ds2 O2 σ2 G2 H2 (fin ds2 O2 iv2) (s1.trans s2) ok2 rp2⟩
end

/-! ### comprehensions -/
def dLcX (xs : List D) (g : DG) (tt : DB) (te : DT) (vs : List Nat) (ds : Ds) (O1 : Ow) (k : DK) : Prop := xs.length < sizeLine ∧ ∃ Iv : Nat → List D → Ow → Prop, Iv 0 [] O1 ∧
  (∀ i x acc O, xs[i]? = some x → Iv i acc O → acc.length ≤ i → g x (dwipe ds vs) O fun ds' O' => tt ds' O' fun b O2 => if b = true then te ds' O2 fun y O3 => Iv (i + 1) (acc ++ [y]) O3 else Iv (i + 1) acc O2) ∧
  (∀ acc O, acc.length ≤ xs.length → Iv xs.length acc O → k (.lst acc) O)
def dLc (di : DI) (g : DG) (tt : DB) (te : DT) (vs : List Nat) : DT := fun ds O k => di ds O fun xs O1 => dLcX xs g tt te vs ds O1 k
def dYes : DB := fun _ O k => k true O
def NoX : EX := fun _ _ _ => False
def NoW : WX := fun _ _ _ _ => False
section
variable {X : Cx} {W : WX} {ex : EX}
def DTs (X : Cx) (W : WX) (ex : EX) (ifs : List Expr) (t : DB) : Prop := ∃ te, PTs X ifs te ∧ LiftB X.K W ex te t
theorem dts_nil : DTs X W ex [] dYes := ⟨_, pts_nil, fun ds O k h G H σ Q ok _ _ c => c true O G H h Stp.refl ok⟩
theorem dts_one {c : Expr} {t : DB} (h : DTe X W ex c t) : DTs X W ex [c] t := by
  obtain ⟨te, p, l⟩ := h
  exact ⟨_, pts_one p, l⟩
theorem mutOk {K : PySem.W.Frag} {G H : Hp} {O : Ow} {p : Addr} {o : HO} (k : Ok K G H O) (g : G p = none) (h : O p = none) : Ok K G (upd H p o) O := ⟨k.ex.mut g, fun q c e => by
  have ne : q ≠ p := fun z => by
    rw [z, h] at e
    cases e
  obtain ⟨a, b⟩ := k.own q c e
  exact ⟨a, b.keep (Ex.refl G) (upd_ne ne)⟩⟩
theorem mutStp {G H G' H' : Hp} {O O' : Ow} {p : Addr} {o : HO} (s : Stp G H O G' H' O') (h : H p = none) : Stp G H O G' (upd H' p o) O' := ⟨s.g, s.gn, fun q u e1 e2 => by
  rw [upd_ne (ne_of_none e1 h)]
  exact s.h q u e1 e2, fun q e => by
  by_cases z : q = p
  · rw [z, upd_same]
    exact fun z => by cases z
  · rw [upd_ne z]
    exact s.hd q e, s.o⟩
/-- a new list that stands neither in the data nor in the store becomes data -/
theorem settled {K : PySem.W.Frag} {G H G' H' : Hp} {O O' : Ow} {p : Addr} {ws : List V} {xs : List D} (s : Stp G H O G' H' O') (k : Ok K G' H' O') (h : H p = none) (g : G' p = none) (o : O' p = none) (hp : H' p = some (.lst ws)) (a : DnAll K G' ws xs) :
    ∃ G2, Stp G H O G2 H' O' ∧ Ok K G2 H' O' ∧ Dn K G2 (.ref p) (.lst xs) := by
  have en : Ex G' (upd G' p (.lst ws)) := Ex.new g
  refine ⟨upd G' p (.lst ws), ⟨s.g.trans en, fun q e1 e2 e3 => ?_, s.h, s.hd, s.o⟩, ⟨fun q u e => ?_, fun q c e => ?_⟩, .lst upd_same (a.mono en)⟩
  · have ne : q ≠ p := fun z => e1 (by rw [z]; exact h)
    rw [upd_ne ne]
    exact s.gn q e1 e2 e3
  · by_cases z : q = p
    · subst z
      rw [upd_same] at e
      rw [hp]
      exact e
    · rw [upd_ne z] at e
      exact k.ex q u e
  · have ne : q ≠ p := fun z => by
      rw [z, o] at e
      cases e
    obtain ⟨b, b'⟩ := k.own q c e
    exact ⟨by rw [upd_ne ne]; exact b, b'.keep en rfl⟩
theorem l_lc {K : PySem.W.Frag} {wi : TI} {g : TG} {tt : TT} {te : TE} {vs : List Nat} {di : DI} {dg : DG} {dtt : DB} {dte : DT} {is : List Nat} (l0 : LiftI K W ex wi di) (l1 : LiftG K NoW NoX is g dg) (l2 : LiftB K NoW NoX tt dtt) (l3 : LiftE K NoW NoX te dte) (hsub : ∀ i ∈ is, i ∈ vs) :
    LiftE K W ex (tLc wi g tt te vs) (dLc di dg dtt dte vs) := by
  intro ds O k h G H σ Q ok rp x c
  refine l0 ds O _ h G H σ _ ok rp x fun xs O1 G1 H1 J h1 s1 ok1 wk => ?_
  obtain ⟨hz, Iv, i0, st, fin⟩ := h1
  intro Dl hD
  have gD : G1 Dl = none := ok1.gnone hD
  have oD : O1 Dl = none := ok1.none_of hD
  -- between the turns: the list so far at Dl, which is neither data nor of the store
  let Mid : Nat → Hp → Prop := fun i H' => ∃ acc ws O' G', Iv i acc O' ∧ acc.length ≤ i ∧ H' Dl = some (.lst ws) ∧ DnAll K G' ws acc ∧ G' Dl = none ∧ O' Dl = none ∧ Stp G1 H1 O1 G' H' O' ∧ Ok K G' H' O'
  have ok1' : Ok K G1 (upd H1 Dl (.lst [])) O1 := by
    obtain ⟨a, b⟩ := owned (vs := []) (xs := []) ok1 hD .nil
    exact a.sub (Sub.new oD)
  have s1' : Stp G1 H1 O1 G1 (upd H1 Dl (.lst [])) O1 := by
    obtain ⟨a, b⟩ := owned (vs := []) (xs := []) ok1 hD .nil
    exact b.sub (Sub.new oD)
  refine ⟨fun i m H' => m = xs.length - i ∧ i ≤ xs.length ∧ Mid i H', ⟨xs.length, rfl, Nat.zero_le _, [], [], O1, G1, i0, Nat.le_refl _, upd_same, .nil, gD, oD, s1', ok1'⟩, ?_⟩
  rintro i m H2 ⟨rfl, hi, acc, ws, O2, G2, iv2, la, hl2, da, g2, o2, s2, ok2⟩
  obtain ⟨w1, w2⟩ := wk G2 H2 O2 s2.g ok2 i
  by_cases hlt : i < xs.length
  · obtain ⟨go, turn⟩ := w1 xs[i] (List.getElem?_eq_getElem hlt)
    refine .inr ⟨go, Mid (i + 1), fun H' q => ⟨xs.length - (i + 1), by omega, rfl, hlt, q⟩, fun v H3 hy => ?_⟩
    obtain ⟨G3, ok3, s3, d3⟩ := turn v H3 hy
    have nox : ∀ {G H O}, ContX K G H O NoW NoX := fun {_ _ _} _ _ _ _ _ _ _ z => z.elim
    have nD : ∀ {G' H' O'}, Stp G2 H2 O2 G' H' O' → H' Dl = some (.lst ws) ∧ G' Dl = none ∧ O' Dl = none := fun {_ _ _} s => ⟨s.h _ _ hl2 o2, s.gn _ (by rw [hl2]; exact fun z => by cases z) g2 o2, s.o _ (by rw [hl2]; exact fun z => by cases z) o2⟩
    refine l1 _ (dwipe ds vs) O2 _ (st i _ acc O2 (List.getElem?_eq_getElem hlt) iv2 la) G3 H3 (wipe σ vs) v _ ok3 (((rep_wipe rp vs).mono s1.g).mono (s2.g.trans s3.g)) nox d3 fun ds4 O4 σ4 G4 H4 h4 s4 ok4 rp4 tc => ⟨?_, ?_⟩
    · have e := tc vs hsub
      have e2 : ∀ us : List Nat, (∀ i ∈ us, i ∈ vs) → wipe (wipe σ us) vs = wipe σ vs := fun us => by
        induction us with
        | nil => exact fun _ => rfl
        | cons u us ih =>
          intro h
          show wipe ((wipe σ us).set u none) vs = _
          rw [wipe_set, if_pos (h u List.mem_cons_self)]
          exact ih fun i hi => h i (List.mem_cons_of_mem _ hi)
      rw [e]
      exact e2 vs fun _ h => h
    · refine l2 ds4 O4 _ h4 G4 H4 σ4 _ ok4 rp4 nox fun b O5 G5 H5 h5 s5 ok5 => ?_
      have sc := (s3.trans s4).trans s5
      obtain ⟨n1, n2, n3⟩ := nD sc
      cases b with
      | true =>
        refine l3 ds4 O5 _ h5 G5 H5 σ4 _ ok5 (rp4.mono s5.g) nox fun y O6 u G6 H6 h6 s6 ok6 d6 => ?_
        obtain ⟨n4, n5, n6⟩ := nD (sc.trans s6)
        refine ⟨ws, n4, by rw [da.length]; omega, acc ++ [y], ws ++ [u], O6, G6, h6, by rw [List.length_append]; simpa using la, upd_same, (da.mono (sc.trans s6).g).append (.cons d6 .nil), n5, n6, ?_, ?_⟩
        · exact mutStp (s2.trans (sc.trans s6)) hD
        · exact mutOk ok6 n5 n6
      | false => exact ⟨acc, ws, O5, G5, h5, by omega, n1, da.mono sc.g, n2, n3, s2.trans sc, ok5⟩
  · have e : i = xs.length := by omega
    subst e
    obtain ⟨G3, s3, ok3, d3⟩ := settled s2 ok2 hD g2 o2 hl2 da
    exact .inl ⟨w2 (Nat.le_refl _), c _ O2 _ G3 H2 (fin acc O2 la iv2) (s1.trans s3) ok3 d3⟩
/-- the widest reading that a reading by data lifts to -/
def tOf (K : PySem.W.Frag) (W : WX) (ex : EX) (t : DT) : TE := fun σ H Q => ∃ ds O k G, t ds O k ∧ Ok K G H O ∧ Rep K G σ ds ∧ ContX K G H O W ex ∧ Cont K G H O k Q
def bOf (K : PySem.W.Frag) (W : WX) (ex : EX) (t : DB) : TT := fun σ H Q => ∃ ds O k G, t ds O k ∧ Ok K G H O ∧ Rep K G σ ds ∧ ContX K G H O W ex ∧ ContB K G H O k Q
def gOf (K : PySem.W.Frag) (W : WX) (ex : EX) (is : List Nat) (t : DG) : TG := fun v σ H Q => ∃ y ds O k G, t y ds O k ∧ Ok K G H O ∧ Rep K G σ ds ∧ ContX K G H O W ex ∧ Dn K G v y ∧ ∀ ds' O' σ' G' H', k ds' O' → Stp G H O G' H' O' → Ok K G' H' O' → Rep K G' σ' ds' → Tch is σ σ' → Q σ' H'
theorem tOf_l {K : PySem.W.Frag} {t : DT} : LiftE K W ex (tOf K W ex t) t := fun ds O k h G H σ Q ok rp x c => ⟨ds, O, k, G, h, ok, rp, x, c⟩
theorem bOf_l {K : PySem.W.Frag} {t : DB} : LiftB K W ex (bOf K W ex t) t := fun ds O k h G H σ Q ok rp x c => ⟨ds, O, k, G, h, ok, rp, x, c⟩
theorem gOf_l {K : PySem.W.Frag} {is : List Nat} {t : DG} : LiftG K W ex is (gOf K W ex is t) t := fun y ds O k h G H σ v Q ok rp x hv c => ⟨y, ds, O, k, G, h, ok, rp, x, hv, c⟩
theorem tOf_p {e : Expr} {t : DT} (h : DE X W ex e t) : PE X e (tOf X.K W ex t) := by
  obtain ⟨te, p, l⟩ := h
  constructor
  intro pins s σ H Q I q
  obtain ⟨ds, O, k, G, h, ok, rp, x, c⟩ := q
  exact p.run pins s σ H Q I (l ds O k h G H σ Q ok rp x c)
theorem bOf_p {es : List Expr} {t : DB} (h : DTs X W ex es t) : PTs X es (bOf X.K W ex t) := by
  obtain ⟨te, p, l⟩ := h
  constructor
  intro pins s σ H Q I q
  obtain ⟨ds, O, k, G, h, ok, rp, x, c⟩ := q
  exact p.run pins s σ H Q I (l ds O k h G H σ Q ok rp x c)
theorem gOf_p {is : List Nat} {e : Expr} {t : DG} (h : DGt X W ex is e t) : PG X e (gOf X.K W ex is t) := by
  obtain ⟨te, p, l⟩ := h
  constructor
  intro pins s σ H v u Q I r q
  obtain ⟨y, ds, O, k, G, h, ok, rp, x, hv, c⟩ := q
  exact p.run pins s σ H v u Q I r (l y ds O k h G H σ v Q ok rp x hv c)
theorem de_lc (own : List (Str × Nat)) {is : List Nat} {elt tg iter : Expr} {ifs : List Expr} {scope : Scope} {pos : Pos} {di : DI} {g : DG} {tt : DB} {te : DT} (hc : X.calm = true) (hN : X.N.Nodup) (hi : DIt X W ex tg iter di) (ok : BlkOk X.N X.env.scope scope own)
    (hg : ∀ (s : Shared) (H : Hp) (C : Addr) (cl : List (Str × Addr)) (fp : List Addr), DGt (X.blk s H scope (compEnvC scope cl C X.env) fp) NoW NoX is tg g)
    (ht : ∀ (s : Shared) (H : Hp) (C : Addr) (cl : List (Str × Addr)) (fp : List Addr), DTs (X.blk s H scope (compEnvC scope cl C X.env) fp) NoW NoX ifs tt)
    (he : ∀ (s : Shared) (H : Hp) (C : Addr) (cl : List (Str × Addr)) (fp : List Addr), DE (X.blk s H scope (compEnvC scope cl C X.env) fp) NoW NoX elt te)
    (hsub : ∀ i ∈ is, i ∈ own.map (·.2) := by decide) (hs : ∀ x, foldedSetIterable iter X.env x = pure x := by intro _; rfl) :
    DE X W ex (.ListComp elt [⟨tg, iter, ifs, 0⟩] scope pos) (dLc di g tt te (own.map (·.2))) := by
  obtain ⟨wi, p0, l0⟩ := hi
  exact ⟨_, pe_lc hc hN p0 ok (fun s H C cl fp => gOf_p (hg s H C cl fp)) (fun s H C cl fp => bOf_p (ht s H C cl fp)) (fun s H C cl fp => tOf_p (he s H C cl fp)) hs, l_lc l0 gOf_l bOf_l tOf_l hsub⟩
theorem ds_setLc (i : Nat) (own : List (Str × Nat)) {y : Str} {py spos : Pos} {is : List Nat} {elt tg iter : Expr} {ifs : List Expr} {scope : Scope} {pos : Pos} {di : DI} {g : DG} {tt : DB} {te : DT} (hc : X.calm = true) (hN : X.N.Nodup) (hy : X.N[i]? = some y) (hyl : X.env.scope.names.lookup y = some .local)
    (hsw : swapsWith (.ListComp elt [⟨tg, iter, ifs, 0⟩] scope pos) (some (.Name y py)) spos.line X.env = pure true) (hi : DIt X W ex tg iter di) (ok : BlkOk X.N X.env.scope scope own)
    (hg : ∀ (s : Shared) (H : Hp) (C : Addr) (cl : List (Str × Addr)) (fp : List Addr), DGt (X.blk s H scope (compEnvC scope cl C X.env) fp) NoW NoX is tg g)
    (ht : ∀ (s : Shared) (H : Hp) (C : Addr) (cl : List (Str × Addr)) (fp : List Addr), DTs (X.blk s H scope (compEnvC scope cl C X.env) fp) NoW NoX ifs tt)
    (he : ∀ (s : Shared) (H : Hp) (C : Addr) (cl : List (Str × Addr)) (fp : List Addr), DE (X.blk s H scope (compEnvC scope cl C X.env) fp) NoW NoX elt te)
    (hsub : ∀ i ∈ is, i ∈ own.map (·.2) := by decide) (hs : ∀ x, foldedSetIterable iter X.env x = pure x := by intro _; rfl) :
    DSt X W ex (.Assign [.Name y py] (.ListComp elt [⟨tg, iter, ifs, 0⟩] scope pos) spos) (dAsg (dLc di g tt te (own.map (·.2))) (dgName i)) := by
  obtain ⟨wi, p0, l0⟩ := hi
  exact ⟨_, ps_setLc hc hN hy hyl hsw p0 ok (fun s H C cl fp => gOf_p (hg s H C cl fp)) (fun s H C cl fp => bOf_p (ht s H C cl fp)) (fun s H C cl fp => tOf_p (he s H C cl fp)) hs, l_asg (l_lc l0 gOf_l bOf_l tOf_l hsub) (l_name i)⟩
end
end DL
namespace DL
open PySem PySem.Spec PyProof.Rows L2 Evl

/-! ### defs by data -/
/-- what a def does: the arguments, the store; what is wanted of the answer, of an error -/
abbrev DSp := List D → Ow → DK → (Xc → Ow → Prop) → Prop
def spOf (K : PySem.W.Frag) (S : DSp) : Sp := fun vs H Q E => ∃ G O as q e, Ok K G H O ∧ DnAll K G vs as ∧ S as O q e ∧ Cont K G H O q Q ∧
  ∀ c O' dd G' H', e c O' → Stp G H O G' H' O' → Ok K G' H' O' → Pay K G' H' dd c.pay → E c.cls dd H'
def dCall (S : DSp) (ex : EX) (t : DA) : DT := fun ds O k => t ds O fun as O1 => S as O1 k fun c O2 => ex c ds O2
theorem l_call {K : PySem.W.Frag} {W : WX} {ex : EX} {ta : TA} {t : DA} {S : DSp} (l1 : LiftA K W ex ta t) : LiftE K W ex (tCallS (spOf K S) (WE W) ta) (dCall S ex t) := fun ds O k h G H σ Q ok rp x c =>
  l1 ds O _ h G H σ _ ok rp x fun as O1 vs G1 H1 h1 s1 ok1 d1 => ⟨G1, O1, as, _, _, ok1, d1, h1, c.after s1, fun y O' dd G' H' h' s' ok' p' => x y ds O' σ dd G' H' h' (s1.trans s') ok' (rp.mono (s1.trans s').g) p'⟩
/-- the def at f does S -/
abbrev FnD (P : Program) (w : World) (K : PySem.W.Frag) (mg : Str → Option Value) (base : Heap) (k : Nat) (f : Addr) (fd : FuncData) (ps : List Str) (S : DSp) : Prop := FnOk P w K mg base (L2N.CX P w) k f fd ps (spOf K S)
section
variable {X : Cx} {W : WX} {ex : EX} {k j : Nat} {f : Addr} {fd : FuncData} {ps : List Str} {S : DSp} {x : Str} {p pos : Pos} {e : Expr} {es : List Expr} {t : DA}
theorem de_call (tk : L2N.Takes X W) (F : FnD X.prog X.w X.K X.mg X.base k f fd ps S) (hr : Room j X.A) (hm : X.mg x = some (.ref f)) (hk : PySem.W.keepIn X.K (.ref f) = true) (hb : Binds X.K fd ps []) (ha : DAs X W ex (e :: es) t) (hj : k ≤ j := by decide) (hg : Gl X x := by rfl)
    (hdb : (x == ("__debug__" : Str)) = false := by decide) (he : starEach (e :: es) X.env = (false, eval e X.env) :: starEach es X.env := by rfl) (hpl : (backTo pos (starEach es X.env)).any (·.1) = false := by rfl) :
    DE X W ex (.Call (.Name x p) (e :: es) [] pos) (dCall S ex t) := by
  obtain ⟨ta, p1, l1⟩ := ha
  exact ⟨_, pe_callS F (hr.mono hj) hg hm hk hb (fun σ => L2N.passAt tk σ) p1 hdb he hpl, l_call l1⟩
end
/-! keywords: the values in the order of the parameters -/
section
variable {X : Cx} {W : WX} {ex : EX} {CX : CXT} {k j : Nat} {f : Addr} {fd : FuncData} {ps ks : List Str} {sp : Sp} {x : Str} {p pos : Pos} {e : Expr} {es : List Expr} {kws : List Keyword} {t tk : TA} {g : List Value → List Value → List Value} {gV : List V → List V → List V} {E : L2.St → XK}
def tCallKS (sp : Sp) (gV : List V → List V → List V) (E : L2.St → XK) (t tk : TA) : TE := fun σ H Q => t σ H fun vs H1 => tk σ H1 fun zs H2 => sp (gV vs zs) H2 Q (E σ)
theorem run_kwS {pins : List (Addr × Obj)} {σ : L2.St} {H : Hp} {s : Shared} {Q : VK} {us ws : List Value} {vs zs : List V} (F : FnOk X.prog X.w X.K X.mg X.base CX k f fd ps sp) (hr : Room k X.A) (hb : KBinds X.K fd ps ks g gV) (hx : PassesAt CX X σ (E σ))
    (I : L2.Inv X pins σ H s) (r : Vals vs us) (rz : Vals zs ws) (h : sp (gV vs zs) H Q (E σ)) : wpAny (model X.prog X.w) X.A (call (.ref f) us (ks.zip ws)) (EP X pins σ Q) X.xe s := by
  have r2 := hb.rel r rz
  have hl : (g us ws).length = ps.length := r2.length.symm.trans (F.len _ _ _ _ h)
  refine wpAny_call (codeAny_mono (F.run X.A X.stack s H ⟨us, ks.zip ws⟩ (g us ws) (gV vs zs) Q (E σ) hr I.env0 (hb.to s us ws I.kIn hl) r2 h) fun r s' hq => ?_)
  cases r with
  | error e => exact hx pins H s e s' I hq
  | ok fl =>
    cases fl with
    | ret u => exact I.after hq
    | _ => exact False.elim hq
theorem pe_kwS0 (F : FnOk X.prog X.w X.K X.mg X.base CX k f fd ps sp) (hr : Room k X.A) (hg : Gl X x) (hm : X.mg x = some (.ref f)) (hk : PySem.W.keepIn X.K (.ref f) = true) (hb : KBinds X.K fd ps ks g gV) (hx : ∀ σ, PassesAt CX X σ (E σ))
    (hkw : PK X kws tk) (hall : (backToKw pos (keywordEach kws X.env)).all (·.1.isSome) = true) (hks : (backToKw pos (keywordEach kws X.env)).filterMap (·.1) = ks)
    (hdb : (x == ("__debug__" : Str)) = false) (hpl : ((backTo pos (starEach [] X.env)).any (·.1) || (backToKw pos (keywordEach kws X.env)).any (·.1.isNone)) = false) :
    PE X (.Call (.Name x p) [] kws pos) (tCallKS sp gV E tNil tk) := by
  constructor
  intro pins s σ H Q I h
  refine wpAny_Call_Name_kw (ld_glob I hg hm ?_ hdb)
  refine PySem.W.callWith_KW0 (h₀ := X.base) I.ok.mod.kin hk hall (thn (hkw.run pos pins s σ H _ I h) fun ws s2 hh => ?_) hpl
  obtain ⟨zs, H2, I2, rz, q2⟩ := hh
  refine ⟨I2.kIn, ?_⟩
  rw [hks]
  exact run_kwS (us := []) F hr hb (hx σ) I2 .nil rz q2
theorem pe_kwS (F : FnOk X.prog X.w X.K X.mg X.base CX k f fd ps sp) (hr : Room k X.A) (hg : Gl X x) (hm : X.mg x = some (.ref f)) (hk : PySem.W.keepIn X.K (.ref f) = true) (hb : KBinds X.K fd ps ks g gV) (hx : ∀ σ, PassesAt CX X σ (E σ))
    (ha : PA X (e :: es) t) (hkw : PK X kws tk) (hall : (backToKw pos (keywordEach kws X.env)).all (·.1.isSome) = true) (hks : (backToKw pos (keywordEach kws X.env)).filterMap (·.1) = ks)
    (hdb : (x == ("__debug__" : Str)) = false) (he : starEach (e :: es) X.env = (false, eval e X.env) :: starEach es X.env)
    (hpl : ((backTo pos (starEach (e :: es) X.env)).any (·.1) || (backToKw pos (keywordEach kws X.env)).any (·.1.isNone)) = false) :
    PE X (.Call (.Name x p) (e :: es) kws pos) (tCallKS sp gV E t tk) := by
  constructor
  intro pins s σ H Q I h
  refine wpAny_Call_Name_kw (ld_glob I hg hm ?_ hdb)
  refine PySem.W.callWith_KW (h₀ := X.base) I.ok.mod.kin hk hall (thn (ha.run pos pins s σ H _ I h) fun us s1 hh => ?_) hpl he
  obtain ⟨vs, H1, I1, r, q⟩ := hh
  refine thn (hkw.run pos pins s1 σ H1 _ I1 q) fun ws s2 hh => ?_
  obtain ⟨zs, H2, I2, rz, q2⟩ := hh
  refine ⟨I2.kIn, ?_⟩
  rw [hks]
  exact run_kwS F hr hb (hx σ) I2 r rz q2
end
def DKw (X : Cx) (W : WX) (ex : EX) (kws : List Keyword) (t : DA) : Prop := ∃ te, PK X kws te ∧ LiftA X.K W ex te t
def dCallK (S : DSp) (gD : List D → List D → List D) (ex : EX) (t tk : DA) : DT := fun ds O k => t ds O fun as O1 => tk ds O1 fun bs O2 => S (gD as bs) O2 k fun c O3 => ex c ds O3
section
variable {X : Cx} {W : WX} {ex : EX} {k j : Nat} {f : Addr} {fd : FuncData} {ps ks : List Str} {S : DSp} {x : Str} {p pos kpos : Pos} {e : Expr} {es : List Expr} {kws : List Keyword} {t tk : DA} {te : DT} {nm : Option Str}
theorem dk_nil : DKw X W ex [] dNil := ⟨_, pk_nil, l_nil⟩
theorem dk_cons (ha : DE X W ex e te) (hr : DKw X W ex kws t) : DKw X W ex (⟨nm, e, kpos⟩ :: kws) (dCons te t) := by
  obtain ⟨ta, p1, l1⟩ := ha
  obtain ⟨tb, p2, l2⟩ := hr
  exact ⟨_, pk_cons p1 p2, l_cons l1 l2⟩
/-- how keywords bind: the values' places, alike for values, abstract values and data -/
structure KB (K : PySem.W.Frag) (fd : FuncData) (ps ks : List Str) (g : List Value → List Value → List Value) (gV : List V → List V → List V) (gD : List D → List D → List D) : Prop where
  to : KBinds K fd ps ks g gV
  dat : ∀ {G : Hp} {vs us : List V} {xs ys : List D}, DnAll K G vs xs → DnAll K G us ys → DnAll K G (gV vs us) (gD xs ys)
variable {g : List Value → List Value → List Value} {gV : List V → List V → List V} {gD : List D → List D → List D}
theorem l_callK {K : PySem.W.Frag} {ta tb : TA} (hd : ∀ {G : Hp} {vs us : List V} {xs ys : List D}, DnAll K G vs xs → DnAll K G us ys → DnAll K G (gV vs us) (gD xs ys)) (l1 : LiftA K W ex ta t) (l2 : LiftA K W ex tb tk) : LiftE K W ex (tCallKS (spOf K S) gV (WE W) ta tb) (dCallK S gD ex t tk) := fun ds O q h G H σ Q ok rp x c =>
  l1 ds O _ h G H σ _ ok rp x fun as O1 vs G1 H1 h1 s1 ok1 d1 => l2 ds O1 _ h1 G1 H1 σ _ ok1 (rp.mono s1.g) (x.after s1) fun bs O2 us G2 H2 h2 s2 ok2 d2 =>
    ⟨G2, O2, _, _, _, ok2, hd (DnAll.mono s2.g d1) d2, h2, c.after (s1.trans s2), fun y O' dd G' H' h' s' ok' p' => x y ds O' σ dd G' H' h' ((s1.trans s2).trans s') ok' (rp.mono ((s1.trans s2).trans s').g) p'⟩
theorem de_callK0 (tk0 : L2N.Takes X W) (F : FnD X.prog X.w X.K X.mg X.base k f fd ps S) (hr : Room j X.A) (hm : X.mg x = some (.ref f)) (hk : PySem.W.keepIn X.K (.ref f) = true) (hb : KB X.K fd ps ks g gV gD) (hkw : DKw X W ex kws tk) (hj : k ≤ j := by decide) (hg : Gl X x := by rfl)
    (hall : (backToKw pos (keywordEach kws X.env)).all (·.1.isSome) = true := by rfl) (hks : (backToKw pos (keywordEach kws X.env)).filterMap (·.1) = ks := by rfl) (hdb : (x == ("__debug__" : Str)) = false := by decide)
    (hpl : ((backTo pos (starEach [] X.env)).any (·.1) || (backToKw pos (keywordEach kws X.env)).any (·.1.isNone)) = false := by rfl) : DE X W ex (.Call (.Name x p) [] kws pos) (dCallK S gD ex dNil tk) := by
  obtain ⟨tb, p2, l2⟩ := hkw
  exact ⟨_, pe_kwS0 F (hr.mono hj) hg hm hk hb.to (fun σ => L2N.passAt tk0 σ) p2 hall hks hdb hpl, l_callK hb.dat l_nil l2⟩
theorem de_callK (tk0 : L2N.Takes X W) (F : FnD X.prog X.w X.K X.mg X.base k f fd ps S) (hr : Room j X.A) (hm : X.mg x = some (.ref f)) (hk : PySem.W.keepIn X.K (.ref f) = true) (hb : KB X.K fd ps ks g gV gD) (ha : DAs X W ex (e :: es) t) (hkw : DKw X W ex kws tk) (hj : k ≤ j := by decide) (hg : Gl X x := by rfl)
    (hall : (backToKw pos (keywordEach kws X.env)).all (·.1.isSome) = true := by rfl) (hks : (backToKw pos (keywordEach kws X.env)).filterMap (·.1) = ks := by rfl) (hdb : (x == ("__debug__" : Str)) = false := by decide) (he : starEach (e :: es) X.env = (false, eval e X.env) :: starEach es X.env := by rfl)
    (hpl : ((backTo pos (starEach (e :: es) X.env)).any (·.1) || (backToKw pos (keywordEach kws X.env)).any (·.1.isNone)) = false := by rfl) : DE X W ex (.Call (.Name x p) (e :: es) kws pos) (dCallK S gD ex t tk) := by
  obtain ⟨ta, p1, l1⟩ := ha
  obtain ⟨tb, p2, l2⟩ := hkw
  exact ⟨_, pe_kwS F (hr.mono hj) hg hm hk hb.to (fun σ => L2N.passAt tk0 σ) p1 p2 hall hks hdb he hpl, l_callK hb.dat l1 l2⟩
end

/-! ### a def keeps its promise -/
/-- a new cell may be handed back as data; local cells are forgotten -/
def Rt (q : DK) : DK := fun d O' => (∃ O2, q d O2 ∧ Sub O2 O') ∨ ∃ p xs O2, d = .opq (.ref p) ∧ O' p = some (.lst xs) ∧ q (.lst xs) O2 ∧ Sub O2 (odel O' p)
theorem rt_ok {K : PySem.W.Frag} {G H : Hp} {O : Ow} {q : DK} {Q : VK} (c : Cont K G H O q Q) : Cont K G H O (Rt q) Q := by
  intro d O' v G' H' h s ok hv
  rcases h with ⟨O2, h, sb⟩ | ⟨p, xs, O2, rfl, hp, h, sb⟩
  · exact c d O2 v G' H' h (s.sub sb) (ok.sub sb) hv
  · obtain ⟨G2, e, ok2, s2, d2⟩ := froze ok hp
    cases hv
    exact c _ O2 _ G2 H' h ((s.trans s2).sub sb) (ok2.sub sb) d2
def startD (N : List Str) (as : List D) : Ds := as.map some ++ List.replicate (N.length - as.length) none
theorem rep_start {K : PySem.W.Frag} {G : Hp} {vs : List V} {as : List D} (h : DnAll K G vs as) (N : List Str) : Rep K G (L2.start N vs) (startD N as) := by
  have hl := h.length
  unfold L2.start startD
  refine ⟨by rw [List.length_append, List.length_append, List.length_map, List.length_map, List.length_replicate, List.length_replicate, hl], fun i d e => ?_⟩
  by_cases z : i < as.length
  · rw [List.getElem?_append_left (by rw [List.length_map]; exact z), List.getElem?_map] at e
    cases q : as[i]? with
    | none => rw [q] at e; cases e
    | some a =>
      rw [q] at e
      cases e
      obtain ⟨v, h1, h2⟩ := h.get q
      refine ⟨v, ?_, h2⟩
      rw [List.getElem?_append_left (by rw [List.length_map, hl]; exact z), List.getElem?_map, h1]
      rfl
  · rw [List.getElem?_append_right (by rw [List.length_map]; omega), List.getElem?_replicate] at e
    split at e <;> cases e
/-- errors that leave a def -/
def exOf (e : Xc → Ow → Prop) : EX := fun c _ O' => ∃ O2, e c O2 ∧ Sub O2 O'
abbrev wOf (E : XK) : WX := fun c d _ H => E c d H
section
variable {P : Program} {w : World} {K : PySem.W.Frag} {mg : Str → Option Value} {base : Heap}
theorem okN {x qual : Str} {st : Stmt} {f : Addr} {fd : FuncData} {N ps : List Str} {k : Nat} {sp : Sp} (F : Fun K x qual st f fd) (Sc : FnScope N ps (defScope st)) (hl : ∀ vs H Q E, sp vs H Q E → vs.length = ps.length)
    (hb : ∀ (cdv : Value) (A : Around) (outer : List Env) (s : Shared) (H : Hp) (vs : List V) (Q : VK) (E : XK), Room k (A.deeper (envOfC qual (defScope st) s.heap.objs.size f cdv)) → sp vs H Q E →
      ∃ t, PSs (cxOf (L2N.CX P w) P w K mg base N qual (defScope st) f cdv A outer s H E) (defBody st) t ∧ t { nx := fun _ H' => Q .non H', rt := Q } (start N vs) H) :
    FnOk P w K mg base (L2N.CX P w) (k + 1) f fd ps sp := by
  obtain ⟨oc, od, kV, doc, pm, an, cdv, ct, osl, rfl, lk, hc⟩ := F.ex
  refine fn_of lk hc Sc hl ?_
  intro A outer s H vs Q E hr h
  exact hb cdv A outer s H vs Q E hr h
/-- around a body that lets nothing out -/
theorem takes0N {X : Cx} : L2N.Takes X (fun _ _ _ _ => False) := by
  rintro u s' ⟨a, B, sI, pins, σ, H, cls, d, e, I, nb, up, sky, na, os, ag, z⟩
  exact z.elim
theorem fn_D {x qual : Str} {st : Stmt} {f : Addr} {fd : FuncData} {N ps : List Str} {k : Nat} {S : DSp} (F : Fun K x qual st f fd) (Sc : FnScope N ps (defScope st)) (hl : ∀ as O q e, S as O q e → as.length = ps.length)
    (hb : ∀ (cdv : Value) (A : Around) (outer : List Env) (s : Shared) (H : Hp) (E : XK), Room k (A.deeper (envOfC qual (defScope st) s.heap.objs.size f cdv)) → ∀ as O q e, S as O q e →
      ∃ t, DSs (cxOf (L2N.CX P w) P w K mg base N qual (defScope st) f cdv A outer s H E) (wOf E) (exOf e) (defBody st) t ∧ t ⟨fun _ O' => Rt q .non O', Rt q, fun _ _ => False, fun _ _ => False⟩ (startD N as) O) :
    FnD P w K mg base (k + 1) f fd ps S := by
  refine okN F Sc (fun vs H Q E h => ?_) (fun cdv A outer s H vs Q E hr h => ?_)
  · obtain ⟨G, O, as, q, e, _, d, h, _⟩ := h
    rw [d.length]
    exact hl _ _ _ _ h
  · obtain ⟨G, O, as, q, e, ok, d, h, c, cx⟩ := h
    obtain ⟨t, ⟨ts, p, l⟩, ht⟩ := hb cdv A outer s H E hr as O q e h
    refine ⟨ts, p, l _ _ O ht G H (L2.start N vs) _ ok (rep_start d N) (fun y ds O' σ dd G' H' hy s' ok' rp' pa => ?_) ⟨fun ds O' σ G' H' h' s' ok' _ => rt_ok c _ O' .non G' H' h' s' ok' .non, rt_ok c, fun ds O' σ G' H' h' _ _ _ => False.elim h', fun ds O' σ G' H' h' _ _ _ => False.elim h'⟩⟩
    obtain ⟨O2, hy, sb⟩ := hy
    exact cx y O2 dd G' H' hy (s'.sub sb) (ok'.sub sb) pa
/-- the law itself -/
def spLawD (K : PySem.W.Frag) : Sp := fun vs H Q _ => ∃ (a : Addr) (ns : List Int), vs = [.ref a] ∧ SqL K H a (ns.map V.int) ∧ ns.length ≤ 63 ∧ ∀ H', Q (.bl true) H'
theorem law_D {st : Stmt} {f : Addr} {fd : FuncData} {N : List Str} {k : Nat} (F : Fun K "law" "law" st f fd) (Sc : FnScope N ["script"] (defScope st))
    (hb : ∀ (cdv : Value) (A : Around) (outer : List Env) (s : Shared) (H : Hp) (E : XK), Room k (A.deeper (envOfC "law" (defScope st) s.heap.objs.size f cdv)) → ∀ ns : List Int, ns.length ≤ 63 →
      ∃ t, DSs (cxOf CX0 P w K mg base N "law" (defScope st) f cdv A outer s H E).nox NoW NoX (defBody st) t ∧ t ⟨fun _ _ => False, fun d _ => d = .bl true, fun _ _ => False, fun _ _ => False⟩ (startD N [.scr ns]) (fun _ => none)) :
    FnOk P w K mg base CX0 (k + 1) f fd ["script"] (spLawD K) := by
  refine F.ok Sc (fun vs H Q E h => ?_) (fun cdv A outer s H vs Q E hr h => ?_)
  · obtain ⟨a, ns, rfl, _⟩ := h
    rfl
  · obtain ⟨a, ns, rfl, hS, hlen, q⟩ := h
    obtain ⟨t, ⟨ts, p, l⟩, ht⟩ := hb cdv A outer s H E hr ns hlen
    have d : DnAll K H [V.ref a] [.scr ns] := .cons (.scr hS) .nil
    refine ⟨ts, p, l _ _ _ ht H H (L2.start N [.ref a]) _ ⟨Ex.refl H, fun _ _ z => by cases z⟩ (rep_start d N) (fun y ds O' σ dd G' H' hy _ _ _ _ => False.elim hy) ⟨fun ds O' σ G' H' h' _ _ _ => False.elim h', fun x O' v G' H' h' _ _ hv => ?_, fun ds O' σ G' H' h' _ _ _ => False.elim h', fun ds O' σ G' H' h' _ _ _ => False.elim h'⟩⟩
    subst h'
    cases hv
    exact q H'
end
end DL
namespace DL
open PySem PySem.Spec PyProof.Rows L2 Evl

/-! ### raise X('..'), X an own class over ValueError (at any depth) without __init__ -/
abbrev veTail : List Value := [.type "ValueError", .type "Exception", .type "BaseException", .type "object"]
def dRaise (C : Addr) : DSr := fun E ds O => False
def dRaiseX (ex : EX) (C : Addr) : DSr := fun _ ds O => ex ⟨.ref C, none⟩ ds O
section
variable {X : Cx} {W : WX} {ex : EX} {x m : Str} {C : Addr} {j : Nat} {p p2 pos pos2 : Pos}
theorem ds_raise (tk : L2N.Takes X W) (q : PySem.W.excIn X.K C veTail "ValueError.__new__" = true) (gC : X.mg x = some (.ref C)) (kC : PySem.W.keepIn X.K (.ref C) = true) (r : Raises X (.ref C)) (hc : X.calm = true := by rfl) (hg : Gl X x := by rfl) (hdb : (x == ("__debug__" : Str)) = false := by decide) :
    DSt X W ex (.Raise (some (.Call (.Name x p) [.Constant (.str m) j p2] [] pos)) none pos2) (dRaiseX ex C) :=
  ⟨_, L2N.ps_raise hc tk (L2N.pmk_own PySem.F.excBase_ValueError q gC kC r hg hdb), fun E ds O h G H σ D ok rp xc c => xc _ ds O σ none G H h Stp.refl ok rp rfl⟩
end

/-! ### keywords in an order of their own -/
def permL {α : Type} (is : List Nat) (l : List α) : List α := is.filterMap fun i => l[i]?
def kwG {α : Type} (n m : Nat) (is : List Nat) (us ws : List α) : List α := if us.length = n ∧ ws.length = m then permL is (us ++ ws) else []
theorem permL_rel {α β : Type} {F : α → β → Prop} {G : List α → List β → Prop} (nil : G [] []) (cons : ∀ a b as bs, F a b → G as bs → G (a :: as) (b :: bs)) {xs : List α} {ys : List β} (hl : ∀ i : Nat, (xs[i]? = none ∧ ys[i]? = none) ∨ ∃ a b, xs[i]? = some a ∧ ys[i]? = some b ∧ F a b) : ∀ is : List Nat, G (permL is xs) (permL is ys)
  | [] => nil
  | i :: is => by
    have ih := permL_rel nil cons hl is
    unfold permL at ih ⊢
    rcases hl i with ⟨h1, h2⟩ | ⟨a, b, h1, h2, f⟩
    · rw [List.filterMap_cons_none h1, List.filterMap_cons_none h2]
      exact ih
    · rw [List.filterMap_cons_some h1, List.filterMap_cons_some h2]
      exact cons _ _ _ _ f ih
theorem vals_at {xs : List V} {us : List Value} (h : Vals xs us) (i : Nat) : (xs[i]? = none ∧ us[i]? = none) ∨ ∃ a b, xs[i]? = some a ∧ us[i]? = some b ∧ RelV a b := by
  cases q : xs[i]? with
  | none => exact .inl ⟨rfl, h.none_of q⟩
  | some a =>
    obtain ⟨b, h1, h2⟩ := h.get q
    exact .inr ⟨a, b, rfl, h1, h2⟩
theorem dat_at {K : PySem.W.Frag} {G : Hp} {xs : List V} {us : List D} (h : DnAll K G xs us) (i : Nat) : (xs[i]? = none ∧ us[i]? = none) ∨ ∃ a b, xs[i]? = some a ∧ us[i]? = some b ∧ Dn K G a b := by
  cases q : xs[i]? with
  | none =>
    have l := List.getElem?_eq_none_iff.mp q
    rw [h.length] at l
    exact .inl ⟨rfl, List.getElem?_eq_none_iff.mpr l⟩
  | some a =>
    obtain ⟨b, h1, h2⟩ := h.getV q
    exact .inr ⟨a, b, rfl, h1, h2⟩
theorem kb_mk {K : PySem.W.Frag} {fd : FuncData} {ps ks : List Str} (n : Nat) (is : List Nat) (hp : ps ≠ [])
    (to : ∀ (s : Shared) (us ws : List Value), us.length = n → ws.length = ks.length → BindsTo s fd ⟨us, ks.zip ws⟩ (ps.zip (permL is (us ++ ws)))) :
    KB K fd ps ks (kwG n ks.length is) (kwG n ks.length is) (kwG n ks.length is) := by
  refine ⟨⟨fun s us ws _ hl => ?_, fun {vs us zs ws} h1 h2 => ?_⟩, fun {G vs us xs ys} h1 h2 => ?_⟩
  · unfold kwG at hl ⊢
    by_cases z : us.length = n ∧ ws.length = ks.length
    · rw [if_pos z]
      exact to s us ws z.1 z.2
    · rw [if_neg z] at hl
      cases ps with
      | nil => exact absurd rfl hp
      | cons _ _ => cases hl
  · unfold kwG
    rw [h1.length, h2.length]
    split
    · exact permL_rel (G := fun a b => Vals a b) .nil (fun _ _ _ _ f g => .cons f g) (vals_at (h1.append h2)) is
    · exact .nil
  · unfold kwG
    rw [h1.length, h2.length]
    split
    · exact permL_rel (G := fun a b => DnAll K G a b) .nil (fun _ _ _ _ f g => .cons f g) (dat_at (h1.append h2)) is
    · exact .nil

/-! ### [::-1] of a list -/
def dRev (t : DT) : DT := fun ds O k => t ds O fun x O1 => match listOf O1 x with
  | some xs => k (.lst xs.reverse) O1
  | none => False

/-! ### reading on: what a step asks, by words -/
theorem go_dC {d : D} {ds : Ds} {O : Ow} {k : DK} (h : k d O) : dC d ds O k := h
end DL
namespace DL
open PySem PySem.Spec PyProof.Rows L2 Evl

theorem kf_NoneType_int : kitB "NoneType" "int" = some false := by decide +kernel
theorem kf_NoneType_str : kitB "NoneType" "str" = some false := by decide +kernel
theorem kf_NoneType_bool : kitB "NoneType" "bool" = some false := by decide +kernel
theorem kf_NoneType_tuple : kitB "NoneType" "tuple" = some false := by decide +kernel
theorem kf_NoneType_list : kitB "NoneType" "list" = some false := by decide +kernel
theorem kf_NoneType_dict : kitB "NoneType" "dict" = some false := by decide +kernel
theorem kf_bool_int : kitB "bool" "int" = some true := by decide +kernel
theorem kf_bool_str : kitB "bool" "str" = some false := by decide +kernel
theorem kf_bool_bool : kitB "bool" "bool" = some true := by decide +kernel
theorem kf_bool_tuple : kitB "bool" "tuple" = some false := by decide +kernel
theorem kf_bool_list : kitB "bool" "list" = some false := by decide +kernel
theorem kf_bool_dict : kitB "bool" "dict" = some false := by decide +kernel
theorem kf_int_int : kitB "int" "int" = some true := by decide +kernel
theorem kf_int_str : kitB "int" "str" = some false := by decide +kernel
theorem kf_int_bool : kitB "int" "bool" = some false := by decide +kernel
theorem kf_int_tuple : kitB "int" "tuple" = some false := by decide +kernel
theorem kf_int_list : kitB "int" "list" = some false := by decide +kernel
theorem kf_int_dict : kitB "int" "dict" = some false := by decide +kernel
theorem kf_str_int : kitB "str" "int" = some false := by decide +kernel
theorem kf_str_str : kitB "str" "str" = some true := by decide +kernel
theorem kf_str_bool : kitB "str" "bool" = some false := by decide +kernel
theorem kf_str_tuple : kitB "str" "tuple" = some false := by decide +kernel
theorem kf_str_list : kitB "str" "list" = some false := by decide +kernel
theorem kf_str_dict : kitB "str" "dict" = some false := by decide +kernel
theorem kf_list_int : kitB "list" "int" = some false := by decide +kernel
theorem kf_list_str : kitB "list" "str" = some false := by decide +kernel
theorem kf_list_bool : kitB "list" "bool" = some false := by decide +kernel
theorem kf_list_tuple : kitB "list" "tuple" = some false := by decide +kernel
theorem kf_list_list : kitB "list" "list" = some true := by decide +kernel
theorem kf_list_dict : kitB "list" "dict" = some false := by decide +kernel
theorem kf_tuple_int : kitB "tuple" "int" = some false := by decide +kernel
theorem kf_tuple_str : kitB "tuple" "str" = some false := by decide +kernel
theorem kf_tuple_bool : kitB "tuple" "bool" = some false := by decide +kernel
theorem kf_tuple_tuple : kitB "tuple" "tuple" = some true := by decide +kernel
theorem kf_tuple_list : kitB "tuple" "list" = some false := by decide +kernel
theorem kf_tuple_dict : kitB "tuple" "dict" = some false := by decide +kernel
theorem kf_dict_int : kitB "dict" "int" = some false := by decide +kernel
theorem kf_dict_str : kitB "dict" "str" = some false := by decide +kernel
theorem kf_dict_bool : kitB "dict" "bool" = some false := by decide +kernel
theorem kf_dict_tuple : kitB "dict" "tuple" = some false := by decide +kernel
theorem kf_dict_list : kitB "dict" "list" = some false := by decide +kernel
theorem kf_dict_dict : kitB "dict" "dict" = some true := by decide +kernel

/-- a thing whose type is known -/
def Kn : D → Prop
  | .opq _ => False
  | .obj t _ => t = .type "dict"
  | _ => True
theorem atI0 {α : Type} {x : α} {r : List α} : atI (x :: r) 0 = some x := by
  unfold atI ixN
  rw [if_pos (Int.le_refl 0), if_pos (by rw [List.length_cons]; omega)]
  rfl
theorem atI1 {α : Type} {x y : α} {r : List α} : atI (x :: y :: r) 1 = some y := by
  unfold atI ixN
  rw [if_pos (by decide), if_pos (by rw [List.length_cons, List.length_cons]; omega)]
  rfl
theorem atI2 {α : Type} {x y z : α} {r : List α} : atI (x :: y :: z :: r) 2 = some z := by
  unfold atI ixN
  rw [if_pos (by decide), if_pos (by rw [List.length_cons, List.length_cons, List.length_cons]; omega)]
  rfl
theorem atI_at {α : Type} {xs : List α} {i : Nat} {x : α} (h : xs[i]? = some x) : atI xs (i : Int) = some x := by
  have l : i < xs.length := (List.getElem?_eq_some_iff.mp h).1
  unfold atI ixN
  rw [if_pos (by omega), if_pos (by omega)]
  show xs[((i : Int)).toNat]? = some x
  rw [Int.toNat_natCast]
  exact h
theorem atI_int {α : Type} {xs : List α} {i : Int} {x : α} (h0 : 0 ≤ i) (h : xs[i.toNat]? = some x) : atI xs i = some x := by
  have q := atI_at h
  rw [Int.toNat_of_nonneg h0] at q
  exact q

end DL
namespace DL
open PySem PySem.Spec PyProof.Rows L2 Evl
theorem rs_non {O : Ow} : res O .non = .non := rfl
theorem rs_bl {O : Ow} {b : Bool} : res O (.bl b) = .bl b := rfl
theorem rs_int {O : Ow} {i : Int} : res O (.int i) = .int i := rfl
theorem rs_str {O : Ow} {x : Str} : res O (.str x) = .str x := rfl
theorem rs_lst {O : Ow} {xs : List D} : res O (.lst xs) = .lst xs := rfl
theorem rs_tup {O : Ow} {xs : List D} : res O (.tup xs) = .tup xs := rfl
theorem rs_scr {O : Ow} {ns : List Int} : res O (.scr ns) = .scr ns := rfl
theorem rs_obj {O : Ow} {t : Value} {v : V} : res O (.obj t v) = .obj t v := rfl
theorem rs_cell {O : Ow} {p : Addr} {xs : List D} (h : O p = some (.lst xs)) : res O (.opq (.ref p)) = .lst xs := by
  simp only [res, h]
theorem rs_cellS {O : Ow} {p : Addr} {xs : List D} : res (oset O p (.lst xs)) (.opq (.ref p)) = .lst xs := rs_cell oset_same
theorem tyD_lst {xs : List D} : tyD "list" (.lst xs) = true := rfl
theorem tyD_str {x : Str} : tyD "str" (.str x) = true := rfl
theorem ty_non : D.non.ty = some (.type "NoneType") := rfl
theorem ty_bl {b : Bool} : (D.bl b).ty = some (.type "bool") := rfl
theorem ty_int {i : Int} : (D.int i).ty = some (.type "int") := rfl
theorem ty_str {x : Str} : (D.str x).ty = some (.type "str") := rfl
theorem ty_lst {xs : List D} : (D.lst xs).ty = some (.type "list") := rfl
theorem ty_tup {xs : List D} : (D.tup xs).ty = some (.type "tuple") := rfl
theorem ty_scr {ns : List Int} : (D.scr ns).ty = some (.type "list") := rfl
theorem ty_obj {t : Value} {v : V} : (D.obj t v).ty = some t := rfl
theorem rt_of {q : DK} {d : D} {O : Ow} (h : q d O) : Rt q d O := .inl ⟨O, h, Sub.refl O⟩
/-- a new cell handed back -/
theorem rt_new {q : DK} {p : Addr} {xs : List D} {O : Ow} (hp : O p = none) (h : q (.lst xs) O) : Rt q (.opq (.ref p)) (oset O p (.lst xs)) := by
  refine .inr ⟨p, xs, O, rfl, oset_same, h, fun b c e => ?_⟩
  have ne : b ≠ p := fun z => by
    rw [z, hp] at e
    cases e
  unfold odel
  rw [if_neg ne, oset_ne ne]
  exact e
/-- local cells are forgotten -/
theorem rt_sub {q : DK} {d : D} {O O' : Ow} (h : q d O) (s : Sub O O') : Rt q d O' := .inl ⟨O, h, s⟩
theorem ex_of {e : Xc → Ow → Prop} {c : Xc} {ds : Ds} {O : Ow} (h : e c O) : exOf e c ds O := ⟨O, h, Sub.refl O⟩
theorem take_next {α : Type} : ∀ {l : List α} {i : Nat} {x : α}, l[i]? = some x → l.take (i + 1) = l.take i ++ [x]
  | [], _, _, h => by simp at h
  | a :: l, 0, x, h => by
    simp at h
    rw [h]
    rfl
  | a :: l, i + 1, x, h => by
    show a :: l.take (i + 1) = a :: (l.take i ++ [x])
    rw [take_next (by simpa using h)]
/-! ### a loop that goes through, by a fold -/
theorem for_rel {S : Type} {xs : List D} {g : DG} {tb : DSr} {E : DEnds} {ds : Ds} {O : Ow} (step : S → D → S) (De : S → Ds → Ow → Prop) (s0 : S) (h0 : De s0 ds O)
    (hst : ∀ s x ds O, x ∈ xs → De s ds O → ∀ R : Ds → Ow → Prop, (∀ ds' O', De (step s x) ds' O' → R ds' O') → g x ds O fun ds' O' => tb { E with nx := R, ct := R, bk := E.nx } ds' O')
    (hd : ∀ ds O, De (xs.foldl step s0) ds O → E.nx ds O) :
    ∃ Iv : Nat → Ds → Ow → Prop, Iv 0 ds O ∧ (∀ i x ds O, xs[i]? = some x → Iv i ds O → g x ds O fun ds' O' => tb { E with nx := Iv (i + 1), ct := Iv (i + 1), bk := E.nx } ds' O') ∧ (∀ ds O, Iv xs.length ds O → E.nx ds O) := by
  refine ⟨fun i ds O => De ((xs.take i).foldl step s0) ds O, h0, fun i x ds O hx h => ?_, fun ds O h => hd ds O (by have h' : De ((xs.take xs.length).foldl step s0) ds O := h; rw [List.take_length] at h'; exact h')⟩
  refine hst _ x ds O (List.mem_of_getElem? hx) h _ fun ds' O' h' => ?_
  show De ((xs.take (i + 1)).foldl step s0) ds' O'
  rw [take_next hx, List.foldl_append]
  exact h'
/-- a loop that may be left: W says what holds ahead of the items that are left -/
theorem for_rest {xs : List D} {g : DG} {tb : DSr} {E : DEnds} {ds : Ds} {O : Ow} (W : List D → Ds → Ow → Prop) (h0 : W xs ds O)
    (hst : ∀ x r ds O, W (x :: r) ds O → ∀ R : Ds → Ow → Prop, (∀ ds' O', W r ds' O' → R ds' O') → g x ds O fun ds' O' => tb { E with nx := R, ct := R, bk := E.nx } ds' O') (hd : ∀ ds O, W [] ds O → E.nx ds O) :
    ∃ Iv : Nat → Ds → Ow → Prop, Iv 0 ds O ∧ (∀ i x ds O, xs[i]? = some x → Iv i ds O → g x ds O fun ds' O' => tb { E with nx := Iv (i + 1), ct := Iv (i + 1), bk := E.nx } ds' O') ∧ (∀ ds O, Iv xs.length ds O → E.nx ds O) := by
  refine ⟨fun i ds O => W (xs.drop i) ds O, h0, fun i x ds O hx h => ?_, fun ds O h => hd ds O (by have h' : W (xs.drop xs.length) ds O := h; rw [List.drop_length] at h'; exact h')⟩
  have e : xs.drop i = x :: xs.drop (i + 1) := by
    obtain ⟨l, q⟩ := List.getElem?_eq_some_iff.mp hx
    rw [List.drop_eq_getElem_cons l, q]
  have h' : W (xs.drop i) ds O := h
  rw [e] at h'
  exact hst x _ ds O h' _ fun _ _ q => q
/-! ### comprehensions, by filter and map -/
theorem lc_fm {xs : List D} {g : DG} {tt : DB} {te : DT} {vs : List Nat} {ds : Ds} {O : Ow} {k : DK} (p : D → Bool) (f : D → D)
    (hst : ∀ x, x ∈ xs → ∀ (R1 : DK) (R2 : Ow → Prop), (p x = true → R1 (f x) O) → (p x = false → R2 O) → g x (dwipe ds vs) O fun ds' O' => tt ds' O' fun b O2 => if b = true then te ds' O2 R1 else R2 O2)
    (hk : k (.lst ((xs.filter p).map f)) O) :
    ∃ Iv : Nat → List D → Ow → Prop, Iv 0 [] O ∧
    (∀ i x acc O, xs[i]? = some x → Iv i acc O → acc.length ≤ i → g x (dwipe ds vs) O fun ds' O' => tt ds' O' fun b O2 => if b = true then te ds' O2 fun y O3 => Iv (i + 1) (acc ++ [y]) O3 else Iv (i + 1) acc O2) ∧
    (∀ acc O, acc.length ≤ xs.length → Iv xs.length acc O → k (.lst acc) O) := by
  refine ⟨fun i acc O' => acc = ((xs.take i).filter p).map f ∧ O' = O, ⟨rfl, rfl⟩, fun i x acc O' hx ⟨ha, ho⟩ _ => ?_, fun acc O' _ ⟨ha, ho⟩ => ?_⟩
  · subst ho
    refine hst x (List.mem_of_getElem? hx) _ _ (fun hp => ⟨?_, rfl⟩) (fun hp => ⟨?_, rfl⟩)
    · rw [take_next hx, List.filter_append, List.map_append, ← ha, List.filter_cons, if_pos hp]
      rfl
    · rw [take_next hx, List.filter_append, List.map_append, ← ha, List.filter_cons, if_neg (by rw [hp]; decide)]
      show acc = acc ++ []
      rw [List.append_nil]
  · subst ho
    subst ha
    rw [List.take_length]
    exact hk
theorem lc_mp {xs : List D} {g : DG} {te : DT} {vs : List Nat} {ds : Ds} {O : Ow} {k : DK} (f : D → D)
    (hst : ∀ x, x ∈ xs → ∀ R1 : DK, R1 (f x) O → g x (dwipe ds vs) O fun ds' O' => te ds' O' R1)
    (hk : k (.lst (xs.map f)) O) :
    ∃ Iv : Nat → List D → Ow → Prop, Iv 0 [] O ∧
    (∀ i x acc O, xs[i]? = some x → Iv i acc O → acc.length ≤ i → g x (dwipe ds vs) O fun ds' O' => dYes ds' O' fun b O2 => if b = true then te ds' O2 fun y O3 => Iv (i + 1) (acc ++ [y]) O3 else Iv (i + 1) acc O2) ∧
    (∀ acc O, acc.length ≤ xs.length → Iv xs.length acc O → k (.lst acc) O) :=
  lc_fm (fun _ => true) f (fun x hx R1 R2 h1 _ => hst x hx R1 (h1 rfl)) (by rw [show xs.filter (fun _ => true) = xs by simp]; exact hk)

/-! ### the same over a list that is written from another one -/
theorem for_map {S α : Type} {f : α → D} {l : List α} {g : DG} {tb : DSr} {E : DEnds} {ds : Ds} {O : Ow} (step : S → α → S) (De : Nat → S → Ds → Ow → Prop) (s0 : S) (h0 : De 0 s0 ds O)
    (hst : ∀ i s x ds O, l[i]? = some x → De i s ds O → ∀ R : Ds → Ow → Prop, (∀ ds' O', De (i + 1) (step s x) ds' O' → R ds' O') → g (f x) ds O fun ds' O' => tb { E with nx := R, ct := R, bk := E.nx } ds' O')
    (hd : ∀ ds O, De l.length (l.foldl step s0) ds O → E.nx ds O) :
    ∃ Iv : Nat → Ds → Ow → Prop, Iv 0 ds O ∧ (∀ i x ds O, (l.map f)[i]? = some x → Iv i ds O → g x ds O fun ds' O' => tb { E with nx := Iv (i + 1), ct := Iv (i + 1), bk := E.nx } ds' O') ∧ (∀ ds O, Iv (l.map f).length ds O → E.nx ds O) := by
  refine ⟨fun i ds O => De i ((l.take i).foldl step s0) ds O, h0, fun i x ds O hx h => ?_, fun ds O h => ?_⟩
  · rw [List.getElem?_map] at hx
    cases q : l[i]? with
    | none => rw [q] at hx; cases hx
    | some y =>
      rw [q] at hx
      cases hx
      refine hst i _ y ds O q h _ fun ds' O' h' => ?_
      show De (i + 1) ((l.take (i + 1)).foldl step s0) ds' O'
      rw [take_next q, List.foldl_append]
      exact h'
  · rw [List.length_map] at h
    have h' : De l.length ((l.take l.length).foldl step s0) ds O := h
    rw [List.take_length] at h'
    exact hd ds O h'
theorem for_restM {α : Type} {f : α → D} {l : List α} {g : DG} {tb : DSr} {E : DEnds} {ds : Ds} {O : Ow} (W : List α → Ds → Ow → Prop) (h0 : W l ds O)
    (hst : ∀ x r ds O, W (x :: r) ds O → ∀ R : Ds → Ow → Prop, (∀ ds' O', W r ds' O' → R ds' O') → g (f x) ds O fun ds' O' => tb { E with nx := R, ct := R, bk := E.nx } ds' O') (hd : ∀ ds O, W [] ds O → E.nx ds O) :
    ∃ Iv : Nat → Ds → Ow → Prop, Iv 0 ds O ∧ (∀ i x ds O, (l.map f)[i]? = some x → Iv i ds O → g x ds O fun ds' O' => tb { E with nx := Iv (i + 1), ct := Iv (i + 1), bk := E.nx } ds' O') ∧ (∀ ds O, Iv (l.map f).length ds O → E.nx ds O) := by
  refine ⟨fun i ds O => W (l.drop i) ds O, h0, fun i x ds O hx h => ?_, fun ds O h => hd ds O (by have h' : W (l.drop (l.map f).length) ds O := h; rw [List.length_map, List.drop_length] at h'; exact h')⟩
  rw [List.getElem?_map] at hx
  cases q : l[i]? with
  | none => rw [q] at hx; cases hx
  | some y =>
    rw [q] at hx
    cases hx
    have e : l.drop i = y :: l.drop (i + 1) := by
      obtain ⟨z, q⟩ := List.getElem?_eq_some_iff.mp q
      rw [List.drop_eq_getElem_cons z, q]
    have h' : W (l.drop i) ds O := h
    rw [e] at h'
    exact hst y _ ds O h' _ fun _ _ q => q
theorem lc_fmM {α : Type} {c : α → D} {l : List α} {g : DG} {tt : DB} {te : DT} {vs : List Nat} {ds : Ds} {O : Ow} {k : DK} (p : α → Bool) (f : α → D)
    (hst : ∀ x, x ∈ l → ∀ (R1 : DK) (R2 : Ow → Prop), (p x = true → R1 (f x) O) → (p x = false → R2 O) → g (c x) (dwipe ds vs) O fun ds' O' => tt ds' O' fun b O2 => if b = true then te ds' O2 R1 else R2 O2)
    (hk : k (.lst ((l.filter p).map f)) O) :
    ∃ Iv : Nat → List D → Ow → Prop, Iv 0 [] O ∧
    (∀ i x acc O, (l.map c)[i]? = some x → Iv i acc O → acc.length ≤ i → g x (dwipe ds vs) O fun ds' O' => tt ds' O' fun b O2 => if b = true then te ds' O2 fun y O3 => Iv (i + 1) (acc ++ [y]) O3 else Iv (i + 1) acc O2) ∧
    (∀ acc O, acc.length ≤ (l.map c).length → Iv (l.map c).length acc O → k (.lst acc) O) := by
  refine ⟨fun i acc O' => acc = ((l.take i).filter p).map f ∧ O' = O, ⟨rfl, rfl⟩, fun i x acc O' hx ⟨ha, ho⟩ _ => ?_, fun acc O' _ ⟨ha, ho⟩ => ?_⟩
  · subst ho
    rw [List.getElem?_map] at hx
    cases q : l[i]? with
    | none => rw [q] at hx; cases hx
    | some y =>
      rw [q] at hx
      cases hx
      refine hst y (List.mem_of_getElem? q) _ _ (fun hp => ⟨?_, rfl⟩) (fun hp => ⟨?_, rfl⟩)
      · rw [take_next q, List.filter_append, List.map_append, ← ha, List.filter_cons, if_pos hp]
        rfl
      · rw [take_next q, List.filter_append, List.map_append, ← ha, List.filter_cons, if_neg (by rw [hp]; decide)]
        show acc = acc ++ []
        rw [List.append_nil]
  · subst ho
    subst ha
    rw [List.length_map, List.take_length]
    exact hk
theorem lc_mpM {α : Type} {c : α → D} {l : List α} {g : DG} {te : DT} {vs : List Nat} {ds : Ds} {O : Ow} {k : DK} (f : α → D)
    (hst : ∀ x, x ∈ l → ∀ R1 : DK, R1 (f x) O → g (c x) (dwipe ds vs) O fun ds' O' => te ds' O' R1)
    (hk : k (.lst (l.map f)) O) :
    ∃ Iv : Nat → List D → Ow → Prop, Iv 0 [] O ∧
    (∀ i x acc O, (l.map c)[i]? = some x → Iv i acc O → acc.length ≤ i → g x (dwipe ds vs) O fun ds' O' => dYes ds' O' fun b O2 => if b = true then te ds' O2 fun y O3 => Iv (i + 1) (acc ++ [y]) O3 else Iv (i + 1) acc O2) ∧
    (∀ acc O, acc.length ≤ (l.map c).length → Iv (l.map c).length acc O → k (.lst acc) O) :=
  lc_fmM (fun _ => true) f (fun x hx R1 R2 h1 _ => hst x hx R1 (h1 rfl)) (by rw [show l.filter (fun _ => true) = l by simp]; exact hk)

/-! ### as they are used -/
section
variable {α : Type} {c : α → D} {l : List α} {di : DI} {g : DG} {tt : DB} {te : DT} {vs : List Nat} {ds : Ds} {O : Ow} {k : DK} {tb : DSr} {E : DEnds}
theorem comp_mpM (c : α → D) (l : List α) (f : α → D) (hdi : ∀ R : List D → Ow → Prop, R (l.map c) O → di ds O R) (hl : l.length < sizeLine)
    (hst : ∀ x, x ∈ l → ∀ R1 : DK, R1 (f x) O → g (c x) (dwipe ds vs) O fun ds' O' => te ds' O' R1) (hk : k (.lst (l.map f)) O) : dLc di g dYes te vs ds O k :=
  hdi _ ⟨by rw [List.length_map]; exact hl, lc_mpM f hst hk⟩
theorem comp_fmM (c : α → D) (l : List α) (p : α → Bool) (f : α → D) (hdi : ∀ R : List D → Ow → Prop, R (l.map c) O → di ds O R) (hl : l.length < sizeLine)
    (hst : ∀ x, x ∈ l → ∀ (R1 : DK) (R2 : Ow → Prop), (p x = true → R1 (f x) O) → (p x = false → R2 O) → g (c x) (dwipe ds vs) O fun ds' O' => tt ds' O' fun b O2 => if b = true then te ds' O2 R1 else R2 O2)
    (hk : k (.lst ((l.filter p).map f)) O) : dLc di g tt te vs ds O k :=
  hdi _ ⟨by rw [List.length_map]; exact hl, lc_fmM p f hst hk⟩
theorem loop_map {S : Type} (c : α → D) (l : List α) (step : S → α → S) (De : Nat → S → Ds → Ow → Prop) (s0 : S) (hdi : ∀ R : List D → Ow → Prop, R (l.map c) O → di ds O R) (h0 : De 0 s0 ds O)
    (hst : ∀ i s x ds O, l[i]? = some x → De i s ds O → ∀ R : Ds → Ow → Prop, (∀ ds' O', De (i + 1) (step s x) ds' O' → R ds' O') → g (c x) ds O fun ds' O' => tb { E with nx := R, ct := R, bk := E.nx } ds' O')
    (hd : ∀ ds O, De l.length (l.foldl step s0) ds O → E.nx ds O) : dFor di g tb E ds O := hdi _ (for_map step De s0 h0 hst hd)
theorem loop_rest (c : α → D) (l : List α) (W : List α → Ds → Ow → Prop) (hdi : ∀ R : List D → Ow → Prop, R (l.map c) O → di ds O R) (h0 : W l ds O)
    (hst : ∀ x r ds O, W (x :: r) ds O → ∀ R : Ds → Ow → Prop, (∀ ds' O', W r ds' O' → R ds' O') → g (c x) ds O fun ds' O' => tb { E with nx := R, ct := R, bk := E.nx } ds' O') (hd : ∀ ds O, W [] ds O → E.nx ds O) : dFor di g tb E ds O := hdi _ (for_restM W h0 hst hd)
end

section
variable {α : Type} {g : DG} {tt : DB} {te : DT} {vs : List Nat} {ds : Ds} {O : Ow} {k : DK} {tb : DSr} {E : DEnds}
theorem compX_mp (c : α → D) (l : List α) (f : α → D) (hl : l.length < sizeLine)
    (hst : ∀ x, x ∈ l → ∀ R1 : DK, R1 (f x) O → g (c x) (dwipe ds vs) O fun ds' O' => te ds' O' R1) (hk : k (.lst (l.map f)) O) : dLcX (l.map c) g dYes te vs ds O k :=
  ⟨by rw [List.length_map]; exact hl, lc_mpM f hst hk⟩
theorem compX_fm (c : α → D) (l : List α) (p : α → Bool) (f : α → D) (hl : l.length < sizeLine)
    (hst : ∀ x, x ∈ l → ∀ (R1 : DK) (R2 : Ow → Prop), (p x = true → R1 (f x) O) → (p x = false → R2 O) → g (c x) (dwipe ds vs) O fun ds' O' => tt ds' O' fun b O2 => if b = true then te ds' O2 R1 else R2 O2)
    (hk : k (.lst ((l.filter p).map f)) O) : dLcX (l.map c) g tt te vs ds O k :=
  ⟨by rw [List.length_map]; exact hl, lc_fmM p f hst hk⟩
theorem loopX_map {S : Type} (c : α → D) (l : List α) (step : S → α → S) (De : Nat → S → Ds → Ow → Prop) (s0 : S) (h0 : De 0 s0 ds O)
    (hst : ∀ i s x ds O, l[i]? = some x → De i s ds O → ∀ R : Ds → Ow → Prop, (∀ ds' O', De (i + 1) (step s x) ds' O' → R ds' O') → g (c x) ds O fun ds' O' => tb { E with nx := R, ct := R, bk := E.nx } ds' O')
    (hd : ∀ ds O, De l.length (l.foldl step s0) ds O → E.nx ds O) : dForX (l.map c) g tb E ds O := for_map step De s0 h0 hst hd
theorem loopX_rest (c : α → D) (l : List α) (W : List α → Ds → Ow → Prop) (h0 : W l ds O)
    (hst : ∀ x r ds O, W (x :: r) ds O → ∀ R : Ds → Ow → Prop, (∀ ds' O', W r ds' O' → R ds' O') → g (c x) ds O fun ds' O' => tb { E with nx := R, ct := R, bk := E.nx } ds' O') (hd : ∀ ds O, W [] ds O → E.nx ds O) : dForX (l.map c) g tb E ds O := for_restM W h0 hst hd
/-- by the turn's number alone -/
theorem loopX_in (xs : List D) (De : Nat → Ds → Ow → Prop) (h0 : De 0 ds O)
    (hst : ∀ i x ds O, xs[i]? = some x → De i ds O → ∀ R : Ds → Ow → Prop, (∀ ds' O', De (i + 1) ds' O' → R ds' O') → g x ds O fun ds' O' => tb { E with nx := R, ct := R, bk := E.nx } ds' O')
    (hd : ∀ ds O, De xs.length ds O → E.nx ds O) : dForX xs g tb E ds O := ⟨De, h0, fun i x ds O hx h => hst i x ds O hx h _ fun _ _ q => q, hd⟩
end

/-! ### strands -/
abbrev Rn := Bool × Int
def ch (b : Bool) : Str := if b = true then "D" else "L"
def eR (r : Rn) : D := .tup [.str (ch r.1), .int r.2]
def eS (rs : List Rn) : D := .tup (rs.map eR)
def eL (rs : List Rn) : D := .lst (rs.map eR)
theorem rs_eR {O : Ow} {r : Rn} : res O (eR r) = .tup [.str (ch r.1), .int r.2] := rfl
theorem rs_eS {O : Ow} {r : List Rn} : res O (eS r) = .tup (r.map eR) := rfl
theorem rs_eL {O : Ow} {r : List Rn} : res O (eL r) = .lst (r.map eR) := rfl
theorem ch_inj {a b : Bool} (h : ch a = ch b) : a = b := by
  cases a <;> cases b <;> first
    | rfl
    | exact absurd h (by decide)
/-- neighbours differ -/
def Alt : List Rn → Prop
  | a :: b :: r => a.1 ≠ b.1 ∧ Alt (b :: r)
  | _ => True
structure Vd (rs : List Rn) : Prop where
  ne : rs ≠ []
  pos : ∀ r ∈ rs, 1 ≤ r.2
  alt : Alt rs
def beads (rs : List Rn) : Int := (rs.map (·.2)).sum
def darks (rs : List Rn) : Int := ((rs.filter (·.1)).map (·.2)).sum
theorem deq_str (a b : Str) : deq (.str a) (.str b) = decide (a = b) := by
  unfold deq D.py
  simp only [PyData.eqv]
  by_cases e : a = b
  · subst e
    simp
  · simp [e]
theorem deq_int (a b : Int) : deq (.int a) (.int b) = decide (a = b) := by
  unfold deq D.py
  simp only [PyData.eqv]
  by_cases e : a = b
  · subst e
    simp
  · simp [e]
theorem deq_str_non (a : Str) : deq (.str a) .non = false := by
  unfold deq D.py
  simp only [PyData.eqv]
theorem ok_int (a : Int) : (D.int a).ok = true := by
  unfold D.ok D.pure D.py SeqAt.shaped
  simp [PyData.canLay0, PyData.depth]
theorem ok_non : D.non.ok = true := by
  unfold D.ok D.pure D.py SeqAt.shaped
  simp [PyData.canLay0, PyData.depth]
theorem strOk_ch (b : Bool) : PyData.strOk (ch b) = true := by
  cases b <;> decide +kernel
theorem ok_str {a : Str} (h : PyData.strOk a = true) : (D.str a).ok = true := by
  unfold D.ok D.pure D.py SeqAt.shaped
  simp [PyData.canLay0, PyData.depth, h]
theorem ok_ch (b : Bool) : (D.str (ch b)).ok = true := ok_str (strOk_ch b)
theorem ch_eq (a b : Bool) : decide (ch a = ch b) = decide (a = b) := by
  cases a <;> cases b <;> decide +kernel
section
variable {O : Ow} {k : DK}
theorem qadd_int {a b : Int} : qAdd (.int a) (.int b) O k = k (.int (a + b)) O := rfl
theorem qadd_str {a b : Str} : qAdd (.str a) (.str b) O k = (a.length + b.length ≤ sizeLine ∧ k (.str (a ++ b)) O) := rfl
theorem qadd_lst {a b : List D} : qAdd (.lst a) (.lst b) O k = (a.length + b.length ≤ sizeLine ∧ k (.lst (a ++ b)) O) := rfl
theorem qadd_tup {a b : List D} : qAdd (.tup a) (.tup b) O k = (a.length + b.length ≤ sizeLine ∧ k (.tup (a ++ b)) O) := rfl
theorem qmul_int {a b : Int} : qMul (.int a) (.int b) O k = (CMulW a b ∧ k (.int (a * b)) O) := rfl
theorem qmul_str {a : Str} {b : Int} : qMul (.str a) (.int b) O k = (MulOk a b ∧ k (.str (Txt.mul a b)) O) := rfl
theorem qmul_lst {a : List D} {b : Int} : qMul (.lst a) (.int b) O k = (-(2 ^ 63) ≤ b ∧ b < 2 ^ 63 ∧ a.length * b.toNat ≤ sizeLine ∧ k (.lst (List.replicate b.toNat a).flatten) O) := rfl
theorem qmul_tup {a : List D} {b : Int} : qMul (.tup a) (.int b) O k = (a ≠ [] ∧ 2 ≤ b ∧ b ≤ 1000 ∧ a.length ≤ 1000 ∧ k (.tup (List.replicate b.toNat a).flatten) O) := rfl
def atK (xs : List D) (i : Int) (O : Ow) (k : DK) : Prop := match atI xs i with
  | some d => k d O
  | none => False
theorem atK0 {x : D} {r : List D} : atK (x :: r) 0 O k = k x O := by
  unfold atK
  rw [atI0]
theorem atK1 {x y : D} {r : List D} : atK (x :: y :: r) 1 O k = k y O := by
  unfold atK
  rw [atI1]
theorem atK2 {x y z : D} {r : List D} : atK (x :: y :: z :: r) 2 O k = k z O := by
  unfold atK
  rw [atI2]
theorem atK_of {xs : List D} {i : Int} {d : D} (h : atI xs i = some d) : atK xs i O k = k d O := by
  unfold atK
  rw [h]
theorem qix_lst {xs : List D} {i : Int} : qIx (.lst xs) (.int i) O k = atK xs i O k := rfl
theorem qix_tup {xs : List D} {i : Int} : qIx (.tup xs) (.int i) O k = atK xs i O k := rfl
theorem qix_eR {r : Rn} {i : Int} : qIx (eR r) (.int i) O k = atK [.str (ch r.1), .int r.2] i O k := rfl
theorem qix_scr {ns : List Int} {i : Int} : qIx (.scr ns) (.int i) O k = (match atI ns i with | some n => k (.int n) O | none => False) := rfl
theorem qix_str {s : Str} {i : Int} : qIx (.str s) (.int i) O k = (s.length ≤ sizeLine ∧ (match atI s.cps.toList i with | some c => k (.str ⟨#[c]⟩) O | none => False)) := rfl
theorem qix_cell {p : Addr} {xs : List D} {i : Int} (h : O p = some (.lst xs)) : qIx (.opq (.ref p)) (.int i) O k = atK xs i O k := by
  unfold qIx
  rw [rs_cell h]
  rfl
theorem qix_cellS {p : Addr} {xs : List D} {i : Int} : qIx (.opq (.ref p)) (.int i) (oset O p (.lst xs)) k = atK xs i (oset O p (.lst xs)) k := qix_cell oset_same
theorem set0 {x y : D} {r : List D} : (x :: r).set 0 y = y :: r := rfl
theorem set1 {x y z : D} {r : List D} : (x :: y :: r).set 1 z = x :: z :: r := rfl
theorem set2 {x y z u : D} {r : List D} : (x :: y :: z :: r).set 2 u = x :: y :: u :: r := rfl
/-- a store to a place of a cell -/
def stK (p : Addr) (ys : List D) (j : Int) (x : D) (O : Ow) (k : Ow → Prop) : Prop := match ixN ys.length j with
  | some m => k (oset O p (.lst (ys.set m x)))
  | none => False
theorem stK_of {p : Addr} {ys : List D} {j : Int} {x : D} {m : Nat} {kk : Ow → Prop} (h : ixN ys.length j = some m) : stK p ys j x O kk = kk (oset O p (.lst (ys.set m x))) := by
  unfold stK
  rw [h]
theorem qe_int {a b : Int} : qEq false (.int a) (.int b) O k = k (.bl (decide (a = b))) O := by
  unfold qEq
  rw [rs_int, rs_int, ok_int, ok_int, deq_int, if_neg Bool.false_ne_true]
  simp
theorem qn_int {a b : Int} : qEq true (.int a) (.int b) O k = k (.bl (!decide (a = b))) O := by
  unfold qEq
  rw [rs_int, rs_int, ok_int, ok_int, deq_int, if_pos rfl]
  simp
theorem qe_ch {a b : Bool} : qEq false (.str (ch a)) (.str (ch b)) O k = k (.bl (decide (a = b))) O := by
  unfold qEq
  rw [rs_str, rs_str, ok_ch, ok_ch, deq_str, if_neg Bool.false_ne_true, ch_eq]
  simp
theorem qn_ch {a b : Bool} : qEq true (.str (ch a)) (.str (ch b)) O k = k (.bl (!decide (a = b))) O := by
  unfold qEq
  rw [rs_str, rs_str, ok_ch, ok_ch, deq_str, if_pos rfl, ch_eq]
  simp
theorem qe_chn {a : Bool} : qEq false (.str (ch a)) .non O k = k (.bl false) O := by
  unfold qEq
  rw [rs_str, rs_non, ok_ch, ok_non, deq_str_non, if_neg Bool.false_ne_true]
  simp
theorem ch_D (a : Bool) : decide (ch a = Str.ofString "D") = a := by
  cases a <;> decide +kernel
theorem ch_L (a : Bool) : decide (ch a = Str.ofString "L") = !a := by
  cases a <;> decide +kernel
theorem ok_D : (D.str (Str.ofString "D")).ok = true := ok_ch true
theorem ok_L : (D.str (Str.ofString "L")).ok = true := ok_ch false
theorem qe_chD {a : Bool} : qEq false (.str (ch a)) (.str (Str.ofString "D")) O k = k (.bl a) O := by
  unfold qEq
  rw [rs_str, rs_str, ok_ch, ok_D, deq_str, if_neg Bool.false_ne_true, ch_D]
  simp
theorem qe_chL {a : Bool} : qEq false (.str (ch a)) (.str (Str.ofString "L")) O k = k (.bl (!a)) O := by
  unfold qEq
  rw [rs_str, rs_str, ok_ch, ok_L, deq_str, if_neg Bool.false_ne_true, ch_L]
  simp
end
end DL
namespace DL
open PySem PySem.Spec PyProof.Rows L2 Evl
theorem three_of {G : Hp} {K : PySem.W.Frag} {vs : List V} {d e f : D} (h : DnAll K G vs [d, e, f]) : ∃ v u w, vs = [v, u, w] ∧ Dn K G v d ∧ Dn K G u e ∧ Dn K G w f := by
  cases h with
  | cons h t =>
    obtain ⟨u, w, rfl, h2, h3⟩ := two_of t
    exact ⟨_, _, _, rfl, h, h2, h3⟩
def dPar3 (i j l : Nat) (t : DA) : DSr := fun E ds O => t ds O fun xs O1 => match xs with
  | [x, y, z] => E.nx (((ds.set i (some x)).set j (some y)).set l (some z)) O1
  | _ => False
section
variable {X : Cx} {W : WX} {ex : EX} {pos : Pos}
theorem ds_par3 (i j l : Nat) {x y z : Str} {a b c : Expr} {ta : DA} {px py pz pt : Pos} {kt k2 pt2} (hN : X.N.Nodup) (ha : DAs X W ex [a, b, c] ta)
    (hp : ∀ {tp : TA}, PA X [a, b, c] tp → PS X (.Assign [.Tuple [.Name x px, .Name y py, .Name z pz] kt pt] (.Tuple [a, b, c] k2 pt2) pos) (tPar3 i j l tp)) :
    DSt X W ex (.Assign [.Tuple [.Name x px, .Name y py, .Name z pz] kt pt] (.Tuple [a, b, c] k2 pt2) pos) (dPar3 i j l ta) := by
  obtain ⟨tp, p1, l1⟩ := ha
  refine ⟨_, hp p1, fun E ds O h G H σ D ok rp x c => l1 ds O _ h G H σ _ ok rp x fun xs O1 vs G1 H1 h1 s1 ok1 d1 => ?_⟩
  dsimp only at h1
  split at h1
  · obtain ⟨v, u, w, rfl, hv, hu, hw⟩ := three_of d1
    exact ⟨v, u, w, rfl, c.nx _ O1 _ G1 H1 h1 s1 ok1 ((((rp.mono s1.g).set hv i).set hu j).set hw l)⟩
  · exact h1.elim
end
section
variable {g : DG} {tb : DSr} {E : DEnds} {ds : Ds} {O : Ow} {k : DK}
theorem loopX_rng (m : Nat) (De : Nat → Ds → Ow → Prop) (h0 : De 0 ds O)
    (hst : ∀ (i : Nat) ds O, i < m → De i ds O → ∀ R : Ds → Ow → Prop, (∀ ds' O', De (i + 1) ds' O' → R ds' O') → g (.int (i : Int)) ds O fun ds' O' => tb { E with nx := R, ct := R, bk := E.nx } ds' O')
    (hd : ∀ ds O, De m ds O → E.nx ds O) : dForX (List.map (fun i => D.int ((i : Nat) : Int)) (List.range m)) g tb E ds O := by
  refine loopX_map (fun i : Nat => D.int (i : Int)) (List.range m) (fun (_ : Unit) _ => ()) (fun i _ => De i) () h0 (fun i s x ds O hx h R hR => ?_) (fun ds O h => hd ds O ?_)
  · obtain ⟨l, e⟩ := List.getElem?_eq_some_iff.mp hx
    rw [List.length_range] at l
    rw [List.getElem_range] at e
    rw [← e]
    exact hst i ds O l h R hR
  · rw [List.length_range] at h
    exact h
theorem at2 {x y : D} {b : Bool} (h : ∀ j, (j = x ∨ j = y) → k j O) : atK [x, y] (if b = true then 1 else 0) O k := by
  cases b with
  | true =>
    rw [if_pos rfl, atK1]
    exact h y (.inr rfl)
  | false =>
    rw [if_neg (by decide), atK0]
    exact h x (.inl rfl)
theorem atN {xs : List D} {i : Int} (P : D → Prop) (h0 : 0 ≤ i) (h1 : i < xs.length) (hP : ∀ x ∈ xs, P x) (h : ∀ x, P x → k x O) : atK xs i O k := by
  have l : i.toNat < xs.length := by omega
  rw [atK_of (atI_int h0 (List.getElem?_eq_getElem l))]
  exact h _ (hP _ (List.getElem_mem l))
theorem qisn_t {a : Bool} : qIs true (.bl a) (.bl true) O k = k (.bl (!a)) O := by cases a <;> rfl
theorem qisn_f {a : Bool} : qIs true (.bl a) (.bl false) O k = k (.bl a) O := by cases a <;> rfl
theorem qis_t {a : Bool} : qIs false (.bl a) (.bl true) O k = k (.bl a) O := by cases a <;> rfl
theorem qis_f {a : Bool} : qIs false (.bl a) (.bl false) O k = k (.bl (!a)) O := by cases a <;> rfl
theorem qis_nn : qIs false .non .non O k = k (.bl true) O := rfl
theorem qisn_nn : qIs true .non .non O k = k (.bl false) O := rfl
theorem qis_in {i : Int} : qIs false (.int i) .non O k = k (.bl false) O := rfl
theorem qisn_in {i : Int} : qIs true (.int i) .non O k = k (.bl true) O := rfl
theorem qis_sn {i : Str} : qIs false (.str i) .non O k = k (.bl false) O := rfl
theorem qisn_sn {i : Str} : qIs true (.str i) .non O k = k (.bl true) O := rfl
theorem qn_chD {a : Bool} : qEq true (.str (ch a)) (.str (Str.ofString "D")) O k = k (.bl (!a)) O := by
  unfold qEq
  rw [rs_str, rs_str, ok_ch, ok_D, deq_str, if_pos rfl, ch_D]
  simp
theorem qn_chL {a : Bool} : qEq true (.str (ch a)) (.str (Str.ofString "L")) O k = k (.bl a) O := by
  unfold qEq
  rw [rs_str, rs_str, ok_ch, ok_L, deq_str, if_pos rfl, ch_L]
  simp
end
end DL
namespace DL
open PySem PySem.Spec PyProof.Rows L2 Evl
/-! ### promises that hold where no repr is under way -/
section
variable (P : Program) (w : World) (K : PySem.W.Frag) (mg : Str → Option Value)
variable (base : Heap) (CX : CXT) (k : Nat) (f : Addr) (fd : FuncData) (ps : List Str) (sp : Sp)
structure FnG : Prop where
  lenG : ∀ {vs H Q E}, sp vs H Q E → vs.length = ps.length
  runG : ∀ {A outer s H args us vs Q E}, A.guards = some [] → Room k A →
    Env0 P w K mg base A outer s H → BindsTo s fd args (ps.zip us) → Vals vs us →
    sp vs H Q E → codeAny (model P w) A (.call (.ref f) args) (CR CX outer P w H s Q E) s
end
section
variable {P : Program} {w : World} {K : PySem.W.Frag} {mg mb : Str → Option Value}
variable {base : Heap} {CX : CXT} {k : Nat} {f : Addr} {fd : FuncData} {ps : List Str} {sp : Sp}
theorem FnG.of (F : FnOk P w K mg base CX k f fd ps sp) : FnG P w K mg base CX k f fd ps sp :=
  ⟨fun h => F.len _ _ _ _ h, fun _ r e b v h => F.run _ _ _ _ _ _ _ _ _ r e b v h⟩
theorem FnG.mono {j : Nat} (F : FnG P w K mg base CX j f fd ps sp) (h : j ≤ k) : FnG P w K mg base CX k f fd ps sp :=
  ⟨F.lenG, fun g r e b v h' => F.runG g (r.mono h) e b v h'⟩
section
variable {name qual : Str} {params : Arguments} {body : List Stmt} {scope : Scope}
variable {dV kV doc pm cdv ct oc : Value} {an od : Option Addr} {osl : Array (Option Value)} {N : List Str}
/-- a def by its body -/
theorem fnG_of (lk : K.lookup f = some ⟨oc, od, .func (PySem.W.fnOf name qual params body scope dV kV doc pm an cdv ct), osl⟩)
    (hc : PySem.W.codeIn K cdv qual = true) (Sc : FnScope N ps scope)
    (hl : ∀ vs H Q E, sp vs H Q E → vs.length = ps.length)
    (hb : ∀ (A : Around) (outer : List Env) (s : Shared) (H : Hp) (vs : List V) (Q : VK) (E : XK), A.guards = some [] →
      Room k (A.deeper (envOfC qual scope s.heap.objs.size f cdv)) → sp vs H Q E →
      ∃ t, PSs (cxOf CX P w K mg base N qual scope f cdv A outer s H E) body t ∧
        t { nx := fun _ H' => Q .non H', rt := Q } (start N vs) H) :
    FnG P w K mg base CX (k + 1) f (PySem.W.fnOf name qual params body scope dV kV doc pm an cdv ct) ps sp := by
  constructor
  · exact fun h => hl _ _ _ _ h
  · intro A outer s H args us vs Q E gd room en bnd rel prom
    have up : ∀ b o, base.get? b = some o → s.heap.get? b = some o := fun b o e => (en.bs b o e).1
    have inK : K.In s.heap := en.mod.kin.keeps up
    have kinds : ∀ y ∈ ps.zip us, scope.names.lookup y.1 = some .local ∨
        (scope.names.lookup y.1 = some .cell ∧ ((cellsFrom (s.heap.objs.size + 1) scope.names []).lookup y.1).isSome = true) := by
      rintro ⟨nm, val⟩ hy
      exact (Sc.par nm (List.of_mem_zip hy).1).imp id fun c => ⟨c, PySem.W.cellsFrom_some _ _ _ (.inl c)⟩
    have code := PySem.W.codeRec_of inK hc
    have fn := inK _ _ lk
    refine codeAny_call_function room.depth fn rfl
      Sc.co Sc.gen rfl code (bnd _ _ _ _ ?_)
    · skip
      refine wpAny_newFunctionEnv_cells Sc.kind kinds ?_
      rintro env rfl s1 inCall
      refine ⟨(en.mod.nolimit.keeps up).keeps inCall.toInCall.keep, codeAny_func ?_⟩
      obtain ⟨t, run, start⟩ := hb A outer s H vs Q E gd (room.deeper _) prom
      refine wpAny_mono (run.run [] s1 _ H _ (inv_start Sc room.hd en (hl _ _ _ _ prom) rel inCall) start) ?_ fun _ _ x => x
      intro fl s' hs
      cases fl with
      | ret u =>
        obtain ⟨v, _, H', J, rv, q⟩ := hs
        exact ⟨v, H', J.os, J.bare, J.base, J.hok, rv, q⟩
      | next =>
        obtain ⟨_, H', J, q⟩ := hs
        exact ⟨.non, H', J.os, J.bare, J.base, J.hok, rfl, q⟩
      | brk => exact hs.elim fun _ h => h.elim fun _ h => h.2.elim
      | cont => exact hs.elim fun _ h => h.elim fun _ h => h.2.elim
end
/-- the law's call, from the heap ahead of it -/
theorem callG {fa a : Addr} {x : Str} {s₁ : Shared} {vs : List Value} {ns : List Int}
    (inK : K.In s₁.heap) (nsM : s₁.heap.Ns mainGlobals mg) (nsB : s₁.heap.Ns builtinsNs mb)
    (bb : ∀ x : Str, x ≠ "__name__" → mb x = bootBuiltins x) (lim : s₁.heap.NoLimit) (ng : s₁.gens = #[])
    (ho : s₁.heap.get? a = some { cls := .type "list", data := .seq vs.toArray }) (hi : IntsAre vs ns)
    (hl : ns.length ≤ sizeLine) (room : Room k callerA)
    (F : ∀ base : Heap, K.In base → base.Ns mainGlobals mg → FnG P w K mg base CX k fa fd [x] sp)
    (bnd : ∀ (s : Shared) (u : Value), BindsTo s fd ⟨[u], []⟩ [(x, u)])
    (prom : ∀ H : Hp, Only H → SqL K H a (ns.map V.int) → sp [.ref a] H (fun v _ => v = .bl true) fun _ _ _ => False)
    (noE : ∀ H e s', CX [] H s₁ (fun _ _ _ => False) e s' → False) :
    codeAny (model P w) callerA (.call (.ref fa) ⟨[.ref a], []⟩)
      (fun r s' => r = .ok (.ret (.bool true)) ∧ OldK s₁.heap s'.heap ∧ s'.os = s₁.os ∧ AllBare s'.gens) s₁ := by
  have rel := vals_ints hi
  have sz := hi.length
  have go : ∀ H : Hp, Only H → SqL K H a (ns.map V.int) → HOk P w H s₁.heap →
      (∀ b, b ≠ a → H b = none) → (H a = none ∨ K.lookup a = none) →
      codeAny (model P w) callerA (.call (.ref fa) ⟨[.ref a], []⟩)
        (fun r s' => r = .ok (.ret (.bool true)) ∧ OldK s₁.heap s'.heap ∧ s'.os = s₁.os ∧ AllBare s'.gens) s₁ := by
    intro H only sq okH off onA
    have free : ∀ {b : Addr} {o : Obj}, s₁.heap.get? b = some o → (b = a → H a = none) → (hidT s₁.heap H).get? b = some o := by
      intro b o e h
      by_cases z : b = a
      · subst z
        exact hidT_get e (h rfl)
      · exact hidT_get e (off b z)
    have dicts : ∀ {b : Addr} {m : Str → Option Value}, s₁.heap.Ns b m → (hidT s₁.heap H).Ns b m := by
      rintro b m ⟨o, es, ep, e, d, r⟩
      refine ⟨o, es, ep, free e fun z => ?_, d, r⟩
      subst z
      rw [ho] at e
      cases e
      have d' : Data.seq vs.toArray _ = Data.dict es ep := d
      cases d'
    have inB : K.In (hidT s₁.heap H) := by
      intro b o e
      refine free (inK b o e) fun z => ?_
      subst z
      exact onA.resolve_right fun n => by rw [n] at e; cases e
    have md : Mod K mg (hidT s₁.heap H) := by
      obtain ⟨mc, l1, l2⟩ := lim
      exact ⟨inB, dicts nsM, ⟨mb, dicts nsB, bb⟩, mc, dicts l1, l2⟩
    have en : Env0 P w K mg (hidT s₁.heap H) callerA [] s₁ H := by
      refine ⟨rfl, md, fun b o e => of_hidT e, Nat.le_of_eq (hidT_size _ _), trivial, ?_, okH, .of_eq ng⟩
      intro b hb
      cases (show b ∈ ([] : List Addr) from hb)
    have rels : Vals [V.ref a] [Value.ref a] := .cons rfl .nil
    have res := (F _ inB (dicts nsM)).runG (us := [Value.ref a]) rfl room en
      (bnd s₁ (.ref a)) rels (prom H only sq)
    refine codeAny_mono res ?_
    intro r s' h
    cases r with
    | error e => exact False.elim (noE H e s' h)
    | ok fl =>
      cases fl with
      | ret u =>
        obtain ⟨v, H', os, bare, un, okH', rv, q⟩ := h
        cases (show v = .bl true from q)
        cases (show u = Value.bool true from rv)
        refine ⟨rfl, OldK.of_keep ?_, os, bare⟩
        intro b o e
        rcases only b with z | ⟨ob, xs, z⟩
        · refine un.keep b o e z ?_ List.not_mem_nil
          intro m
          cases (show b ∈ ([] : List Addr) from m)
        · have e1 := (okH b _ z).1
          have e2 := (okH' b _ (un.frzs b ob _ z)).1
          rw [e] at e1
          cases e1
          exact e2
      | _ => exact False.elim h
  cases lk : K.lookup a with
  | some o =>
    have e := inK a o lk
    rw [ho] at e
    cases e
    refine go (fun _ => none) (fun _ => .inl rfl) (.inr ?_) (fun _ _ h => by cases h) (fun _ _ => rfl) (.inl rfl)
    refine ⟨_, vs.toArray, _, lk, rfl, rfl, rfl, ?_, by simpa using rel⟩
    rw [List.size_toArray, sz]
    exact hl
  | none =>
    let Ha : Hp := fun b => if b = a then some (.frz { cls := .type "list", data := .seq vs.toArray } (.lst (ns.map V.int))) else none
    have at_ : Ha a = some (.frz { cls := .type "list", data := .seq vs.toArray } (.lst (ns.map V.int))) := if_pos rfl
    have off : ∀ b, b ≠ a → Ha b = none := fun b z => if_neg z
    refine go Ha (fun b => ?_) (.inl (.inr ⟨_, at_⟩)) (fun b u e => ?_) off (.inr lk)
    · by_cases z : b = a
      · subst z
        exact .inr ⟨_, _, at_⟩
      · exact .inl (off b z)
    · by_cases z : b = a
      · subst z
        rw [at_] at e
        cases e
        exact ⟨ho, by rw [List.length_map]; exact hl, vs, _, rel, ho⟩
      · rw [off b z] at e
        cases e
end
/-- what the top leaves, from the law's promise -/
theorem walkG {l : PySem.W.OpenLaw} {n k : Nat} {q : Program} {loose : List Str} {x : Str} {d : DefRec}
    {XP : (Str → Option Value) → Heap → Prop} {YP : World → Heap → Prop}
    {K : Params → PySem.W.Frag} {CX : World → CXT} {sp : World → Sp}
    (hn : l.most = some n) (hz : n ≤ sizeLine) (hd : d.params.defaults = []) (room : Room k callerA)
    (hY : ∀ (w : World) (h : Heap), YP w h → (K w.params).In h)
    (F : ∀ (w : World) (mg : Str → Option Value) (fa : Addr) (h : Heap), (K w.params).In h →
      h.Ns mainGlobals mg → mg d.name = some (.ref fa) →
      ∃ fd : FuncData, (∀ (s : Shared) (u : Value), BindsTo s fd ⟨[u], []⟩ [(x, u)]) ∧
        ∀ base : Heap, (K w.params).In base → base.Ns mainGlobals mg → FnG l.prog w (K w.params) mg base (CX w) k fa fd [x] (sp w))
    (hs : ∀ (w : World) (H : Hp) (a : Addr) (ns : List Int), ns.length ≤ n → Only H →
      SqL (K w.params) H a (ns.map V.int) → sp w [.ref a] H (fun v _ => v = .bl true) fun _ _ _ => False)
    (hE : ∀ (w : World) (H : Hp) (s : Shared) (e : Value) (s' : Shared), CX w [] H s (fun _ _ _ => False) e s' → False) :
    PySem.W.WalkO q loose XP YP l.row.toRowW d [] (fun f vs => PySem.call f vs) := by
  refine Att.attach_call hn hd ?_
  intro w s₀ s₁ mg mb fa o pm cd doc a vs ns G Y ho hdt hcd hmg hobj hints hlen hg
  obtain ⟨fd, hb, hF⟩ := F w mg fa _ (hY w _ Y) G.T.g hmg
  refine callG (hY w _ Y) G.T.g G.T.b G.T.builtins G.T.nolimit hg hobj hints (Nat.le_trans hlen hz) room hF hb ?_ ?_
  · exact fun H h1 h2 => hs w H a ns hlen h1 h2
  · exact fun H e s' => hE w H s₁ e s'
end DL
namespace DL
open PySem PySem.Spec PyProof.Rows L2 Evl
/-! ### {} and repr -/
def dDic : DT := fun ds O k => ∀ v, k (.obj (.type "dict") v) O
theorem de_dic {X : Cx} {W : WX} {ex : EX} {pos : Pos} : DE X W ex (.Dict [] [] pos) dDic := by
  refine ⟨_, pe_dnewT, fun ds O k h G H σ Q ok rp x c p hp => ?_⟩
  obtain ⟨ok2, s2, e2⟩ := frozen (o := .dT []) ok hp
  exact c _ O _ _ _ (h _) s2 ok2 (.obj (.x (.base (.dT upd_same))) fun _ => ⟨p, rfl, upd_same⟩)
section
variable (K : PySem.W.Frag) (H : Hp)
mutual
/-- what repr sees -/
inductive Sw : V → PyData → Prop
  | non : Sw .non .none
  | bl (b : Bool) : Sw (.bl b) (.bool b)
  | int (i : Int) : Sw (.int i) (.int i)
  | str (x : Str) : Sw (.str x) (.str x)
  | lst {a vs ds} : SqL K H a vs → SwAll vs ds → Sw (.ref a) (.list ds)
  | tup {a vs ds} : SqT K H a vs → SwAll vs ds → Sw (.ref a) (.tuple ds)
  | dic {a} : H a = some (.dT []) → Sw (.ref a) (.dict [])
inductive SwAll : List V → List PyData → Prop
  | nil : SwAll [] []
  | cons {v vs d ds} : Sw v d → SwAll vs ds → SwAll (v :: vs) (d :: ds)
end
end
mutual
/-- no list -/
def noL : PyData → Bool
  | .list _ => false
  | .tuple xs => noLs xs
  | .dict kvs => kvs.isEmpty
  | _ => true
def noLs : List PyData → Bool
  | [] => true
  | x :: r => noL x && noLs r
end
section
variable {X : Cx} {pins : List (Addr × Obj)} {σ : L2.St} {H : Hp} {s : Shared}
mutual
theorem Sw.reads (I : Inv X pins σ H s) : ∀ {v : V} {d : PyData} {u : Value}, Sw X.K H v d → RelV v u → ∃ as, Reads s.heap u d as ∧ (noL d = true → sysModules ∉ as)
  | _, _, _, .non, r => by
    cases r
    exact ⟨_, .none, fun _ => List.not_mem_nil⟩
  | _, _, _, .bl b, r => by
    cases r
    exact ⟨_, .bool b, fun _ => List.not_mem_nil⟩
  | _, _, _, .int i, r => by
    obtain ⟨t, rfl⟩ := r
    exact ⟨_, .int i t, fun _ => List.not_mem_nil⟩
  | _, _, _, .str i, r => by
    obtain ⟨t, rfl⟩ := r
    exact ⟨_, .str i t, fun _ => List.not_mem_nil⟩
  | _, _, _, .lst h a, r => by
    cases r
    obtain ⟨its, rv, pl, _⟩ := I.list h
    obtain ⟨o, n, e1, e2, _, e3⟩ := pl
    obtain ⟨as, rd, _⟩ := SwAll.reads I a rv
    exact ⟨_, .list e1 e2 e3 rd, fun z => by unfold noL at z; cases z⟩
  | _, _, _, .tup h a, r => by
    cases r
    obtain ⟨its, rv, pl, _⟩ := I.tuple h
    obtain ⟨o, e1, e2, n, e3⟩ := pl
    obtain ⟨as, rd, ns⟩ := SwAll.reads I a rv
    exact ⟨_, .tuple e1 e2 e3 rd, fun z => ns (by unfold noL at z; exact z)⟩
  | _, _, _, .dic h, r => by
    cases r
    rename_i a
    obtain ⟨_, sm, xs, px, o, es, ep, e1, e2, e3, e4, _⟩ := (show ObjOk X.prog X.w H s.heap a (.dT []) from I.hok a _ h)
    cases px
    have en : es = #[] := by
      obtain ⟨l⟩ := es
      have : l = [] := e4
      rw [this]
    subst en
    refine ⟨_, .dict (kvs := []) (as := []) (bs := []) e1 e2.1 e3 .nil .nil, fun _ m => ?_⟩
    rcases List.mem_cons.mp m with z | z
    · rw [z, beq_self_eq_true] at sm
      cases sm
    · cases z
theorem SwAll.reads (I : Inv X pins σ H s) : ∀ {vs : List V} {ds : List PyData} {us : List Value}, SwAll X.K H vs ds → Vals vs us → ∃ as, ReadsAll s.heap us ds as ∧ (noLs ds = true → sysModules ∉ as)
  | _, _, _, .nil, r => by
    cases r
    exact ⟨_, .nil, fun _ => List.not_mem_nil⟩
  | _, _, _, .cons h t, r => by
    cases r with
    | cons r1 r2 =>
      obtain ⟨as, p1, n1⟩ := Sw.reads I h r1
      obtain ⟨bs, p2, n2⟩ := SwAll.reads I t r2
      refine ⟨_, .cons p1 p2, fun z m => ?_⟩
      unfold noLs at z
      rw [Bool.and_eq_true] at z
      rcases List.mem_append.mp m with m | m
      · exact n1 z.1 m
      · exact n2 z.2 m
end
/-- what repr may be asked of -/
structure Shw (d : PyData) : Prop where
  sh : d.showable = true
  dp : d.depth ≤ 60
  sz : d.shown.length ≤ sizeLine
mutual
theorem Sw.rk (I : Inv X pins σ H s) : ∀ {v : V} {d : PyData} {u : Value}, Sw X.K H v d → RelV v u → d.showable = true → d.shown.length ≤ sizeLine →
    ∃ bs as, Reads s.heap u d as ∧ ReadAtMost s.heap d.depth bs ∧ ReprK X.prog X.w bs s.heap d.depth u d.shown
  | _, _, _, .non, r, hs, hz => by
    cases r
    obtain ⟨bs, h1, h2⟩ := ReprK.of_reads (h₀ := s.heap) .none hs (fun z => by cases z) hz
    exact ⟨bs, _, .none, h1, h2⟩
  | _, _, _, .bl b, r, hs, hz => by
    cases r
    obtain ⟨bs, h1, h2⟩ := ReprK.of_reads (h₀ := s.heap) (.bool b) hs (fun z => by cases z) hz
    exact ⟨bs, _, .bool b, h1, h2⟩
  | _, _, _, .int i, r, hs, hz => by
    obtain ⟨t, rfl⟩ := r
    obtain ⟨bs, h1, h2⟩ := ReprK.of_reads (h₀ := s.heap) (.int i t) hs (fun z => by cases z) hz
    exact ⟨bs, _, .int i t, h1, h2⟩
  | _, _, _, .str x, r, hs, hz => by
    obtain ⟨t, rfl⟩ := r
    obtain ⟨bs, h1, h2⟩ := ReprK.of_reads (h₀ := s.heap) (.str x t) hs (fun z => by cases z) hz
    exact ⟨bs, _, .str x t, h1, h2⟩
  | _, _, _, .dic h, r, hs, hz => by
    obtain ⟨as, rd, ns⟩ := Sw.reads I (.dic h) r
    obtain ⟨bs, h1, h2⟩ := ReprK.of_reads rd hs (fun _ => ns rfl) hz
    exact ⟨bs, as, rd, h1, h2⟩
  | _, _, _, .lst (ds := ds) h a, r, hs, hz => by
    cases r
    obtain ⟨its, rv, pl, _⟩ := I.list h
    obtain ⟨o, n, e1, e2, _, e3⟩ := pl
    have hz' : (listText (PyData.shownAll ds)).length ≤ sizeLine := by
      unfold PyData.shown at hz
      exact hz
    have hs' : PyData.showableAll ds = true := by
      unfold PyData.showable at hs
      exact hs
    obtain ⟨bs, as, ra, hb, hk⟩ := SwAll.rk I a rv hs' fun t ht => Nat.le_trans (listText_mem_le ht) hz'
    have rd := Reads.list e1 e2 e3 ra
    have lt : PyData.depthAll ds < (PyData.list ds).depth := by
      unfold PyData.depth
      omega
    have off := not_mem_of_deeper rd lt hb
    refine ⟨_ :: bs, _, rd, ReadAtMost.cons rd (Nat.le_of_lt lt) hb, ?_⟩
    unfold PyData.depth PyData.shown
    cases its with
    | nil =>
      cases ra
      unfold PyData.shownAll
      rw [listText_nil]
      exact ReprK.listEmpty e1 e2 e3
    | cons x l =>
      refine ReprK.list e1 e2 e3 off ?_ fun i y e => hk.item i y ?_
      · have q := hk.length_eq
        simpa using q
      · simpa using e
  | _, _, _, .tup (ds := ds) h a, r, hs, hz => by
    cases r
    obtain ⟨its, rv, pl, _⟩ := I.tuple h
    obtain ⟨o, e1, e2, n, e3⟩ := pl
    have hz' : (tupleText (PyData.shownAll ds)).length ≤ sizeLine := by
      unfold PyData.shown at hz
      exact hz
    have hs' : PyData.showableAll ds = true := by
      unfold PyData.showable at hs
      exact hs
    obtain ⟨bs, as, ra, hb, hk⟩ := SwAll.rk I a rv hs' fun t ht => Nat.le_trans (tupleText_mem_le ht) hz'
    have rd := Reads.tuple e1 e2 e3 ra
    have lt : PyData.depthAll ds < (PyData.tuple ds).depth := by
      unfold PyData.depth
      omega
    have off := not_mem_of_deeper rd lt hb
    refine ⟨_ :: bs, _, rd, ReadAtMost.cons rd (Nat.le_of_lt lt) hb, ?_⟩
    unfold PyData.depth PyData.shown
    exact ReprK.tuple e1 e2 e3 off hk
theorem SwAll.rk (I : Inv X pins σ H s) : ∀ {vs : List V} {ds : List PyData} {us : List Value}, SwAll X.K H vs ds → Vals vs us → PyData.showableAll ds = true → (∀ t ∈ PyData.shownAll ds, t.length ≤ sizeLine) →
    ∃ bs as, ReadsAll s.heap us ds as ∧ ReadAtMost s.heap (PyData.depthAll ds) bs ∧ ReprAllK X.prog X.w bs s.heap (PyData.depthAll ds) us (PyData.shownAll ds)
  | _, _, _, .nil, r, _, _ => by
    cases r
    refine ⟨[], _, .nil, (fun _ h => by cases h), ?_⟩
    unfold PyData.shownAll
    exact .nil
  | _, _, _, .cons (d := d) (ds := ds) h t, r, hs, hz => by
    cases r with
    | cons r1 r2 =>
      unfold PyData.showableAll at hs
      rw [Bool.and_eq_true] at hs
      have mem : ∀ x, x = d.shown ∨ x ∈ PyData.shownAll ds → x.length ≤ sizeLine := fun x hx => hz x (by
        unfold PyData.shownAll
        rcases hx with rfl | hx
        · exact List.mem_cons_self
        · exact List.mem_cons_of_mem _ hx)
      obtain ⟨b1, a1, p1, q1, k1⟩ := Sw.rk I h r1 hs.1 (mem _ (.inl rfl))
      obtain ⟨b2, a2, p2, q2, k2⟩ := SwAll.rk I t r2 hs.2 fun x hx => mem x (.inr hx)
      have m1 := Nat.le_max_left d.depth (PyData.depthAll ds)
      have m2 := Nat.le_max_right d.depth (PyData.depthAll ds)
      refine ⟨b1 ++ b2, _, .cons p1 p2, ?_, ?_⟩
      · unfold PyData.depthAll
        exact (q1.mono m1).append (q2.mono m2)
      · unfold PyData.depthAll PyData.shownAll
        refine .cons ?_ (k2.more_le (fun b hb => List.mem_append_right _ hb) m2)
        exact (k1.more fun b hb => List.mem_append_left _ hb).level_le m1
end
theorem call_reprD (gd : X.A.guards = some []) (hu : X.A.units + 64 < cLine) : CallR X (.builtin "repr") (fun xs H Q => ∃ a d, xs = [.ref a] ∧ Sw X.K H (.ref a) d ∧ Shw d ∧ Q (.str d.shown) H) := by
  intro pins s σ H xs us Q I r h
  obtain ⟨a, d, rfl, sw, ok, q⟩ := h
  obtain ⟨u, rfl, ru⟩ := vals1 r
  cases (show u = Value.ref a from ru)
  have dp := ok.dp
  have fin : ∀ (h' : Heap) (u : Tok) (tk : Nat), (∀ b o, s.heap.get? b = some o → h'.get? b = some o) → EP X pins σ Q (.str d.shown u) { s with heap := h', toks := tk } := fun h' u tk hk => ⟨.str d.shown, H, I.kept hk, ⟨u, rfl⟩, q⟩
  cases sw with
  | @lst _ vs ds h a =>
    obtain ⟨its, rv, pl, _⟩ := I.list h
    obtain ⟨o, n, e1, e2, _, e3⟩ := pl
    have sz : (listText (PyData.shownAll ds)).length ≤ sizeLine := by
      have z := ok.sz
      unfold PyData.shown at z
      exact z
    have sh : PyData.showableAll ds = true := by
      have z := ok.sh
      unfold PyData.showable at z
      exact z
    obtain ⟨bs, as, ra, hb, hk⟩ := SwAll.rk I a rv sh fun t ht => Nat.le_trans (listText_mem_le ht) sz
    have rd := Reads.list e1 e2 e3 ra
    have lt : PyData.depthAll ds < (PyData.list ds).depth := by
      unfold PyData.depth
      omega
    have off := not_mem_of_deeper rd lt hb
    have d1 : PyData.depthAll ds ≤ 60 := by omega
    unfold PyData.shown at fin
    cases its with
    | nil =>
      cases ra
      unfold PyData.shownAll at fin
      rw [listText_nil] at fin
      refine call_repr_slot (by omega) ⟨o, e1, e2⟩ PySem.F.slot_list_repr.toG ?_
      exact call_list_repr_empty ⟨o, e1, e2⟩ e1 e3 ⟨_, _, rfl, fin s.heap _ _ fun _ _ e => e⟩
    | cons x l =>
      refine call_repr_slot (by omega) ⟨o, e1, e2⟩ PySem.F.slot_list_repr.toG ?_
      refine call_list_reprK e1 e2 e3 off ?_ (fun i y e => hk.item i y ?_) gd (fun b _ => Clear.nil b) ?_ (fun b o e => e) (fun h' u tk hk => ⟨_, _, rfl, fin h' u tk hk⟩) sz
      · have q := hk.length_eq
        simpa using q
      · simpa using e
      · show X.A.units + 1 + (PyData.depthAll ds + 1) < cLine
        omega
  | @tup _ vs ds h a =>
    obtain ⟨its, rv, pl, _⟩ := I.tuple h
    obtain ⟨o, e1, e2, n, e3⟩ := pl
    have sz : (tupleText (PyData.shownAll ds)).length ≤ sizeLine := by
      have z := ok.sz
      unfold PyData.shown at z
      exact z
    have sh : PyData.showableAll ds = true := by
      have z := ok.sh
      unfold PyData.showable at z
      exact z
    obtain ⟨bs, as, ra, hb, hk⟩ := SwAll.rk I a rv sh fun t ht => Nat.le_trans (tupleText_mem_le ht) sz
    have rd := Reads.tuple e1 e2 e3 ra
    have lt : PyData.depthAll ds < (PyData.tuple ds).depth := by
      unfold PyData.depth
      omega
    have off := not_mem_of_deeper rd lt hb
    have d1 : PyData.depthAll ds ≤ 60 := by omega
    unfold PyData.shown at fin
    refine call_repr_slot (by omega) ⟨o, e1, e2⟩ PySem.F.slot_tuple_repr ?_
    refine call_tuple_reprK e1 e2 e3 off hk gd (fun b _ => Clear.nil b) ?_ (fun b o e => e) (fun h' u tk hk => ⟨_, _, rfl, fin h' u tk hk⟩) sz
    show X.A.units + 1 + (PyData.depthAll ds + 1) < cLine
    omega
  | dic h =>
    obtain ⟨as, rd, ns⟩ := Sw.reads I (.dic h) ru
    exact repr_of_reads' rd ok.sh (fun _ => ns rfl) gd (by omega) (fun b o e => e) (fun h' u tk hk => fin h' u tk hk) ok.sz
end
mutual
def D.rp : D → Bool
  | .lst xs => D.rps xs
  | .tup xs => D.rps xs
  | .obj (.type t) _ => t == "dict"
  | .obj _ _ => false
  | .opq _ => false
  | .scr _ => false
  | _ => true
def D.rps : List D → Bool
  | [] => true
  | x :: xs => x.rp && D.rps xs
end
section
variable {K : PySem.W.Frag} {G H : Hp}
mutual
theorem Dn.sw (e : Ex G H) : ∀ {v : V} {d : D}, Dn K G v d → d.rp = true → Sw K H v d.py
  | _, _, .non, _ => .non
  | _, _, .bl b, _ => .bl b
  | _, _, .int b, _ => .int b
  | _, _, .str b, _ => .str b
  | _, _, .lst h a, p => by
    unfold D.rp at p
    unfold D.py
    exact .lst (SqL.of (e _ _ h)) (DnAll.sw e a p)
  | _, _, .tup h a, p => by
    unfold D.rp at p
    unfold D.py
    exact .tup (ex_t e h) (DnAll.sw e a p)
  | _, _, .scr _, p => by unfold D.rp at p; cases p
  | _, _, .obj (t := t) _ i, p => by
    unfold D.rp at p
    split at p
    · rename_i heq
      cases heq
    · rename_i heq
      cases heq
    · rename_i t' v' heq
      injection heq with e1 e2
      obtain ⟨a, rfl, ea⟩ := i (by rw [e1, eq_of_beq p])
      unfold D.py
      exact .dic (e _ _ ea)
    all_goals first
      | (rename_i h4 _ _; exact (h4 _ _ rfl).elim)
      | (cases p; done)
      | (rename_i heq; cases heq; done)
  | _, _, .opq _, p => by unfold D.rp at p; cases p
theorem DnAll.sw (e : Ex G H) : ∀ {vs : List V} {xs : List D}, DnAll K G vs xs → D.rps xs = true → SwAll K H vs (D.pyAll xs)
  | _, _, .nil, _ => by
    unfold D.pyAll
    exact .nil
  | _, _, .cons h t, p => by
    unfold D.rps at p
    rw [Bool.and_eq_true] at p
    unfold D.pyAll
    exact .cons (Dn.sw e h p.1) (DnAll.sw e t p.2)
end
/-- repr of a list, a tuple -/
def qRepr : DRC := fun xs O k => match xs with
  | [d] => (match res O d with
    | .lst xs => D.rps xs = true ∧ Shw (D.lst xs).py ∧ k (.str (D.lst xs).py.shown) O
    | .tup xs => D.rps xs = true ∧ Shw (D.tup xs).py ∧ k (.str (D.tup xs).py.shown) O
    | _ => False)
  | _ => False
theorem lc_repr : LiftC K (fun xs H Q => ∃ a d, xs = [.ref a] ∧ Sw K H (.ref a) d ∧ Shw d ∧ Q (.str d.shown) H) qRepr := by
  intro xs O k h G H vs Q ok hx c
  unfold qRepr at h
  split at h
  · obtain ⟨v, rfl, hd⟩ := one_of hx
    split at h
    · rename_i xs e
      obtain ⟨a, ws, rfl, e1, e2⟩ := res_lst ok hd e
      obtain ⟨h1, h2, h3⟩ := h
      refine ⟨a, _, rfl, ?_, h2, c _ O _ G H h3 Stp.refl ok (.str _)⟩
      unfold D.py
      exact .lst (SqL.of e1) (DnAll.sw ok.ex e2 h1)
    · rename_i xs e
      obtain ⟨a, ws, rfl, e1, e2⟩ := res_tup ok hd e
      obtain ⟨h1, h2, h3⟩ := h
      refine ⟨a, _, rfl, ?_, h2, c _ O _ G H h3 Stp.refl ok (.str _)⟩
      unfold D.py
      exact .tup e1 (DnAll.sw ok.ex e2 h1)
    · exact h.elim
  · exact h.elim
end
/-! ### == of texts -/
def qEqS (neg : Bool) : DR2 := fun x y O k => match x, y with
  | .str a, .str b => k (.bl (if neg then !decide (a = b) else decide (a = b))) O
  | _, _ => False
theorem dec_V (a b : Str) : decide (V.str a = V.str b) = decide (a = b) := by
  by_cases e : a = b
  · rw [e, decide_eq_true rfl, decide_eq_true rfl]
  · rw [decide_eq_false e, decide_eq_false fun z => e (by injection z)]
theorem lr_eqS {K : PySem.W.Frag} : LiftR K rEq (qEqS false) := by
  intro x y O k h G H v u Q ok hx hy c
  unfold qEqS at h
  split at h
  · cases hx
    cases hy
    exact ⟨rfl, c _ O _ G H (by rw [dec_V]; exact h) Stp.refl ok (.bl _)⟩
  · exact h.elim
theorem lr_neS {K : PySem.W.Frag} : LiftR K rNe (qEqS true) := by
  intro x y O k h G H v u Q ok hx hy c
  unfold qEqS at h
  split at h
  · cases hx
    cases hy
    exact ⟨rfl, c _ O _ G H (by rw [dec_V]; exact h) Stp.refl ok (.bl _)⟩
  · exact h.elim
section
variable {X : Cx} {W : WX} {ex : EX} {a b : Expr} {t u : DT} {pos : Pos}
theorem de_eqS (ha : DE X W ex a t) (hb : DE X W ex b u) : DE X W ex (.Compare a [.Eq] [b] pos) (dOp (qEqS false) t u) := de_cmp op_eq lr_eqS ha hb (nomark _)
theorem de_neS (ha : DE X W ex a t) (hb : DE X W ex b u) : DE X W ex (.Compare a [.NotEq] [b] pos) (dOp (qEqS true) t u) := de_cmp op_ne lr_neS ha hb (nomark _)
theorem dt_eqS (ha : DE X W ex a t) (hb : DE X W ex b u) : DTe X W ex (.Compare a [.Eq] [b] pos) (dTst (dOp (qEqS false) t u)) := dt_cmp op_eq lr_eqS ha hb (nomark _)
theorem dt_neS (ha : DE X W ex a t) (hb : DE X W ex b u) : DTe X W ex (.Compare a [.NotEq] [b] pos) (dTst (dOp (qEqS true) t u)) := dt_cmp op_ne lr_neS ha hb (nomark _)
end
/-! ### defs where no repr is under way -/
section
variable {P : Program} {w : World} {K : PySem.W.Frag} {mg : Str → Option Value} {base : Heap}
abbrev FnDG (P : Program) (w : World) (K : PySem.W.Frag) (mg : Str → Option Value) (base : Heap) (k : Nat) (f : Addr) (fd : FuncData) (ps : List Str) (S : DSp) : Prop := FnG P w K mg base (L2N.CX P w) k f fd ps (spOf K S)
theorem law_DG {st : Stmt} {f : Addr} {fd : FuncData} {N : List Str} {k : Nat} (F : Fun K "law" "law" st f fd) (Sc : FnScope N ["script"] (defScope st))
    (hb : ∀ (cdv : Value) (A : Around) (outer : List Env) (s : Shared) (H : Hp) (E : XK), A.guards = some [] → Room k (A.deeper (envOfC "law" (defScope st) s.heap.objs.size f cdv)) → ∀ ns : List Int, ns.length ≤ 63 →
      ∃ t, DSs (cxOf CX0 P w K mg base N "law" (defScope st) f cdv A outer s H E).nox NoW NoX (defBody st) t ∧ t ⟨fun _ _ => False, fun d _ => d = .bl true, fun _ _ => False, fun _ _ => False⟩ (startD N [.scr ns]) (fun _ => none)) :
    FnG P w K mg base CX0 (k + 1) f fd ["script"] (spLawD K) := by
  obtain ⟨oc, od, kV, doc, pm, an, cdv, ct, osl, rfl, lk, hc⟩ := F.ex
  refine fnG_of lk hc Sc (fun vs H Q E h => ?_) (fun A outer s H vs Q E gd hr h => ?_)
  · obtain ⟨a, ns, rfl, _⟩ := h
    rfl
  · obtain ⟨a, ns, rfl, hS, hlen, q⟩ := h
    obtain ⟨t, ⟨ts, p, l⟩, ht⟩ := hb cdv A outer s H E gd hr ns hlen
    have d : DnAll K H [V.ref a] [.scr ns] := .cons (.scr hS) .nil
    refine ⟨ts, p.nox, l _ _ _ ht H H (L2.start N [.ref a]) _ ⟨Ex.refl H, fun _ _ z => by cases z⟩ (rep_start d N) (fun y ds O' σ dd G' H' hy _ _ _ _ => False.elim hy) ⟨fun ds O' σ G' H' h' _ _ _ => False.elim h', fun x O' v G' H' h' _ _ hv => ?_, fun ds O' σ G' H' h' _ _ _ => False.elim h', fun ds O' σ G' H' h' _ _ _ => False.elim h'⟩⟩
    subst h'
    cases hv
    exact q H'
end
end DL
namespace DL
open PySem PySem.Spec PyProof.Rows L2 Evl
/-! ### a tuple backwards -/
theorem adj_rev (n : Nat) : Builtin.Slice.sliceAdjust none none (-1) (n : Int) = ((n : Int) - 1, -1) := by
  unfold Builtin.Slice.sliceAdjust
  simp
theorem places_rev (n : Nat) : Builtin.Slice.slicePlaces ((n : Int) - 1) (-1) (-1) = n := by
  unfold Builtin.Slice.slicePlaces
  rw [if_neg (by decide)]
  split
  · simp only [Int.neg_neg, Int.ediv_one]
    omega
  · omega
theorem fm_congr {α β : Type} {f g : α → Option β} : ∀ {l : List α}, (∀ m ∈ l, f m = g m) → l.filterMap f = l.filterMap g
  | [], _ => rfl
  | x :: l, h => by
    have e := fm_congr fun m hm => h m (List.mem_cons_of_mem _ hm)
    rw [List.filterMap_cons, List.filterMap_cons, h x List.mem_cons_self, e]
theorem pick_rev (xs : Array Value) : ((List.range xs.size).filterMap fun (m : Nat) => xs[((xs.size : Int) - 1 + (m : Int) * -1).toNat]?) = xs.toList.reverse := by
  have h1 : ((List.range xs.size).filterMap fun (m : Nat) => xs[((xs.size : Int) - 1 + (m : Int) * -1).toNat]?) = ((List.range xs.size).map fun k => xs.size - 1 - k).filterMap (xs[·]?) := by
    rw [List.filterMap_map]
    refine fm_congr fun m hm => ?_
    have hm' := List.mem_range.mp hm
    show xs[_]? = xs[xs.size - 1 - m]?
    have e : ((xs.size : Int) - 1 + (m : Int) * -1).toNat = xs.size - 1 - m := by omega
    rw [e]
  rw [h1, PySem.W.krv_range, List.filterMap_reverse, PySem.W.krv_all]
section
variable {prog : Program} {w : World} {A : Around} {E : Value → Shared → Prop} {s : Shared}
theorem applied_rev {sl : Addr} {t : Tok} {n : Nat} {Q : Int × Int × Nat → Shared → Prop} (hs : s.heap.IsSliceOf sl .none .none (.int (-1) t))
    (h : Q ((n : Int) - 1, -1, n) s) : wpAny (model prog w) A (Builtin.Slice.sliceApplied (.ref sl) (pure (n : Int))) Q E s := by
  obtain ⟨os, e1, e2, e3⟩ := id hs
  unfold Builtin.Slice.sliceApplied
  unfold Builtin.Slice.sliceFields
  refine wpAny_bind (wpAny_bind (wpAny_field e1 e3 (x := .none) rfl ?_))
  refine wpAny_bind (wpAny_field e1 e3 (x := .none) rfl ?_)
  refine wpAny_bind (wpAny_field e1 e3 (x := .int (-1) t) rfl (wpAny_pure ?_))
  refine wpAny_bind (slicePart_int ?_)
  show wpAny _ _ (if ((-1 : Int) == 0) = true then _ else _) _ _ s
  rw [if_neg (by decide)]
  refine wpAny_bind (slicePart_none ?_)
  refine wpAny_bind (slicePart_none (wpAny_bind (wpAny_pure ?_)))
  show wpAny _ _ (match Builtin.Slice.sliceAdjust none none (-1) (n : Int) with | (lo, hi) => pure (lo, (-1 : Int), Builtin.Slice.slicePlaces lo hi (-1))) _ _ s
  rw [adj_rev n]
  show wpAny _ _ (pure ((n : Int) - 1, (-1 : Int), Builtin.Slice.slicePlaces ((n : Int) - 1) (-1) (-1))) _ _ s
  rw [places_rev]
  exact wpAny_pure h
theorem getItem_rev {t sl : Addr} {items : Array Value} {k : Tok} {Q : Value → Shared → Prop} (tt : IsTup s.heap t items) (hs : s.heap.IsSliceOf sl .none .none (.int (-1) k))
    (h : Q (.ref s.heap.objs.size) { s with heap := s.heap.push { cls := .type "tuple", data := .seq items.toList.reverse.toArray } })
    (hz : items.size ≤ sizeLine) : wpAny (model prog w) A (getItem (.ref t) (.ref sl)) Q E s := by
  have fits : sizeOk (.seq items.toList.reverse.toArray) := by
    show items.toList.reverse.toArray.size ≤ sizeLine
    rw [List.size_toArray, List.length_reverse, Array.length_toList]
    exact hz
  obtain ⟨os, e1, e2, e3⟩ := id hs
  have isS : s.TypeIs (.ref sl) "slice" := ⟨os, e1, e2⟩
  unfold getItem
  try with_reducible refine wpAny_holding ?_
  first | refine wpAny_bind (wpAny_pure ?_) | skip
  refine wpAny_bind (wpAny_sequenceKey tt.typeIs (by decide) ?_)
  refine wpAny_bind (wpAny_callSpecial?_slot (name := Str.ofString "__getitem__") tt.typeIs PyProof.Rows.slot_tuple_getitem ?_)
  refine wpAny_call_entry PyProof.Rows.slot_tuple_getitem tt.typeIs entry_tuple_getitem ?_ (args_tuple_getitem _ _)
  show wpAny _ _ (Builtin.Tuple.tupleItemsOf (.ref t) >>= _) _ _ s
  refine wpAny_bind (tupleItemsOf_ tt (wpAny_bind (wpAny_typeOf isS ?_)))
  rw [if_pos (by decide)]
  refine wpAny_bind (applied_rev hs ?_)
  show wpAny _ _ (if (((items.size : Int) - 1) == 0 && (-1 : Int) == 1 && items.size == items.size) = true then _ else _) _ _ s
  rw [if_neg (by rw [show ((-1 : Int) == 1) = false by decide, Bool.and_false, Bool.false_and]; decide), pick_rev]
  first
    | exact wpAny_bind (m := Builtin.Tuple.tupleExact _) (wpAny_newObj_type (wpAny_pure ⟨_, rfl, wpAny_pure h⟩) fits)
    | exact wpAny_bind (m := Builtin.Tuple.tupleExact _) (wpAny_newObj_type (wpAny_bind (wpAny_pure (wpAny_pure ⟨_, rfl, wpAny_pure h⟩))) fits)
    | exact wpAny_bind (wpAny_bind (m := Builtin.Tuple.tupleExact _) (wpAny_newObj_type (wpAny_pure (wpAny_pure ⟨_, rfl, wpAny_pure h⟩)) fits))
    | exact wpAny_bind (wpAny_bind (m := Builtin.Tuple.tupleExact _) (wpAny_newObj_type (wpAny_pure ⟨_, rfl, wpAny_pure h⟩) fits))
end
section
variable {X : Cx} {W : WX} {ex : EX}
def tRevT (K : PySem.W.Frag) (te : TE) : TE := fun σ H Q => te σ H fun x H1 => ∃ a xs, x = .ref a ∧ SqT K H1 a xs ∧ ∀ p, H1 p = none → Q (.ref p) (upd H1 p (.tup xs.reverse))
theorem pe_revT {e : Expr} {te : TE} {k : Nat} {p1 p2 p3 pos : Pos} (he : PE X e te) : PE X (.Subscript e (.Slice none none (some (.UnaryOp .USub (.Constant (.int 1) k p1) p2)) p3) pos) (tRevT X.K te) := by
  constructor
  intro pins s σ H Q I h
  refine Subscript_ (thn (he.run pins s σ H _ I h) ?_)
  rintro v s1 ⟨x, H1, I1, r1, a, xs, rfl, hx, q⟩
  cases r1
  have st : PO X (some (.UnaryOp .USub (.Constant (.int 1) k p1) p2)) (tPart (tUn (rU fun i => .int (-i)) (tC (.int 1)))) := po_some (pe_un un_neg pe_int)
  refine wpAny_Slice (thn (po_none.run pins s1 σ H1 (fun o H2 => o = none ∧ H2 = H1) I1 ⟨rfl, rfl⟩) ?_)
  rintro vl s2 ⟨l, H2, I2, pl, rfl, rfl⟩
  refine thn (po_none.run pins s2 σ H2 (fun o H3 => o = none ∧ H3 = H2) I2 ⟨rfl, rfl⟩) ?_
  rintro vu s3 ⟨u, H3, I3, pu, rfl, rfl⟩
  refine thn (st.run pins s3 σ H3 (fun o H4 => o = some (-1) ∧ H4 = H3) I3 ⟨1, rfl, -1, rfl, rfl, rfl⟩) ?_
  rintro vs s4 ⟨o, H4, I4, ps, rfl, rfl⟩
  cases pl
  cases pu
  cases ps
  rename_i tk
  have I5 : Inv X pins σ H4 { s4 with heap := s4.heap.push { cls := .type "slice", data := .fields #[.none, .none, .int (-1) tk] } } := I4.kept (t' := s4.toks) fun b ob q => Heap.get?_push_of_some _ q
  obtain ⟨its, r, tt, hz⟩ := I5.tuple hx
  have len := r.length
  show wpAny (model X.prog X.w) X.A (subscriptTail e (.Slice none none (some (.UnaryOp .USub (.Constant (.int 1) k p1) p2)) p3) (.ref a) (.ref s4.heap.objs.size)) (EP X pins σ Q) X.xe _
  refine tail_any (ops := [.ref a, .ref s4.heap.objs.size]) tt.typeIs (PyProof.Rows.slot_tuple_getitem.lookup) ?_ (by with_unfolding_all rfl)
  refine getItem_rev tt (Heap.IsSliceOf.new _ .none .none (.int (-1) tk)) ?_ (by rw [List.size_toArray]; omega)
  refine ⟨.ref _, _, I5.laid (t' := s4.toks) (o := .tup xs.reverse) (fun b ob q => Heap.get?_push_of_some _ q) (Nat.le_refl _) ?_, rfl, q _ (I5.hok.fresh (Nat.le_refl _))⟩
  exact ⟨by rw [List.length_reverse]; exact hz, _, r.reverse, ⟨_, Heap.get?_push_size _ rfl, rfl, _, rfl⟩⟩
def dRevT (t : DT) : DT := fun ds O k => t ds O fun x O1 => match x with
  | .tup xs => k (.tup xs.reverse) O1
  | _ => False
theorem DnAll.app1 {K : PySem.W.Frag} {G : Hp} : ∀ {vs us : List V} {xs ys : List D}, DnAll K G vs xs → DnAll K G us ys → DnAll K G (vs ++ us) (xs ++ ys)
  | _, _, _, _, .nil, h => h
  | _, _, _, _, .cons a b, h => .cons a (DnAll.app1 b h)
theorem DnAll.rev {K : PySem.W.Frag} {G : Hp} : ∀ {vs : List V} {xs : List D}, DnAll K G vs xs → DnAll K G vs.reverse xs.reverse
  | _, _, .nil => .nil
  | _, _, .cons a b => by
    rw [List.reverse_cons, List.reverse_cons]
    exact (DnAll.rev b).app1 (.cons a .nil)
theorem de_revT {e : Expr} {t : DT} {k : Nat} {p1 p2 p3 pos : Pos} (he : DE X W ex e t) : DE X W ex (.Subscript e (.Slice none none (some (.UnaryOp .USub (.Constant (.int 1) k p1) p2)) p3) pos) (dRevT t) := by
  obtain ⟨ta, h1, l1⟩ := he
  refine ⟨_, pe_revT h1, fun ds O k h G H σ Q ok rp x c => l1 ds O _ h G H σ _ ok rp x fun d O1 v G1 H1 h1 s1 ok1 d1 => ?_⟩
  dsimp only at h1
  split at h1
  · cases d1 with
    | tup t1 t2 =>
      refine ⟨_, _, rfl, ex_t ok1.ex t1, fun p hp => ?_⟩
      obtain ⟨ok2, s2, e2⟩ := frozen (o := .tup _) ok1 hp
      exact c _ O1 _ _ _ h1 (s1.trans s2) ok2 (.tup (.inl (.inl upd_same)) (t2.rev.mono e2))
  · exact h1.elim
end
end DL
namespace DL
open PySem PySem.Spec PyProof.Rows L2 Evl
/-! ### small data -/
structure Sml (W Dp : Nat) (d : PyData) : Prop where
  sh : d.showable = true
  lv : d.leavesShort 64 = true
  wt : d.weight ≤ W
  dp : d.depth ≤ Dp
theorem Sml.mono {W W' A B : Nat} {d : PyData} (h : Sml W A d) (a : W ≤ W') (b : A ≤ B) : Sml W' B d := ⟨h.sh, h.lv, Nat.le_trans h.wt a, Nat.le_trans h.dp b⟩
theorem sml_non : Sml 0 0 .none := ⟨rfl, rfl, Nat.le_refl _, Nat.le_refl _⟩
theorem sml_bl (b : Bool) : Sml 0 0 (.bool b) := ⟨rfl, rfl, Nat.le_refl _, Nat.le_refl _⟩
theorem sml_dic : Sml 0 1 (.dict []) := ⟨rfl, rfl, Nat.le_refl _, Nat.le_refl _⟩
theorem sml_int {i : Int} (h : i.natAbs < 10 ^ 60) : Sml 200 0 (.int i) := by
  have b : i.natAbs < 2 ^ 200 := Nat.lt_of_lt_of_le h (by decide)
  have lg : i.natAbs.log2 < 200 := PySem.Flt.log2_lt_of (by decide) b
  refine ⟨?_, ?_, ?_, Nat.le_refl _⟩
  · unfold PyData.showable
    exact decide_eq_true (by omega)
  · unfold PyData.leavesShort
    have e := int_text_length_le10 (k := 60) (by decide) h
    refine decide_eq_true ?_
    show (Str.ofString (toString i)).length ≤ 64
    rw [PySem.ofString_length]
    omega
  · unfold PyData.weight
    split <;> omega
theorem sml_str {x : Str} (h : (x.cps.toList.all fun c => decide (c < 16 ^ 8)) = true) (hs : x.cps.size ≤ 100) : Sml 100 0 (.str x) := by
  refine ⟨rfl, ?_, ?_, Nat.le_refl _⟩
  · unfold PyData.leavesShort
    exact h
  · unfold PyData.weight
    exact hs
theorem sml_all {W Dp : Nat} : ∀ {xs : List D}, (∀ x ∈ xs, Sml W Dp x.py) → PyData.showableAll (D.pyAll xs) = true ∧ PyData.leavesShortAll 64 (D.pyAll xs) = true ∧ PyData.weightAll (D.pyAll xs) ≤ (W + 1) * xs.length ∧ PyData.depthAll (D.pyAll xs) ≤ Dp
  | [], _ => ⟨rfl, rfl, Nat.zero_le _, Nat.zero_le _⟩
  | x :: xs, h => by
    obtain ⟨a, b, c, d⟩ := sml_all fun y hy => h y (List.mem_cons_of_mem _ hy)
    have q := h x List.mem_cons_self
    unfold D.pyAll
    refine ⟨?_, ?_, ?_, ?_⟩
    · unfold PyData.showableAll
      rw [q.sh, a]
      rfl
    · unfold PyData.leavesShortAll
      rw [q.lv, b]
      rfl
    · unfold PyData.weightAll
      have w := q.wt
      rw [List.length_cons, Nat.mul_add, Nat.mul_one]
      omega
    · unfold PyData.depthAll
      exact Nat.max_le.mpr ⟨q.dp, d⟩
theorem sml_tup {W Dp n : Nat} {xs : List D} (h : ∀ x ∈ xs, Sml W Dp x.py) (hl : xs.length ≤ n) : Sml ((W + 1) * n) (Dp + 1) (D.tup xs).py := by
  obtain ⟨a, b, c, d⟩ := sml_all h
  have e := Nat.mul_le_mul_left (W + 1) hl
  unfold D.py
  refine ⟨?_, ?_, ?_, ?_⟩
  · unfold PyData.showable
    exact a
  · unfold PyData.leavesShort
    exact b
  · unfold PyData.weight
    omega
  · unfold PyData.depth
    omega
theorem sml_lst {W Dp n : Nat} {xs : List D} (h : ∀ x ∈ xs, Sml W Dp x.py) (hl : xs.length ≤ n) : Sml ((W + 1) * n) (Dp + 1) (D.lst xs).py := by
  obtain ⟨a, b, c, d⟩ := sml_all h
  have e := Nat.mul_le_mul_left (W + 1) hl
  unfold D.py
  refine ⟨?_, ?_, ?_, ?_⟩
  · unfold PyData.showable
    exact a
  · unfold PyData.leavesShort
    exact b
  · unfold PyData.weight
    omega
  · unfold PyData.depth
    omega
theorem shw_of {W Dp : Nat} {d : PyData} (h : Sml W Dp d) (hW : W ≤ 200000) (hD : Dp ≤ 60) : Shw d := by
  refine ⟨h.sh, Nat.le_trans h.dp hD, ?_⟩
  have e := PyData.shown_le 64 (by decide) d h.lv
  have w := h.wt
  rw [sizeLine_eq]
  omega
theorem nd_all : ∀ {xs : List D}, (∀ x ∈ xs, x.py.hasDict = false) → PyData.hasDictAll (D.pyAll xs) = false
  | [], _ => rfl
  | x :: xs, h => by
    unfold D.pyAll PyData.hasDictAll
    rw [h x List.mem_cons_self, nd_all fun y hy => h y (List.mem_cons_of_mem _ hy)]
    rfl
theorem nl_all : ∀ {xs : List D}, (∀ x ∈ xs, noL x.py = true) → noLs (D.pyAll xs) = true
  | [], _ => rfl
  | x :: xs, h => by
    unfold D.pyAll noLs
    rw [h x List.mem_cons_self, nl_all fun y hy => h y (List.mem_cons_of_mem _ hy)]
    rfl
theorem rp_all : ∀ {xs : List D}, (∀ x ∈ xs, x.rp = true) → D.rps xs = true
  | [], _ => rfl
  | x :: xs, h => by
    unfold D.rps
    rw [h x List.mem_cons_self, rp_all fun y hy => h y (List.mem_cons_of_mem _ hy)]
    rfl
/-- an item that may be shown; P: no dict in it, or no list -/
structure It (W Dp : Nat) (nd nl : Bool) (x : D) : Prop where
  rp : x.rp = true
  sm : Sml W Dp x.py
  nd : nd = true → x.py.hasDict = false
  nl : nl = true → noL x.py = true
theorem It.mono {W W' A B : Nat} {a b a' b' : Bool} {x : D} (h : It W A a b x) (hW : W ≤ W') (hA : A ≤ B) (ha : a' = true → a = true) (hb : b' = true → b = true) : It W' B a' b' x :=
  ⟨h.rp, h.sm.mono hW hA, fun z => h.nd (ha z), fun z => h.nl (hb z)⟩
theorem it_non : It 0 0 true true .non := ⟨rfl, sml_non, fun _ => rfl, fun _ => rfl⟩
theorem it_bl (b : Bool) : It 0 0 true true (.bl b) := ⟨rfl, sml_bl b, fun _ => rfl, fun _ => rfl⟩
theorem it_int {i : Int} (h : i.natAbs < 10 ^ 60) : It 200 0 true true (.int i) := ⟨rfl, sml_int h, fun _ => rfl, fun _ => rfl⟩
theorem it_str {x : Str} (h : (x.cps.toList.all fun c => decide (c < 16 ^ 8)) = true) (hs : x.cps.size ≤ 100) : It 100 0 true true (.str x) := ⟨rfl, sml_str h hs, fun _ => rfl, fun _ => rfl⟩
theorem it_dic (v : V) : It 0 1 false true (.obj (.type "dict") v) := ⟨by unfold D.rp; exact beq_self_eq_true _, sml_dic, (fun z => by cases z), fun _ => rfl⟩
theorem it_tup {W Dp n : Nat} {a b : Bool} {xs : List D} (h : ∀ x ∈ xs, It W Dp a b x) (hl : xs.length ≤ n) : It ((W + 1) * n) (Dp + 1) a b (.tup xs) := by
  refine ⟨?_, sml_tup (fun x hx => (h x hx).sm) hl, fun z => ?_, fun z => ?_⟩
  · unfold D.rp
    exact rp_all fun x hx => (h x hx).rp
  · unfold D.py PyData.hasDict
    exact nd_all fun x hx => (h x hx).nd z
  · unfold D.py noL
    exact nl_all fun x hx => (h x hx).nl z
theorem it_lst {W Dp n : Nat} {a b : Bool} {xs : List D} (h : ∀ x ∈ xs, It W Dp a b x) (hl : xs.length ≤ n) : It ((W + 1) * n) (Dp + 1) a false (.lst xs) := by
  refine ⟨?_, sml_lst (fun x hx => (h x hx).sm) hl, fun z => ?_, fun z => by cases z⟩
  · unfold D.rp
    exact rp_all fun x hx => (h x hx).rp
  · unfold D.py PyData.hasDict
    exact nd_all fun x hx => (h x hx).nd z
/-- may be given to repr: a tuple, a list -/
theorem repr_tup {W Dp : Nat} {a b : Bool} {xs : List D} {O : Ow} {k : DK} (h : It W Dp a b (.tup xs)) (hW : W ≤ 200000) (hD : Dp ≤ 60) (hk : k (.str (D.tup xs).py.shown) O) : qRepr [.tup xs] O k := by
  unfold qRepr
  simp only [rs_tup]
  refine ⟨?_, shw_of h.sm hW hD, hk⟩
  have r := h.rp
  unfold D.rp at r
  exact r
theorem repr_lst {W Dp : Nat} {a b : Bool} {xs : List D} {O : Ow} {k : DK} (h : It W Dp a b (.lst xs)) (hW : W ≤ 200000) (hD : Dp ≤ 60) (hk : k (.str (D.lst xs).py.shown) O) : qRepr [.lst xs] O k := by
  unfold qRepr
  simp only [rs_lst]
  refine ⟨?_, shw_of h.sm hW hD, hk⟩
  have r := h.rp
  unfold D.rp at r
  exact r
/-! ### pieces -/
theorem mem_cut {α : Type} {xs : List α} {lo hi : Option Int} {x : α} (h : x ∈ cutL xs lo hi) : x ∈ xs := List.mem_of_mem_drop (List.mem_of_mem_take h)
theorem len_cut {α : Type} {xs : List α} {lo hi : Option Int} : (cutL xs lo hi).length ≤ xs.length := by
  unfold cutL
  rw [List.length_take, List.length_drop]
  omega
theorem cut_last {α : Type} {pre : List α} {x : α} : cutL (pre ++ [x]) (some (-1)) none = [x] := by
  unfold cutL
  have e : HT.sIx (pre ++ [x]).length 0 (some (-1)) = pre.length := by
    rw [List.length_append, List.length_singleton]
    show (if (-1 : Int) < 0 then ((-1 : Int) + ((pre.length + 1 : Nat) : Int)).toNat else min (-1 : Int).toNat (pre.length + 1)) = pre.length
    rw [if_pos (by decide)]
    omega
  rw [e, List.drop_left, HT.sIx_none, List.length_append, List.length_singleton]
  rw [show pre.length + 1 - pre.length = 1 by omega]
  rfl
theorem cut_front {α : Type} {pre : List α} {x : α} : cutL (pre ++ [x]) none (some (-1)) = pre := by
  unfold cutL
  have e : HT.sIx (pre ++ [x]).length (pre ++ [x]).length (some (-1)) = pre.length := by
    rw [List.length_append, List.length_singleton]
    show (if (-1 : Int) < 0 then ((-1 : Int) + ((pre.length + 1 : Nat) : Int)).toNat else min (-1 : Int).toNat (pre.length + 1)) = pre.length
    rw [if_pos (by decide)]
    omega
  rw [e, HT.sIx_none, List.drop_zero, Nat.sub_zero, List.take_left]
theorem at_last {α : Type} {pre : List α} {x : α} : atI (pre ++ [x]) (-1) = some x := by
  unfold atI ixN
  rw [List.length_append, List.length_singleton, if_neg (by decide), if_pos (by omega)]
  show (pre ++ [x])[((-1 : Int) + ((pre.length + 1 : Nat) : Int)).toNat]? = some x
  rw [show ((-1 : Int) + ((pre.length + 1 : Nat) : Int)).toNat = pre.length by omega]
  simp
/-! ### a new list that will be changed, of two -/
def qAddO : DR2 := fun x y O k => match res O x, res O y with
  | .lst a, .lst b => a.length + b.length ≤ sizeLine ∧ ∀ p, O p = none → k (.opq (.ref p)) (oset O p (.lst (a ++ b)))
  | _, _ => False
theorem lr_addO {K : PySem.W.Frag} : LiftR K (hAdd K) qAddO := by
  intro x y O k h G H v u Q ok hx hy c
  unfold qAddO at h
  split at h
  · rename_i i j e1 e2
    obtain ⟨a, vs, rfl, a1, a2⟩ := res_lst ok hx e1
    obtain ⟨b, ws, rfl, b1, b2⟩ := res_lst ok hy e2
    refine .inr (.inr (.inl ⟨a, b, vs, ws, rfl, rfl, a1, b1, ?_, fun p hp => ?_⟩))
    · rw [a2.length, b2.length]
      exact h.1
    · obtain ⟨ok2, s2⟩ := owned ok hp (a2.append b2)
      exact c _ _ _ _ _ (h.2 p (ok.none_of hp)) s2 ok2 (.opq _)
  · exact h.elim
theorem de_addO {X : Cx} {W : WX} {ex : EX} {a b : Expr} {t u : DT} {pos : Pos} (ha : DE X W ex a t) (hb : DE X W ex b u) : DE X W ex (.BinOp a .Add b pos) (dOp qAddO t u) := de_bin op_addAll lr_addO ha hb
section
variable {O : Ow} {k : DK} {p : Addr} {a b : List D}
theorem qaddO_cell (h : O p = some (.lst a)) : qAddO (.opq (.ref p)) (.lst b) O k = (a.length + b.length ≤ sizeLine ∧ ∀ p, O p = none → k (.opq (.ref p)) (oset O p (.lst (a ++ b)))) := by
  unfold qAddO
  rw [rs_cell h, rs_lst]
theorem qadd_cell (h : O p = some (.lst a)) : qAdd (.opq (.ref p)) (.lst b) O k = (a.length + b.length ≤ sizeLine ∧ k (.lst (a ++ b)) O) := by
  unfold qAdd
  rw [rs_cell h, rs_lst]
end
end DL
namespace DL
open PySem PySem.Spec PyProof.Rows L2 Evl
/-! ### defs that want that no repr is under way: their bodies, their calls -/
section
variable {P : Program} {w : World} {K : PySem.W.Frag} {mg : Str → Option Value} {base : Heap}
theorem fn_DG {x qual : Str} {st : Stmt} {f : Addr} {fd : FuncData} {N ps : List Str} {k : Nat} {S : DSp} (F : Fun K x qual st f fd) (Sc : FnScope N ps (defScope st)) (hl : ∀ as O q e, S as O q e → as.length = ps.length)
    (hb : ∀ (cdv : Value) (A : Around) (outer : List Env) (s : Shared) (H : Hp) (E : XK), A.guards = some [] → Room k (A.deeper (envOfC qual (defScope st) s.heap.objs.size f cdv)) → ∀ as O q e, S as O q e →
      ∃ t, DSs (cxOf (L2N.CX P w) P w K mg base N qual (defScope st) f cdv A outer s H E) (wOf E) (exOf e) (defBody st) t ∧ t ⟨fun _ O' => Rt q .non O', Rt q, fun _ _ => False, fun _ _ => False⟩ (startD N as) O) :
    FnDG P w K mg base (k + 1) f fd ps S := by
  obtain ⟨oc, od, kV, doc, pm, an, cdv, ct, osl, rfl, lk, hc⟩ := F.ex
  refine fnG_of lk hc Sc (fun vs H Q E h => ?_) (fun A outer s H vs Q E gd hr h => ?_)
  · obtain ⟨G, O, as, q, e, _, d, h, _⟩ := h
    rw [d.length]
    exact hl _ _ _ _ h
  · obtain ⟨G, O, as, q, e, ok, d, h, c, cx⟩ := h
    obtain ⟨t, ⟨ts, p, l⟩, ht⟩ := hb cdv A outer s H E gd hr as O q e h
    refine ⟨ts, p, l _ _ O ht G H (L2.start N vs) _ ok (rep_start d N) (fun y ds O' σ dd G' H' hy s' ok' rp' pa => ?_) ⟨fun ds O' σ G' H' h' s' ok' _ => rt_ok c _ O' .non G' H' h' s' ok' .non, rt_ok c, fun ds O' σ G' H' h' _ _ _ => False.elim h', fun ds O' σ G' H' h' _ _ _ => False.elim h'⟩⟩
    obtain ⟨O2, hy, sb⟩ := hy
    exact cx y O2 dd G' H' hy (s'.sub sb) (ok'.sub sb) pa
end
section
variable {X : Cx} {W : WX} {ex : EX} {CX : CXT} {k j : Nat} {f : Addr} {fd : FuncData} {ps : List Str} {sp : Sp} {S : DSp} {x : Str} {p pos : Pos} {e : Expr} {es : List Expr} {ta : TA} {t : DA} {E : L2.St → XK}
theorem run_G {pins : List (Addr × Obj)} {σ : L2.St} {H : Hp} {s : Shared} {Q : VK} {us : List Value} {vs : List V} (F : FnG X.prog X.w X.K X.mg X.base CX k f fd ps sp) (gd : X.A.guards = some []) (hr : Room k X.A)
    (hb : Binds X.K fd ps []) (hx : PassesAt CX X σ (E σ)) (I : L2.Inv X pins σ H s) (r : Vals vs us) (h : sp vs H Q (E σ)) : wpAny (model X.prog X.w) X.A (call (.ref f) us) (EP X pins σ Q) X.xe s := by
  have len : (us ++ []).length = ps.length := by
    rw [List.append_nil]
    exact r.length.symm.trans (F.lenG h)
  have bnd := hb s us I.kIn len
  rw [List.append_nil] at bnd
  have run := F.runG gd hr I.env0 bnd r h
  refine wpAny_call (codeAny_mono run ?_)
  intro res s' hq
  cases res with
  | error e => exact hx pins H s e s' I hq
  | ok fl =>
    cases fl with
    | ret u => exact I.after hq
    | _ => exact False.elim hq
theorem pe_callG (F : FnG X.prog X.w X.K X.mg X.base CX k f fd ps sp) (gd : X.A.guards = some []) (hr : Room k X.A) (hg : Gl X x) (hm : X.mg x = some (.ref f)) (hk : PySem.W.keepIn X.K (.ref f) = true) (hb : Binds X.K fd ps [])
    (hx : ∀ σ, PassesAt CX X σ (E σ)) (ha : PA X (e :: es) ta) (hdb : (x == ("__debug__" : Str)) = false)
    (he : starEach (e :: es) X.env = (false, eval e X.env) :: starEach es X.env) (hpl : (backTo pos (starEach es X.env)).any (·.1) = false) :
    PE X (.Call (.Name x p) (e :: es) [] pos) (tCallS sp E ta) := by
  constructor
  intro pins s σ H Q I h
  refine wpAny_Call_Name_kw (ld_glob I hg hm ?_ hdb)
  refine PySem.W.callWith_K (h₀ := X.base) I.ok.mod.kin hk (thn (ha.run pos pins s σ H _ I h) ?_) he hpl
  rintro us s1 ⟨vs, H1, I1, r, q⟩
  exact ⟨I1.kIn, run_G F gd hr hb (hx σ) I1 r q⟩
theorem de_callG (tk : L2N.Takes X W) (F : FnDG X.prog X.w X.K X.mg X.base k f fd ps S) (gd : X.A.guards = some []) (hr : Room j X.A) (hm : X.mg x = some (.ref f)) (hk : PySem.W.keepIn X.K (.ref f) = true) (hb : Binds X.K fd ps []) (ha : DAs X W ex (e :: es) t) (hj : k ≤ j := by decide) (hg : Gl X x := by rfl)
    (hdb : (x == ("__debug__" : Str)) = false := by decide) (he : starEach (e :: es) X.env = (false, eval e X.env) :: starEach es X.env := by rfl) (hpl : (backTo pos (starEach es X.env)).any (·.1) = false := by rfl) :
    DE X W ex (.Call (.Name x p) (e :: es) [] pos) (dCall S ex t) := by
  obtain ⟨ta, p1, l1⟩ := ha
  exact ⟨_, pe_callG F gd (hr.mono hj) hg hm hk hb (fun σ => L2N.passAt tk σ) p1 hdb he hpl, l_call l1⟩
end
end DL
namespace DL
open PySem PySem.Spec PyProof.Rows L2 Evl
/-! ### isinstance of an own exception that is held as a value -/
theorem call_isO {X : Cx} : CallR X (.builtin "isinstance") (fun xs H Q => ∃ (a C : Addr) (c : V) (cv : Value) (b : Bool), xs = [.ref a, c] ∧ H a = some (ExK (.ref C) a) ∧ ExcC X.K C ∧ (∀ u, RelV c u → u = cv) ∧ PySem.W.kitOne X.K (.ref C) cv = some b ∧ Q (.bl b) H) := by
  intro pins s σ H xs us Q I r h
  obtain ⟨a, C, c, cv, b, rfl, ha, E, hcv, e, q⟩ := h
  obtain ⟨u, w, rfl, ru, rw'⟩ := vals2 r
  cases (show u = Value.ref a from ru)
  have ec := hcv _ rw'
  subst ec
  obtain ⟨⟨oe, vs, ho, h1, h2, hv⟩, _⟩ := I.hok a _ ha
  have J : PySem.W.InstAt s.heap a oe C none := by
    obtain ⟨oc, od, oda, osl⟩ := oe
    dsimp only at h1 h2 hv
    subst h1 h2 hv
    exact ⟨ho, rfl, rfl, trivial⟩
  refine PySem.W.kia_one
    (PySem.W.handS_kitx_exc E.hg E.hk E.hs E.hd E.ha E.hn E.ht E.hm)
    I.kIn J e (fun z => by cases z) ?_
  intro tk
  exact ⟨.bl b, H, I.kept (t' := tk) fun _ _ z => z, rfl, q⟩
/-- X(), an own exception class without own __init__, as a value -/
theorem pe_exc0 {X : Cx} {C : Addr} {bmB : List Value} {B newId initId : String} {x : Str} {p pos : Pos} (F : ExcBaseFacts B newId initId bmB) (q : PySem.W.excIn X.K C bmB newId = true) (gC : X.mg x = some (.ref C))
    (kC : PySem.W.keepIn X.K (.ref C) = true) (hg : Gl X x) (hdb : (x == ("__debug__" : Str)) = false := by decide) :
    PE X (.Call (.Name x p) [] [] pos) (fun _ H Q => ∀ a, H a = none → Q (.ref a) (upd H a (ExK (.ref C) a))) := by
  constructor
  intro pins s σ H Q I h
  refine wpAny_Call_Name_kw (ld_glob I hg gC ?_ hdb)
  refine PySem.W.callWith_K0 I.kIn kC ?_
  show wpAny _ _ (call (.ref C) []) _ _ _
  obtain ⟨bm, N, nm, qn, bs, hdct, sn, sub, ab, col, dd, k0, k1, k2, k3, k5, mN, hC, hN, hni, T⟩ := exc_obj I.kIn q
  refine wpAny_call_exc_subT F T hC hN hni ?_ (by show 0 ≤ sizeLine; exact Nat.zero_le _)
  intro h' a hm
  have free : H a = none := I.hok.gone hm.new
  obtain ⟨t, ht, _, _⟩ := hm.there
  refine ⟨.ref a, upd H a (ExK (.ref C) a), ?_, rfl, h a free⟩
  exact I.laidN hm.keeps hm.new free (exK_ok ht rfl rfl rfl)
/-! ### isinstance(x, C), C an own class -/
theorem call_isiD {X : Cx} {D' : Addr} : CallR X (.builtin "isinstance") (fun xs H Q => ∃ (x : V) (t : Value) (b : Bool), xs = [x, .ref D'] ∧ TyD X.K H x t ∧ PySem.W.kitOne X.K t (.ref D') = some b ∧ Q (.bl b) H) := by
  intro pins s σ H xs us Q I r h
  obtain ⟨x, t, b, rfl, ht, e, q⟩ := h
  cases ht with
  | x h => exact call_isi pins s σ H _ us Q I r ⟨x, .ref D', t, .ref D', b, rfl, .own D', h, e, q⟩
  | exc h c => exact call_isO pins s σ H _ us Q I r ⟨_, _, .ref D', .ref D', b, rfl, h, c, (fun u ru => ru), e, q⟩
/-- what is known of the class's kinship: kit t, the answer for a thing of type t -/
def qIsiO (kit : Value → Option Bool) : DRC := fun xs O k => match xs with
  | [d, _] => (match (res O d).ty with
    | some t => (match kit t with
      | some b => k (.bl b) O
      | none => False)
    | none => False)
  | _ => False
theorem lc_isiO {K : PySem.W.Frag} {D' : Addr} {kit : Value → Option Bool} (hk : ∀ t b, kit t = some b → PySem.W.kitOne K t (.ref D') = some b) : LiftC K (fun xs H Q => ∃ (x : V) (t : Value) (b : Bool), xs = [x, .ref D'] ∧ TyD K H x t ∧ PySem.W.kitOne K t (.ref D') = some b ∧ Q (.bl b) H) fun xs O k => (∃ d, xs = [d, .opq (.ref D')]) ∧ qIsiO kit xs O k := by
  intro xs O k h G H vs Q ok hx c
  obtain ⟨⟨d, rfl⟩, h⟩ := h
  unfold qIsiO at h
  obtain ⟨v, u, rfl, hd, he⟩ := two_of hx
  dsimp only at h
  split at h
  · rename_i t e
    split at h
    · rename_i b eb
      cases he
      exact ⟨v, t, b, rfl, ty_ok ok hd e, hk t b eb, c _ O _ G H h Stp.refl ok (.bl _)⟩
    · exact h.elim
  · exact h.elim
/-! ### X() as a value -/
def dThing (t : Value) : DT := fun ds O k => ∀ v, k (.obj t v) O
theorem de_exc0 {X : Cx} {W : WX} {ex : EX} {C : Addr} {x : Str} {p pos : Pos} (q : PySem.W.excIn X.K C veTail "ValueError.__new__" = true) (gC : X.mg x = some (.ref C)) (kC : PySem.W.keepIn X.K (.ref C) = true) (E : ExcC X.K C) (hg : Gl X x := by rfl) (hdb : (x == ("__debug__" : Str)) = false := by decide) :
    DE X W ex (.Call (.Name x p) [] [] pos) (dThing (.ref C)) := by
  refine ⟨_, pe_exc0 PySem.F.excBase_ValueError q gC kC hg hdb, fun ds O k h G H σ Q ok rp xc c a ha => ?_⟩
  obtain ⟨ok2, s2, e2⟩ := frozen (o := ExK (.ref C) a) ok ha
  exact c _ O _ _ _ (h _) s2 ok2 (.obj (.exc upd_same E) fun z => by cases z)
end DL
namespace Pf
open PySem PySem.Spec PyProof.Rows L2 Evl DL
def topS (i : Nat) : Stmt := PySem.Challenge.pw_fairarcs_k02_beads_of_large_strands.main.body.getD i (.Pass ⟨0, 0, 0, 0⟩)
abbrev s_is_integer : Stmt := topS 6
theorem sc_is_integer : FnScope ["value"] ["value"] (defScope s_is_integer) := ⟨rfl, rfl, rfl, by decide +kernel, rfl, by decide +kernel, by decide +kernel⟩
abbrev s_is_integer_within : Stmt := topS 7
theorem sc_is_integer_within : FnScope ["value", "least", "greatest"] ["value", "least", "greatest"] (defScope s_is_integer_within) := ⟨rfl, rfl, rfl, by decide +kernel, rfl, by decide +kernel, by decide +kernel⟩
abbrev s_is_run : Stmt := topS 11
theorem sc_is_run : FnScope ["value", "colour", "count"] ["value"] (defScope s_is_run) := ⟨rfl, rfl, rfl, by decide +kernel, rfl, by decide +kernel, by decide +kernel⟩
abbrev s_is_strand : Stmt := topS 12
theorem sc_is_strand : FnScope ["value", "last_colour", "run"] ["value"] (defScope s_is_strand) := ⟨rfl, rfl, rfl, by decide +kernel, rfl, by decide +kernel, by decide +kernel⟩
abbrev s_require_strand : Stmt := topS 13
theorem sc_require_strand : FnScope ["value"] ["value"] (defScope s_require_strand) := ⟨rfl, rfl, rfl, by decide +kernel, rfl, by decide +kernel, by decide +kernel⟩
abbrev s_require_place : Stmt := topS 14
theorem sc_require_place : FnScope ["value", "last"] ["value", "last"] (defScope s_require_place) := ⟨rfl, rfl, rfl, by decide +kernel, rfl, by decide +kernel, by decide +kernel⟩
abbrev s_total_beads : Stmt := topS 15
theorem sc_total_beads : FnScope ["runs", "_", "count"] ["runs"] (defScope s_total_beads) := ⟨rfl, rfl, rfl, by decide +kernel, rfl, by decide +kernel, by decide +kernel⟩
abbrev s_total_dark : Stmt := topS 16
theorem sc_total_dark : FnScope ["runs", "colour", "count"] ["runs"] (defScope s_total_dark) := ⟨rfl, rfl, rfl, by decide +kernel, rfl, by decide +kernel, by decide +kernel⟩
abbrev s_cut_between : Stmt := topS 17
theorem sc_cut_between : FnScope ["rows", "start", "end", "found", "begin", "label", "count", "low", "high"] ["rows", "start", "end"] (defScope s_cut_between) := ⟨rfl, rfl, rfl, by decide +kernel, rfl, by decide +kernel, by decide +kernel⟩
abbrev s_runs_between : Stmt := topS 18
theorem sc_runs_between : FnScope ["runs", "start", "end", "colour", "_", "count"] ["runs", "start", "end"] (defScope s_runs_between) := ⟨rfl, rfl, rfl, by decide +kernel, rfl, by decide +kernel, by decide +kernel⟩
abbrev s_count_beads : Stmt := topS 19
theorem sc_count_beads : FnScope ["strand"] ["strand"] (defScope s_count_beads) := ⟨rfl, rfl, rfl, by decide +kernel, rfl, by decide +kernel, by decide +kernel⟩
abbrev s_count_dark : Stmt := topS 20
theorem sc_count_dark : FnScope ["strand"] ["strand"] (defScope s_count_dark) := ⟨rfl, rfl, rfl, by decide +kernel, rfl, by decide +kernel, by decide +kernel⟩
abbrev s_colour_at : Stmt := topS 21
theorem sc_colour_at : FnScope ["strand", "place", "colour", "_"] ["strand", "place"] (defScope s_colour_at) := ⟨rfl, rfl, rfl, by decide +kernel, rfl, by decide +kernel, by decide +kernel⟩
abbrev s_dark_before : Stmt := topS 22
theorem sc_dark_before : FnScope ["strand", "place"] ["strand", "place"] (defScope s_dark_before) := ⟨rfl, rfl, rfl, by decide +kernel, rfl, by decide +kernel, by decide +kernel⟩
abbrev s_dark_place : Stmt := topS 23
theorem sc_dark_place : FnScope ["strand", "index", "dark", "light", "colour", "count"] ["strand", "index"] (defScope s_dark_place) := ⟨rfl, rfl, rfl, by decide +kernel, rfl, by decide +kernel, by decide +kernel⟩
abbrev s_law_source : Stmt := topS 25
theorem sc_law_source : FnScope ["script", "k", "cell"] ["script", "k"] (defScope s_law_source) := ⟨rfl, rfl, rfl, by decide +kernel, rfl, by decide +kernel, by decide +kernel⟩
abbrev s_law_draw : Stmt := topS 26
theorem sc_law_draw : FnScope ["source", "bound", "found", "mixed"] ["source", "bound"] (defScope s_law_draw) := ⟨rfl, rfl, rfl, by decide +kernel, rfl, by decide +kernel, by decide +kernel⟩
abbrev s_law_strand : Stmt := topS 27
theorem sc_law_strand : FnScope ["source", "most", "wide", "turn", "found", "part", "many"] ["source", "most", "wide"] (defScope s_law_strand) := ⟨rfl, rfl, rfl, by decide +kernel, rfl, by decide +kernel, by decide +kernel⟩
abbrev s_law_runs_with_ends : Stmt := topS 28
theorem sc_law_runs_with_ends : FnScope ["strand_here", "found", "first", "dark", "colour", "many"] ["strand_here"] (defScope s_law_runs_with_ends) := ⟨rfl, rfl, rfl, by decide +kernel, rfl, by decide +kernel, by decide +kernel⟩
abbrev s_law_right : Stmt := topS 29
theorem sc_law_right : FnScope ["source", "strand_here", "rows_here", "size", "total", "colour", "first", "end", "dark", "spot", "due", "at", "many"] ["source", "strand_here"] (defScope s_law_right) := ⟨rfl, rfl, rfl, by decide +kernel, rfl, by decide +kernel, by decide +kernel⟩
abbrev s_law : Stmt := topS 30
theorem sc_law : FnScope ["script", "k", "source", "turn", "most", "wide"] ["script"] (defScope s_law) := ⟨rfl, rfl, rfl, by decide +kernel, rfl, by decide +kernel, by decide +kernel⟩
/-- what the text's top has left -/
structure Tx (K : PySem.W.Frag) (mg : Str → Option Value) where
  a_is_integer : Addr
  d_is_integer : FuncData
  F_is_integer : Fun K "is_integer" "is_integer" s_is_integer a_is_integer d_is_integer
  g_is_integer : mg "is_integer" = some (.ref a_is_integer)
  a_is_integer_within : Addr
  d_is_integer_within : FuncData
  F_is_integer_within : Fun K "is_integer_within" "is_integer_within" s_is_integer_within a_is_integer_within d_is_integer_within
  g_is_integer_within : mg "is_integer_within" = some (.ref a_is_integer_within)
  a_is_run : Addr
  d_is_run : FuncData
  F_is_run : Fun K "is_run" "is_run" s_is_run a_is_run d_is_run
  g_is_run : mg "is_run" = some (.ref a_is_run)
  a_is_strand : Addr
  d_is_strand : FuncData
  F_is_strand : Fun K "is_strand" "is_strand" s_is_strand a_is_strand d_is_strand
  g_is_strand : mg "is_strand" = some (.ref a_is_strand)
  a_require_strand : Addr
  d_require_strand : FuncData
  F_require_strand : Fun K "require_strand" "require_strand" s_require_strand a_require_strand d_require_strand
  g_require_strand : mg "require_strand" = some (.ref a_require_strand)
  a_require_place : Addr
  d_require_place : FuncData
  F_require_place : Fun K "require_place" "require_place" s_require_place a_require_place d_require_place
  g_require_place : mg "require_place" = some (.ref a_require_place)
  a_total_beads : Addr
  d_total_beads : FuncData
  F_total_beads : Fun K "total_beads" "total_beads" s_total_beads a_total_beads d_total_beads
  g_total_beads : mg "total_beads" = some (.ref a_total_beads)
  a_total_dark : Addr
  d_total_dark : FuncData
  F_total_dark : Fun K "total_dark" "total_dark" s_total_dark a_total_dark d_total_dark
  g_total_dark : mg "total_dark" = some (.ref a_total_dark)
  a_cut_between : Addr
  d_cut_between : FuncData
  F_cut_between : Fun K "cut_between" "cut_between" s_cut_between a_cut_between d_cut_between
  g_cut_between : mg "cut_between" = some (.ref a_cut_between)
  a_runs_between : Addr
  d_runs_between : FuncData
  F_runs_between : Fun K "runs_between" "runs_between" s_runs_between a_runs_between d_runs_between
  g_runs_between : mg "runs_between" = some (.ref a_runs_between)
  a_count_beads : Addr
  d_count_beads : FuncData
  F_count_beads : Fun K "count_beads" "count_beads" s_count_beads a_count_beads d_count_beads
  g_count_beads : mg "count_beads" = some (.ref a_count_beads)
  a_count_dark : Addr
  d_count_dark : FuncData
  F_count_dark : Fun K "count_dark" "count_dark" s_count_dark a_count_dark d_count_dark
  g_count_dark : mg "count_dark" = some (.ref a_count_dark)
  a_colour_at : Addr
  d_colour_at : FuncData
  F_colour_at : Fun K "colour_at" "colour_at" s_colour_at a_colour_at d_colour_at
  g_colour_at : mg "colour_at" = some (.ref a_colour_at)
  a_dark_before : Addr
  d_dark_before : FuncData
  F_dark_before : Fun K "dark_before" "dark_before" s_dark_before a_dark_before d_dark_before
  g_dark_before : mg "dark_before" = some (.ref a_dark_before)
  a_dark_place : Addr
  d_dark_place : FuncData
  F_dark_place : Fun K "dark_place" "dark_place" s_dark_place a_dark_place d_dark_place
  g_dark_place : mg "dark_place" = some (.ref a_dark_place)
  a_law_source : Addr
  d_law_source : FuncData
  F_law_source : Fun K "_law_source" "_law_source" s_law_source a_law_source d_law_source
  g_law_source : mg "_law_source" = some (.ref a_law_source)
  a_law_draw : Addr
  d_law_draw : FuncData
  F_law_draw : Fun K "_law_draw" "_law_draw" s_law_draw a_law_draw d_law_draw
  g_law_draw : mg "_law_draw" = some (.ref a_law_draw)
  a_law_strand : Addr
  d_law_strand : FuncData
  F_law_strand : Fun K "_law_strand" "_law_strand" s_law_strand a_law_strand d_law_strand
  g_law_strand : mg "_law_strand" = some (.ref a_law_strand)
  a_law_runs_with_ends : Addr
  d_law_runs_with_ends : FuncData
  F_law_runs_with_ends : Fun K "_law_runs_with_ends" "_law_runs_with_ends" s_law_runs_with_ends a_law_runs_with_ends d_law_runs_with_ends
  g_law_runs_with_ends : mg "_law_runs_with_ends" = some (.ref a_law_runs_with_ends)
  a_law_right : Addr
  d_law_right : FuncData
  F_law_right : Fun K "_law_right" "_law_right" s_law_right a_law_right d_law_right
  g_law_right : mg "_law_right" = some (.ref a_law_right)
  c_InvalidIndex : Addr
  g_InvalidIndex : mg "InvalidIndex" = some (.ref c_InvalidIndex)
  x_InvalidIndex : PySem.W.excIn K c_InvalidIndex veTail "ValueError.__new__" = true
  k_InvalidIndex : PySem.W.keepIn K (.ref c_InvalidIndex) = true
  b_InvalidIndex : PySem.W.subIn K (.ref c_InvalidIndex) (.type "BaseException") = some true
  t_InvalidIndex : PySem.W.typeIn K (.ref c_InvalidIndex) = some (.type "type")
  c_InvalidPlace : Addr
  g_InvalidPlace : mg "InvalidPlace" = some (.ref c_InvalidPlace)
  x_InvalidPlace : PySem.W.excIn K c_InvalidPlace veTail "ValueError.__new__" = true
  k_InvalidPlace : PySem.W.keepIn K (.ref c_InvalidPlace) = true
  b_InvalidPlace : PySem.W.subIn K (.ref c_InvalidPlace) (.type "BaseException") = some true
  t_InvalidPlace : PySem.W.typeIn K (.ref c_InvalidPlace) = some (.type "type")
  c_InvalidStrand : Addr
  g_InvalidStrand : mg "InvalidStrand" = some (.ref c_InvalidStrand)
  x_InvalidStrand : PySem.W.excIn K c_InvalidStrand veTail "ValueError.__new__" = true
  k_InvalidStrand : PySem.W.keepIn K (.ref c_InvalidStrand) = true
  b_InvalidStrand : PySem.W.subIn K (.ref c_InvalidStrand) (.type "BaseException") = some true
  t_InvalidStrand : PySem.W.typeIn K (.ref c_InvalidStrand) = some (.type "type")
  u_DARK : Nat
  g_DARK : mg "DARK" = some (.str "D" u_DARK)
  u_LIGHT : Nat
  g_LIGHT : mg "LIGHT" = some (.str "L" u_LIGHT)
  z_abs : mg "abs" = none
  z_bool : mg "bool" = none
  z_int : mg "int" = none
  z_isinstance : mg "isinstance" = none
  z_len : mg "len" = none
  z_max : mg "max" = none
  z_min : mg "min" = none
  z_range : mg "range" = none
  z_str : mg "str" = none
  z_sum : mg "sum" = none
  z_tuple : mg "tuple" = none
section
variable {K : PySem.W.Frag} {mg : Str → Option Value}
theorem bn_is_integer (T : Tx K mg) : Binds K T.d_is_integer ["value"] [] := T.F_is_integer.binds (ps := ["value"]) fun _ _ _ _ _ _ us hl => match us, hl with | [_], _ => rfl
theorem bn_is_integer_within (T : Tx K mg) : Binds K T.d_is_integer_within ["value", "least", "greatest"] [] := T.F_is_integer_within.binds (ps := ["value", "least", "greatest"]) fun _ _ _ _ _ _ us hl => match us, hl with | [_, _, _], _ => rfl
theorem bn_is_run (T : Tx K mg) : Binds K T.d_is_run ["value"] [] := T.F_is_run.binds (ps := ["value"]) fun _ _ _ _ _ _ us hl => match us, hl with | [_], _ => rfl
theorem bn_is_strand (T : Tx K mg) : Binds K T.d_is_strand ["value"] [] := T.F_is_strand.binds (ps := ["value"]) fun _ _ _ _ _ _ us hl => match us, hl with | [_], _ => rfl
theorem bn_require_strand (T : Tx K mg) : Binds K T.d_require_strand ["value"] [] := T.F_require_strand.binds (ps := ["value"]) fun _ _ _ _ _ _ us hl => match us, hl with | [_], _ => rfl
theorem bn_require_place (T : Tx K mg) : Binds K T.d_require_place ["value", "last"] [] := T.F_require_place.binds (ps := ["value", "last"]) fun _ _ _ _ _ _ us hl => match us, hl with | [_, _], _ => rfl
theorem bn_total_beads (T : Tx K mg) : Binds K T.d_total_beads ["runs"] [] := T.F_total_beads.binds (ps := ["runs"]) fun _ _ _ _ _ _ us hl => match us, hl with | [_], _ => rfl
theorem bn_total_dark (T : Tx K mg) : Binds K T.d_total_dark ["runs"] [] := T.F_total_dark.binds (ps := ["runs"]) fun _ _ _ _ _ _ us hl => match us, hl with | [_], _ => rfl
theorem bn_cut_between (T : Tx K mg) : Binds K T.d_cut_between ["rows", "start", "end"] [] := T.F_cut_between.binds (ps := ["rows", "start", "end"]) fun _ _ _ _ _ _ us hl => match us, hl with | [_, _, _], _ => rfl
theorem bn_runs_between (T : Tx K mg) : Binds K T.d_runs_between ["runs", "start", "end"] [] := T.F_runs_between.binds (ps := ["runs", "start", "end"]) fun _ _ _ _ _ _ us hl => match us, hl with | [_, _, _], _ => rfl
theorem bn_count_beads (T : Tx K mg) : Binds K T.d_count_beads ["strand"] [] := T.F_count_beads.binds (ps := ["strand"]) fun _ _ _ _ _ _ us hl => match us, hl with | [_], _ => rfl
theorem bn_count_dark (T : Tx K mg) : Binds K T.d_count_dark ["strand"] [] := T.F_count_dark.binds (ps := ["strand"]) fun _ _ _ _ _ _ us hl => match us, hl with | [_], _ => rfl
theorem bn_colour_at (T : Tx K mg) : Binds K T.d_colour_at ["strand", "place"] [] := T.F_colour_at.binds (ps := ["strand", "place"]) fun _ _ _ _ _ _ us hl => match us, hl with | [_, _], _ => rfl
theorem bn_dark_before (T : Tx K mg) : Binds K T.d_dark_before ["strand", "place"] [] := T.F_dark_before.binds (ps := ["strand", "place"]) fun _ _ _ _ _ _ us hl => match us, hl with | [_, _], _ => rfl
theorem bn_dark_place (T : Tx K mg) : Binds K T.d_dark_place ["strand", "index"] [] := T.F_dark_place.binds (ps := ["strand", "index"]) fun _ _ _ _ _ _ us hl => match us, hl with | [_, _], _ => rfl
theorem bn_law_source (T : Tx K mg) : Binds K T.d_law_source ["script", "k"] [] := T.F_law_source.binds (ps := ["script", "k"]) fun _ _ _ _ _ _ us hl => match us, hl with | [_, _], _ => rfl
theorem bn_law_draw (T : Tx K mg) : Binds K T.d_law_draw ["source", "bound"] [] := T.F_law_draw.binds (ps := ["source", "bound"]) fun _ _ _ _ _ _ us hl => match us, hl with | [_, _], _ => rfl
theorem bn_law_strand (T : Tx K mg) : Binds K T.d_law_strand ["source", "most", "wide"] [] := T.F_law_strand.binds (ps := ["source", "most", "wide"]) fun _ _ _ _ _ _ us hl => match us, hl with | [_, _, _], _ => rfl
theorem bn_law_runs_with_ends (T : Tx K mg) : Binds K T.d_law_runs_with_ends ["strand_here"] [] := T.F_law_runs_with_ends.binds (ps := ["strand_here"]) fun _ _ _ _ _ _ us hl => match us, hl with | [_], _ => rfl
theorem bn_law_right (T : Tx K mg) : Binds K T.d_law_right ["source", "strand_here"] [] := T.F_law_right.binds (ps := ["source", "strand_here"]) fun _ _ _ _ _ _ us hl => match us, hl with | [_, _], _ => rfl
end
local macro_rules | `(tactic| walk_at "DL") => `(tactic| simp only [dFor, dRange1, dRange2, dRet, dRetN, dSeq, dNext, dBreak, dCont, dDrop, dDic, dRevT, qisn_t, dIfS, dAsg, dPar, dPar3, dAug, dgName, dgNil, dgCons, dgTup, dgSub, dVar, dC, dCons, dNil, dCB, dOp, dUn, dAndV, dOrV, dNotV, dTru, dTst, dAnd, dOr, dNot, dIf, dTup, dLst, dSl, dNoPart, dPart, dChain, dYes, qTru, qix_lst, qix_tup, qix_eR, qix_scr, qix_str, qix_cellS, atK0, atK1, atK2, qIn, qadd_int, qadd_str, qadd_lst, qadd_tup, qmul_int, qmul_str, qmul_lst, qmul_tup, qInt, qSum, dMeth, qAppend, qCount, oset_same, oset_oset, rs_cellS, tyD_lst, tyD_str, qLen, qAbs, qMax2, qMin2, qIsi, qI0, qII, qNeg, dRaiseX, dCall, dCallK, rs_non, rs_bl, rs_int, rs_str, rs_lst, rs_tup, rs_scr, rs_obj, rs_eR, rs_eS, rs_eL, ty_non, ty_bl, ty_int, ty_str, ty_lst, ty_tup, ty_scr, ty_obj, startD, qe_int, qn_int, qe_ch, qn_ch, qe_chn, qe_chD, qe_chL, qn_chD, qn_chL, qisn_t, qisn_f, qis_t, qis_f, qis_nn, qisn_nn, qis_in, qisn_in, qis_sn, qisn_sn, dSeqI, dwipe, dLstO, intsOf_map, itemsIn, DL.listOf, strsOf, Option.bind_some, Option.map_some, atI0, atI1, atI2, true_and, and_true, decide_true, decide_false,
  List.map_cons, List.map_nil, List.length_cons, List.length_nil, List.replicate, List.cons_append, List.nil_append, Nat.reduceAdd, Nat.reduceSub, Nat.zero_add, Nat.sub_self, List.getElem?_cons_zero, List.getElem?_cons_succ, List.set_cons_succ, List.set_cons_zero, Bool.false_eq_true, if_true, if_false, reduceIte, Bool.not_true, Bool.not_false, kf_NoneType_int, kf_NoneType_str, kf_NoneType_bool, kf_NoneType_tuple, kf_NoneType_list, kf_NoneType_dict, kf_bool_int, kf_bool_str, kf_bool_bool, kf_bool_tuple, kf_bool_list, kf_bool_dict, kf_int_int, kf_int_str, kf_int_bool, kf_int_tuple, kf_int_list, kf_int_dict, kf_str_int, kf_str_str, kf_str_bool, kf_str_tuple, kf_str_list, kf_str_dict, kf_list_int, kf_list_str, kf_list_bool, kf_list_tuple, kf_list_list, kf_list_dict, kf_tuple_int, kf_tuple_str, kf_tuple_bool, kf_tuple_tuple, kf_tuple_list, kf_tuple_dict, kf_dict_int, kf_dict_str, kf_dict_bool, kf_dict_tuple, kf_dict_list, kf_dict_dict])

def isIntD : D → Bool
  | .int _ => true
  | _ => false
def S_is_integer : DSp := fun as O q _ => ∃ x, as = [x] ∧ Kn x ∧ q (.bl (isIntD x)) O
def isWithin (lo hi : Int) : D → Bool
  | .int i => decide (lo ≤ i ∧ i ≤ hi)
  | _ => false
theorem within_yes {lo hi : Int} {x : D} (h : isWithin lo hi x = true) : ∃ i, x = .int i ∧ lo ≤ i ∧ i ≤ hi := by
  cases x with
  | int i => exact ⟨i, rfl, of_decide_eq_true h⟩
  | _ => cases h
theorem within_no {lo hi : Int} {x : D} (h : isWithin lo hi x = false) : ¬ ∃ i, x = .int i ∧ lo ≤ i ∧ i ≤ hi := by
  rintro ⟨i, rfl, a⟩
  exact of_decide_eq_false h a
def S_is_integer_within : DSp := fun as O q _ => ∃ x lo hi, as = [x, .int lo, .int hi] ∧ Kn x ∧ q (.bl (isWithin lo hi x)) O
/-- may be looked at as a run, as a strand: all types met on the way are known -/
def Kr : D → Prop
  | .tup [a, b] => Kn a ∧ Kn b
  | d => Kn d
def Ks : D → Prop
  | .tup xs => ∀ x ∈ xs, Kr x
  | d => Kn d
def isRunD : D → Bool
  | .tup [.str c, .int n] => (c == "D" || c == "L") && decide (1 ≤ n)
  | _ => false
def goesD : Option Str → List D → Bool
  | _, [] => true
  | last, x :: r => match x with
    | .tup [.str c, .int n] => (c == "D" || c == "L") && decide (1 ≤ n) && !(last == some c) && goesD (some c) r
    | _ => false
def isStrandD : D → Bool
  | .tup xs => !xs.isEmpty && goesD none xs
  | _ => false
def S_is_run : DSp := fun as O q _ => ∃ x, as = [x] ∧ Kr x ∧ q (.bl (isRunD x)) O
def S_is_strand : DSp := fun as O q _ => ∃ x, as = [x] ∧ Ks x ∧ q (.bl (isStrandD x)) O
theorem kn_of_kr {x : D} (h : Kr x) : Kn x := by
  unfold Kr at h
  split at h
  · trivial
  · exact h
theorem kn_of_ks {x : D} (h : Ks x) : Kn x := by
  unfold Ks at h
  split at h
  · trivial
  · exact h

section
variable {P : Program} {w : World} {K : PySem.W.Frag} {mg : Str → Option Value} {base : Heap}
theorem ok_is_integer (T : Tx K mg) : FnD P w K mg base 1 T.a_is_integer T.d_is_integer ["value"] S_is_integer := by
  refine fn_D T.F_is_integer sc_is_integer (fun as O q e h => ?_) (fun cdv A outer s H E hr as O q e h => ?_)
  · obtain ⟨x, rfl, _⟩ := h
    rfl
  · refine ⟨_, (dss_one (ds_ret (de_and (de_blt call_isi lc_isi T.z_isinstance (by decide +kernel) (da_cons (de_var 0) (da_cons (de_ty (n := "int") T.z_int (by decide +kernel)) da_nil))) (de_one (de_not (de_blt call_isi lc_isi T.z_isinstance (by decide +kernel) (da_cons (de_var 0) (da_cons (de_ty (n := "bool") T.z_bool (by decide +kernel)) da_nil)))))))), ?_⟩

    obtain ⟨x, rfl, hk, hq⟩ := h
    cases x with
    | opq v => exact hk.elim
    | obj t v =>
      have e : t = .type "dict" := hk
      subst e
      walk_at "DL"
      exact rt_of hq
    | _ =>
      walk_at "DL"
      exact rt_of hq
theorem ok_is_integer_within (T : Tx K mg) : FnD P w K mg base 2 T.a_is_integer_within T.d_is_integer_within ["value", "least", "greatest"] S_is_integer_within := by
  refine fn_D T.F_is_integer_within sc_is_integer_within (fun as O q e h => ?_) (fun cdv A outer s H E hr as O q e h => ?_)
  · obtain ⟨x, lo, hi, rfl, _⟩ := h
    rfl
  · refine ⟨_, (dss_one (ds_ret (de_and (de_call (L2N.takes_of rfl rfl rfl rfl) (ok_is_integer T) hr T.g_is_integer T.F_is_integer.kp (bn_is_integer T) (da_cons (de_var 0) da_nil)) (de_one (de_chain or_le lq_le or_le lq_le (de_var 1) (de_var 0) (de_var 2)))))), ?_⟩

    obtain ⟨x, lo, hi, rfl, hk, hq⟩ := h
    walk_at "DL"
    refine ⟨x, rfl, hk, ?_⟩
    cases x with
    | int i =>
      walk_at "DL"
      by_cases h1 : lo ≤ i
      · simp only [isIntD, isWithin, h1, true_and, decide_true] at hq ⊢
        exact rt_of hq
      · simp only [isIntD, isWithin, h1, false_and, decide_false] at hq ⊢
        exact rt_of hq
    | _ => exact rt_of hq
theorem ok_is_run (T : Tx K mg) : FnD P w K mg base 2 T.a_is_run T.d_is_run ["value"] S_is_run := by
  refine fn_D T.F_is_run sc_is_run (fun as O q e h => ?_) (fun cdv A outer s H E hr as O q e h => ?_)
  · obtain ⟨x, rfl, _⟩ := h
    rfl
  · refine ⟨_, (dss_cons (ds_if (dt_w (dw_or (dt_not (dt_val (de_blt call_isi lc_isi T.z_isinstance (by decide +kernel) (da_cons (de_var 0) (da_cons (de_ty (n := "tuple") T.z_tuple (by decide +kernel)) da_nil))))) (dw_or1 (dt_ne hr (de_blt call_len lc_len T.z_len (by decide +kernel) (da_cons (de_var 0) da_nil)) de_int)))) (dss_one (ds_ret de_bl)) dss_nil)
    (dss_cons (ds_asg (de_var 0) (dg_tup (n := 2) rfl (dg_cons (dg_name 1 sc_is_run.nd) (dg_cons (dg_name 2 sc_is_run.nd) dg_nil))))
    (dss_cons (ds_if (dt_w (dw_or (dt_not (dt_val (de_blt call_isi lc_isi T.z_isinstance (by decide +kernel) (da_cons (de_var 1) (da_cons (de_ty (n := "str") T.z_str (by decide +kernel)) da_nil))))) (dw_or1 (dt_notin (de_var 1) (de_tup (da_cons (de_glob (v := .str "D") (d := .str "D") T.g_DARK ⟨_, rfl⟩ (fun _ => .str _)) (da_cons (de_glob (v := .str "L") (d := .str "L") T.g_LIGHT ⟨_, rfl⟩ (fun _ => .str _)) da_nil))))))) (dss_one (ds_ret de_bl)) dss_nil)
    (dss_one (ds_ret (de_and (de_call (L2N.takes_of rfl rfl rfl rfl) (ok_is_integer T) hr T.g_is_integer T.F_is_integer.kp (bn_is_integer T) (da_cons (de_var 2) da_nil)) (de_one (de_ge (de_var 2) de_int)))))))), ?_⟩

    obtain ⟨x, rfl, hk, hq⟩ := h
    cases x with
    | opq v => exact hk.elim
    | obj t v =>
      have e : t = .type "dict" := hk
      subst e
      walk_at "DL"
      exact rt_of hq
    | tup xs =>
      rcases xs with _ | ⟨a, _ | ⟨b, _ | ⟨c, r⟩⟩⟩
      · walk_at "DL"
        exact rt_of hq
      · walk_at "DL"
        cases a <;> exact rt_of hq
      · obtain ⟨ka, kb⟩ := hk
        walk_at "DL"
        rw [if_neg (by decide)]
        cases a with
        | opq v => exact ka.elim
        | obj t v =>
          have e : t = .type "dict" := ka
          subst e
          walk_at "DL"
          exact rt_of hq
        | str c =>
          walk_at "DL"
          refine ⟨by decide, ?_⟩
          by_cases hc : c ∈ [Str.ofString "D", Str.ofString "L"]
          · have e1 : (c == ("D" : Str) || c == ("L" : Str)) = true := by
              rcases List.mem_cons.mp hc with z | z
              · rw [z]; decide +kernel
              · rw [List.mem_singleton.mp z]; decide +kernel
            rw [decide_eq_true hc]
            walk_at "DL"
            refine ⟨b, rfl, kb, ?_⟩
            cases b with
            | int n =>
              walk_at "DL"
              simp only [isIntD]
              try walk_at "DL"
              have e2 : isRunD (.tup [.str c, .int n]) = decide (1 ≤ n) := by
                show ((c == ("D" : Str) || c == ("L" : Str)) && decide (1 ≤ n)) = _
                rw [e1, Bool.true_and]
              rw [e2] at hq
              exact rt_of hq
            | _ => exact rt_of hq
          · have e1 : (c == ("D" : Str) || c == ("L" : Str)) = false := by
              cases z : (c == ("D" : Str) || c == ("L" : Str)) with
              | false => rfl
              | true =>
                refine absurd ?_ hc
                rcases Bool.or_eq_true _ _ ▸ z with z | z
                · rw [eq_of_beq z]; exact List.mem_cons_self
                · rw [eq_of_beq z]; exact List.mem_cons_of_mem _ List.mem_cons_self
            rw [decide_eq_false hc]
            walk_at "DL"
            have e2 : isRunD (.tup [.str c, b]) = false := by
              cases b with
              | int n =>
                show ((c == ("D" : Str) || c == ("L" : Str)) && decide (1 ≤ n)) = _
                rw [e1, Bool.false_and]
              | _ => rfl
            rw [e2] at hq
            exact rt_of hq
        | _ =>
          walk_at "DL"
          exact rt_of hq
      · walk_at "DL"
        rw [if_pos (by rw [decide_eq_false (by omega)]; rfl)]
        cases a <;> first
          | exact rt_of hq
          | (cases b <;> exact rt_of hq)
    | _ =>
      walk_at "DL"
      exact rt_of hq
end

theorem two_signs {c : Str} (h : (c == ("D" : Str) || c == ("L" : Str)) = true) : ∃ b, c = ch b := by
  rcases Bool.or_eq_true _ _ ▸ h with z | z
  · exact ⟨true, eq_of_beq z⟩
  · exact ⟨false, eq_of_beq z⟩
theorem signs_ch (b : Bool) : (ch b == ("D" : Str) || ch b == ("L" : Str)) = true := by
  cases b <;> decide +kernel
theorem isRun_of {x : D} (h : isRunD x = true) : ∃ b n, x = eR (b, n) ∧ 1 ≤ n := by
  unfold isRunD at h
  split at h
  · rename_i c n
    rw [Bool.and_eq_true] at h
    obtain ⟨b, rfl⟩ := two_signs h.1
    exact ⟨b, n, rfl, of_decide_eq_true h.2⟩
  · cases h
theorem goes_eR (l : Option Bool) (b : Bool) (n : Int) (r : List D) : goesD (l.map ch) (eR (b, n) :: r) = (decide (1 ≤ n) && !decide (l = some b) && goesD (some (ch b)) r) := by
  show ((ch b == ("D" : Str) || ch b == ("L" : Str)) && decide (1 ≤ n) && !(l.map ch == some (ch b)) && goesD (some (ch b)) r) = _
  rw [signs_ch, Bool.true_and]
  have e : (l.map ch == some (ch b)) = decide (l = some b) := by
    cases l with
    | none => rfl
    | some a => cases a <;> cases b <;> decide +kernel
  rw [e]
theorem goes_no {l : Option Str} {x : D} {r : List D} (h : isRunD x = false) : goesD l (x :: r) = false := by
  unfold goesD
  split
  · rename_i c n
    have h' : ((c == ("D" : Str) || c == ("L" : Str)) && decide (1 ≤ n)) = false := h
    rw [h']
    rfl
  · rfl
def lastD : Option Bool → D
  | none => .non
  | some b => .str (ch b)

section
variable {P : Program} {w : World} {K : PySem.W.Frag} {mg : Str → Option Value} {base : Heap}
theorem ok_is_strand (T : Tx K mg) : FnD P w K mg base 3 T.a_is_strand T.d_is_strand ["value"] S_is_strand := by
  refine fn_D T.F_is_strand sc_is_strand (fun as O q e h => ?_) (fun cdv A outer s H E hr as O q e h => ?_)
  · obtain ⟨x, rfl, _⟩ := h
    rfl
  · refine ⟨_, (dss_cons (ds_if (dt_w (dw_or (dt_not (dt_val (de_blt call_isi lc_isi T.z_isinstance (by decide +kernel) (da_cons (de_var 0) (da_cons (de_ty (n := "tuple") T.z_tuple (by decide +kernel)) da_nil))))) (dw_or1 (dt_eq hr (de_blt call_len lc_len T.z_len (by decide +kernel) (da_cons (de_var 0) da_nil)) de_int)))) (dss_one (ds_ret de_bl)) dss_nil)
    (dss_cons (ds_set 1 sc_is_strand.nd de_non)
    (dss_cons (ds_for (by passes_own) rfl (di_seq (de_var 0)) (dg_name 2 sc_is_strand.nd) (dss_cons (ds_if (dt_w (dw_or (dt_not (dt_val (de_call (L2N.takes_of rfl rfl rfl rfl) (ok_is_run T) hr T.g_is_run T.F_is_run.kp (bn_is_run T) (da_cons (de_var 2) da_nil)))) (dw_or1 (dt_eq hr (de_ix (de_var 2) de_int) (de_var 1))))) (dss_one (ds_ret de_bl)) dss_nil)
    (dss_one (ds_set 1 sc_is_strand.nd (de_ix (de_var 2) de_int)))))
    (dss_one (ds_ret de_bl))))), ?_⟩

    obtain ⟨x, rfl, hk, hq⟩ := h
    cases x with
    | opq v => exact hk.elim
    | obj t v =>
      have e : t = .type "dict" := hk
      subst e
      walk_at "DL"
      exact rt_of hq
    | tup xs =>
      walk_at "DL"
      by_cases hz : xs = []
      · subst hz
        walk_at "DL"
        exact rt_of hq
      · have hz' : ¬ ((xs.length : Int) = 0) := fun z => hz (List.length_eq_zero_iff.mp (by omega))
        rw [decide_eq_false hz']
        walk_at "DL"
        have hq' : q (.bl (goesD none xs)) O := by
          have e : isStrandD (.tup xs) = goesD none xs := by
            cases xs with
            | nil => exact absurd rfl hz
            | cons _ _ => rfl
          rw [e] at hq
          exact hq
        refine for_rest (fun r ds' O' => O' = O ∧ ∃ l v, ds' = [some (.tup xs), some (lastD l), v] ∧ (∀ x ∈ r, Kr x) ∧ q (.bl (goesD (l.map ch) r)) O) ⟨rfl, none, none, rfl, hk, hq'⟩ ?_ ?_
        · rintro x r ds' O' ⟨rfl, l, v, rfl, hr', hq2⟩ R hR
          have kx : Kr x := hr' x List.mem_cons_self
          walk_at "DL"
          refine ⟨x, rfl, kx, ?_⟩
          cases hx : isRunD x with
          | false =>
            walk_at "DL"
            rw [goes_no hx] at hq2
            exact rt_of hq2
          | true =>
            obtain ⟨b, n, rfl, hn⟩ := isRun_of hx
            rw [goes_eR, decide_eq_true hn, Bool.true_and] at hq2
            have fin : ∀ k : Bool, k = decide (l = some b) → (if k = true then Rt q (.bl false) O' else R [some (.tup xs), some (.str (ch b)), some (eR (b, n))] O') := fun k hk' => by
              subst hk'
              by_cases e : l = some b
              · rw [decide_eq_true e] at hq2 ⊢
                exact rt_of hq2
              · rw [decide_eq_false e] at hq2 ⊢
                exact hR _ _ ⟨rfl, some b, _, rfl, fun y hy => hr' y (List.mem_cons_of_mem _ hy), hq2⟩
            cases l with
            | none =>
              rw [show lastD none = .non from rfl]
              walk_at "DL"
              exact fin false rfl
            | some a =>
              rw [show lastD (some a) = .str (ch a) from rfl]
              walk_at "DL"
              exact fin (decide (b = a)) (by cases a <;> cases b <;> rfl)
        · rintro ds' O' ⟨rfl, l, v, rfl, _, hq2⟩
          exact rt_of hq2
    | _ =>
      walk_at "DL"
      exact rt_of hq
/-- an error is due, or the rest -/
def S_require_strand (T : Tx K mg) : DSp := fun as O q e => ∃ x, as = [x] ∧ Ks x ∧ (isStrandD x = true → q .non O) ∧ (isStrandD x = false → e ⟨.ref T.c_InvalidStrand, none⟩ O)
def S_require_place (T : Tx K mg) : DSp := fun as O q e => ∃ x last, as = [x, .int last] ∧ Kn x ∧ (∀ i, x = .int i → 0 ≤ i → i ≤ last → q .non O) ∧ ((¬ ∃ i, x = .int i ∧ 0 ≤ i ∧ i ≤ last) → e ⟨.ref T.c_InvalidPlace, none⟩ O)
theorem ok_require_strand (T : Tx K mg) : FnD P w K mg base 4 T.a_require_strand T.d_require_strand ["value"] (S_require_strand T) := by
  refine fn_D T.F_require_strand sc_require_strand (fun as O q e h => ?_) (fun cdv A outer s H E hr as O q e h => ?_)
  · obtain ⟨x, rfl, _⟩ := h
    rfl
  · refine ⟨_, (dss_one (ds_if (dt_not (dt_val (de_call (L2N.takes_of rfl rfl rfl rfl) (ok_is_strand T) hr T.g_is_strand T.F_is_strand.kp (bn_is_strand T) (da_cons (de_var 0) da_nil)))) (dss_one (ds_raise (L2N.takes_of rfl rfl rfl rfl) T.x_InvalidStrand T.g_InvalidStrand T.k_InvalidStrand (raises_own T.b_InvalidStrand T.t_InvalidStrand))) dss_nil)), ?_⟩

    obtain ⟨x, rfl, hk, h1, h2⟩ := h
    walk_at "DL"
    refine ⟨x, rfl, hk, ?_⟩
    cases hx : isStrandD x with
    | true =>
      walk_at "DL"
      exact rt_of (h1 hx)
    | false =>
      walk_at "DL"
      exact ex_of (h2 hx)
theorem ok_require_place (T : Tx K mg) : FnD P w K mg base 3 T.a_require_place T.d_require_place ["value", "last"] (S_require_place T) := by
  refine fn_D T.F_require_place sc_require_place (fun as O q e h => ?_) (fun cdv A outer s H E hr as O q e h => ?_)
  · obtain ⟨x, last, rfl, _⟩ := h
    rfl
  · refine ⟨_, (dss_one (ds_if (dt_not (dt_val (de_call (L2N.takes_of rfl rfl rfl rfl) (ok_is_integer_within T) hr T.g_is_integer_within T.F_is_integer_within.kp (bn_is_integer_within T) (da_cons (de_var 0) (da_cons de_int (da_cons (de_var 1) da_nil)))))) (dss_one (ds_raise (L2N.takes_of rfl rfl rfl rfl) T.x_InvalidPlace T.g_InvalidPlace T.k_InvalidPlace (raises_own T.b_InvalidPlace T.t_InvalidPlace))) dss_nil)), ?_⟩

    obtain ⟨x, last, rfl, hk, h1, h2⟩ := h
    walk_at "DL"
    refine ⟨x, 0, last, rfl, hk, ?_⟩
    cases hw : isWithin 0 last x with
    | true =>
      obtain ⟨i, rfl, a, b⟩ := within_yes hw
      walk_at "DL"
      exact rt_of (h1 i rfl a b)
    | false =>
      walk_at "DL"
      exact ex_of (h2 (within_no hw))
end
def stepB (s e : Int) (st : List Rn × Int) (r : Rn) : List Rn × Int := (if max s st.2 < min e (st.2 + r.2) then st.1 ++ [(r.1, min e (st.2 + r.2) - max s st.2)] else st.1, st.2 + r.2)
/-- the runs of the beads s to e - 1 -/
def runsB (rs : List Rn) (s e : Int) : List Rn := (rs.foldl (stepB s e) ([], 0)).1
def S_total_beads : DSp := fun as O q _ => ∃ x rs, as = [x] ∧ (x = eS rs ∨ x = eL rs) ∧ rs.length ≤ 100000 ∧ q (.int (beads rs)) O
def S_total_dark : DSp := fun as O q _ => ∃ x rs, as = [x] ∧ (x = eS rs ∨ x = eL rs) ∧ rs.length ≤ 100000 ∧ q (.int (darks rs)) O
def S_runs_between : DSp := fun as O q _ => ∃ x rs s e, as = [x, .int s, .int e] ∧ (x = eS rs ∨ x = eL rs) ∧ rs.length ≤ 100000 ∧ q (eL (runsB rs s e)) O
theorem sz_lt' {n : Nat} (h : n ≤ 100000) : n < sizeLine := Nat.lt_of_le_of_lt h (by decide)
theorem sz_le' {n : Nat} (h : n ≤ 100000) : n ≤ sizeLine := Nat.le_of_lt (sz_lt' h)
theorem sum_ints (rs : List Rn) : intsOf (rs.map fun r => D.int r.2) = some (rs.map (·.2)) := by
  rw [show (rs.map fun r => D.int r.2) = (rs.map (·.2)).map D.int by rw [List.map_map]; rfl]
  exact intsOf_map _

section
variable {P : Program} {w : World} {K : PySem.W.Frag} {mg : Str → Option Value} {base : Heap}
theorem ok_total_beads (T : Tx K mg) : FnD P w K mg base 1 T.a_total_beads T.d_total_beads ["runs"] S_total_beads := by
  refine fn_D T.F_total_beads sc_total_beads (fun as O q e h => ?_) (fun cdv A outer s H E hr as O q e h => ?_)
  · obtain ⟨x, rs, rfl, _⟩ := h
    rfl
  · refine ⟨_, (dss_one (ds_ret (de_blt (cr_sum rfl) lc_sum T.z_sum (by decide +kernel) (da_cons (de_lc [("_", 1), ("count", 2)] rfl sc_total_beads.nd (di_seq (de_var 0)) (blkOk_by (N := ["runs", "_", "count"]) (sc := defScope s_total_beads) (by decide +kernel)) (fun _ _ _ _ _ => (dg_tup (n := 2) rfl (dg_cons (dg_name 1 sc_total_beads.nd) (dg_cons (dg_name 2 sc_total_beads.nd) dg_nil)))) (fun _ _ _ _ _ => dts_nil) (fun _ _ _ _ _ => (de_var 2))) da_nil)))), ?_⟩

    obtain ⟨x, rs, rfl, hx, hl, hq⟩ := h
    rcases hx with rfl | rfl
    all_goals
      simp only [eS, eL]
      walk_at "DL"
      refine comp_mpM eR rs (fun r => D.int r.2) (fun R h => h) (sz_lt' hl) (fun r hr R1 h1 => ?_) ?_
      · simp only [eR]
        walk_at "DL"
        exact h1
      · walk_at "DL"
        rw [sum_ints]
        exact rt_of hq
theorem ok_total_dark (T : Tx K mg) : FnD P w K mg base 1 T.a_total_dark T.d_total_dark ["runs"] S_total_dark := by
  refine fn_D T.F_total_dark sc_total_dark (fun as O q e h => ?_) (fun cdv A outer s H E hr as O q e h => ?_)
  · obtain ⟨x, rs, rfl, _⟩ := h
    rfl
  · refine ⟨_, (dss_one (ds_ret (de_blt (cr_sum rfl) lc_sum T.z_sum (by decide +kernel) (da_cons (de_lc [("colour", 1), ("count", 2)] rfl sc_total_dark.nd (di_seq (de_var 0)) (blkOk_by (N := ["runs", "colour", "count"]) (sc := defScope s_total_dark) (by decide +kernel)) (fun _ _ _ _ _ => (dg_tup (n := 2) rfl (dg_cons (dg_name 1 sc_total_dark.nd) (dg_cons (dg_name 2 sc_total_dark.nd) dg_nil)))) (fun _ _ _ _ _ => (dts_one (dt_eq hr (de_var 1) (de_glob (v := .str "D") (d := .str "D") T.g_DARK ⟨_, rfl⟩ (fun _ => .str _))))) (fun _ _ _ _ _ => (de_var 2))) da_nil)))), ?_⟩

    obtain ⟨x, rs, rfl, hx, hl, hq⟩ := h
    rcases hx with rfl | rfl
    all_goals
      simp only [eS, eL]
      walk_at "DL"
      refine comp_fmM eR rs (fun r => r.1) (fun r => D.int r.2) (fun R h => h) (sz_lt' hl) (fun r hr R1 R2 h1 h2 => ?_) ?_
      · simp only [eR]
        walk_at "DL"
        cases hb : r.1 with
        | true => 
          walk_at "DL"
          exact h1 hb
        | false =>
          walk_at "DL"
          exact h2 hb
      · walk_at "DL"
        rw [sum_ints]
        exact rt_of hq
end

abbrev Rw := D × Int
def eRw (r : Rw) : D := .tup [r.1, .int r.2]
abbrev Ct := D × Int × Int
def eCt (c : Ct) : D := .tup [c.1, .int c.2.1, .int c.2.2]
def stepC (s e : Int) (st : List Ct × Int) (r : Rw) : List Ct × Int := (if max s st.2 < min e (st.2 + r.2) then st.1 ++ [(r.1, max s st.2 - st.2, min e (st.2 + r.2) - max s st.2)] else st.1, st.2 + r.2)
/-- what lies at the places s to e - 1 of some rows -/
def cutB (rs : List Rw) (s e : Int) : List Ct := (rs.foldl (stepC s e) ([], 0)).1
def S_cut_between : DSp := fun as O q _ => ∃ x rs s e, as = [x, .int s, .int e] ∧ (x = .tup (rs.map eRw) ∨ x = .lst (rs.map eRw)) ∧ rs.length ≤ 100000 ∧ q (.lst ((cutB rs s e).map eCt)) O
def rowsOf (rs : List Rn) : List Rw := rs.map fun r => (D.str (ch r.1), r.2)
theorem rowsOf_eRw (rs : List Rn) : (rowsOf rs).map eRw = rs.map eR := by
  unfold rowsOf
  rw [List.map_map]
  rfl
def ctR (c : Ct) : D := .tup [c.1, .int c.2.2]
theorem cut_runs {s e : Int} : ∀ (rs : List Rn) (acc : List Ct) (acc' : List Rn) (b : Int), acc.map ctR = acc'.map eR → ((rowsOf rs).foldl (stepC s e) (acc, b)).1.map ctR = (rs.foldl (stepB s e) (acc', b)).1.map eR
  | [], acc, acc', b, h => h
  | r :: rs, acc, acc', b, h => by
    show ((rowsOf rs).foldl (stepC s e) (stepC s e (acc, b) (D.str (ch r.1), r.2))).1.map ctR = (rs.foldl (stepB s e) (stepB s e (acc', b) r)).1.map eR
    unfold stepC stepB
    dsimp only
    by_cases hc : max s b < min e (b + r.2)
    · rw [if_pos hc, if_pos hc]
      refine cut_runs rs _ _ _ ?_
      rw [List.map_append, List.map_append, h]
      rfl
    · rw [if_neg hc, if_neg hc]
      exact cut_runs rs _ _ _ h
theorem cutB_runs (rs : List Rn) (s e : Int) : (cutB (rowsOf rs) s e).map ctR = (runsB rs s e).map eR := cut_runs rs [] [] 0 rfl
theorem cut_len {s e : Int} : ∀ (rs : List Rw) (st : List Ct × Int), (rs.foldl (stepC s e) st).1.length ≤ st.1.length + rs.length
  | [], _ => Nat.le_refl _
  | r :: rs, st => by
    have h := cut_len (s := s) (e := e) rs (stepC s e st r)
    rw [List.foldl_cons]
    have h2 : (stepC s e st r).1.length ≤ st.1.length + 1 := by
      unfold stepC
      dsimp only
      split
      · rw [List.length_append]
        exact Nat.le_refl _
      · exact Nat.le_succ _
    rw [List.length_cons]
    omega
theorem cutB_len (rs : List Rw) (s e : Int) : (cutB rs s e).length ≤ rs.length := by
  have := cut_len (s := s) (e := e) rs ([], 0)
  simpa [cutB] using this
theorem runsB_le (rs : List Rn) (s e : Int) : (runsB rs s e).length ≤ rs.length := by
  have a := cutB_len (rowsOf rs) s e
  have b := congrArg List.length (cutB_runs rs s e)
  rw [List.length_map, List.length_map] at b
  rw [← b]
  simpa [rowsOf] using a

section
variable {P : Program} {w : World} {K : PySem.W.Frag} {mg : Str → Option Value} {base : Heap}
theorem ok_cut_between (T : Tx K mg) : FnD P w K mg base 1 T.a_cut_between T.d_cut_between ["rows", "start", "end"] S_cut_between := by
  refine fn_D T.F_cut_between sc_cut_between (fun as O q e h => ?_) (fun cdv A outer s H E hr as O q e h => ?_)
  · obtain ⟨x, rs, s, e, rfl, _⟩ := h
    rfl
  · refine ⟨_, (dss_cons (ds_set 3 sc_cut_between.nd (de_lstO da_nil))
    (dss_cons (ds_set 4 sc_cut_between.nd de_int)
    (dss_cons (ds_for (by passes_own) rfl (di_seq (de_var 0)) (dg_tup (n := 2) rfl (dg_cons (dg_name 5 sc_cut_between.nd) (dg_cons (dg_name 6 sc_cut_between.nd) dg_nil))) (dss_cons (ds_set 7 sc_cut_between.nd (de_blt (call_max2 rfl) lc_max2 T.z_max (by decide +kernel) (da_cons (de_var 1) (da_cons (de_var 4) da_nil))))
    (dss_cons (ds_set 8 sc_cut_between.nd (de_blt (call_min2 rfl) lc_min2 T.z_min (by decide +kernel) (da_cons (de_var 2) (da_cons (de_add (de_var 4) (de_var 6)) da_nil))))
    (dss_cons (ds_if (dt_lt (de_var 7) (de_var 8)) (dss_one (ds_expr (de_meth PySem.F.plainAttrs_list PySem.F.slot_list_append PySem.F.type_list_append mt_append lm_append (de_var 3) (da_cons (de_tup (da_cons (de_var 5) (da_cons (de_sub (de_var 7) (de_var 4)) (da_cons (de_sub (de_var 8) (de_var 7)) da_nil)))) da_nil)))) dss_nil)
    (dss_one (ds_aug 4 sc_cut_between.nd (de_var 6) ip_add lip_add))))))
    (dss_one (ds_ret (de_var 3)))))), ?_⟩

    obtain ⟨x, rs, s0, e0, rfl, hx, hl, hq⟩ := h
    rcases hx with rfl | rfl
    all_goals
      walk_at "DL"
      refine ⟨Nat.zero_le _, fun p hp => ?_⟩
      try walk_at "DL"
      refine loopX_map eRw rs (stepC s0 e0) (fun i st ds' O' => (∃ y a b c d, ds' = [some y, some (.int s0), some (.int e0), some (.opq (.ref p)), some (.int st.2), a, b, c, d]) ∧ O' = oset O p (.lst (st.1.map eCt)) ∧ st.1.length ≤ i) ([], 0)
        ⟨⟨_, none, none, none, none, rfl⟩, rfl, Nat.le_refl _⟩ ?_ ?_
      · rintro i ⟨found, begin⟩ ⟨c, n⟩ ds' O' hi ⟨⟨y, a1, a2, a3, a4, rfl⟩, rfl, hle⟩ R hR
        have hil : i < rs.length := (List.getElem?_eq_some_iff.mp hi).1
        simp only [eRw]
        walk_at "DL"
        by_cases hlt : max s0 begin < min e0 (begin + n)
        · rw [decide_eq_true hlt]
          walk_at "DL"
          refine ⟨by decide, by rw [List.length_map]; exact sz_lt' (by have := hle; dsimp only at this; omega), ?_⟩
          refine hR _ _ ⟨⟨y, _, _, _, _, rfl⟩, ?_, ?_⟩
          · simp only [stepC, if_pos hlt, List.map_append, List.map_cons, List.map_nil, eCt]
          · simp only [stepC, if_pos hlt, List.length_append, List.length_cons, List.length_nil]
            exact Nat.succ_le_succ hle
        · rw [decide_eq_false hlt]
          walk_at "DL"
          refine hR _ _ ⟨⟨y, _, _, _, _, rfl⟩, ?_, ?_⟩
          · simp only [stepC, if_neg hlt]
          · simp only [stepC, if_neg hlt]
            exact Nat.le_succ_of_le hle
      · rintro ds' O' ⟨⟨y, a1, a2, a3, a4, rfl⟩, rfl, hle⟩
        walk_at "DL"
        exact rt_new hp hq
theorem ok_runs_between (T : Tx K mg) : FnD P w K mg base 2 T.a_runs_between T.d_runs_between ["runs", "start", "end"] S_runs_between := by
  refine fn_D T.F_runs_between sc_runs_between (fun as O q e h => ?_) (fun cdv A outer s H E hr as O q e h => ?_)
  · obtain ⟨x, rs, s, e, rfl, _⟩ := h
    rfl
  · refine ⟨_, (dss_one (ds_ret (de_lc [("colour", 3), ("_", 4), ("count", 5)] rfl sc_runs_between.nd (di_seq (de_call (L2N.takes_of rfl rfl rfl rfl) (ok_cut_between T) hr T.g_cut_between T.F_cut_between.kp (bn_cut_between T) (da_cons (de_var 0) (da_cons (de_var 1) (da_cons (de_var 2) da_nil))))) (blkOk_by (N := ["runs", "start", "end", "colour", "_", "count"]) (sc := defScope s_runs_between) (by decide +kernel)) (fun _ _ _ _ _ => (dg_tup (n := 3) rfl (dg_cons (dg_name 3 sc_runs_between.nd) (dg_cons (dg_name 4 sc_runs_between.nd) (dg_cons (dg_name 5 sc_runs_between.nd) dg_nil))))) (fun _ _ _ _ _ => dts_nil) (fun _ _ _ _ _ => (de_tup (da_cons (de_var 3) (da_cons (de_var 5) da_nil))))))), ?_⟩

    obtain ⟨x, rs, s0, e0, rfl, hx, hl, hq⟩ := h
    have hlen := cutB_len (rowsOf rs) s0 e0
    rw [show (rowsOf rs).length = rs.length by simp [rowsOf]] at hlen
    try walk_at "DL"
    refine ⟨x, rowsOf rs, s0, e0, rfl, ?_, by simpa [rowsOf] using hl, ?_⟩
    · rw [rowsOf_eRw]
      exact hx
    try walk_at "DL"
    refine compX_mp eCt (cutB (rowsOf rs) s0 e0) ctR (sz_lt' (by omega)) (fun c hc R1 h1 => ?_) ?_
    · simp only [eCt]
      try walk_at "DL"
      exact ⟨by decide, h1⟩
    · rw [cutB_runs]
      exact rt_of hq
end

theorem goes_rs : ∀ (l : Option Bool) (xs : List D), goesD (l.map ch) xs = true → ∃ rs : List Rn, xs = rs.map eR ∧ (∀ r ∈ rs, 1 ≤ r.2) ∧ Alt rs ∧ ∀ a, rs.head? = some a → l ≠ some a.1
  | _, [], _ => ⟨[], rfl, (fun _ h => by cases h), trivial, (fun _ h => by cases h)⟩
  | l, x :: xs, h => by
    cases hx : isRunD x with
    | false =>
      rw [goes_no hx] at h
      cases h
    | true =>
      obtain ⟨b, n, rfl, hn⟩ := isRun_of hx
      rw [goes_eR, Bool.and_eq_true, Bool.and_eq_true] at h
      obtain ⟨⟨_, h2⟩, h3⟩ := h
      obtain ⟨rs, rfl, hp, ha, hh⟩ := goes_rs (some b) xs h3
      refine ⟨(b, n) :: rs, rfl, fun r hr => ?_, ?_, fun a e => ?_⟩
      · rcases List.mem_cons.mp hr with rfl | hr
        · exact hn
        · exact hp r hr
      · cases rs with
        | nil => trivial
        | cons c r => exact ⟨fun z => hh c rfl (congrArg some z), ha⟩
      · cases e
        intro z
        rw [z, decide_eq_true rfl] at h2
        cases h2
theorem strand_of {x : D} (h : isStrandD x = true) : ∃ rs, Vd rs ∧ x = eS rs := by
  cases x with
  | tup xs =>
    have h' : (!xs.isEmpty && goesD none xs) = true := h
    rw [Bool.and_eq_true] at h'
    obtain ⟨rs, rfl, hp, ha, _⟩ := goes_rs none xs h'.2
    refine ⟨rs, ⟨fun z => ?_, hp, ha⟩, rfl⟩
    subst z
    exact absurd h'.1 (by decide)
  | _ => cases h
theorem goes_alt : ∀ (l : Option Bool) (rs : List Rn), (∀ r ∈ rs, 1 ≤ r.2) → Alt rs → (∀ a, rs.head? = some a → l ≠ some a.1) → goesD (l.map ch) (rs.map eR) = true
  | _, [], _, _, _ => rfl
  | l, (b, n) :: rs, hp, ha, hh => by
    rw [List.map_cons, goes_eR, decide_eq_true (hp _ List.mem_cons_self), decide_eq_false (hh _ rfl), Bool.true_and]
    show (!false && _) = true
    rw [Bool.not_false, Bool.true_and]
    refine goes_alt (some b) rs (fun r hr => hp r (List.mem_cons_of_mem _ hr)) ?_ fun a e => ?_
    · cases rs with
      | nil => trivial
      | cons c r => exact ha.2
    · cases rs with
      | nil => cases e
      | cons c r =>
        cases e
        intro z
        exact ha.1 (Option.some.inj z)
theorem strand_yes {rs : List Rn} (v : Vd rs) : isStrandD (eS rs) = true := by
  show (!(rs.map eR).isEmpty && goesD none (rs.map eR)) = true
  rw [show goesD none (rs.map eR) = true from goes_alt none rs v.pos v.alt fun _ _ z => by cases z]
  cases rs with
  | nil => exact absurd rfl v.ne
  | cons _ _ => rfl
theorem ks_eS (rs : List Rn) : Ks (eS rs) := fun x hx => by
  obtain ⟨r, _, rfl⟩ := List.mem_map.mp hx
  exact ⟨trivial, trivial⟩
/-- not too many runs -/
def Sz (x : D) : Prop := ∀ xs, x = .tup xs → xs.length ≤ 100000
theorem sz_eS {rs : List Rn} (h : rs.length ≤ 100000) : Sz (eS rs) := fun xs e => by
  cases e
  rw [List.length_map]
  exact h
theorem sz_of {rs : List Rn} (h : Sz (eS rs)) : rs.length ≤ 100000 := by
  have := h _ rfl
  rw [List.length_map] at this
  exact this
def dplace (index : Int) : List Rn → Int → Int → Int
  | [], _, light => light + index
  | (b, n) :: r, dark, light => if b = true then (if index < dark + n then light + index else dplace index r (dark + n) light) else dplace index r dark (light + n)
section
variable {K : PySem.W.Frag} {mg : Str → Option Value}
def S_count_beads (T : Tx K mg) : DSp := fun as O q e => ∃ x, as = [x] ∧ Ks x ∧ Sz x ∧ (isStrandD x = false → e ⟨.ref T.c_InvalidStrand, none⟩ O) ∧ ∀ rs, Vd rs → x = eS rs → q (.int (beads rs)) O
def S_count_dark (T : Tx K mg) : DSp := fun as O q e => ∃ x, as = [x] ∧ Ks x ∧ Sz x ∧ (isStrandD x = false → e ⟨.ref T.c_InvalidStrand, none⟩ O) ∧ ∀ rs, Vd rs → x = eS rs → q (.int (darks rs)) O
/-- what colour_at finds: the one run of one bead -/
def S_colour_at (T : Tx K mg) : DSp := fun as O q e => ∃ x p, as = [x, p] ∧ Ks x ∧ Sz x ∧ Kn p ∧ (isStrandD x = false → e ⟨.ref T.c_InvalidStrand, none⟩ O) ∧ ∀ rs, Vd rs → x = eS rs →
  ((¬ ∃ i, p = .int i ∧ 0 ≤ i ∧ i ≤ beads rs - 1) → e ⟨.ref T.c_InvalidPlace, none⟩ O) ∧ ∀ i, p = .int i → 0 ≤ i → i ≤ beads rs - 1 → ∃ c n r, runsB rs i (i + 1) = (c, n) :: r ∧ q (.str (ch c)) O
def S_dark_before (T : Tx K mg) : DSp := fun as O q e => ∃ x p, as = [x, p] ∧ Ks x ∧ Sz x ∧ Kn p ∧ (isStrandD x = false → e ⟨.ref T.c_InvalidStrand, none⟩ O) ∧ ∀ rs, Vd rs → x = eS rs →
  ((¬ ∃ i, p = .int i ∧ 0 ≤ i ∧ i ≤ beads rs) → e ⟨.ref T.c_InvalidPlace, none⟩ O) ∧ ∀ i, p = .int i → 0 ≤ i → i ≤ beads rs → q (.int (darks (runsB rs 0 i))) O
def S_dark_place (T : Tx K mg) : DSp := fun as O q e => ∃ x p, as = [x, p] ∧ Ks x ∧ Sz x ∧ Kn p ∧ (isStrandD x = false → e ⟨.ref T.c_InvalidStrand, none⟩ O) ∧ ∀ rs, Vd rs → x = eS rs →
  ((¬ ∃ i, p = .int i ∧ 0 ≤ i ∧ i ≤ darks rs - 1) → e ⟨.ref T.c_InvalidIndex, none⟩ O) ∧ ∀ i, p = .int i → 0 ≤ i → i ≤ darks rs - 1 → q (.int (dplace i rs 0 0)) O
end
theorem runsB_len (s e : Int) : ∀ (rs : List Rn) (st : List Rn × Int), (rs.foldl (stepB s e) st).1.length ≤ st.1.length + rs.length
  | [], _ => Nat.le_refl _
  | r :: rs, st => by
    have h := runsB_len s e rs (stepB s e st r)
    rw [List.foldl_cons]
    have h2 : (stepB s e st r).1.length ≤ st.1.length + 1 := by
      unfold stepB
      dsimp only
      split
      · rw [List.length_append]
        exact Nat.le_refl _
      · exact Nat.le_succ _
    rw [List.length_cons]
    omega
theorem runsB_sz {rs : List Rn} (h : rs.length ≤ 100000) (s e : Int) : (runsB rs s e).length ≤ 100000 := by
  have := runsB_len s e rs ([], 0)
  unfold runsB
  simp only [List.length_nil, Nat.zero_add] at this
  omega

section
variable {P : Program} {w : World} {K : PySem.W.Frag} {mg : Str → Option Value} {base : Heap}
theorem ok_count_beads (T : Tx K mg) : FnD P w K mg base 5 T.a_count_beads T.d_count_beads ["strand"] (S_count_beads T) := by
  refine fn_D T.F_count_beads sc_count_beads (fun as O q e h => ?_) (fun cdv A outer s H E hr as O q e h => ?_)
  · obtain ⟨x, rfl, _⟩ := h
    rfl
  · refine ⟨_, (dss_cons (ds_expr (de_call (L2N.takes_of rfl rfl rfl rfl) (ok_require_strand T) hr T.g_require_strand T.F_require_strand.kp (bn_require_strand T) (da_cons (de_var 0) da_nil)))
    (dss_one (ds_ret (de_call (L2N.takes_of rfl rfl rfl rfl) (ok_total_beads T) hr T.g_total_beads T.F_total_beads.kp (bn_total_beads T) (da_cons (de_var 0) da_nil))))), ?_⟩

    obtain ⟨x, rfl, hk, hz, h1, h2⟩ := h
    try walk_at "DL"
    refine ⟨x, rfl, hk, fun hs => ?_, fun hs => ex_of (h1 hs)⟩
    obtain ⟨rs, v, rfl⟩ := strand_of hs
    have hl := sz_of hz

    try walk_at "DL"
    exact ⟨_, rs, rfl, .inl rfl, hl, rt_of (h2 rs v rfl)⟩
theorem ok_count_dark (T : Tx K mg) : FnD P w K mg base 5 T.a_count_dark T.d_count_dark ["strand"] (S_count_dark T) := by
  refine fn_D T.F_count_dark sc_count_dark (fun as O q e h => ?_) (fun cdv A outer s H E hr as O q e h => ?_)
  · obtain ⟨x, rfl, _⟩ := h
    rfl
  · refine ⟨_, (dss_cons (ds_expr (de_call (L2N.takes_of rfl rfl rfl rfl) (ok_require_strand T) hr T.g_require_strand T.F_require_strand.kp (bn_require_strand T) (da_cons (de_var 0) da_nil)))
    (dss_one (ds_ret (de_call (L2N.takes_of rfl rfl rfl rfl) (ok_total_dark T) hr T.g_total_dark T.F_total_dark.kp (bn_total_dark T) (da_cons (de_var 0) da_nil))))), ?_⟩

    obtain ⟨x, rfl, hk, hz, h1, h2⟩ := h
    try walk_at "DL"
    refine ⟨x, rfl, hk, fun hs => ?_, fun hs => ex_of (h1 hs)⟩
    obtain ⟨rs, v, rfl⟩ := strand_of hs
    have hl := sz_of hz

    try walk_at "DL"
    exact ⟨_, rs, rfl, .inl rfl, hl, rt_of (h2 rs v rfl)⟩
theorem ok_colour_at (T : Tx K mg) : FnD P w K mg base 5 T.a_colour_at T.d_colour_at ["strand", "place"] (S_colour_at T) := by
  refine fn_D T.F_colour_at sc_colour_at (fun as O q e h => ?_) (fun cdv A outer s H E hr as O q e h => ?_)
  · obtain ⟨x, p, rfl, _⟩ := h
    rfl
  · refine ⟨_, (dss_cons (ds_expr (de_call (L2N.takes_of rfl rfl rfl rfl) (ok_require_strand T) hr T.g_require_strand T.F_require_strand.kp (bn_require_strand T) (da_cons (de_var 0) da_nil)))
    (dss_cons (ds_expr (de_call (L2N.takes_of rfl rfl rfl rfl) (ok_require_place T) hr T.g_require_place T.F_require_place.kp (bn_require_place T) (da_cons (de_var 1) (da_cons (de_sub (de_call (L2N.takes_of rfl rfl rfl rfl) (ok_total_beads T) hr T.g_total_beads T.F_total_beads.kp (bn_total_beads T) (da_cons (de_var 0) da_nil)) de_int) da_nil))))
    (dss_cons (ds_asg (de_ix (de_call (L2N.takes_of rfl rfl rfl rfl) (ok_runs_between T) hr T.g_runs_between T.F_runs_between.kp (bn_runs_between T) (da_cons (de_var 0) (da_cons (de_var 1) (da_cons (de_add (de_var 1) de_int) da_nil)))) de_int) (dg_tup (n := 2) rfl (dg_cons (dg_name 2 sc_colour_at.nd) (dg_cons (dg_name 3 sc_colour_at.nd) dg_nil))))
    (dss_one (ds_ret (de_var 2)))))), ?_⟩

    obtain ⟨x, p, rfl, hk, hz, hp, h1, h2⟩ := h
    try walk_at "DL"
    refine ⟨x, rfl, hk, fun hs => ?_, fun hs => ex_of (h1 hs)⟩
    obtain ⟨rs, v, rfl⟩ := strand_of hs
    have hl := sz_of hz

    obtain ⟨h3, h4⟩ := h2 rs v rfl
    try walk_at "DL"
    refine ⟨_, rs, rfl, .inl rfl, hl, ?_⟩
    try walk_at "DL"
    refine ⟨p, _, rfl, hp, fun i hi a b => ?_, fun z => ex_of (h3 z)⟩
    subst hi
    obtain ⟨c, n, r, e1, hq⟩ := h4 i rfl a b
    try walk_at "DL"
    refine ⟨_, rs, i, i + 1, rfl, .inl rfl, hl, ?_⟩
    rw [e1]
    simp only [eL, List.map_cons]
    try walk_at "DL"
    simp only [eR]
    try walk_at "DL"
    exact rt_of hq
theorem ok_dark_before (T : Tx K mg) : FnD P w K mg base 5 T.a_dark_before T.d_dark_before ["strand", "place"] (S_dark_before T) := by
  refine fn_D T.F_dark_before sc_dark_before (fun as O q e h => ?_) (fun cdv A outer s H E hr as O q e h => ?_)
  · obtain ⟨x, p, rfl, _⟩ := h
    rfl
  · refine ⟨_, (dss_cons (ds_expr (de_call (L2N.takes_of rfl rfl rfl rfl) (ok_require_strand T) hr T.g_require_strand T.F_require_strand.kp (bn_require_strand T) (da_cons (de_var 0) da_nil)))
    (dss_cons (ds_expr (de_call (L2N.takes_of rfl rfl rfl rfl) (ok_require_place T) hr T.g_require_place T.F_require_place.kp (bn_require_place T) (da_cons (de_var 1) (da_cons (de_call (L2N.takes_of rfl rfl rfl rfl) (ok_total_beads T) hr T.g_total_beads T.F_total_beads.kp (bn_total_beads T) (da_cons (de_var 0) da_nil)) da_nil))))
    (dss_one (ds_ret (de_call (L2N.takes_of rfl rfl rfl rfl) (ok_total_dark T) hr T.g_total_dark T.F_total_dark.kp (bn_total_dark T) (da_cons (de_call (L2N.takes_of rfl rfl rfl rfl) (ok_runs_between T) hr T.g_runs_between T.F_runs_between.kp (bn_runs_between T) (da_cons (de_var 0) (da_cons de_int (da_cons (de_var 1) da_nil)))) da_nil)))))), ?_⟩

    obtain ⟨x, p, rfl, hk, hz, hp, h1, h2⟩ := h
    try walk_at "DL"
    refine ⟨x, rfl, hk, fun hs => ?_, fun hs => ex_of (h1 hs)⟩
    obtain ⟨rs, v, rfl⟩ := strand_of hs
    have hl := sz_of hz

    obtain ⟨h3, h4⟩ := h2 rs v rfl
    try walk_at "DL"
    refine ⟨_, rs, rfl, .inl rfl, hl, ?_⟩
    try walk_at "DL"
    refine ⟨p, _, rfl, hp, fun i hi a b => ?_, fun z => ex_of (h3 z)⟩
    subst hi
    try walk_at "DL"
    refine ⟨_, rs, 0, i, rfl, .inl rfl, hl, ?_⟩
    exact ⟨_, runsB rs 0 i, rfl, .inr rfl, runsB_sz hl 0 i, rt_of (h4 i rfl a b)⟩
theorem ok_dark_place (T : Tx K mg) : FnD P w K mg base 5 T.a_dark_place T.d_dark_place ["strand", "index"] (S_dark_place T) := by
  refine fn_D T.F_dark_place sc_dark_place (fun as O q e h => ?_) (fun cdv A outer s H E hr as O q e h => ?_)
  · obtain ⟨x, p, rfl, _⟩ := h
    rfl
  · refine ⟨_, (dss_cons (ds_expr (de_call (L2N.takes_of rfl rfl rfl rfl) (ok_require_strand T) hr T.g_require_strand T.F_require_strand.kp (bn_require_strand T) (da_cons (de_var 0) da_nil)))
    (dss_cons (ds_if (dt_not (dt_val (de_call (L2N.takes_of rfl rfl rfl rfl) (ok_is_integer_within T) hr T.g_is_integer_within T.F_is_integer_within.kp (bn_is_integer_within T) (da_cons (de_var 1) (da_cons de_int (da_cons (de_sub (de_call (L2N.takes_of rfl rfl rfl rfl) (ok_total_dark T) hr T.g_total_dark T.F_total_dark.kp (bn_total_dark T) (da_cons (de_var 0) da_nil)) de_int) da_nil)))))) (dss_one (ds_raise (L2N.takes_of rfl rfl rfl rfl) T.x_InvalidIndex T.g_InvalidIndex T.k_InvalidIndex (raises_own T.b_InvalidIndex T.t_InvalidIndex))) dss_nil)
    (dss_cons (ds_set 2 sc_dark_place.nd de_int)
    (dss_cons (ds_set 3 sc_dark_place.nd de_int)
    (dss_cons (ds_for (by passes_own) rfl (di_seq (de_var 0)) (dg_tup (n := 2) rfl (dg_cons (dg_name 4 sc_dark_place.nd) (dg_cons (dg_name 5 sc_dark_place.nd) dg_nil))) (dss_one (ds_if (dt_eq hr (de_var 4) (de_glob (v := .str "L") (d := .str "L") T.g_LIGHT ⟨_, rfl⟩ (fun _ => .str _))) (dss_one (ds_aug 3 sc_dark_place.nd (de_var 5) ip_add lip_add)) (dss_one (ds_if (dt_gt (de_add (de_var 2) (de_var 5)) (de_var 1)) (dss_one ds_break) (dss_one (ds_aug 2 sc_dark_place.nd (de_var 5) ip_add lip_add)))))))
    (dss_one (ds_ret (de_add (de_var 3) (de_var 1))))))))), ?_⟩

    obtain ⟨x, p, rfl, hk, hz, hp, h1, h2⟩ := h
    try walk_at "DL"
    refine ⟨x, rfl, hk, fun hs => ?_, fun hs => ex_of (h1 hs)⟩
    obtain ⟨rs, v, rfl⟩ := strand_of hs
    have hl := sz_of hz

    obtain ⟨h3, h4⟩ := h2 rs v rfl
    try walk_at "DL"
    refine ⟨_, rs, rfl, .inl rfl, hl, ?_⟩
    try walk_at "DL"
    refine ⟨p, 0, darks rs - 1, rfl, hp, ?_⟩
    cases hw : isWithin 0 (darks rs - 1) p with
    | false =>
      walk_at "DL"
      exact ex_of (h3 (within_no hw))
    | true =>
      obtain ⟨i, rfl, a, b⟩ := within_yes hw
      walk_at "DL"
      refine loopX_rest eR rs (fun r ds' O' => O' = O ∧ ∃ dk lt a b, ds' = [some (eS rs), some (.int i), some (.int dk), some (.int lt), a, b] ∧ q (.int (dplace i r dk lt)) O) ⟨rfl, 0, 0, none, none, rfl, h4 i rfl a b⟩ ?_ ?_
      · rintro ⟨c, n⟩ r ds' O' ⟨rfl, dk, lt, a1, a2, rfl, hq⟩ R hR
        simp only [eR]
        walk_at "DL"
        cases c with
        | false =>
          walk_at "DL"
          exact hR _ _ ⟨rfl, _, _, _, _, rfl, hq⟩
        | true =>
          walk_at "DL"
          unfold dplace at hq
          rw [if_pos rfl] at hq
          by_cases hlt : i < dk + n
          · rw [if_pos hlt] at hq
            rw [decide_eq_true hlt]
            walk_at "DL"
            exact rt_of hq
          · rw [if_neg hlt] at hq
            rw [decide_eq_false hlt]
            walk_at "DL"
            exact hR _ _ ⟨rfl, _, _, _, _, rfl, hq⟩
      · rintro ds' O' ⟨rfl, dk, lt, a1, a2, rfl, hq⟩
        walk_at "DL"
        exact rt_of hq
end
theorem atI3 {α : Type} {x y z u : α} {r : List α} : atI (x :: y :: z :: u :: r) 3 = some u := by
  unfold atI ixN
  rw [if_pos (by decide), if_pos (by rw [List.length_cons, List.length_cons, List.length_cons, List.length_cons]; omega)]
  rfl
theorem atI_mem {α : Type} {xs : List α} {i : Int} (h0 : 0 ≤ i) (h : i < xs.length) : ∃ x, x ∈ xs ∧ atI xs i = some x := by
  have l : i.toNat < xs.length := by omega
  exact ⟨xs[i.toNat], List.getElem_mem l, atI_int h0 (List.getElem?_eq_getElem l)⟩
/-- the draws' cell p, after at most n draws -/
def Src (O : Ow) (p : Addr) (n : Nat) : Prop := ∃ a b c, O p = some (.lst [.int a, .int b, .int c]) ∧ 0 ≤ a ∧ 0 ≤ b ∧ b < 2 ^ 150 ∧ 0 ≤ c ∧ c ≤ (n : Int)
/-- all else is kept -/
def Kp (O : Ow) (p : Addr) (O' : Ow) : Prop := ∀ b c, b ≠ p → O b = some c → O' b = some c
theorem Kp.refl {O : Ow} {p : Addr} : Kp O p O := fun _ _ _ h => h
theorem Kp.trans {O O' O2 : Ow} {p : Addr} (a : Kp O p O') (b : Kp O' p O2) : Kp O p O2 := fun x c n h => b x c n (a x c n h)
theorem Kp.set {O : Ow} {p : Addr} {c : OC} : Kp O p (oset O p c) := fun b c' n h => by
  rw [oset_ne n]
  exact h
theorem Kp.new {O O' : Ow} {p q : Addr} {c : OC} (k : Kp O p O') (h : O q = none) : Kp O p (oset O' q c) := fun b c' n e => by
  have ne : b ≠ q := fun z => by
    rw [z, h] at e
    cases e
  rw [oset_ne ne]
  exact k b c' n e
theorem Src.mono {O : Ow} {p : Addr} {n m : Nat} (h : Src O p n) (l : n ≤ m) : Src O p m := by
  obtain ⟨a, b, c, h1, h2, h3, h4, h5, h6⟩ := h
  exact ⟨a, b, c, h1, h2, h3, h4, h5, by omega⟩
theorem Src.ne {O : Ow} {p q : Addr} {n : Nat} (h : Src O p n) (hq : O q = none) : q ≠ p := fun z => by
  obtain ⟨a, b, c, h1, _⟩ := h
  rw [z, h1] at hq
  cases hq
theorem Src.new {O : Ow} {p q : Addr} {n : Nat} {c : OC} (h : Src O p n) (ne : q ≠ p) : Src (oset O q c) p n := by
  obtain ⟨a, b, c', h1, h2⟩ := h
  exact ⟨a, b, c', by rw [oset_ne (Ne.symm ne)]; exact h1, h2⟩
theorem bits_le {x : Int} {n : Nat} (h : x.natAbs < 2 ^ n) : Builtin.Int.intBits x ≤ n := intBits_le h
theorem pow_okW {x : Int} {k : Int} (h : x.natAbs < 2 ^ 1000) (h0 : 0 ≤ k) (hk : k ≤ 1000) : CPowW x k := by
  refine ⟨h0, ?_⟩
  have b := bits_le h
  have : (Builtin.Int.intBits x : Int) * k ≤ 1000 * 1000 := Int.mul_le_mul (by omega) hk h0 (by omega)
  omega
theorem abs_lt {x : Int} {n : Nat} (h0 : 0 ≤ x) (h : x < 2 ^ n) : x.natAbs < 2 ^ n := by
  have e : ((2 : Int) ^ n) = ((2 ^ n : Nat) : Int) := by rw [Int.natCast_pow]; rfl
  rw [e] at h
  omega
def S_law_source : DSp := fun as O q _ => ∃ ns k, as = [.scr ns, .int k] ∧ 0 ≤ k ∧ k < 1000 ∧ ∀ p O', O p = none → Src O' p 0 → Sub O O' → q (.opq (.ref p)) O'
def S_law_draw : DSp := fun as O q _ => ∃ p bound n, as = [.opq (.ref p), .int bound] ∧ Src O p n ∧ n ≤ 1000000 ∧ 0 < bound ∧ bound < 2 ^ 500 ∧ ∀ r O', 0 ≤ r → r < bound → Src O' p (n + 1) → Kp O p O' → (∀ b, O b = none → O' b = none) → q (.int r) O'

section
variable {P : Program} {w : World} {K : PySem.W.Frag} {mg : Str → Option Value} {base : Heap}
theorem ok_law_source (T : Tx K mg) : FnD P w K mg base 1 T.a_law_source T.d_law_source ["script", "k"] S_law_source := by
  refine fn_D T.F_law_source sc_law_source (fun as O q e h => ?_) (fun cdv A outer s H E hr as O q e h => ?_)
  · obtain ⟨ns, k, rfl, _⟩ := h
    rfl
  · refine ⟨_, (dss_cons (ds_set 2 sc_law_source.nd (de_ifexp (dt_lt (de_var 1) (de_blt call_len lc_len T.z_len (by decide +kernel) (da_cons (de_var 0) da_nil))) (de_ix (de_var 0) (de_var 1)) de_int))
    (dss_one (ds_ret (de_lstO (da_cons (de_blt (call_max2 rfl) lc_max2 T.z_max (by decide +kernel) (da_cons de_int (da_cons (de_sub (de_blt call_abs lc_abs T.z_abs (by decide +kernel) (da_cons (de_var 2) da_nil)) (de_pow de_int de_int)) da_nil))) (da_cons (de_add (de_mod (de_var 2) (de_add (de_pow de_int de_int) de_int)) (de_mul de_int (de_var 1))) (da_cons de_int da_nil))))))), ?_⟩

    obtain ⟨ns, k, rfl, hk0, hk1, hq⟩ := h
    have p18 : CPowW 10 18 := pow_okW (by decide) (by decide) (by decide)
    have p40 : CPowW 10 40 := pow_okW (by decide) (by decide) (by decide)
    walk_at "DL"
    have go : ∀ cell : Int, CPowW 10 18 ∧ CPowW 10 40 ∧ 0 < (10 : Int) ^ (40 : Int).toNat + 121 ∧ CMulW 32452867 k ∧ 3 ≤ sizeLine ∧ ∀ p, O p = none → Rt q (.opq (.ref p)) (oset O p (.lst [D.int (max 0 ((if cell < 0 then -cell else cell) - 10 ^ (18 : Int).toNat)), D.int (cell % (10 ^ (40 : Int).toNat + 121) + 32452867 * k), D.int 0])) := fun cell => by
      have e40 : ((10 : Int) ^ (40 : Int).toNat) = 10 ^ 40 := rfl
      refine ⟨p18, p40, by rw [e40]; decide, wide_mul (a := 30) (b := 20) (by decide) (abs_lt hk0 (by omega)) (by decide) (by decide) (by decide), by decide, fun p hp => rt_of (hq p _ hp ⟨_, _, _, oset_same, ?_, ?_, ?_, Int.le_refl _, Int.le_refl _⟩ (Sub.new hp))⟩
      · omega
      · have := Int.emod_nonneg cell (show (10 : Int) ^ 40 + 121 ≠ 0 by decide)
        rw [e40]
        omega
      · have h1 := Int.emod_lt_of_pos cell (show (0 : Int) < 10 ^ 40 + 121 by decide)
        rw [e40]
        have h2 : (10 : Int) ^ 40 + 121 + 32452867 * 1000 < 2 ^ 150 := by decide
        omega
    by_cases hlt : k < (ns.length : Int)
    · rw [decide_eq_true hlt]
      walk_at "DL"
      obtain ⟨n, _, hn⟩ := atI_mem (xs := ns) hk0 hlt
      rw [hn]
      exact go n
    · rw [decide_eq_false hlt]
      walk_at "DL"
      exact go 0
theorem ok_law_draw (T : Tx K mg) : FnD P w K mg base 1 T.a_law_draw T.d_law_draw ["source", "bound"] S_law_draw := by
  refine fn_D T.F_law_draw sc_law_draw (fun as O q e h => ?_) (fun cdv A outer s H E hr as O q e h => ?_)
  · obtain ⟨p, bound, n, rfl, _⟩ := h
    rfl
  · refine ⟨_, (dss_cons (ds_if (dt_gt (de_ix (de_var 0) de_int) de_int) (dss_cons (ds_set 2 sc_law_draw.nd (de_mod (de_ix (de_var 0) de_int) (de_var 1)))
    (dss_cons (ds_asg (de_fdiv (de_ix (de_var 0) de_int) (de_var 1)) (dg_sub (de_var 0) de_int))
    (dss_one (ds_ret (de_var 2))))) dss_nil)
    (dss_cons (ds_asg (de_add (de_ix (de_var 0) de_int) de_int) (dg_sub (de_var 0) de_int))
    (dss_cons (ds_set 3 sc_law_draw.nd (de_mod (de_pow (de_add (de_ix (de_var 0) de_int) (de_mul de_int (de_ix (de_var 0) de_int))) de_int) (de_add (de_pow de_int de_int) de_int)))
    (dss_cons (ds_set 3 sc_law_draw.nd (de_mod (de_pow (de_add (de_var 3) (de_mul de_int (de_ix (de_var 0) de_int))) de_int) (de_add (de_pow de_int de_int) de_int)))
    (dss_one (ds_ret (de_mod (de_fdiv (de_var 3) de_int) (de_var 1)))))))), ?_⟩

    obtain ⟨p, bound, n, rfl, ⟨a, b, c, hp, ha, hb, hb2, hc, hcn⟩, hn, hb0, hb5, hq⟩ := h
    have dv : CDivW a bound := ⟨hb0, Nat.lt_of_lt_of_le (PySem.Flt.log2_lt_of (by decide) (abs_lt (by omega) hb5)) (by decide)⟩
    have nw : ∀ c' b', O b' = none → oset O p c' b' = none := fun c' b' h => by
      rw [oset_ne (fun z => by rw [z, hp] at h; cases h)]
      exact h
    have p40 : CPowW 10 40 := pow_okW (by decide) (by decide) (by decide)
    have p41 : CPowW 10 41 := pow_okW (by decide) (by decide) (by decide)
    have e40 : ((10 : Int) ^ (40 : Int).toNat) = 10 ^ 40 := rfl
    have e41 : ((10 : Int) ^ (41 : Int).toNat) = 10 ^ 41 := rfl
    have i2 : ixN 3 2 = some 2 := by decide
    have i0 : ixN 3 0 = some 0 := by decide
    walk_at "DL"
    simp only [qix_cell hp]
    walk_at "DL"
    by_cases h0 : 0 < a
    · rw [decide_eq_true h0]
      simp only [qix_cell hp, hp]
      walk_at "DL"
      simp only [qix_cell hp, hp]
      walk_at "DL"
      refine ⟨hb0, ?_⟩
      simp only [qix_cell hp, hp]
      walk_at "DL"
      refine ⟨dv, ?_⟩
      simp only [hp, List.length_cons, List.length_nil, Nat.zero_add, Nat.reduceAdd, i0, set0]
      exact rt_of (hq _ _ (Int.emod_nonneg _ (by omega)) (Int.emod_lt_of_pos _ hb0) ⟨a / bound, b, c, oset_same, Int.ediv_nonneg ha (by omega), hb, hb2, hc, by omega⟩ Kp.set (nw _))
    · rw [decide_eq_false h0]
      walk_at "DL"
      simp only [qix_cell hp]
      walk_at "DL"
      simp only [hp, List.length_cons, List.length_nil, Nat.zero_add, Nat.reduceAdd, i2, set2]
      walk_at "DL"
      have hc1 : 0 ≤ c + 1 ∧ c + 1 ≤ 1000001 := ⟨by omega, by omega⟩
      have k1 : (2 : Int) ^ 150 + 295075147 * 1000001 < 2 ^ 200 := by decide
      have k2 : (10 : Int) ^ 41 + 37 + 472882027 * 1000001 < 2 ^ 200 := by decide
      have b1 : 0 ≤ b + 295075147 * (c + 1) ∧ b + 295075147 * (c + 1) < 2 ^ 200 := ⟨by omega, by omega⟩
      have pw : ∀ x : Int, 0 ≤ x → x < 2 ^ 200 → CPowW x 3 := fun x h1 h2 => pow_okW (Nat.lt_of_lt_of_le (abs_lt h1 h2) (Nat.pow_le_pow_right (by decide) (by decide))) (by decide) (by decide)
      have mw : ∀ x : Int, 0 ≤ x → x < 2 ^ 40 → CMulW x (c + 1) := fun x h1 h2 => wide_mul (a := 40) (b := 40) (abs_lt h1 h2) (abs_lt hc1.1 (by omega)) (by decide) (by decide) (by decide)
      rw [e41, e40]
      generalize hm : (b + 295075147 * (c + 1)) ^ (3 : Int).toNat % (10 ^ 41 + 37) = m
      have m1 : 0 ≤ m ∧ m < 10 ^ 41 + 37 := by
        rw [← hm]
        exact ⟨Int.emod_nonneg _ (by decide), Int.emod_lt_of_pos _ (by decide)⟩
      refine ⟨mw _ (by decide) (by decide), pw _ b1.1 b1.2, p41, by decide, mw _ (by decide) (by decide), pw _ (by omega) (by omega), p40, by decide, ⟨by decide, by decide +kernel⟩, hb0, ?_⟩
      exact rt_of (hq _ _ (Int.emod_nonneg _ (by omega)) (Int.emod_lt_of_pos _ hb0) ⟨a, b, c + 1, oset_same, ha, hb, hb2, by omega, by omega⟩ Kp.set (nw _))
end
/-- the runs of the beads s to e - 1, where the first of the runs begins at b -/
def clip (s e : Int) : Int → List Rn → List Rn
  | _, [] => []
  | b, r :: x => if max s b < min e (b + r.2) then (r.1, min e (b + r.2) - max s b) :: clip s e (b + r.2) x else clip s e (b + r.2) x
theorem clip_cons (s e b : Int) (r : Rn) (x : List Rn) : clip s e b (r :: x) = if max s b < min e (b + r.2) then (r.1, min e (b + r.2) - max s b) :: clip s e (b + r.2) x else clip s e (b + r.2) x := rfl
theorem stepB_eq (s e b : Int) (acc : List Rn) (r : Rn) : stepB s e (acc, b) r = (if max s b < min e (b + r.2) then acc ++ [(r.1, min e (b + r.2) - max s b)] else acc, b + r.2) := rfl
theorem fold_clip (s e : Int) : ∀ (rs : List Rn) (acc : List Rn) (b : Int), (rs.foldl (stepB s e) (acc, b)).1 = acc ++ clip s e b rs
  | [], acc, _ => by
    show acc = acc ++ []
    rw [List.append_nil]
  | r :: x, acc, b => by
    rw [List.foldl_cons, stepB_eq, clip_cons]
    by_cases h : max s b < min e (b + r.2)
    · rw [if_pos h, if_pos h, fold_clip s e x, List.append_assoc]
      rfl
    · rw [if_neg h, if_neg h, fold_clip s e x]
theorem runsB_clip (rs : List Rn) (s e : Int) : runsB rs s e = clip s e 0 rs := by
  unfold runsB
  rw [fold_clip, List.nil_append]
theorem beads_nil : beads [] = 0 := rfl
theorem beads_cons (r : Rn) (x : List Rn) : beads (r :: x) = r.2 + beads x := by
  unfold beads
  rw [List.map_cons, List.sum_cons]
theorem beads_app (x y : List Rn) : beads (x ++ y) = beads x + beads y := by
  unfold beads
  rw [List.map_append, List.sum_append]
/-- how many of the beads of a run are dark -/
def dk (r : Rn) : Int := if r.1 = true then r.2 else 0
theorem darks_nil : darks [] = 0 := rfl
theorem darks_cons (r : Rn) (x : List Rn) : darks (r :: x) = dk r + darks x := by
  unfold darks dk
  rw [List.filter_cons]
  by_cases h : r.1 = true
  · rw [if_pos h, if_pos h, List.map_cons, List.sum_cons]
  · rw [if_neg h, if_neg h, Int.zero_add]
theorem darks_app (x y : List Rn) : darks (x ++ y) = darks x + darks y := by
  unfold darks
  rw [List.filter_append, List.map_append, List.sum_append]
def Pos (rs : List Rn) : Prop := ∀ r ∈ rs, 1 ≤ r.2
theorem Pos.tl {r : Rn} {x : List Rn} (h : Pos (r :: x)) : Pos x := fun y hy => h y (List.mem_cons_of_mem _ hy)
theorem Pos.hd {r : Rn} {x : List Rn} (h : Pos (r :: x)) : 1 ≤ r.2 := h r List.mem_cons_self
theorem Pos.l {x y : List Rn} (h : Pos (x ++ y)) : Pos x := fun r hr => h r (List.mem_append_left _ hr)
theorem Pos.r {x y : List Rn} (h : Pos (x ++ y)) : Pos y := fun r hr => h r (List.mem_append_right _ hr)
theorem dk_bds {r : Rn} (h : 1 ≤ r.2) : 0 ≤ dk r ∧ dk r ≤ r.2 := by
  unfold dk
  split <;> omega
theorem beads_nn : ∀ {rs : List Rn}, Pos rs → 0 ≤ darks rs ∧ darks rs ≤ beads rs
  | [], _ => ⟨Int.le_refl _, Int.le_refl _⟩
  | r :: x, h => by
    have a := beads_nn h.tl
    have b := dk_bds h.hd
    rw [beads_cons, darks_cons]
    omega
theorem beads_pos {rs : List Rn} (h : Pos rs) (n : rs ≠ []) : 1 ≤ beads rs := by
  cases rs with
  | nil => exact absurd rfl n
  | cons r x =>
    have a := beads_nn h.tl
    have b := h.hd
    rw [beads_cons]
    omega
theorem clip_app (s e : Int) : ∀ (x y : List Rn) (b : Int), clip s e b (x ++ y) = clip s e b x ++ clip s e (b + beads x) y
  | [], y, b => by
    rw [beads_nil, Int.add_zero]
    rfl
  | r :: x, y, b => by
    rw [List.cons_append, beads_cons, ← Int.add_assoc, clip_cons, clip_cons, clip_app s e x y]
    split
    · rfl
    · rfl
theorem clip_lo {s e : Int} : ∀ {x : List Rn} {b : Int}, Pos x → b + beads x ≤ s → clip s e b x = []
  | [], _, _, _ => rfl
  | r :: x, b, h, l => by
    rw [beads_cons] at l
    have a := beads_nn h.tl
    have c := h.hd
    rw [clip_cons, if_neg (by omega)]
    exact clip_lo h.tl (by omega)
theorem clip_hi {s e : Int} : ∀ {x : List Rn} {b : Int}, Pos x → e ≤ b → clip s e b x = []
  | [], _, _, _ => rfl
  | r :: x, b, h, l => by
    have c := h.hd
    rw [clip_cons, if_neg (by omega)]
    exact clip_hi h.tl (by omega)
theorem clip_all {s e : Int} : ∀ {x : List Rn} {b : Int}, Pos x → s ≤ b → b + beads x ≤ e → clip s e b x = x
  | [], _, _, _, _ => rfl
  | r :: x, b, h, l, u => by
    rw [beads_cons] at u
    have a := beads_nn h.tl
    have c := h.hd
    rw [clip_cons, if_pos (by omega), clip_all h.tl (by omega) (by omega)]
    have e1 : min e (b + r.2) - max s b = r.2 := by omega
    rw [e1]
/-- the one bead -/
theorem clip_one {pre post : List Rn} {r : Rn} {i : Int} (h : Pos (pre ++ r :: post)) (l : beads pre ≤ i) (u : i < beads pre + r.2) : ∃ n x, runsB (pre ++ r :: post) i (i + 1) = (r.1, n) :: x := by
  rw [runsB_clip, clip_app, clip_lo h.l (by omega), List.nil_append]
  rw [clip_cons, if_pos (by omega)]
  exact ⟨_, _, rfl⟩
/-- dark beads before a place -/
theorem clip_dark {pre post : List Rn} {r : Rn} {i : Int} (h : Pos (pre ++ r :: post)) (l : beads pre ≤ i) (u : i ≤ beads pre + r.2) : darks (runsB (pre ++ r :: post) 0 i) = darks pre + (if r.1 = true then i - beads pre else 0) := by
  have a := beads_nn h.l
  rw [runsB_clip, clip_app, clip_all h.l (Int.le_refl _) (by omega), darks_app]
  congr 1
  rw [clip_cons, clip_hi h.r.tl (by omega)]
  by_cases z : max 0 (0 + beads pre) < min i (0 + beads pre + r.2)
  · rw [if_pos z, darks_cons, darks_nil, Int.add_zero]
    unfold dk
    dsimp only
    split
    · omega
    · rfl
  · rw [if_neg z, darks_nil]
    split
    · omega
    · rfl
theorem darks_all {rs : List Rn} (h : Pos rs) : darks (runsB rs 0 (beads rs)) = darks rs := by
  rw [runsB_clip, clip_all h (Int.le_refl _) (by omega)]
theorem dplace_cons (i d l n : Int) (b : Bool) (r : List Rn) : dplace i ((b, n) :: r) d l = if b = true then (if i < d + n then l + i else dplace i r (d + n) l) else dplace i r d (l + n) := rfl
theorem dplace_app {i : Int} : ∀ {pre post : List Rn} {d l : Int}, Pos pre → d + darks pre ≤ i → dplace i (pre ++ post) d l = dplace i post (d + darks pre) (l + (beads pre - darks pre))
  | [], post, d, l, _, _ => by
    rw [darks_nil, beads_nil, Int.add_zero, Int.sub_zero, Int.add_zero]
    rfl
  | (c, n) :: pre, post, d, l, h, u => by
    rw [darks_cons] at u
    have a := beads_nn h.tl
    have b : 1 ≤ n := h.hd
    rw [List.cons_append, darks_cons, beads_cons, dplace_cons]
    cases c with
    | true =>
      have e : dk (true, n) = n := rfl
      rw [e] at u ⊢
      rw [if_pos rfl, if_neg (by omega), dplace_app h.tl (by omega)]
      congr 1
      · omega
      · show l + (beads pre - darks pre) = l + (n + beads pre - (n + darks pre))
        omega
    | false =>
      have e : dk (false, n) = 0 := rfl
      rw [e] at u ⊢
      rw [if_neg (by decide), dplace_app h.tl (by omega)]
      congr 1
      · omega
      · show l + n + (beads pre - darks pre) = l + (n + beads pre - (0 + darks pre))
        omega
theorem dplace_at {pre post : List Rn} {n i : Int} (h : Pos (pre ++ (true, n) :: post)) (l : darks pre ≤ i) (u : i < darks pre + n) : dplace i (pre ++ (true, n) :: post) 0 0 = beads pre + (i - darks pre) := by
  rw [dplace_app h.l (by omega), dplace_cons]
  rw [if_pos rfl, if_pos (by omega)]
  omega
/-- the run in which the dark bead i lies -/
theorem dark_run {i : Int} : ∀ {rs : List Rn}, Pos rs → 0 ≤ i → i < darks rs → ∃ pre n post, rs = pre ++ (true, n) :: post ∧ darks pre ≤ i ∧ i < darks pre + n
  | [], _, h0, h1 => by
    rw [darks_nil] at h1
    omega
  | (c, n) :: x, h, h0, h1 => by
    rw [darks_cons] at h1
    by_cases z : i < dk (c, n)
    · cases c with
      | false =>
        have e : dk (false, n) = 0 := rfl
        omega
      | true => exact ⟨[], n, x, rfl, h0, by rw [darks_nil, Int.zero_add]; exact z⟩
    · suffices q : ∀ j : Int, j = i - dk (c, n) → ∃ pre n' post, x = pre ++ (true, n') :: post ∧ darks pre ≤ j ∧ j < darks pre + n' by
        obtain ⟨pre, m, post, e, a, b⟩ := q _ rfl
        refine ⟨(c, n) :: pre, m, post, by rw [e]; rfl, ?_, ?_⟩
        · rw [darks_cons]
          omega
        · rw [darks_cons]
          omega
      intro j hj
      have e := dk_bds h.hd
      exact dark_run (i := j) h.tl (by omega) (by omega)
theorem pos_of {rs : List Rn} (v : Vd rs) : Pos rs := v.pos
theorem beads_le {m : Int} (hm : 0 ≤ m) : ∀ {rs : List Rn}, (∀ r ∈ rs, r.2 ≤ m) → beads rs ≤ rs.length * m
  | [], _ => by
    rw [beads_nil]
    simp
  | r :: x, h => by
    have a := beads_le hm (rs := x) fun y hy => h y (List.mem_cons_of_mem _ hy)
    have b := h r List.mem_cons_self
    rw [beads_cons, List.length_cons]
    have e : ((x.length + 1 : Nat) : Int) * m = x.length * m + m := by
      rw [Int.natCast_add, Int.add_mul]
      simp
    omega
/-- each run with the runs ahead of it -/
def rowsF : List Rn → List Rn → List (List Rn × Rn)
  | _, [] => []
  | p, r :: x => (p, r) :: rowsF (p ++ [r]) x
theorem rowsF_snoc : ∀ (x p : List Rn) (r : Rn), rowsF p (x ++ [r]) = rowsF p x ++ [(p ++ x, r)]
  | [], p, r => by
    rw [List.append_nil]
    rfl
  | a :: x, p, r => by
    show (p, a) :: rowsF (p ++ [a]) (x ++ [r]) = (p, a) :: (rowsF (p ++ [a]) x ++ [(p ++ a :: x, r)])
    rw [rowsF_snoc x, List.append_assoc]
    rfl
theorem rowsF_mem : ∀ {x p q : List Rn} {r : Rn}, (q, r) ∈ rowsF p x → ∃ post, p ++ x = q ++ r :: post
  | [], _, _, _, h => by cases h
  | a :: x, p, q, r, h => by
    rcases List.mem_cons.mp h with h | h
    · cases h
      exact ⟨x, rfl⟩
    · obtain ⟨post, e⟩ := rowsF_mem h
      rw [List.append_assoc] at e
      exact ⟨post, e⟩
theorem rowsF_len : ∀ {x p : List Rn}, (rowsF p x).length = x.length
  | [], _ => rfl
  | a :: x, p => by
    show (rowsF (p ++ [a]) x).length + 1 = x.length + 1
    rw [rowsF_len]
theorem fold_snoc {α : Type} : ∀ (x acc : List α), x.foldl (fun s r => s ++ [r]) acc = acc ++ x
  | [], acc => by
    rw [List.append_nil]
    rfl
  | a :: x, acc => by
    rw [List.foldl_cons, fold_snoc x, List.append_assoc]
    rfl
theorem lt500 {x : Int} (h : x < 2 ^ 200) : x < 2 ^ 500 := Int.lt_of_lt_of_le h (by have e : ((2 ^ 200 : Nat) : Int) ≤ ((2 ^ 500 : Nat) : Int) := Int.ofNat_le.mpr (Nat.pow_le_pow_right (by decide) (by decide)); rw [Int.natCast_pow, Int.natCast_pow] at e; exact e)
/-- nothing but the draws moves, and new cells -/
def Mv (p : Addr) (O O' : Ow) : Prop := (∀ b c, b ≠ p → O b = some c → O' b = some c) ∧ ∀ b, O b = none → O' b = none
theorem Mv.refl {p : Addr} {O : Ow} : Mv p O O := ⟨fun _ _ _ h => h, fun _ h => h⟩
theorem Mv.trans {p : Addr} {O O1 O2 : Ow} (a : Mv p O O1) (b : Mv p O1 O2) : Mv p O O2 := ⟨fun x c n h => b.1 x c n (a.1 x c n h), fun x h => b.2 x (a.2 x h)⟩
theorem draw_ {O : Ow} {p : Addr} {n : Nat} {bound : Int} {q : DK} {e : Xc → Ow → Prop} (src : Src O p n) (hn : n ≤ 1000000) (hb : 0 < bound) (hb2 : bound < 2 ^ 200)
    (h : ∀ r O', 0 ≤ r → r < bound → Src O' p (n + 1) → Mv p O O' → q (.int r) O') : S_law_draw [.opq (.ref p), .int bound] O q e :=
  ⟨p, bound, n, rfl, src, hn, hb, lt500 hb2, fun r O' a b c d f => h r O' a b c ⟨d, f⟩⟩
theorem alt_snoc : ∀ {x : List Rn} {r : Rn}, Alt x → (∀ a, x.getLast? = some a → a.1 ≠ r.1) → Alt (x ++ [r])
  | [], _, _, _ => trivial
  | [a], r, _, h => ⟨h a rfl, trivial⟩
  | a :: b :: x, r, h, g => ⟨h.1, alt_snoc (x := b :: x) h.2 fun c e => g c (by rw [List.getLast?_cons_cons]; exact e)⟩
/-- not too large -/
structure Bd (rs : List Rn) : Prop where
  vd : Vd rs
  len : rs.length ≤ 24
  le : ∀ r ∈ rs, r.2 ≤ 10 ^ 32
def S_law_strand : DSp := fun as O q _ => ∃ p most wide n, as = [.opq (.ref p), .int most, .int wide] ∧ Src O p n ∧ n ≤ 900000 ∧ 1 ≤ most ∧ most ≤ 24 ∧ 3 ≤ wide ∧ wide ≤ 10 ^ 32 ∧ ∀ rs O', Bd rs → Src O' p (n + 75) → Mv p O O' → q (eS rs) O'
def col (t : Int) (i : Nat) : Bool := decide ((t + i) % 2 = 0)
theorem col_ne (t : Int) (i : Nat) : col t i ≠ col t (i + 1) := by
  unfold col
  intro h
  have h' := decide_eq_decide.mp h
  omega
theorem dl_len : (Str.ofString "DL").length ≤ sizeLine := by decide +kernel
theorem dl_ix {t : Int} {i : Nat} : ∃ c, atI (Str.ofString "DL").cps.toList ((t + i) % 2) = some c ∧ (⟨#[c]⟩ : Str) = ch (col t i) := by
  have e : (t + (i : Int)) % 2 = 0 ∨ (t + (i : Int)) % 2 = 1 := by omega
  have e0 : (Str.ofString "DL").cps.toList = [68, 76] := by decide +kernel
  unfold col
  rcases e with e | e
  · rw [e, e0, atI0, decide_eq_true rfl]
    exact ⟨_, rfl, by decide +kernel⟩
  · rw [e, e0, atI1, decide_eq_false (by decide)]
    exact ⟨_, rfl, by decide +kernel⟩
theorem Mv.src {p b : Addr} {O O' : Ow} {c : OC} (m : Mv p O O') (ne : b ≠ p) (h : O b = some c) : O' b = some c := m.1 b c ne h
/-- a local cell beside the draws -/
structure Mc (p pf : Addr) (O O' : Ow) : Prop where
  keep : ∀ b c, b ≠ p → b ≠ pf → O b = some c → O' b = some c
  none : ∀ b, b ≠ pf → O b = none → O' b = none
theorem Mc.mv {p pf : Addr} {O O1 O2 : Ow} (a : Mc p pf O O1) (b : Mv p O1 O2) : Mc p pf O O2 := ⟨fun x c n n' h => b.1 x c n (a.keep x c n n' h), fun x n h => b.2 x (a.none x n h)⟩
theorem Mc.set {p pf : Addr} {O O1 : Ow} {c : OC} (a : Mc p pf O O1) : Mc p pf O (oset O1 pf c) := ⟨fun x c' n n' h => by
  rw [oset_ne n']
  exact a.keep x c' n n' h, fun x n h => by
  rw [oset_ne n]
  exact a.none x n h⟩
theorem Mc.del {p pf : Addr} {O O1 : Ow} (a : Mc p pf O O1) (h : O pf = .none) : Mv p O (odel O1 pf) := by
  refine ⟨fun x c n e => ?_, fun x e => ?_⟩
  · have n' : x ≠ pf := fun z => by
      rw [z, h] at e
      cases e
    unfold odel
    rw [if_neg n']
    exact a.keep x c n n' e
  · unfold odel
    by_cases z : x = pf
    · rw [if_pos z]
    · rw [if_neg z]
      exact a.none x z e
theorem odel_sub {O : Ow} {pf : Addr} : Sub (odel O pf) O := fun b c e => by
  unfold odel at e
  split at e
  · cases e
  · exact e
theorem Src.del {O : Ow} {p pf : Addr} {n : Nat} (h : Src O p n) (ne : pf ≠ p) : Src (odel O pf) p n := by
  obtain ⟨a, b, c', h1, h2⟩ := h
  refine ⟨a, b, c', ?_, h2⟩
  unfold odel
  rw [if_neg (Ne.symm ne)]
  exact h1
theorem app_lst {O : Ow} {p : Addr} {ys : List D} {y : D} {k : DK} (h : O p = some (.lst ys)) (l : ys.length < sizeLine) (hk : k .non (oset O p (.lst (ys ++ [y])))) : qAppend (.opq (.ref p)) [y] O k := by
  unfold qAppend
  simp only [h]
  exact ⟨l, hk⟩
theorem tup_cell {O : Ow} {p : Addr} {ys : List D} {k : DK} (h : O p = some (.lst ys)) (hk : k (.tup ys) O) : qTuple [.opq (.ref p)] O k := by
  unfold qTuple
  simp only [rs_cell h]
  exact hk

section
variable {P : Program} {w : World} {K : PySem.W.Frag} {mg : Str → Option Value} {base : Heap}
theorem ok_law_strand (T : Tx K mg) : FnD P w K mg base 2 T.a_law_strand T.d_law_strand ["source", "most", "wide"] S_law_strand := by
  refine fn_D T.F_law_strand sc_law_strand (fun as O q e h => ?_) (fun cdv A outer s H E hr as O q e h => ?_)
  · obtain ⟨p, most, wide, n, rfl, _⟩ := h
    rfl
  · refine ⟨_, (dss_cons (ds_par 3 4 sc_law_strand.nd (da_cons (de_call (L2N.takes_of rfl rfl rfl rfl) (ok_law_draw T) hr T.g_law_draw T.F_law_draw.kp (bn_law_draw T) (da_cons (de_var 0) (da_cons de_int da_nil))) (da_cons (de_lstO da_nil) da_nil)) (fun h => ps_par rfl sc_law_strand.nd rfl rfl (by decide) rfl rfl h rfl))
    (dss_cons (ds_for (by passes_own) rfl (di_range1 T.z_range (da_cons (de_ix (de_lst (da_cons (de_add de_int (de_call (L2N.takes_of rfl rfl rfl rfl) (ok_law_draw T) hr T.g_law_draw T.F_law_draw.kp (bn_law_draw T) (da_cons (de_var 0) (da_cons (de_var 1) da_nil)))) (da_cons (de_var 1) da_nil))) (de_bty call_int1 lc_int T.z_int (by decide +kernel) (da_cons (de_eq hr (de_call (L2N.takes_of rfl rfl rfl rfl) (ok_law_draw T) hr T.g_law_draw T.F_law_draw.kp (bn_law_draw T) (da_cons (de_var 0) (da_cons de_int da_nil))) de_int) da_nil))) da_nil) (fun h => pi_range1 rfl T.z_range h)) (dg_name 5 sc_law_strand.nd) (dss_cons (ds_set 6 sc_law_strand.nd (de_ix (de_lst (da_cons de_int (da_cons (de_add de_int (de_call (L2N.takes_of rfl rfl rfl rfl) (ok_law_draw T) hr T.g_law_draw T.F_law_draw.kp (bn_law_draw T) (da_cons (de_var 0) (da_cons de_int da_nil)))) (da_cons (de_add de_int (de_call (L2N.takes_of rfl rfl rfl rfl) (ok_law_draw T) hr T.g_law_draw T.F_law_draw.kp (bn_law_draw T) (da_cons (de_var 0) (da_cons (de_var 2) da_nil)))) (da_cons (de_var 2) da_nil))))) (de_call (L2N.takes_of rfl rfl rfl rfl) (ok_law_draw T) hr T.g_law_draw T.F_law_draw.kp (bn_law_draw T) (da_cons (de_var 0) (da_cons de_int da_nil)))))
    (dss_one (ds_expr (de_meth PySem.F.plainAttrs_list PySem.F.slot_list_append PySem.F.type_list_append mt_append lm_append (de_var 4) (da_cons (de_tup (da_cons (de_ix de_str (de_mod (de_add (de_var 3) (de_var 5)) de_int)) (da_cons (de_var 6) da_nil))) da_nil))))))
    (dss_one (ds_ret (de_bty call_tuple_of lc_tuple T.z_tuple (by decide +kernel) (da_cons (de_var 4) da_nil)))))), ?_⟩

    obtain ⟨p, most, wide, n, rfl, src, hn, hm0, hm1, hw0, hw1, hq⟩ := h
    have t32 : (10 : Int) ^ 32 < 2 ^ 200 := by decide
    try walk_at "DL"
    refine draw_ src (by omega) (by decide) (by decide) fun t O1 ht0 ht1 src1 mv1 => ?_
    try walk_at "DL"
    refine ⟨by decide, fun pf hpf => ?_⟩
    have nepf : pf ≠ p := src1.ne hpf
    refine draw_ (src1.new nepf) (by omega) (by omega) (by omega) fun m1 O2 hm10 hm11 src2 mv2 => ?_
    try walk_at "DL"
    refine ⟨by decide, draw_ src2 (by omega) (by decide) (by decide) fun z O3 _ _ src3 mv3 => ?_⟩
    try walk_at "DL"
    refine at2 fun j hj => ?_
    obtain ⟨j', rfl, hj0, hj1⟩ : ∃ j', j = .int j' ∧ 1 ≤ j' ∧ j' ≤ most := by
      rcases hj with rfl | rfl
      · exact ⟨_, rfl, by omega, by omega⟩
      · exact ⟨_, rfl, by omega, by omega⟩
    clear hj
    dsimp only
    have mc3 : Mc p pf O1 O3 := (Mc.mv (Mc.set ⟨fun _ _ _ _ h => h, fun _ _ h => h⟩) mv2).mv mv3
    have cell3 : O3 pf = some (.lst []) := mv3.src nepf (mv2.src nepf oset_same)
    refine ⟨by omega, by omega, ?_⟩
    refine loopX_rng j'.toNat (fun i ds' O' => ∃ rs a b, ds' = [some (.opq (.ref p)), some (.int most), some (.int wide), some (.int t), some (.opq (.ref pf)), a, b] ∧ rs.length = i ∧ (∀ r ∈ rs, 1 ≤ r.2) ∧ Alt rs ∧ (∀ a, rs.getLast? = some a → a.1 ≠ col t i) ∧ (∀ r ∈ rs, r.2 ≤ 10 ^ 32) ∧ Src O' p (n + 3 + 3 * i) ∧ O' pf = some (.lst (rs.map eR)) ∧ Mc p pf O1 O')
      ⟨[], none, none, rfl, rfl, (fun _ h => by cases h), trivial, (fun _ h => by cases h), (fun _ h => by cases h), src3, cell3, mc3⟩ ?_ ?_
    · rintro i ds' O' hi ⟨rs, a, b, rfl, hl, hp, ha, hlast, hle, srcI, cellI, mcI⟩ R hR
      try walk_at "DL"
      refine draw_ srcI (by omega) (by decide) (by decide) fun v1 O4 hv10 hv11 src4 mv4 => ?_
      try walk_at "DL"
      refine draw_ src4 (by omega) (by omega) (by omega) fun v2 O5 hv20 hv21 src5 mv5 => ?_
      try walk_at "DL"
      refine ⟨by decide, draw_ src5 (by omega) (by decide) (by decide) fun v3 O6 hv30 hv31 src6 mv6 => ?_⟩
      try walk_at "DL"
      refine atN (fun x => ∃ v, x = .int v ∧ 1 ≤ v ∧ v ≤ 10 ^ 32) hv30 hv31 ?_ ?_
      · intro x hx
        rcases List.mem_cons.mp hx with rfl | hx
        · exact ⟨_, rfl, by decide, by decide⟩
        rcases List.mem_cons.mp hx with rfl | hx
        · exact ⟨_, rfl, by omega, by omega⟩
        rcases List.mem_cons.mp hx with rfl | hx
        · exact ⟨_, rfl, by omega, by omega⟩
        rw [List.mem_singleton.mp hx]
        exact ⟨_, rfl, by omega, by omega⟩
      · rintro x ⟨v, rfl, hv0, hv1⟩
        try walk_at "DL"
        have cell6 := mv6.src nepf (mv5.src nepf (mv4.src nepf cellI))
        obtain ⟨c, hc, ec⟩ := dl_ix (t := t) (i := i)
        rw [rs_cell cell6, hc]
        refine ⟨rfl, by decide, dl_len, ?_⟩
        dsimp only
        rw [cell6, ec]
        refine ⟨by decide, by rw [List.length_map]; exact sz_lt' (by omega), ?_⟩
        refine hR _ _ ⟨rs ++ [(col t i, v)], _, _, rfl, by rw [List.length_append, hl]; rfl, ?_, alt_snoc ha hlast, ?_, ?_, ?_, ?_, (((mcI.mv mv4).mv mv5).mv mv6).set⟩
        · intro r hr
          rcases List.mem_append.mp hr with hr | hr
          · exact hp r hr
          · rw [List.mem_singleton.mp hr]
            exact hv0
        · intro a' ea
          rw [List.getLast?_concat] at ea
          cases ea
          exact col_ne t i
        · intro r hr
          rcases List.mem_append.mp hr with hr | hr
          · exact hle r hr
          · rw [List.mem_singleton.mp hr]
            exact hv1
        · exact (src6.new nepf).mono (by omega)
        · rw [oset_same, List.map_append]
          rfl
    · rintro ds' O' ⟨rs, a, b, rfl, hl, hp, ha, hlast, hle, srcI, cellI, mcI⟩
      try walk_at "DL"
      refine tup_cell cellI ?_
      refine rt_sub (hq rs (odel O' pf) ⟨⟨fun z => ?_, hp, ha⟩, by omega, hle⟩ ((srcI.del nepf).mono (by omega)) (mv1.trans (mcI.del hpf))) odel_sub
      rw [z] at hl
      have hl' : 0 = j'.toNat := hl
      omega
end
/-- a row of runs_with_ends -/
def eW (x : List Rn × Rn) : D := .tup [.str (ch x.2.1), .int (beads x.1), .int (beads x.1 + x.2.2), .int (darks x.1)]
def S_law_runs_with_ends : DSp := fun as O q _ => ∃ rs, as = [eS rs] ∧ Bd rs ∧ q (.lst ((rowsF [] rs).map eW)) O
theorem rs_eW {O : Ow} {x : List Rn × Rn} : res O (eW x) = eW x := rfl
theorem mul_bit {m : Int} {c : Bool} : m * (if c = true then 1 else 0) = dk (c, m) := by
  unfold dk
  cases c with
  | true =>
    rw [if_pos rfl, if_pos rfl, Int.mul_one]
  | false => rw [if_neg Bool.false_ne_true, if_neg Bool.false_ne_true, Int.mul_zero]
theorem mulw_bit {m : Int} {c : Bool} (h0 : 0 ≤ m) (h : m < 2 ^ 200) : CMulW m (if c = true then 1 else 0) := by
  cases c
  · exact wide_mul (a := 200) (b := 20) (abs_lt h0 h) (by decide) (by decide) (by decide) (by decide)
  · exact wide_mul (a := 200) (b := 20) (abs_lt h0 h) (by decide) (by decide) (by decide) (by decide)

section
variable {P : Program} {w : World} {K : PySem.W.Frag} {mg : Str → Option Value} {base : Heap}
theorem ok_law_runs_with_ends (T : Tx K mg) : FnD P w K mg base 1 T.a_law_runs_with_ends T.d_law_runs_with_ends ["strand_here"] S_law_runs_with_ends := by
  refine fn_D T.F_law_runs_with_ends sc_law_runs_with_ends (fun as O q e h => ?_) (fun cdv A outer s H E hr as O q e h => ?_)
  · obtain ⟨rs, rfl, _⟩ := h
    rfl
  · refine ⟨_, (dss_cons (ds_par3 1 2 3 sc_law_runs_with_ends.nd (da_cons (de_lstO da_nil) (da_cons de_int (da_cons de_int da_nil))) (fun h => ps_par3 rfl sc_law_runs_with_ends.nd rfl rfl rfl (by decide) (by decide) (by decide) rfl rfl rfl h rfl))
    (dss_cons (ds_for (by passes_own) rfl (di_seq (de_var 0)) (dg_tup (n := 2) rfl (dg_cons (dg_name 4 sc_law_runs_with_ends.nd) (dg_cons (dg_name 5 sc_law_runs_with_ends.nd) dg_nil))) (dss_cons (ds_expr (de_meth PySem.F.plainAttrs_list PySem.F.slot_list_append PySem.F.type_list_append mt_append lm_append (de_var 1) (da_cons (de_tup (da_cons (de_var 4) (da_cons (de_var 2) (da_cons (de_add (de_var 2) (de_var 5)) (da_cons (de_var 3) da_nil))))) da_nil)))
    (dss_cons (ds_set 2 sc_law_runs_with_ends.nd (de_add (de_var 2) (de_var 5)))
    (dss_one (ds_set 3 sc_law_runs_with_ends.nd (de_add (de_var 3) (de_mul (de_var 5) (de_bty call_int1 lc_int T.z_int (by decide +kernel) (da_cons (de_eq hr (de_var 4) de_str) da_nil)))))))))
    (dss_one (ds_ret (de_var 1))))), ?_⟩

    obtain ⟨rs, rfl, bd, hq⟩ := h
    have t32 : (10 : Int) ^ 32 < 2 ^ 200 := by decide
    simp only [eS]
    try walk_at "DL"
    refine ⟨by decide, fun pf hpf => ?_⟩
    try walk_at "DL"
    refine loopX_map eR rs (fun st r => st ++ [r]) (fun i st ds' O' => ∃ a b, ds' = [some (eS rs), some (.opq (.ref pf)), some (.int (beads st)), some (.int (darks st)), a, b] ∧ O' = oset O pf (.lst ((rowsF [] st).map eW)) ∧ st.length ≤ i) []
      ⟨none, none, rfl, rfl, Nat.le_refl _⟩ ?_ ?_
    · rintro i st ⟨c, n⟩ ds' O' hi ⟨a, b, rfl, rfl, hle⟩ R hR
      have hil : i < rs.length := (List.getElem?_eq_some_iff.mp hi).1
      have hn := bd.le _ (List.mem_of_getElem? hi)
      have hn1 := bd.vd.pos _ (List.mem_of_getElem? hi)
      have hlen := bd.len
      simp only [eR]
      try walk_at "DL"
      refine ⟨by decide, by rw [List.length_map, rowsF_len]; exact sz_lt' (by omega), mulw_bit (by dsimp only at hn1; omega) (by dsimp only at hn; omega), ?_⟩
      refine hR _ _ ⟨some (.str (ch c)), some (.int n), ?_, ?_, by rw [List.length_append]; exact Nat.succ_le_succ hle⟩
      · rw [beads_app, darks_app, mul_bit]
        simp only [beads_cons, beads_nil, darks_cons, darks_nil, Int.add_zero]
      · rw [rowsF_snoc, List.map_append, List.nil_append]
        rfl
    · rintro ds' O' ⟨a, b, rfl, rfl, hle⟩
      rw [fold_snoc, List.nil_append]
      try walk_at "DL"
      exact rt_new hpf hq
end
theorem eR_inj {a b : Rn} (h : eR a = eR b) : a = b := by
  obtain ⟨a1, a2⟩ := a
  obtain ⟨b1, b2⟩ := b
  unfold eR at h
  injection h with h
  injection h with h1 h2
  injection h2 with h2 _
  injection h1 with h1
  injection h2 with h2
  have e := ch_inj h1
  dsimp only at e h2
  rw [e, h2]
theorem map_eR_inj : ∀ {a b : List Rn}, a.map eR = b.map eR → a = b
  | [], [], _ => rfl
  | [], _ :: _, h => by cases h
  | _ :: _, [], h => by cases h
  | x :: a, y :: b, h => by
    rw [List.map_cons, List.map_cons] at h
    injection h with h1 h2
    rw [eR_inj h1, map_eR_inj h2]
theorem eS_inj {a b : List Rn} (h : eS a = eS b) : a = b := by
  unfold eS at h
  injection h with h
  exact map_eR_inj h
section
variable {K : PySem.W.Frag} {mg : Str → Option Value} {T : Tx K mg} {rs pre post : List Rn} {r : Rn} {i n : Int} {O : Ow} {q : DK} {e : Xc → Ow → Prop}
theorem is_strand_ (v : Vd rs) (h : q (.bl true) O) : S_is_strand [eS rs] O q e := ⟨eS rs, rfl, ks_eS rs, by rw [strand_yes v]; exact h⟩
theorem no_strand {P : Prop} (v : Vd rs) (z : isStrandD (eS rs) = false) : P := by
  rw [strand_yes v] at z
  cases z
theorem count_beads_ (v : Vd rs) (l : rs.length ≤ 100000) (h : q (.int (beads rs)) O) : S_count_beads T [eS rs] O q e :=
  ⟨eS rs, rfl, ks_eS rs, sz_eS l, fun z => no_strand v z, fun rs' _ e => by cases eS_inj e; exact h⟩
theorem count_dark_ (v : Vd rs) (l : rs.length ≤ 100000) (h : q (.int (darks rs)) O) : S_count_dark T [eS rs] O q e :=
  ⟨eS rs, rfl, ks_eS rs, sz_eS l, fun z => no_strand v z, fun rs' _ e => by cases eS_inj e; exact h⟩
theorem split_le (v : Vd rs) (s : rs = pre ++ r :: post) : 0 ≤ beads pre ∧ beads pre + r.2 ≤ beads rs ∧ 1 ≤ r.2 ∧ 0 ≤ darks pre ∧ darks pre ≤ beads pre ∧ darks pre + dk r ≤ darks rs := by
  subst s
  have p : Pos (pre ++ r :: post) := v.pos
  have a := beads_nn p.l
  have b := beads_nn p.r.tl
  have c := p.r.hd
  rw [beads_app, beads_cons, darks_app, darks_cons]
  omega
theorem colour_at_ (v : Vd rs) (l : rs.length ≤ 100000) (s : rs = pre ++ r :: post) (h0 : beads pre ≤ i) (h1 : i < beads pre + r.2) (h : q (.str (ch r.1)) O) : S_colour_at T [eS rs, .int i] O q e := by
  have d := split_le v s
  refine ⟨eS rs, .int i, rfl, ks_eS rs, sz_eS l, trivial, fun z => no_strand v z, fun rs' _ e => ?_⟩
  cases eS_inj e
  refine ⟨fun z => absurd ⟨i, rfl, by omega, by omega⟩ z, fun i' e' _ _ => ?_⟩
  cases e'
  have p : Pos rs := v.pos
  subst s
  obtain ⟨n, x, e⟩ := clip_one p h0 h1
  exact ⟨_, _, _, e, h⟩
theorem dark_before_ (v : Vd rs) (l : rs.length ≤ 100000) (s : rs = pre ++ r :: post) (h0 : beads pre ≤ i) (h1 : i ≤ beads pre + r.2) (h : q (.int (darks pre + dk (r.1, i - beads pre))) O) : S_dark_before T [eS rs, .int i] O q e := by
  have d := split_le v s
  refine ⟨eS rs, .int i, rfl, ks_eS rs, sz_eS l, trivial, fun z => no_strand v z, fun rs' _ e => ?_⟩
  cases eS_inj e
  refine ⟨fun z => absurd ⟨i, rfl, by omega, by omega⟩ z, fun i' e' _ _ => ?_⟩
  cases e'
  have p : Pos rs := v.pos
  subst s
  rw [clip_dark p h0 h1]
  exact h
theorem dark_before_all (v : Vd rs) (l : rs.length ≤ 100000) (h : q (.int (darks rs)) O) : S_dark_before T [eS rs, .int (beads rs)] O q e := by
  have p : Pos rs := v.pos
  have d := beads_nn p
  refine ⟨eS rs, .int (beads rs), rfl, ks_eS rs, sz_eS l, trivial, fun z => no_strand v z, fun rs' _ e => ?_⟩
  cases eS_inj e
  refine ⟨fun z => absurd ⟨beads rs, rfl, by omega, Int.le_refl _⟩ z, fun i' e' _ _ => ?_⟩
  cases e'
  rw [darks_all p]
  exact h
theorem dark_place_ (v : Vd rs) (l : rs.length ≤ 100000) (s : rs = pre ++ (true, n) :: post) (h0 : darks pre ≤ i) (h1 : i < darks pre + n) (h : q (.int (beads pre + (i - darks pre))) O) : S_dark_place T [eS rs, .int i] O q e := by
  have d := split_le v s
  have dn : dk (true, n) = n := rfl
  refine ⟨eS rs, .int i, rfl, ks_eS rs, sz_eS l, trivial, fun z => no_strand v z, fun rs' _ e => ?_⟩
  cases eS_inj e
  refine ⟨fun z => absurd ⟨i, rfl, by omega, by omega⟩ z, fun i' e' _ _ => ?_⟩
  cases e'
  have p : Pos rs := v.pos
  subst s
  rw [dplace_at p h0 h1]
  exact h
end
theorem ok_ints2 {a b : Int} : (D.lst [.int a, .int b]).ok = true := by
  unfold D.ok D.pure D.py SeqAt.shaped
  simp [PyData.canLay0, PyData.depth, D.pure, D.py, D.pureAll, D.pyAll, PyData.canLayAll0, PyData.depthAll]
theorem qn_ints2 {a b c d : Int} {O : Ow} {k : DK} (h1 : a = c) (h2 : b = d) (hk : k (.bl false) O) : qEq true (.lst [.int a, .int b]) (.lst [.int c, .int d]) O k := by
  subst h1
  subst h2
  unfold qEq
  rw [rs_lst, ok_ints2, if_pos rfl]
  have e : deq (.lst [.int a, .int b]) (.lst [.int a, .int b]) = true := by
    unfold deq D.py
    simp [PyData.eqv, D.py, D.pyAll, PyData.eqvAll]
  rw [e]
  exact ⟨rfl, rfl, hk⟩
def S_law_right : DSp := fun as O q _ => ∃ p rs n, as = [.opq (.ref p), eS rs] ∧ Src O p n ∧ n ≤ 900000 ∧ Bd rs ∧ ∀ O', Src O' p (n + 80) → Mv p O O' → q (.bl true) O'
theorem bd_beads {rs : List Rn} (b : Bd rs) : beads rs < 2 ^ 200 := by
  have a := beads_le (m := 10 ^ 32) (by decide) b.le
  have l := b.len
  have e : (rs.length : Int) * 10 ^ 32 ≤ 24 * 10 ^ 32 := Int.mul_le_mul_of_nonneg_right (by omega) (by decide)
  have f : (24 : Int) * 10 ^ 32 < 2 ^ 200 := by decide
  omega

section
variable {P : Program} {w : World} {K : PySem.W.Frag} {mg : Str → Option Value} {base : Heap}
theorem ok_law_right (T : Tx K mg) : FnD P w K mg base 6 T.a_law_right T.d_law_right ["source", "strand_here"] S_law_right := by
  refine fn_D T.F_law_right sc_law_right (fun as O q e h => ?_) (fun cdv A outer s H E hr as O q e h => ?_)
  · obtain ⟨p, rs, n, rfl, _⟩ := h
    rfl
  · refine ⟨_, (dss_cons (ds_par 2 3 sc_law_right.nd (da_cons (de_call (L2N.takes_of rfl rfl rfl rfl) (ok_law_runs_with_ends T) hr T.g_law_runs_with_ends T.F_law_runs_with_ends.kp (bn_law_runs_with_ends T) (da_cons (de_var 1) da_nil)) (da_cons (de_blt (cr_sum rfl) lc_sum T.z_sum (by decide +kernel) (da_cons (de_lc [("colour", 5), ("many", 12)] rfl sc_law_right.nd (di_seq (de_var 1)) (blkOk_by (N := ["source", "strand_here", "rows_here", "size", "total", "colour", "first", "end", "dark", "spot", "due", "at", "many"]) (sc := defScope s_law_right) (by decide +kernel)) (fun _ _ _ _ _ => (dg_tup (n := 2) rfl (dg_cons (dg_name 5 sc_law_right.nd) (dg_cons (dg_name 12 sc_law_right.nd) dg_nil)))) (fun _ _ _ _ _ => dts_nil) (fun _ _ _ _ _ => (de_var 12))) da_nil)) da_nil)) (fun h => ps_par rfl sc_law_right.nd rfl rfl (by decide) rfl rfl h rfl))
    (dss_cons (ds_set 4 sc_law_right.nd (de_blt (cr_sum rfl) lc_sum T.z_sum (by decide +kernel) (da_cons (de_lc [("colour", 5), ("many", 12)] rfl sc_law_right.nd (di_seq (de_var 1)) (blkOk_by (N := ["source", "strand_here", "rows_here", "size", "total", "colour", "first", "end", "dark", "spot", "due", "at", "many"]) (sc := defScope s_law_right) (by decide +kernel)) (fun _ _ _ _ _ => (dg_tup (n := 2) rfl (dg_cons (dg_name 5 sc_law_right.nd) (dg_cons (dg_name 12 sc_law_right.nd) dg_nil)))) (fun _ _ _ _ _ => (dts_one (dt_eq hr (de_var 5) de_str))) (fun _ _ _ _ _ => (de_var 12))) da_nil)))
    (dss_cons (ds_if (dt_w (dw_or (dt_isnot (de_call (L2N.takes_of rfl rfl rfl rfl) (ok_is_strand T) hr T.g_is_strand T.F_is_strand.kp (bn_is_strand T) (da_cons (de_var 1) da_nil)) de_bl) (dw_or1 (dt_ne hr (de_lst (da_cons (de_call (L2N.takes_of rfl rfl rfl rfl) (ok_count_beads T) hr T.g_count_beads T.F_count_beads.kp (bn_count_beads T) (da_cons (de_var 1) da_nil)) (da_cons (de_call (L2N.takes_of rfl rfl rfl rfl) (ok_count_dark T) hr T.g_count_dark T.F_count_dark.kp (bn_count_dark T) (da_cons (de_var 1) da_nil)) da_nil))) (de_lst (da_cons (de_var 3) (da_cons (de_var 4) da_nil))))))) (dss_one (ds_ret de_bl)) dss_nil)
    (dss_cons (ds_for (by passes_own) rfl (di_seq (de_var 2)) (dg_tup (n := 4) rfl (dg_cons (dg_name 5 sc_law_right.nd) (dg_cons (dg_name 6 sc_law_right.nd) (dg_cons (dg_name 7 sc_law_right.nd) (dg_cons (dg_name 8 sc_law_right.nd) dg_nil))))) (dss_cons (ds_for (by passes_own) rfl (di_seq (de_lst (da_cons (de_var 6) (da_cons (de_sub (de_var 7) de_int) (da_cons (de_add (de_var 6) (de_call (L2N.takes_of rfl rfl rfl rfl) (ok_law_draw T) hr T.g_law_draw T.F_law_draw.kp (bn_law_draw T) (da_cons (de_var 0) (da_cons (de_sub (de_var 7) (de_var 6)) da_nil)))) da_nil))))) (dg_name 9 sc_law_right.nd) (dss_cons (ds_set 10 sc_law_right.nd (de_add (de_var 8) (de_mul (de_sub (de_var 9) (de_var 6)) (de_bty call_int1 lc_int T.z_int (by decide +kernel) (da_cons (de_eq hr (de_var 5) de_str) da_nil)))))
    (dss_cons (ds_if (dt_w (dw_or (dt_ne hr (de_call (L2N.takes_of rfl rfl rfl rfl) (ok_colour_at T) hr T.g_colour_at T.F_colour_at.kp (bn_colour_at T) (da_cons (de_var 1) (da_cons (de_var 9) da_nil))) (de_var 5)) (dw_or1 (dt_ne hr (de_call (L2N.takes_of rfl rfl rfl rfl) (ok_dark_before T) hr T.g_dark_before T.F_dark_before.kp (bn_dark_before T) (da_cons (de_var 1) (da_cons (de_var 9) da_nil))) (de_var 10))))) (dss_one (ds_ret de_bl)) dss_nil)
    (dss_cons (ds_if (dt_ne hr (de_call (L2N.takes_of rfl rfl rfl rfl) (ok_dark_before T) hr T.g_dark_before T.F_dark_before.kp (bn_dark_before T) (da_cons (de_var 1) (da_cons (de_add (de_var 9) de_int) da_nil))) (de_add (de_var 10) (de_bty call_int1 lc_int T.z_int (by decide +kernel) (da_cons (de_eq hr (de_var 5) de_str) da_nil)))) (dss_one (ds_ret de_bl)) dss_nil)
    (dss_one (ds_if (dt_w (dw_and (dt_eq hr (de_var 5) de_str) (dw_and1 (dt_ne hr (de_call (L2N.takes_of rfl rfl rfl rfl) (ok_dark_place T) hr T.g_dark_place T.F_dark_place.kp (bn_dark_place T) (da_cons (de_var 1) (da_cons (de_var 10) da_nil))) (de_var 9))))) (dss_one (ds_ret de_bl)) dss_nil))))))
    (dss_one (ds_if (dt_ne hr (de_call (L2N.takes_of rfl rfl rfl rfl) (ok_dark_before T) hr T.g_dark_before T.F_dark_before.kp (bn_dark_before T) (da_cons (de_var 1) (da_cons (de_var 7) da_nil))) (de_add (de_var 8) (de_mul (de_sub (de_var 7) (de_var 6)) (de_bty call_int1 lc_int T.z_int (by decide +kernel) (da_cons (de_eq hr (de_var 5) de_str) da_nil))))) (dss_one (ds_ret de_bl)) dss_nil))))
    (dss_cons (ds_if (dt_ne hr (de_call (L2N.takes_of rfl rfl rfl rfl) (ok_dark_before T) hr T.g_dark_before T.F_dark_before.kp (bn_dark_before T) (da_cons (de_var 1) (da_cons (de_var 3) da_nil))) (de_var 4)) (dss_one (ds_ret de_bl)) dss_nil)
    (dss_cons (ds_if (dt_gt (de_var 4) de_int) (dss_cons (ds_set 11 sc_law_right.nd (de_ix (de_lst (da_cons de_int (da_cons (de_sub (de_var 4) de_int) (da_cons (de_call (L2N.takes_of rfl rfl rfl rfl) (ok_law_draw T) hr T.g_law_draw T.F_law_draw.kp (bn_law_draw T) (da_cons (de_var 0) (da_cons (de_var 4) da_nil))) da_nil)))) (de_call (L2N.takes_of rfl rfl rfl rfl) (ok_law_draw T) hr T.g_law_draw T.F_law_draw.kp (bn_law_draw T) (da_cons (de_var 0) (da_cons de_int da_nil)))))
    (dss_cons (ds_set 9 sc_law_right.nd (de_call (L2N.takes_of rfl rfl rfl rfl) (ok_dark_place T) hr T.g_dark_place T.F_dark_place.kp (bn_dark_place T) (da_cons (de_var 1) (da_cons (de_var 11) da_nil))))
    (dss_one (ds_if (dt_w (dw_or (dt_ne hr (de_call (L2N.takes_of rfl rfl rfl rfl) (ok_dark_before T) hr T.g_dark_before T.F_dark_before.kp (bn_dark_before T) (da_cons (de_var 1) (da_cons (de_var 9) da_nil))) (de_var 11)) (dw_or1 (dt_ne hr (de_call (L2N.takes_of rfl rfl rfl rfl) (ok_colour_at T) hr T.g_colour_at T.F_colour_at.kp (bn_colour_at T) (da_cons (de_var 1) (da_cons (de_var 9) da_nil))) de_str)))) (dss_one (ds_ret de_bl)) dss_nil)))) dss_nil)
    (dss_one (ds_ret de_bl)))))))), ?_⟩

    obtain ⟨p, rs, n, rfl, src, hn, bd, hq⟩ := h
    have v := bd.vd
    have pv : Pos rs := v.pos
    have hl : rs.length ≤ 100000 := by have := bd.len; omega
    have hb := bd_beads bd
    have hbn := beads_nn pv
    try walk_at "DL"
    refine ⟨rs, rfl, bd, ?_⟩
    try walk_at "DL"
    refine comp_mpM eR rs (fun r => D.int r.2) (fun R h => h) (sz_lt' hl) (fun r hr R1 h1 => ?_) ?_
    · simp only [eR]
      try walk_at "DL"
      exact h1
    try walk_at "DL"
    rw [sum_ints]
    try walk_at "DL"
    refine comp_fmM eR rs (fun r => r.1) (fun r => D.int r.2) (fun R h => h) (sz_lt' hl) (fun r hr R1 R2 h1 h2 => ?_) ?_
    · simp only [eR]
      try walk_at "DL"
      cases hb : r.1 with
      | true =>
        try walk_at "DL"
        exact h1 hb
      | false =>
        try walk_at "DL"
        exact h2 hb
    try walk_at "DL"
    rw [sum_ints]
    try walk_at "DL"
    refine is_strand_ v ?_
    try walk_at "DL"
    refine count_beads_ v hl ?_
    try walk_at "DL"
    refine count_dark_ v hl ?_
    try walk_at "DL"
    refine ⟨by decide, by decide, qn_ints2 rfl rfl ?_⟩
    try walk_at "DL"
    have K0 : n + 80 = n + 80 := rfl
    refine loopX_map eW (rowsF [] rs) (fun (s : Unit) _ => s) (fun i _ ds' O' => ∃ a b c d x y z, ds' = [some (.opq (.ref p)), some (eS rs), some (.lst ((rowsF [] rs).map eW)), some (.int (beads rs)), some (.int (darks rs)), a, b, c, d, x, y, z, none] ∧ Src O' p (n + i) ∧ Mv p O O') ()
      ⟨none, none, none, none, none, none, none, rfl, src, Mv.refl⟩ ?_ ?_
    · rintro i _ ⟨pre, r⟩ ds' O' hi ⟨a1, a2, a3, a4, a5, a6, a7, rfl, srcI, mvI⟩ R hR
      obtain ⟨post, hs⟩ := rowsF_mem (List.mem_of_getElem? hi)
      rw [List.nil_append] at hs
      have hil : i < rs.length := by have := (List.getElem?_eq_some_iff.mp hi).1; rw [rowsF_len] at this; exact this
      have hlen := bd.len
      have sl := split_le v hs
      obtain ⟨c, m⟩ := r
      dsimp only at sl
      simp only [eW]
      try walk_at "DL"
      refine draw_ srcI (by omega) (by omega) (by omega) fun dr O2 hd0 hd1 src2 mv2 => ?_
      try walk_at "DL"
      refine ⟨by decide, ?_⟩
      refine loopX_in _ (fun _ ds' O' => ∃ x y z, ds' = [some (.opq (.ref p)), some (eS rs), some (.lst ((rowsF [] rs).map eW)), some (.int (beads rs)), some (.int (darks rs)), some (.str (ch c)), some (.int (beads pre)), some (.int (beads pre + m)), some (.int (darks pre)), x, y, z, none] ∧ O' = O2) ⟨_, _, _, rfl, rfl⟩ ?_ ?_
      · rintro j x ds' O' hj ⟨b1, b2, b3, rfl, rfl⟩ R2 hR2
        obtain ⟨sp, rfl, hsp0, hsp1⟩ : ∃ sp, x = .int sp ∧ beads pre ≤ sp ∧ sp < beads pre + m := by
          have hx := List.mem_of_getElem? hj
          rcases List.mem_cons.mp hx with rfl | hx
          · exact ⟨_, rfl, by omega, by omega⟩
          rcases List.mem_cons.mp hx with rfl | hx
          · exact ⟨_, rfl, by omega, by omega⟩
          rw [List.mem_singleton.mp hx]
          exact ⟨_, rfl, by omega, by omega⟩
        try walk_at "DL"
        refine ⟨mulw_bit (by omega) (by omega), ?_⟩
        rw [mul_bit]
        refine colour_at_ v hl hs hsp0 hsp1 ?_
        try walk_at "DL"
        refine dark_before_ v hl hs hsp0 (by dsimp only; omega) ?_
        try walk_at "DL"
        refine dark_before_ v hl hs (by omega) (by dsimp only; omega) ?_
        have ev : darks pre + dk (c, sp + 1 - beads pre) = darks pre + dk (c, sp - beads pre) + if c = true then 1 else 0 := by
          unfold dk
          cases c
          · show darks pre + 0 = darks pre + 0 + 0
            omega
          · show darks pre + (sp + 1 - beads pre) = darks pre + (sp - beads pre) + 1
            omega
        dsimp only
        rw [ev]
        try walk_at "DL"
        cases c with
        | false =>
          try walk_at "DL"
          exact hR2 _ _ ⟨_, _, _, rfl, rfl⟩
        | true =>
          try walk_at "DL"
          have ed : dk (true, sp - beads pre) = sp - beads pre := rfl
          refine dark_place_ v hl hs (by rw [ed]; omega) (by rw [ed]; omega) ?_
          rw [ed, show beads pre + (darks pre + (sp - beads pre) - darks pre) = sp by omega]
          try walk_at "DL"
          exact hR2 _ _ ⟨_, _, _, rfl, rfl⟩
      · rintro ds' O' ⟨b1, b2, b3, rfl, rfl⟩
        try walk_at "DL"
        refine dark_before_ v hl hs (by omega) (Int.le_refl _) ?_
        try walk_at "DL"
        refine ⟨mulw_bit (by omega) (by omega), ?_⟩
        rw [mul_bit]
        try walk_at "DL"
        exact hR _ _ ⟨_, _, _, _, _, _, _, rfl, src2.mono (by omega), mvI.trans mv2⟩
    · rintro ds' O' ⟨a1, a2, a3, a4, a5, a6, a7, rfl, srcI, mvI⟩
      rw [rowsF_len] at srcI
      have hlen := bd.len
      try walk_at "DL"
      refine dark_before_all v hl ?_
      try walk_at "DL"
      by_cases h0 : 0 < darks rs
      · rw [decide_eq_true h0]
        try walk_at "DL"
        refine draw_ srcI (by omega) h0 (by omega) fun d1 O1 hd0 hd1 src1 mv1 => ?_
        try walk_at "DL"
        refine ⟨by decide, draw_ src1 (by omega) (by decide) (by decide) fun d2 O2 he0 he1 src2 mv2 => ?_⟩
        try walk_at "DL"
        refine atN (fun x => ∃ i, x = .int i ∧ 0 ≤ i ∧ i < darks rs) he0 he1 ?_ ?_
        · intro x hx
          rcases List.mem_cons.mp hx with rfl | hx
          · exact ⟨_, rfl, by omega, by omega⟩
          rcases List.mem_cons.mp hx with rfl | hx
          · exact ⟨_, rfl, by omega, by omega⟩
          rw [List.mem_singleton.mp hx]
          exact ⟨_, rfl, by omega, by omega⟩
        · rintro x ⟨i, rfl, hi0, hi1⟩
          obtain ⟨pre, m, post, hs, hp0, hp1⟩ := dark_run pv hi0 hi1
          try walk_at "DL"
          refine dark_place_ v hl hs hp0 hp1 ?_
          try walk_at "DL"
          refine dark_before_ v hl hs (by omega) (by dsimp only; omega) ?_
          have ed : darks pre + dk (true, beads pre + (i - darks pre) - beads pre) = i := by
            show darks pre + (beads pre + (i - darks pre) - beads pre) = i
            omega
          dsimp only
          rw [ed]
          try walk_at "DL"
          refine colour_at_ v hl hs (by omega) (by dsimp only; omega) ?_
          try walk_at "DL"
          exact rt_of (hq _ (src2.mono (by omega)) ((mvI.trans mv1).trans mv2))
      · rw [decide_eq_false h0]
        try walk_at "DL"
        exact rt_of (hq _ (srcI.mono (by omega)) mvI)
end
theorem pw10 {k : Int} (h0 : 0 ≤ k) (h1 : k ≤ 40) : CPowW 10 k := pow_okW (by decide) h0 (by omega)

section
variable {P : Program} {w : World} {K : PySem.W.Frag} {mg : Str → Option Value} {base : Heap}
theorem ok_law (T : Tx K mg) {f : Addr} {fd : FuncData} (F : Fun K "law" "law" s_law f fd) : FnOk P w K mg base CX0 7 f fd ["script"] (spLawD K) := by
  refine law_D F sc_law fun cdv A outer s H E hr ns hns => ?_
  refine ⟨_, (dss_cons (ds_for PassesOwn.never rfl (di_range1 T.z_range (da_cons (de_blt (call_max2 rfl) lc_max2 T.z_max (by decide +kernel) (da_cons de_int (da_cons (de_blt (call_min2 rfl) lc_min2 T.z_min (by decide +kernel) (da_cons de_int (da_cons (de_blt call_len lc_len T.z_len (by decide +kernel) (da_cons (de_var 0) da_nil)) da_nil))) da_nil))) da_nil) (fun h => pi_range1 rfl T.z_range h)) (dg_name 1 sc_law.nd) (dss_cons (ds_set 2 sc_law.nd (de_call takes0N (ok_law_source T) hr T.g_law_source T.F_law_source.kp (bn_law_source T) (da_cons (de_var 0) (da_cons (de_var 1) da_nil))))
    (dss_one (ds_for PassesOwn.never rfl (di_range1 T.z_range (da_cons de_int da_nil) (fun h => pi_range1 rfl T.z_range h)) (dg_name 3 sc_law.nd) (dss_cons (ds_par 4 5 sc_law.nd (da_cons (de_ix (de_lst (da_cons de_int (da_cons de_int da_nil))) (de_call takes0N (ok_law_draw T) hr T.g_law_draw T.F_law_draw.kp (bn_law_draw T) (da_cons (de_var 2) (da_cons de_int da_nil)))) (da_cons (de_ix (de_lst (da_cons (de_sub (de_pow de_int de_int) de_int) (da_cons (de_pow de_int de_int) (da_cons de_int da_nil)))) (de_call takes0N (ok_law_draw T) hr T.g_law_draw T.F_law_draw.kp (bn_law_draw T) (da_cons (de_var 2) (da_cons de_int da_nil)))) da_nil)) (fun h => ps_par rfl sc_law.nd rfl rfl (by decide) rfl rfl h rfl))
    (dss_one (ds_if (dt_not (dt_val (de_call takes0N (ok_law_right T) hr T.g_law_right T.F_law_right.kp (bn_law_right T) (da_cons (de_var 2) (da_cons (de_call takes0N (ok_law_strand T) hr T.g_law_strand T.F_law_strand.kp (bn_law_strand T) (da_cons (de_var 2) (da_cons (de_var 4) (da_cons (de_var 5) da_nil)))) da_nil))))) (dss_one (ds_ret de_bl)) dss_nil)))))))
    (dss_one (ds_ret (de_eq hr (de_call takes0N (ok_count_beads T) hr T.g_count_beads T.F_count_beads.kp (bn_count_beads T) (da_cons (de_tup (da_cons (de_tup (da_cons de_str (da_cons (de_sub (de_pow de_int de_int) de_int) da_nil))) da_nil)) da_nil)) (de_sub (de_pow de_int de_int) de_int))))), ?_⟩

  have t32 : (10 : Int) ^ 32 < 2 ^ 200 := by decide
  have e32 : ((10 : Int) ^ (32 : Int).toNat) = 10 ^ 32 := rfl
  have e10 : ((10 : Int) ^ (10 : Int).toNat) = 10 ^ 10 := rfl
  try walk_at "DL"
  refine ⟨by omega, by omega, ?_⟩
  refine loopX_rng _ (fun i ds' O' => ∃ a b c d e, ds' = [some (.scr ns), a, b, c, d, e]) ⟨_, _, _, _, _, rfl⟩ ?_ ?_
  · rintro i ds' O' hi ⟨a1, a2, a3, a4, a5, rfl⟩ R hR
    try walk_at "DL"
    refine ⟨ns, (i : Int), rfl, by omega, by omega, fun p O1 hp src _ => ?_⟩
    try walk_at "DL"
    refine ⟨by decide, by decide, ?_⟩
    refine loopX_rng _ (fun j ds' O' => ∃ b c d, ds' = [some (.scr ns), some (.int (i : Int)), some (.opq (.ref p)), b, c, d] ∧ Src O' p (200 * j)) ⟨_, _, _, rfl, src⟩ ?_ ?_
    · rintro j ds' O' hj ⟨b1, b2, b3, rfl, srcJ⟩ R2 hR2
      have hj' : j < 3 := hj
      try walk_at "DL"
      refine ⟨by decide, draw_ srcJ (by omega) (by decide) (by decide) fun d1 O2 h10 h11 src1 mv1 => ?_⟩
      try walk_at "DL"
      refine atN (fun x => ∃ v, x = .int v ∧ 1 ≤ v ∧ v ≤ 24) h10 h11 ?_ ?_
      · intro x hx
        rcases List.mem_cons.mp hx with rfl | hx
        · exact ⟨_, rfl, by decide, by decide⟩
        rw [List.mem_singleton.mp hx]
        exact ⟨_, rfl, by decide, by decide⟩
      rintro x ⟨most, rfl, hm0, hm1⟩
      refine ⟨pw10 (by decide) (by decide), pw10 (by decide) (by decide), by decide, draw_ src1 (by omega) (by decide) (by decide) fun d2 O3 h20 h21 src2 mv2 => ?_⟩
      try walk_at "DL"
      rw [e32, e10]
      refine atN (fun x => ∃ v, x = .int v ∧ 3 ≤ v ∧ v ≤ 10 ^ 32) h20 h21 ?_ ?_
      · intro x hx
        rcases List.mem_cons.mp hx with rfl | hx
        · exact ⟨_, rfl, by decide, by decide⟩
        rcases List.mem_cons.mp hx with rfl | hx
        · exact ⟨_, rfl, by decide, by decide⟩
        rw [List.mem_singleton.mp hx]
        exact ⟨_, rfl, by decide, by decide⟩
      rintro x ⟨wide, rfl, hw0, hw1⟩
      refine ⟨p, most, wide, _, rfl, src2, by omega, hm0, hm1, hw0, hw1, fun rs O4 bd src3 mv3 => ?_⟩
      try walk_at "DL"
      refine ⟨p, rs, _, rfl, src3, by omega, bd, fun O5 src4 mv4 => ?_⟩
      try walk_at "DL"
      exact hR2 _ _ ⟨_, _, _, rfl, src4.mono (by omega)⟩
    · rintro ds' O' ⟨b1, b2, b3, rfl, srcJ⟩
      exact hR _ _ ⟨_, _, _, _, _, rfl⟩
  · rintro ds' O' ⟨a1, a2, a3, a4, a5, rfl⟩
    try walk_at "DL"
    refine ⟨pw10 (by decide) (by decide), by decide, by decide, ?_⟩
    rw [e32]
    have vd : Vd [(true, (10 : Int) ^ 32 - 1)] := ⟨by decide, fun r hr => by rw [List.mem_singleton.mp hr]; decide, trivial⟩
    refine count_beads_ (rs := [(true, (10 : Int) ^ 32 - 1)]) vd (by decide) ⟨pw10 (by decide) (by decide), ?_⟩
    try walk_at "DL"
    exact congrArg D.bl (decide_eq_true (by rw [beads_cons, beads_nil, Int.add_zero]))
end
theorem all_mk {l : PySem.W.OpenLaw} {w : World} {K : PySem.W.Frag} {h : Heap} {mg : Str → Option Value} {fa : Addr} (X : K.In h) (G : h.Ns mainGlobals mg) (hfa : mg "law" = some (.ref fa))
    {f0 : Addr} {od0 an0 : Option Addr} {sl0 : Array (Option Value)} {oc0 kV0 dc0 pm0 cd0 ct0 : Value} {f1 : Addr} {od1 an1 : Option Addr} {sl1 : Array (Option Value)} {oc1 kV1 dc1 pm1 cd1 ct1 : Value} {f2 : Addr} {od2 an2 : Option Addr} {sl2 : Array (Option Value)} {oc2 kV2 dc2 pm2 cd2 ct2 : Value} {f3 : Addr} {od3 an3 : Option Addr} {sl3 : Array (Option Value)} {oc3 kV3 dc3 pm3 cd3 ct3 : Value} {f4 : Addr} {od4 an4 : Option Addr} {sl4 : Array (Option Value)} {oc4 kV4 dc4 pm4 cd4 ct4 : Value} {f5 : Addr} {od5 an5 : Option Addr} {sl5 : Array (Option Value)} {oc5 kV5 dc5 pm5 cd5 ct5 : Value} {f6 : Addr} {od6 an6 : Option Addr} {sl6 : Array (Option Value)} {oc6 kV6 dc6 pm6 cd6 ct6 : Value} {f7 : Addr} {od7 an7 : Option Addr} {sl7 : Array (Option Value)} {oc7 kV7 dc7 pm7 cd7 ct7 : Value} {f8 : Addr} {od8 an8 : Option Addr} {sl8 : Array (Option Value)} {oc8 kV8 dc8 pm8 cd8 ct8 : Value} {f9 : Addr} {od9 an9 : Option Addr} {sl9 : Array (Option Value)} {oc9 kV9 dc9 pm9 cd9 ct9 : Value} {f10 : Addr} {od10 an10 : Option Addr} {sl10 : Array (Option Value)} {oc10 kV10 dc10 pm10 cd10 ct10 : Value} {f11 : Addr} {od11 an11 : Option Addr} {sl11 : Array (Option Value)} {oc11 kV11 dc11 pm11 cd11 ct11 : Value} {f12 : Addr} {od12 an12 : Option Addr} {sl12 : Array (Option Value)} {oc12 kV12 dc12 pm12 cd12 ct12 : Value} {f13 : Addr} {od13 an13 : Option Addr} {sl13 : Array (Option Value)} {oc13 kV13 dc13 pm13 cd13 ct13 : Value} {f14 : Addr} {od14 an14 : Option Addr} {sl14 : Array (Option Value)} {oc14 kV14 dc14 pm14 cd14 ct14 : Value} {f15 : Addr} {od15 an15 : Option Addr} {sl15 : Array (Option Value)} {oc15 kV15 dc15 pm15 cd15 ct15 : Value} {f16 : Addr} {od16 an16 : Option Addr} {sl16 : Array (Option Value)} {oc16 kV16 dc16 pm16 cd16 ct16 : Value} {f17 : Addr} {od17 an17 : Option Addr} {sl17 : Array (Option Value)} {oc17 kV17 dc17 pm17 cd17 ct17 : Value} {f18 : Addr} {od18 an18 : Option Addr} {sl18 : Array (Option Value)} {oc18 kV18 dc18 pm18 cd18 ct18 : Value} {f19 : Addr} {od19 an19 : Option Addr} {sl19 : Array (Option Value)} {oc19 kV19 dc19 pm19 cd19 ct19 : Value} {f20 : Addr} {od20 an20 : Option Addr} {sl20 : Array (Option Value)} {oc20 kV20 dc20 pm20 cd20 ct20 : Value}
    (a0 : PySem.W.nsIn K mainGlobals "is_integer" = some (some (.ref f0))) (l0 : K.lookup f0 = some ⟨oc0, od0, .func (PySem.W.fnOf "is_integer" "is_integer" (defArgs s_is_integer) (defBody s_is_integer) (defScope s_is_integer) .none kV0 dc0 pm0 an0 cd0 ct0), sl0⟩) (c0 : PySem.W.codeIn K cd0 "is_integer" = true) (k0 : PySem.W.keepIn K (.ref f0) = true)
    (a1 : PySem.W.nsIn K mainGlobals "is_integer_within" = some (some (.ref f1))) (l1 : K.lookup f1 = some ⟨oc1, od1, .func (PySem.W.fnOf "is_integer_within" "is_integer_within" (defArgs s_is_integer_within) (defBody s_is_integer_within) (defScope s_is_integer_within) .none kV1 dc1 pm1 an1 cd1 ct1), sl1⟩) (c1 : PySem.W.codeIn K cd1 "is_integer_within" = true) (k1 : PySem.W.keepIn K (.ref f1) = true)
    (a2 : PySem.W.nsIn K mainGlobals "is_run" = some (some (.ref f2))) (l2 : K.lookup f2 = some ⟨oc2, od2, .func (PySem.W.fnOf "is_run" "is_run" (defArgs s_is_run) (defBody s_is_run) (defScope s_is_run) .none kV2 dc2 pm2 an2 cd2 ct2), sl2⟩) (c2 : PySem.W.codeIn K cd2 "is_run" = true) (k2 : PySem.W.keepIn K (.ref f2) = true)
    (a3 : PySem.W.nsIn K mainGlobals "is_strand" = some (some (.ref f3))) (l3 : K.lookup f3 = some ⟨oc3, od3, .func (PySem.W.fnOf "is_strand" "is_strand" (defArgs s_is_strand) (defBody s_is_strand) (defScope s_is_strand) .none kV3 dc3 pm3 an3 cd3 ct3), sl3⟩) (c3 : PySem.W.codeIn K cd3 "is_strand" = true) (k3 : PySem.W.keepIn K (.ref f3) = true)
    (a4 : PySem.W.nsIn K mainGlobals "require_strand" = some (some (.ref f4))) (l4 : K.lookup f4 = some ⟨oc4, od4, .func (PySem.W.fnOf "require_strand" "require_strand" (defArgs s_require_strand) (defBody s_require_strand) (defScope s_require_strand) .none kV4 dc4 pm4 an4 cd4 ct4), sl4⟩) (c4 : PySem.W.codeIn K cd4 "require_strand" = true) (k4 : PySem.W.keepIn K (.ref f4) = true)
    (a5 : PySem.W.nsIn K mainGlobals "require_place" = some (some (.ref f5))) (l5 : K.lookup f5 = some ⟨oc5, od5, .func (PySem.W.fnOf "require_place" "require_place" (defArgs s_require_place) (defBody s_require_place) (defScope s_require_place) .none kV5 dc5 pm5 an5 cd5 ct5), sl5⟩) (c5 : PySem.W.codeIn K cd5 "require_place" = true) (k5 : PySem.W.keepIn K (.ref f5) = true)
    (a6 : PySem.W.nsIn K mainGlobals "total_beads" = some (some (.ref f6))) (l6 : K.lookup f6 = some ⟨oc6, od6, .func (PySem.W.fnOf "total_beads" "total_beads" (defArgs s_total_beads) (defBody s_total_beads) (defScope s_total_beads) .none kV6 dc6 pm6 an6 cd6 ct6), sl6⟩) (c6 : PySem.W.codeIn K cd6 "total_beads" = true) (k6 : PySem.W.keepIn K (.ref f6) = true)
    (a7 : PySem.W.nsIn K mainGlobals "total_dark" = some (some (.ref f7))) (l7 : K.lookup f7 = some ⟨oc7, od7, .func (PySem.W.fnOf "total_dark" "total_dark" (defArgs s_total_dark) (defBody s_total_dark) (defScope s_total_dark) .none kV7 dc7 pm7 an7 cd7 ct7), sl7⟩) (c7 : PySem.W.codeIn K cd7 "total_dark" = true) (k7 : PySem.W.keepIn K (.ref f7) = true)
    (a8 : PySem.W.nsIn K mainGlobals "cut_between" = some (some (.ref f8))) (l8 : K.lookup f8 = some ⟨oc8, od8, .func (PySem.W.fnOf "cut_between" "cut_between" (defArgs s_cut_between) (defBody s_cut_between) (defScope s_cut_between) .none kV8 dc8 pm8 an8 cd8 ct8), sl8⟩) (c8 : PySem.W.codeIn K cd8 "cut_between" = true) (k8 : PySem.W.keepIn K (.ref f8) = true)
    (a9 : PySem.W.nsIn K mainGlobals "runs_between" = some (some (.ref f9))) (l9 : K.lookup f9 = some ⟨oc9, od9, .func (PySem.W.fnOf "runs_between" "runs_between" (defArgs s_runs_between) (defBody s_runs_between) (defScope s_runs_between) .none kV9 dc9 pm9 an9 cd9 ct9), sl9⟩) (c9 : PySem.W.codeIn K cd9 "runs_between" = true) (k9 : PySem.W.keepIn K (.ref f9) = true)
    (a10 : PySem.W.nsIn K mainGlobals "count_beads" = some (some (.ref f10))) (l10 : K.lookup f10 = some ⟨oc10, od10, .func (PySem.W.fnOf "count_beads" "count_beads" (defArgs s_count_beads) (defBody s_count_beads) (defScope s_count_beads) .none kV10 dc10 pm10 an10 cd10 ct10), sl10⟩) (c10 : PySem.W.codeIn K cd10 "count_beads" = true) (k10 : PySem.W.keepIn K (.ref f10) = true)
    (a11 : PySem.W.nsIn K mainGlobals "count_dark" = some (some (.ref f11))) (l11 : K.lookup f11 = some ⟨oc11, od11, .func (PySem.W.fnOf "count_dark" "count_dark" (defArgs s_count_dark) (defBody s_count_dark) (defScope s_count_dark) .none kV11 dc11 pm11 an11 cd11 ct11), sl11⟩) (c11 : PySem.W.codeIn K cd11 "count_dark" = true) (k11 : PySem.W.keepIn K (.ref f11) = true)
    (a12 : PySem.W.nsIn K mainGlobals "colour_at" = some (some (.ref f12))) (l12 : K.lookup f12 = some ⟨oc12, od12, .func (PySem.W.fnOf "colour_at" "colour_at" (defArgs s_colour_at) (defBody s_colour_at) (defScope s_colour_at) .none kV12 dc12 pm12 an12 cd12 ct12), sl12⟩) (c12 : PySem.W.codeIn K cd12 "colour_at" = true) (k12 : PySem.W.keepIn K (.ref f12) = true)
    (a13 : PySem.W.nsIn K mainGlobals "dark_before" = some (some (.ref f13))) (l13 : K.lookup f13 = some ⟨oc13, od13, .func (PySem.W.fnOf "dark_before" "dark_before" (defArgs s_dark_before) (defBody s_dark_before) (defScope s_dark_before) .none kV13 dc13 pm13 an13 cd13 ct13), sl13⟩) (c13 : PySem.W.codeIn K cd13 "dark_before" = true) (k13 : PySem.W.keepIn K (.ref f13) = true)
    (a14 : PySem.W.nsIn K mainGlobals "dark_place" = some (some (.ref f14))) (l14 : K.lookup f14 = some ⟨oc14, od14, .func (PySem.W.fnOf "dark_place" "dark_place" (defArgs s_dark_place) (defBody s_dark_place) (defScope s_dark_place) .none kV14 dc14 pm14 an14 cd14 ct14), sl14⟩) (c14 : PySem.W.codeIn K cd14 "dark_place" = true) (k14 : PySem.W.keepIn K (.ref f14) = true)
    (a15 : PySem.W.nsIn K mainGlobals "_law_source" = some (some (.ref f15))) (l15 : K.lookup f15 = some ⟨oc15, od15, .func (PySem.W.fnOf "_law_source" "_law_source" (defArgs s_law_source) (defBody s_law_source) (defScope s_law_source) .none kV15 dc15 pm15 an15 cd15 ct15), sl15⟩) (c15 : PySem.W.codeIn K cd15 "_law_source" = true) (k15 : PySem.W.keepIn K (.ref f15) = true)
    (a16 : PySem.W.nsIn K mainGlobals "_law_draw" = some (some (.ref f16))) (l16 : K.lookup f16 = some ⟨oc16, od16, .func (PySem.W.fnOf "_law_draw" "_law_draw" (defArgs s_law_draw) (defBody s_law_draw) (defScope s_law_draw) .none kV16 dc16 pm16 an16 cd16 ct16), sl16⟩) (c16 : PySem.W.codeIn K cd16 "_law_draw" = true) (k16 : PySem.W.keepIn K (.ref f16) = true)
    (a17 : PySem.W.nsIn K mainGlobals "_law_strand" = some (some (.ref f17))) (l17 : K.lookup f17 = some ⟨oc17, od17, .func (PySem.W.fnOf "_law_strand" "_law_strand" (defArgs s_law_strand) (defBody s_law_strand) (defScope s_law_strand) .none kV17 dc17 pm17 an17 cd17 ct17), sl17⟩) (c17 : PySem.W.codeIn K cd17 "_law_strand" = true) (k17 : PySem.W.keepIn K (.ref f17) = true)
    (a18 : PySem.W.nsIn K mainGlobals "_law_runs_with_ends" = some (some (.ref f18))) (l18 : K.lookup f18 = some ⟨oc18, od18, .func (PySem.W.fnOf "_law_runs_with_ends" "_law_runs_with_ends" (defArgs s_law_runs_with_ends) (defBody s_law_runs_with_ends) (defScope s_law_runs_with_ends) .none kV18 dc18 pm18 an18 cd18 ct18), sl18⟩) (c18 : PySem.W.codeIn K cd18 "_law_runs_with_ends" = true) (k18 : PySem.W.keepIn K (.ref f18) = true)
    (a19 : PySem.W.nsIn K mainGlobals "_law_right" = some (some (.ref f19))) (l19 : K.lookup f19 = some ⟨oc19, od19, .func (PySem.W.fnOf "_law_right" "_law_right" (defArgs s_law_right) (defBody s_law_right) (defScope s_law_right) .none kV19 dc19 pm19 an19 cd19 ct19), sl19⟩) (c19 : PySem.W.codeIn K cd19 "_law_right" = true) (k19 : PySem.W.keepIn K (.ref f19) = true)
    (a20 : PySem.W.nsIn K mainGlobals "law" = some (some (.ref f20))) (l20 : K.lookup f20 = some ⟨oc20, od20, .func (PySem.W.fnOf "law" "law" (defArgs s_law) (defBody s_law) (defScope s_law) .none kV20 dc20 pm20 an20 cd20 ct20), sl20⟩) (c20 : PySem.W.codeIn K cd20 "law" = true) (k20 : PySem.W.keepIn K (.ref f20) = true)
    {c_InvalidIndex : Addr} (g_InvalidIndex : PySem.W.nsIn K mainGlobals "InvalidIndex" = some (some (.ref c_InvalidIndex))) (x_InvalidIndex : PySem.W.excIn K c_InvalidIndex veTail "ValueError.__new__" = true) (k_InvalidIndex : PySem.W.keepIn K (.ref c_InvalidIndex) = true) (b_InvalidIndex : PySem.W.subIn K (.ref c_InvalidIndex) (.type "BaseException") = some true) (t_InvalidIndex : PySem.W.typeIn K (.ref c_InvalidIndex) = some (.type "type"))
    {c_InvalidPlace : Addr} (g_InvalidPlace : PySem.W.nsIn K mainGlobals "InvalidPlace" = some (some (.ref c_InvalidPlace))) (x_InvalidPlace : PySem.W.excIn K c_InvalidPlace veTail "ValueError.__new__" = true) (k_InvalidPlace : PySem.W.keepIn K (.ref c_InvalidPlace) = true) (b_InvalidPlace : PySem.W.subIn K (.ref c_InvalidPlace) (.type "BaseException") = some true) (t_InvalidPlace : PySem.W.typeIn K (.ref c_InvalidPlace) = some (.type "type"))
    {c_InvalidStrand : Addr} (g_InvalidStrand : PySem.W.nsIn K mainGlobals "InvalidStrand" = some (some (.ref c_InvalidStrand))) (x_InvalidStrand : PySem.W.excIn K c_InvalidStrand veTail "ValueError.__new__" = true) (k_InvalidStrand : PySem.W.keepIn K (.ref c_InvalidStrand) = true) (b_InvalidStrand : PySem.W.subIn K (.ref c_InvalidStrand) (.type "BaseException") = some true) (t_InvalidStrand : PySem.W.typeIn K (.ref c_InvalidStrand) = some (.type "type"))
    {u_DARK : Nat} (g_DARK : PySem.W.nsIn K mainGlobals "DARK" = some (some (.str "D" u_DARK)))
    {u_LIGHT : Nat} (g_LIGHT : PySem.W.nsIn K mainGlobals "LIGHT" = some (some (.str "L" u_LIGHT)))
    (z_abs : PySem.W.nsIn K mainGlobals "abs" = some none)
    (z_bool : PySem.W.nsIn K mainGlobals "bool" = some none)
    (z_int : PySem.W.nsIn K mainGlobals "int" = some none)
    (z_isinstance : PySem.W.nsIn K mainGlobals "isinstance" = some none)
    (z_len : PySem.W.nsIn K mainGlobals "len" = some none)
    (z_max : PySem.W.nsIn K mainGlobals "max" = some none)
    (z_min : PySem.W.nsIn K mainGlobals "min" = some none)
    (z_range : PySem.W.nsIn K mainGlobals "range" = some none)
    (z_str : PySem.W.nsIn K mainGlobals "str" = some none)
    (z_sum : PySem.W.nsIn K mainGlobals "sum" = some none)
    (z_tuple : PySem.W.nsIn K mainGlobals "tuple" = some none)
    : ∃ fd : FuncData, (∀ (s : Shared) (v : Value), BindsTo s fd ⟨[v], []⟩ [("script", v)]) ∧ ∀ base : Heap, K.In base → base.Ns mainGlobals mg → FnOk l.prog w K mg base CX0 7 fa fd ["script"] (spLawD K) := by
  have e := hfa.symm.trans (PySem.W.mg_of X G a20)
  cases e
  have T : Tx K mg := { a_is_integer := f0, d_is_integer := _, F_is_integer := fun_mk (st := s_is_integer) l0 c0 k0, g_is_integer := PySem.W.mg_of X G a0, a_is_integer_within := f1, d_is_integer_within := _, F_is_integer_within := fun_mk (st := s_is_integer_within) l1 c1 k1, g_is_integer_within := PySem.W.mg_of X G a1, a_is_run := f2, d_is_run := _, F_is_run := fun_mk (st := s_is_run) l2 c2 k2, g_is_run := PySem.W.mg_of X G a2, a_is_strand := f3, d_is_strand := _, F_is_strand := fun_mk (st := s_is_strand) l3 c3 k3, g_is_strand := PySem.W.mg_of X G a3, a_require_strand := f4, d_require_strand := _, F_require_strand := fun_mk (st := s_require_strand) l4 c4 k4, g_require_strand := PySem.W.mg_of X G a4, a_require_place := f5, d_require_place := _, F_require_place := fun_mk (st := s_require_place) l5 c5 k5, g_require_place := PySem.W.mg_of X G a5, a_total_beads := f6, d_total_beads := _, F_total_beads := fun_mk (st := s_total_beads) l6 c6 k6, g_total_beads := PySem.W.mg_of X G a6, a_total_dark := f7, d_total_dark := _, F_total_dark := fun_mk (st := s_total_dark) l7 c7 k7, g_total_dark := PySem.W.mg_of X G a7, a_cut_between := f8, d_cut_between := _, F_cut_between := fun_mk (st := s_cut_between) l8 c8 k8, g_cut_between := PySem.W.mg_of X G a8, a_runs_between := f9, d_runs_between := _, F_runs_between := fun_mk (st := s_runs_between) l9 c9 k9, g_runs_between := PySem.W.mg_of X G a9, a_count_beads := f10, d_count_beads := _, F_count_beads := fun_mk (st := s_count_beads) l10 c10 k10, g_count_beads := PySem.W.mg_of X G a10, a_count_dark := f11, d_count_dark := _, F_count_dark := fun_mk (st := s_count_dark) l11 c11 k11, g_count_dark := PySem.W.mg_of X G a11, a_colour_at := f12, d_colour_at := _, F_colour_at := fun_mk (st := s_colour_at) l12 c12 k12, g_colour_at := PySem.W.mg_of X G a12, a_dark_before := f13, d_dark_before := _, F_dark_before := fun_mk (st := s_dark_before) l13 c13 k13, g_dark_before := PySem.W.mg_of X G a13, a_dark_place := f14, d_dark_place := _, F_dark_place := fun_mk (st := s_dark_place) l14 c14 k14, g_dark_place := PySem.W.mg_of X G a14, a_law_source := f15, d_law_source := _, F_law_source := fun_mk (st := s_law_source) l15 c15 k15, g_law_source := PySem.W.mg_of X G a15, a_law_draw := f16, d_law_draw := _, F_law_draw := fun_mk (st := s_law_draw) l16 c16 k16, g_law_draw := PySem.W.mg_of X G a16, a_law_strand := f17, d_law_strand := _, F_law_strand := fun_mk (st := s_law_strand) l17 c17 k17, g_law_strand := PySem.W.mg_of X G a17, a_law_runs_with_ends := f18, d_law_runs_with_ends := _, F_law_runs_with_ends := fun_mk (st := s_law_runs_with_ends) l18 c18 k18, g_law_runs_with_ends := PySem.W.mg_of X G a18, a_law_right := f19, d_law_right := _, F_law_right := fun_mk (st := s_law_right) l19 c19 k19, g_law_right := PySem.W.mg_of X G a19, c_InvalidIndex := c_InvalidIndex, g_InvalidIndex := PySem.W.mg_of X G g_InvalidIndex, x_InvalidIndex := x_InvalidIndex, k_InvalidIndex := k_InvalidIndex, b_InvalidIndex := b_InvalidIndex, t_InvalidIndex := t_InvalidIndex, c_InvalidPlace := c_InvalidPlace, g_InvalidPlace := PySem.W.mg_of X G g_InvalidPlace, x_InvalidPlace := x_InvalidPlace, k_InvalidPlace := k_InvalidPlace, b_InvalidPlace := b_InvalidPlace, t_InvalidPlace := t_InvalidPlace, c_InvalidStrand := c_InvalidStrand, g_InvalidStrand := PySem.W.mg_of X G g_InvalidStrand, x_InvalidStrand := x_InvalidStrand, k_InvalidStrand := k_InvalidStrand, b_InvalidStrand := b_InvalidStrand, t_InvalidStrand := t_InvalidStrand, u_DARK := u_DARK, g_DARK := PySem.W.mg_of X G g_DARK, u_LIGHT := u_LIGHT, g_LIGHT := PySem.W.mg_of X G g_LIGHT, z_abs := PySem.W.mg_none_of X G z_abs, z_bool := PySem.W.mg_none_of X G z_bool, z_int := PySem.W.mg_none_of X G z_int, z_isinstance := PySem.W.mg_none_of X G z_isinstance, z_len := PySem.W.mg_none_of X G z_len, z_max := PySem.W.mg_none_of X G z_max, z_min := PySem.W.mg_none_of X G z_min, z_range := PySem.W.mg_none_of X G z_range, z_str := PySem.W.mg_none_of X G z_str, z_sum := PySem.W.mg_none_of X G z_sum, z_tuple := PySem.W.mg_none_of X G z_tuple }
  exact ⟨_, fun s v => .of_eq rfl, fun base _ _ => ok_law T (fun_mk (st := s_law) l20 c20 k20)⟩
end Pf
open PySem PySem.W PyProof.Rows
set_option maxHeartbeats 0 in
theorem PySem.Challenge.cw_fairarcs_k02_beads_of_large_strands_holds : PySem.Challenge.rw_fairarcs_k02_beads_of_large_strands.Holds := by
  w_on; o_law; k_head; (case hw => w_witness2)
  k_fill
  refine L2.walk_of (l := PySem.Challenge.rw_fairarcs_k02_beads_of_large_strands) (n := 63) (k := 7) (x := "script") (CX := fun _ => L2.CX0) (sp := fun w => DL.spLawD _) rfl (by decide) rfl ⟨rfl, by decide, by decide⟩ (fun w h Y => PySem.W.kIn_of Y) ?F (fun _ _ a ns hl _ hS => ⟨a, ns, rfl, hS, hl, fun _ => rfl⟩) (fun _ _ _ _ _ h => h)
  case F =>
    intro w mg fa h KX G hmg
    refine' Pf.all_mk KX G hmg ?a0 ?l0 ?c0 ?k0 ?a1 ?l1 ?c1 ?k1 ?a2 ?l2 ?c2 ?k2 ?a3 ?l3 ?c3 ?k3 ?a4 ?l4 ?c4 ?k4 ?a5 ?l5 ?c5 ?k5 ?a6 ?l6 ?c6 ?k6 ?a7 ?l7 ?c7 ?k7 ?a8 ?l8 ?c8 ?k8 ?a9 ?l9 ?c9 ?k9 ?a10 ?l10 ?c10 ?k10 ?a11 ?l11 ?c11 ?k11 ?a12 ?l12 ?c12 ?k12 ?a13 ?l13 ?c13 ?k13 ?a14 ?l14 ?c14 ?k14 ?a15 ?l15 ?c15 ?k15 ?a16 ?l16 ?c16 ?k16 ?a17 ?l17 ?c17 ?k17 ?a18 ?l18 ?c18 ?k18 ?a19 ?l19 ?c19 ?k19 ?a20 ?l20 ?c20 ?k20 ?g_InvalidIndex ?x_InvalidIndex ?k_InvalidIndex ?b_InvalidIndex ?t_InvalidIndex ?g_InvalidPlace ?x_InvalidPlace ?k_InvalidPlace ?b_InvalidPlace ?t_InvalidPlace ?g_InvalidStrand ?x_InvalidStrand ?k_InvalidStrand ?b_InvalidStrand ?t_InvalidStrand ?g_DARK ?g_LIGHT ?z_abs ?z_bool ?z_int ?z_isinstance ?z_len ?z_max ?z_min ?z_range ?z_str ?z_sum ?z_tuple
    (case a0 => k_is)
    (case l0 => k_is)
    (case c0 => k_is)
    (case k0 => k_is)
    (case a1 => k_is)
    (case l1 => k_is)
    (case c1 => k_is)
    (case k1 => k_is)
    (case a2 => k_is)
    (case l2 => k_is)
    (case c2 => k_is)
    (case k2 => k_is)
    (case a3 => k_is)
    (case l3 => k_is)
    (case c3 => k_is)
    (case k3 => k_is)
    (case a4 => k_is)
    (case l4 => k_is)
    (case c4 => k_is)
    (case k4 => k_is)
    (case a5 => k_is)
    (case l5 => k_is)
    (case c5 => k_is)
    (case k5 => k_is)
    (case a6 => k_is)
    (case l6 => k_is)
    (case c6 => k_is)
    (case k6 => k_is)
    (case a7 => k_is)
    (case l7 => k_is)
    (case c7 => k_is)
    (case k7 => k_is)
    (case a8 => k_is)
    (case l8 => k_is)
    (case c8 => k_is)
    (case k8 => k_is)
    (case a9 => k_is)
    (case l9 => k_is)
    (case c9 => k_is)
    (case k9 => k_is)
    (case a10 => k_is)
    (case l10 => k_is)
    (case c10 => k_is)
    (case k10 => k_is)
    (case a11 => k_is)
    (case l11 => k_is)
    (case c11 => k_is)
    (case k11 => k_is)
    (case a12 => k_is)
    (case l12 => k_is)
    (case c12 => k_is)
    (case k12 => k_is)
    (case a13 => k_is)
    (case l13 => k_is)
    (case c13 => k_is)
    (case k13 => k_is)
    (case a14 => k_is)
    (case l14 => k_is)
    (case c14 => k_is)
    (case k14 => k_is)
    (case a15 => k_is)
    (case l15 => k_is)
    (case c15 => k_is)
    (case k15 => k_is)
    (case a16 => k_is)
    (case l16 => k_is)
    (case c16 => k_is)
    (case k16 => k_is)
    (case a17 => k_is)
    (case l17 => k_is)
    (case c17 => k_is)
    (case k17 => k_is)
    (case a18 => k_is)
    (case l18 => k_is)
    (case c18 => k_is)
    (case k18 => k_is)
    (case a19 => k_is)
    (case l19 => k_is)
    (case c19 => k_is)
    (case k19 => k_is)
    (case a20 => k_is)
    (case l20 => k_is)
    (case c20 => k_is)
    (case k20 => k_is)
    (case g_InvalidIndex => k_is)
    (case x_InvalidIndex => k_exc)
    (case k_InvalidIndex => k_is)
    (case b_InvalidIndex => k_is)
    (case t_InvalidIndex => k_is)
    (case g_InvalidPlace => k_is)
    (case x_InvalidPlace => k_exc)
    (case k_InvalidPlace => k_is)
    (case b_InvalidPlace => k_is)
    (case t_InvalidPlace => k_is)
    (case g_InvalidStrand => k_is)
    (case x_InvalidStrand => k_exc)
    (case k_InvalidStrand => k_is)
    (case b_InvalidStrand => k_is)
    (case t_InvalidStrand => k_is)
    (case g_DARK => k_is)
    (case g_LIGHT => k_is)
    (case z_abs => k_is)
    (case z_bool => k_is)
    (case z_int => k_is)
    (case z_isinstance => k_is)
    (case z_len => k_is)
    (case z_max => k_is)
    (case z_min => k_is)
    (case z_range => k_is)
    (case z_str => k_is)
    (case z_sum => k_is)
    (case z_tuple => k_is)

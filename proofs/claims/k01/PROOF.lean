import PyProof.Rows.All
import Wide.All
import OpenK.AllK
import Wide.FinOn
import PySem.Challenge.RW_soonestsaid_k01_typical_rows_one_for_eac
import HandS.ForMost
import HandS.Evl
import HandS.Walk
import HandS.Zip
import HandS.Conv
import HandS.Star
import HandS.TupAny
import HandS.TupMul
import HandS.IsInst
import HandS.Style
import HandS.Wide
import HandS.SortRule
import HandS.TupLe
import PyProof.P3Eq
import HandS.SortKw
import HandS.SetFor
set_option Elab.async false
set_option linter.all false
set_option maxRecDepth 100000
/-! what a program does with plain data: known objects (G) within the heap (H) -/
namespace Dv
open PySem PySem.Spec PyProof.Rows L2
open Evl (Ex)

/-! ### data -/
mutual
inductive Da (G : Hp) : V → PyData → Prop
  | non : Da G .non .none
  | bl (b : Bool) : Da G (.bl b) (.bool b)
  | int (i : Int) : Da G (.int i) (.int i)
  | lst {a : Addr} {xs : List V} {ds : List PyData} : G a = some (.lst xs) → DaA G xs ds → Da G (.ref a) (.list ds)
  | tup {a : Addr} {xs : List V} {ds : List PyData} : Rd G a (.tup xs) → DaA G xs ds → Da G (.ref a) (.tuple ds)
inductive DaA (G : Hp) : List V → List PyData → Prop
  | nil : DaA G [] []
  | cons {v : V} {vs : List V} {d : PyData} {ds : List PyData} : Da G v d → DaA G vs ds → DaA G (v :: vs) (d :: ds)
end
mutual
theorem Da.mono {G G' : Hp} (e : Ex G G') : ∀ {v : V} {d : PyData}, Da G v d → Da G' v d
  | _, _, .non => .non
  | _, _, .bl b => .bl b
  | _, _, .int i => .int i
  | _, _, .lst h k => .lst (e _ _ h) (DaA.mono e k)
  | _, _, .tup h k => .tup (Evl.ex_rd e h) (DaA.mono e k)
theorem DaA.mono {G G' : Hp} (e : Ex G G') : ∀ {vs : List V} {ds : List PyData}, DaA G vs ds → DaA G' vs ds
  | _, _, .nil => .nil
  | _, _, .cons h k => .cons (Da.mono e h) (DaA.mono e k)
end
mutual
theorem Da.dp {K : PySem.W.Frag} {G : Hp} : ∀ {v : V} {d : PyData}, Da G v d → Dp K G v d
  | _, _, .non => .non
  | _, _, .bl b => .bl b
  | _, _, .int i => .int i
  | _, _, .lst h k => .lst (.inl (.inl h)) (DaA.dp k)
  | _, _, .tup h k => .tup (.inl h) (DaA.dp k)
theorem DaA.dp {K : PySem.W.Frag} {G : Hp} : ∀ {vs : List V} {ds : List PyData}, DaA G vs ds → DpAll K G vs ds
  | _, _, .nil => .nil
  | _, _, .cons h k => .cons (Da.dp h) (DaA.dp k)
end
theorem DaA.length {G : Hp} : ∀ {vs : List V} {ds : List PyData}, DaA G vs ds → vs.length = ds.length
  | _, _, .nil => rfl
  | _, _, .cons _ k => congrArg (· + 1) k.length
theorem DaA.get {G : Hp} : ∀ {vs : List V} {ds : List PyData}, DaA G vs ds → ∀ {i : Nat} {d : PyData}, ds[i]? = some d → ∃ v, vs[i]? = some v ∧ Da G v d
  | _, _, .cons h _, 0, _, e => ⟨_, rfl, by cases e; exact h⟩
  | _, _, .cons _ k, i + 1, _, e => k.get (i := i) e
theorem DaA.getV {G : Hp} : ∀ {vs : List V} {ds : List PyData}, DaA G vs ds → ∀ {i : Nat} {v : V}, vs[i]? = some v → ∃ d, ds[i]? = some d ∧ Da G v d
  | _, _, .cons h _, 0, _, e => ⟨_, rfl, by cases e; exact h⟩
  | _, _, .cons _ k, i + 1, _, e => k.getV (i := i) e
theorem DaA.app {G : Hp} : ∀ {vs ws : List V} {ds es : List PyData}, DaA G vs ds → DaA G ws es → DaA G (vs ++ ws) (ds ++ es)
  | _, _, _, _, .nil, k => k
  | _, _, _, _, .cons h t, k => .cons h (t.app k)
theorem DaA.snoc {G : Hp} {vs : List V} {ds : List PyData} {v : V} {d : PyData} (h : DaA G vs ds) (k : Da G v d) : DaA G (vs ++ [v]) (ds ++ [d]) := h.app (.cons k .nil)
theorem DaA.ints {G : Hp} : ∀ (ns : List Int), DaA G (ns.map V.int) (ns.map PyData.int)
  | [] => .nil
  | n :: ns => .cons (.int n) (DaA.ints ns)
theorem Da.intV {G : Hp} {v : V} {i : Int} (h : Da G v (.int i)) : v = .int i := by cases h; rfl
theorem Da.blV {G : Hp} {v : V} {i : Bool} (h : Da G v (.bool i)) : v = .bl i := by cases h; rfl
theorem Da.nonV {G : Hp} {v : V} (h : Da G v .none) : v = .non := by cases h; rfl
theorem Da.lstV {G : Hp} {v : V} {ds : List PyData} (h : Da G v (.list ds)) : ∃ a xs, v = .ref a ∧ G a = some (.lst xs) ∧ DaA G xs ds := by
  cases h with
  | lst h k => exact ⟨_, _, rfl, h, k⟩
theorem Da.tupV {G : Hp} {v : V} {ds : List PyData} (h : Da G v (.tuple ds)) : ∃ a xs, v = .ref a ∧ Rd G a (.tup xs) ∧ DaA G xs ds := by
  cases h with
  | tup h k => exact ⟨_, _, rfl, h, k⟩
theorem DaA.intsV {G : Hp} : ∀ {vs : List V} {ns : List Int}, DaA G vs (ns.map PyData.int) → vs = ns.map V.int
  | [], [], _ => rfl
  | v :: vs, n :: ns, .cons h k => by
    rw [DaA.intsV k, Da.intV h]; rfl
theorem DaA.blsV {G : Hp} : ∀ {vs : List V} {ns : List Bool}, DaA G vs (ns.map PyData.bool) → vs = ns.map V.bl
  | [], [], _ => rfl
  | v :: vs, n :: ns, .cons h k => by
    rw [DaA.blsV k, Da.blV h]; rfl
theorem DaA.nilV {G : Hp} {vs : List V} (h : DaA G vs []) : vs = [] := by cases h; rfl
theorem DaA.consV {G : Hp} {vs : List V} {d : PyData} {ds : List PyData} (h : DaA G vs (d :: ds)) : ∃ v ws, vs = v :: ws ∧ Da G v d ∧ DaA G ws ds := by
  cases h with
  | cons h k => exact ⟨_, _, rfl, h, k⟩

/-! ### what is known, and what may change: T none: nothing; T = (S, C): the list at S, a drawn source over the cells at C -/
abbrev Tw := Option (Addr × Addr)
def SrcOk (H : Hp) (S C : Addr) : Prop := ∃ (ns : List Int) (p r z : Int), H S = some (.lst [.ref C, .int p, .int r, .int z]) ∧ C ≠ S ∧ H C = some (.lst (ns.map V.int)) ∧ ns.length ≤ 63 ∧ 0 ≤ p ∧ 0 ≤ r ∧ 0 ≤ z ∧ z < 2147483647
def Pre (T : Tw) (G H : Hp) : Prop := Ex G H ∧ ∀ S C, T = some (S, C) → G S = none ∧ SrcOk H S C
structure Stp (T : Tw) (G H G' H' : Hp) : Prop where
  ex : Ex G G'
  fr : ∀ a o, G' a = some o → G a = none → H a = none
  fm : ∀ a o, (∀ C, T ≠ some (a, C)) → H a = some o → H' a = some o
  pre : Pre T G' H'
theorem Stp.refl {T : Tw} {G H : Hp} (h : Pre T G H) : Stp T G H G H := ⟨Ex.refl _, fun a o x y => (by rw [x] at y; cases y), fun _ _ _ h => h, h⟩
theorem Pre.notS {T : Tw} {G H : Hp} (h : Pre T G H) {a : Addr} {o : HO} (e : G a = some o) : ∀ C, T ≠ some (a, C) := fun C z => by
  have := (h.2 a C z).1
  rw [e] at this
  cases this
theorem Pre.freshS {T : Tw} {G H : Hp} (h : Pre T G H) {a : Addr} (e : H a = none) : ∀ C, T ≠ some (a, C) := fun C z => by
  obtain ⟨_, _, _, _, q, _⟩ := (h.2 a C z).2
  rw [e] at q
  cases q
theorem Stp.trans {T : Tw} {G H G1 H1 G2 H2 : Hp} (a : Stp T G H G1 H1) (b : Stp T G1 H1 G2 H2) : Stp T G H G2 H2 := by
  refine ⟨a.ex.trans b.ex, fun x o h2 h0 => ?_, fun x o n h => b.fm x o n (a.fm x o n h), b.pre⟩
  cases h1 : G1 x with
  | some o1 => exact a.fr x o1 h1 h0
  | none =>
    have q := b.fr x o h2 h1
    cases h : H x with
    | none => rfl
    | some o' =>
      have := a.fm x o' (b.pre.notS h2) h
      rw [q] at this
      cases this
theorem Stp.new {T : Tw} {G H : Hp} (h : Pre T G H) {p : Addr} (o : HO) (hp : H p = none) : Stp T G H (upd G p o) (upd H p o) := by
  have gp : G p = none := Evl.fresh_back h.1 hp
  refine ⟨Ex.new gp, fun a u x y => ?_, fun a u n q => ?_, fun a u x => ?_, fun S C e => ?_⟩
  · by_cases e : a = p
    · rw [e]; exact hp
    · rw [upd_ne e, y] at x; cases x
  · rw [upd_ne (ne_of_none q hp)]; exact q
  · by_cases e : a = p
    · rw [e, upd_same] at x ⊢; exact x
    · rw [upd_ne e] at x ⊢; exact h.1 a u x
  · obtain ⟨g, ns, p', r, z, h1, h2, h3, h4⟩ := h.2 S C e
    refine ⟨?_, ns, p', r, z, ?_, h2, ?_, h4⟩
    · rw [upd_ne (ne_of_none h1 hp)]; exact g
    · rw [upd_ne (ne_of_none h1 hp)]; exact h1
    · rw [upd_ne (ne_of_none h3 hp)]; exact h3
/-- a list that was not known at the beginning may change, while it is kept apart from what is known -/
theorem Stp.mut {T : Tw} {G H G1 H1 : Hp} (s : Stp T G H G1 H1) (h : Pre T G H) {l : Addr} (o : HO) (hl : H l = none) (gl : G1 l = none) : Stp T G H G1 (upd H1 l o) := by
  refine ⟨s.ex, s.fr, fun a u n q => ?_, fun a u x => ?_, fun S C e => ?_⟩
  · rw [upd_ne (ne_of_none q hl)]; exact s.fm a u n q
  · by_cases e : a = l
    · rw [e, gl] at x; cases x
    · rw [upd_ne e]; exact s.pre.1 a u x
  · obtain ⟨g, ns, p', r, z, h1, h2, h3, h4⟩ := s.pre.2 S C e
    obtain ⟨g0, ns0, p0, r0, z0, k1, k2, k3, k4⟩ := h.2 S C e
    refine ⟨g, ns, p', r, z, ?_, h2, ?_, h4⟩
    · rw [upd_ne (ne_of_none k1 hl)]; exact h1
    · rw [upd_ne (ne_of_none k3 hl)]; exact h3
/-- .. and is known in the end -/
theorem Stp.tell {T : Tw} {G H G1 H1 : Hp} (s : Stp T G H G1 H1) (h : Pre T G H) {l : Addr} {o : HO} (hl : H l = none) (gl : G1 l = none) (e : H1 l = some o) : Stp T G H (upd G1 l o) H1 := by
  refine ⟨s.ex.trans (Ex.new gl), fun a u x y => ?_, s.fm, fun a u x => ?_, fun S C z => ?_⟩
  · by_cases q : a = l
    · rw [q]; exact hl
    · rw [upd_ne q] at x; exact s.fr a u x y
  · by_cases q : a = l
    · rw [q, upd_same] at x; rw [q, ← x]; exact e
    · rw [upd_ne q] at x; exact s.pre.1 a u x
  · refine ⟨?_, (s.pre.2 S C z).2⟩
    have q : S ≠ l := fun q => h.freshS hl C (by rw [z, q])
    rw [upd_ne q]
    exact (s.pre.2 S C z).1
/-- a list kept apart stays apart and as it is -/
theorem Stp.apart {T : Tw} {G H G1 H1 : Hp} (s : Stp T G H G1 H1) {l : Addr} {o : HO} (gl : G l = none) (e : H l = some o) (n : ∀ C, T ≠ some (l, C)) : G1 l = none ∧ H1 l = some o := by
  refine ⟨?_, s.fm l o n e⟩
  cases q : G1 l with
  | none => rfl
  | some u =>
    have := s.fr l u q gl
    rw [e] at this
    cases this
/-- nothing changes: then nothing but what may change does -/
theorem Stp.any {T : Tw} {G H G1 H1 : Hp} (s : Stp none G H G1 H1) (h : Pre T G H) : Stp T G H G1 H1 := by
  refine ⟨s.ex, s.fr, fun a o _ q => s.fm a o (fun _ z => nomatch z) q, s.pre.1, fun S C e => ?_⟩
  obtain ⟨g, ns, p', r, z, h1, h2, h3, h4⟩ := h.2 S C e
  refine ⟨?_, ns, p', r, z, s.fm S _ (fun _ z => nomatch z) h1, h2, s.fm C _ (fun _ z => nomatch z) h3, h4⟩
  cases q : G1 S with
  | none => rfl
  | some u =>
    have := s.fr S u q g
    rw [h1] at this
    cases this
theorem Pre.none {T : Tw} {G H : Hp} (h : Pre T G H) : Pre none G H := ⟨h.1, fun _ _ z => nomatch z⟩

/-! ### judgements -/
def EvP (T : Tw) (te : TE) (σ : L2.St) (G : Hp) (φ : PyData → Prop) : Prop := ∀ G1 H, Ex G G1 → Pre T G1 H → ∀ Q : VK, (∀ v d G2 H2, Stp T G1 H G2 H2 → Da G2 v d → φ d → Q v H2) → te σ H Q
def EvB (T : Tw) (tt : TT) (σ : L2.St) (G : Hp) (φ : Bool → Prop) : Prop := ∀ G1 H, Ex G G1 → Pre T G1 H → ∀ Q : Bool → Hp → Prop, (∀ b G2 H2, Stp T G1 H G2 H2 → φ b → Q b H2) → tt σ H Q
def EvA (T : Tw) (ta : TA) (σ : L2.St) (G : Hp) (φ : List PyData → Prop) : Prop := ∀ G1 H, Ex G G1 → Pre T G1 H → ∀ Q : List V → Hp → Prop, (∀ vs ds G2 H2, Stp T G1 H G2 H2 → DaA G2 vs ds → φ ds → Q vs H2) → ta σ H Q
def RD (T : Tw) (r : R2) (d e : PyData) (φ : PyData → Prop) : Prop := ∀ x y G H, Da G x d → Da G y e → Pre T G H → ∀ Q : VK, (∀ v d' G2 H2, Stp T G H G2 H2 → Da G2 v d' → φ d' → Q v H2) → r x y H Q
def RU1 (T : Tw) (r : V → Hp → VK → Prop) (d : PyData) (φ : PyData → Prop) : Prop := ∀ x G H, Da G x d → Pre T G H → ∀ Q : VK, (∀ v d' G2 H2, Stp T G H G2 H2 → Da G2 v d' → φ d' → Q v H2) → r x H Q
def RCD (T : Tw) (r : List V → Hp → VK → Prop) (ds : List PyData) (φ : PyData → Prop) : Prop := ∀ xs G H, DaA G xs ds → Pre T G H → ∀ Q : VK, (∀ v d' G2 H2, Stp T G H G2 H2 → Da G2 v d' → φ d' → Q v H2) → r xs H Q
section
variable {K : PySem.W.Frag} {T : Tw} {σ : L2.St} {G G' H H' : Hp} {ta tb te tx : TE} {t u : TT} {v : V} {d : PyData} {r : R2} {φ ψ χ : PyData → Prop} {α β : Bool → Prop}
theorem EvP.up (h : EvP T te σ G φ) (e : Ex G G') : EvP T te σ G' φ := fun G1 H x => h G1 H (e.trans x)
theorem EvB.up (h : EvB T t σ G α) (e : Ex G G') : EvB T t σ G' α := fun G1 H x => h G1 H (e.trans x)
theorem EvP.imp (h : EvP T te σ G φ) (e : ∀ d, φ d → ψ d) : EvP T te σ G ψ := fun G1 H x p Q q => h G1 H x p Q fun v d G2 H2 s k f => q v d G2 H2 s k (e d f)
theorem EvB.imp (h : EvB T t σ G α) (e : ∀ d, α d → β d) : EvB T t σ G β := fun G1 H x p Q q => h G1 H x p Q fun v G2 H2 s f => q v G2 H2 s (e v f)
theorem e_var {i : Nat} (h : σ[i]? = some (some v)) (k : Da G v d) : EvP T (tVar i) σ G (· = d) := fun G1 H x p Q q => ⟨v, h, q v d G1 H (Stp.refl p) (k.mono x) rfl⟩
theorem e_int {i : Int} : EvP T (tC (.int i)) σ G (· = .int i) := fun G1 H x p Q q => q _ _ G1 H (Stp.refl p) (.int i) rfl
theorem e_bl {i : Bool} : EvP T (tC (.bl i)) σ G (· = .bool i) := fun G1 H x p Q q => q _ _ G1 H (Stp.refl p) (.bl i) rfl
theorem e_non : EvP T (tC .non) σ G (· = .none) := fun G1 H x p Q q => q _ _ G1 H (Stp.refl p) .non rfl
theorem e_op (ha : EvP T ta σ G φ) (hb : EvP T tb σ G ψ) (hr : ∀ d e, φ d → ψ e → RD T r d e χ) : EvP T (tOp r ta tb) σ G χ := fun G1 H x p Q q =>
  ha G1 H x p _ fun v d G2 H2 s2 k f => hb G2 H2 (x.trans s2.ex) s2.pre _ fun w e G3 H3 s3 k3 g => hr d e f g v w G3 H3 (k.mono s3.ex) k3 s3.pre Q fun z d' G4 H4 s4 k4 c => q z d' G4 H4 ((s2.trans s3).trans s4) k4 c
theorem e_un {r : V → Hp → VK → Prop} (ha : EvP T ta σ G φ) (hr : ∀ d, φ d → RU1 T r d χ) : EvP T (tUn r ta) σ G χ := fun G1 H x p Q q =>
  ha G1 H x p _ fun v d G2 H2 s2 k f => hr d f v G2 H2 k s2.pre Q fun z d' G4 H4 s4 k4 c => q z d' G4 H4 (s2.trans s4) k4 c
/-- the operators on ints -/
theorem r_I0 {g : Int → Int → V} {i j k : Int} (h : g i j = .int k) : RD T (rI0 g) (.int i) (.int j) (· = .int k) := fun x y G H hx hy p Q q => by
  cases hx.intV; cases hy.intV
  exact ⟨i, j, rfl, rfl, by rw [h]; exact q _ _ G H (Stp.refl p) (.int k) rfl⟩
theorem r_I {C : Int → Int → Prop} {g : Int → Int → V} {i j k : Int} (hc : C i j) (h : g i j = .int k) : RD T (rI C g) (.int i) (.int j) (· = .int k) := fun x y G H hx hy p Q q => by
  cases hx.intV; cases hy.intV
  exact ⟨i, j, rfl, rfl, hc, by rw [h]; exact q _ _ G H (Stp.refl p) (.int k) rfl⟩
theorem r_I0b {g : Int → Int → V} {i j : Int} {k : Bool} (h : g i j = .bl k) : RD T (rI0 g) (.int i) (.int j) (· = .bool k) := fun x y G H hx hy p Q q => by
  cases hx.intV; cases hy.intV
  exact ⟨i, j, rfl, rfl, by rw [h]; exact q _ _ G H (Stp.refl p) (.bl k) rfl⟩
theorem r_eqI {i j : Int} : RD T rEq (.int i) (.int j) (· = .bool (decide (i = j))) := fun x y G H hx hy p Q q => by
  cases hx.intV; cases hy.intV
  refine ⟨rfl, ?_⟩
  rw [show decide (V.int i = V.int j) = decide (i = j) by by_cases e : i = j <;> simp [e]]
  exact q _ _ G H (Stp.refl p) (.bl _) rfl
theorem r_neI {i j : Int} : RD T rNe (.int i) (.int j) (· = .bool (!decide (i = j))) := fun x y G H hx hy p Q q => by
  cases hx.intV; cases hy.intV
  refine ⟨rfl, ?_⟩
  rw [show decide (V.int i = V.int j) = decide (i = j) by by_cases e : i = j <;> simp [e]]
  exact q _ _ G H (Stp.refl p) (.bl _) rfl
theorem r_eqB {i j : Bool} : RD T rEq (.bool i) (.bool j) (· = .bool (decide (i = j))) := fun x y G H hx hy p Q q => by
  cases hx.blV; cases hy.blV
  refine ⟨rfl, ?_⟩
  rw [show decide (V.bl i = V.bl j) = decide (i = j) by by_cases e : i = j <;> simp [e]]
  exact q _ _ G H (Stp.refl p) (.bl _) rfl
theorem r_neB {i j : Bool} : RD T rNe (.bool i) (.bool j) (· = .bool (!decide (i = j))) := fun x y G H hx hy p Q q => by
  cases hx.blV; cases hy.blV
  refine ⟨rfl, ?_⟩
  rw [show decide (V.bl i = V.bl j) = decide (i = j) by by_cases e : i = j <;> simp [e]]
  exact q _ _ G H (Stp.refl p) (.bl _) rfl
theorem r_isB {i j : Bool} : RD T rIsB (.bool i) (.bool j) (· = .bool (decide (i = j))) := fun x y G H hx hy p Q q => by
  cases hx.blV; cases hy.blV
  exact ⟨i, j, rfl, rfl, q _ _ G H (Stp.refl p) (.bl _) rfl⟩
theorem r_eqD {d e : PyData} {b : Bool} (h1 : SeqAt.shaped d = true) (h2 : SeqAt.shaped e = true) (hb : PyData.eqv d e = b) : RD T (rEqD K) d e (· = .bool b) := fun x y G H hx hy p Q q =>
  ⟨d, e, (hx.mono p.1).dp, (hy.mono p.1).dp, h1, h2, by rw [hb]; exact q _ _ G H (Stp.refl p) (.bl _) rfl⟩
theorem r_neD {d e : PyData} {b : Bool} (h1 : SeqAt.shaped d = true) (h2 : SeqAt.shaped e = true) (hb : PyData.eqv d e = b) : RD T (rNeD K) d e (· = .bool (!b)) := fun x y G H hx hy p Q q =>
  ⟨d, e, (hx.mono p.1).dp, (hy.mono p.1).dp, h1, h2, by rw [hb]; exact q _ _ G H (Stp.refl p) (.bl _) rfl⟩
theorem r_ixL {ds : List PyData} {i : Int} {j : Nat} {e : PyData} (hi : i = (j : Int)) (h : ds[j]? = some e) : RD T (rIxL K) (.list ds) (.int i) (· = e) := fun x y G H hx hy p Q q => by
  cases hy.intV
  obtain ⟨a, xs, rfl, ga, k⟩ := hx.lstV
  obtain ⟨v, hv, kv⟩ := k.get h
  exact ⟨a, xs, i, v, rfl, rfl, .inl (.inl (p.1 _ _ ga)), at_of hi hv, q v e G H (Stp.refl p) kv rfl⟩
theorem r_ixT {ds : List PyData} {i : Int} {j : Nat} {e : PyData} (hi : i = (j : Int)) (h : ds[j]? = some e) : RD T (rIxT K) (.tuple ds) (.int i) (· = e) := fun x y G H hx hy p Q q => by
  cases hy.intV
  obtain ⟨a, xs, rfl, ga, k⟩ := hx.tupV
  obtain ⟨v, hv, kv⟩ := k.get h
  exact ⟨a, xs, i, v, rfl, rfl, .inl (Evl.ex_rd p.1 ga), at_of hi hv, q v e G H (Stp.refl p) kv rfl⟩
/-- list + list, tuple + tuple -/
theorem r_catL {ds es : List PyData} (hz : ds.length + es.length ≤ 100000) : RD T rCat (.list ds) (.list es) (· = .list (ds ++ es)) := fun x y G H hx hy p Q q => by
  obtain ⟨a, xs, rfl, ga, k⟩ := hx.lstV
  obtain ⟨b, ys, rfl, gb, k2⟩ := hy.lstV
  refine ⟨a, b, xs, ys, rfl, rfl, p.1 _ _ ga, p.1 _ _ gb, Evl.sz_of (by rw [k.length, k2.length]; exact hz), fun l hl => ?_⟩
  have s := Stp.new p (.lst (xs ++ ys)) hl
  exact q _ _ _ _ s (.lst upd_same ((k.mono s.ex).app (k2.mono s.ex))) rfl
theorem r_catT {ds es : List PyData} (hz : ds.length + es.length ≤ 100000) : RD T (rCatA K) (.tuple ds) (.tuple es) (· = .tuple (ds ++ es)) := fun x y G H hx hy p Q q => by
  obtain ⟨a, xs, rfl, ga, k⟩ := hx.tupV
  obtain ⟨b, ys, rfl, gb, k2⟩ := hy.tupV
  refine ⟨a, b, xs, ys, rfl, rfl, .inl (Evl.ex_rd p.1 ga), .inl (Evl.ex_rd p.1 gb), Evl.sz_of (by rw [k.length, k2.length]; exact hz), fun e => ?_, fun _ e => ?_, fun _ _ l hl => ?_⟩
  · subst e
    have : ds = [] := List.eq_nil_of_length_eq_zero (by rw [← k.length]; rfl)
    subst this
    exact q _ _ G H (Stp.refl p) (.tup gb k2) rfl
  · subst e
    have : es = [] := List.eq_nil_of_length_eq_zero (by rw [← k2.length]; rfl)
    subst this
    rw [List.append_nil] at q
    exact q _ _ G H (Stp.refl p) (.tup ga k) rfl
  · have s := Stp.new p (.tup (xs ++ ys)) hl
    exact q _ _ _ _ s (.tup (.inl upd_same) ((k.mono s.ex).app (k2.mono s.ex))) rfl
/-- int in a tuple, a list of ints -/
theorem inV_ints {i : Int} : ∀ ns : List Int, inV (.int i) (ns.map V.int) = decide (i ∈ ns)
  | [] => by simp [inV]
  | n :: ns => by
    have ih := inV_ints (i := i) ns
    unfold inV at ih ⊢
    rw [List.map_cons, List.any_cons, ih, show eqV (V.int n) (V.int i) = decide (n = i) from rfl]
    by_cases e : n = i
    · simp [e]
    · have e2 : ¬ i = n := fun z => e z.symm
      simp [e, e2]
theorem flat_ints : ∀ ns : List Int, (ns.map V.int).all flatV = true
  | [] => rfl
  | n :: ns => by
    rw [List.map_cons, List.all_cons, flat_ints ns]; rfl
theorem r_in {neg : Bool} {i : Int} {ns : List Int} {e : PyData} (he : e = .list (ns.map .int) ∨ e = .tuple (ns.map .int)) : RD T (rIn K neg) (.int i) e (· = .bool (if neg then !decide (i ∈ ns) else decide (i ∈ ns))) := fun x y G H hx hy p Q q => by
  cases hx.intV
  rcases he with rfl | rfl
  · obtain ⟨b, ys, rfl, gb, k2⟩ := hy.lstV
    cases k2.intsV
    refine ⟨b, _, rfl, .inl (.inl (.inl (p.1 _ _ gb))), rfl, flat_ints ns, ?_⟩
    rw [inV_ints]
    cases neg <;> exact q _ _ G H (Stp.refl p) (.bl _) rfl
  · obtain ⟨b, ys, rfl, gb, k2⟩ := hy.tupV
    cases k2.intsV
    refine ⟨b, _, rfl, .inr (.inl (Evl.ex_rd p.1 gb)), rfl, flat_ints ns, ?_⟩
    rw [inV_ints]
    cases neg <;> exact q _ _ G H (Stp.refl p) (.bl _) rfl
/-! displays, arguments -/
theorem a_nil : EvA T tNil σ G (· = []) := fun G1 H x p Q q => q _ _ G1 H (Stp.refl p) .nil rfl
theorem a_cons {tr : TA} {ξ ζ : List PyData → Prop} (h : EvP T ta σ G φ) (hr : EvA T tr σ G ξ) (hz : ∀ d ds, φ d → ξ ds → ζ (d :: ds)) : EvA T (tCons ta tr) σ G ζ := fun G1 H x p Q q =>
  h G1 H x p _ fun v d G2 H2 s2 k f => hr G2 H2 (x.trans s2.ex) s2.pre _ fun vs ds G3 H3 s3 k3 g => q _ _ G3 H3 (s2.trans s3) (.cons (k.mono s3.ex) k3) (hz d ds f g)
theorem a_star {tr : TA} {ξ ζ : List PyData → Prop} (h : EvP T ta σ G φ) (hr : EvA T tr σ G ξ) (hz : ∀ d, φ d → ∃ es, (d = .tuple es ∨ d = .list es) ∧ ∀ ds, ξ ds → ζ (es ++ ds)) : EvA T (StX.tStar K ta tr) σ G ζ := fun G1 H x p Q q =>
  h G1 H x p _ fun v d G2 H2 s2 k f => by
    obtain ⟨es, he, z⟩ := hz d f
    rcases he with rfl | rfl
    · obtain ⟨a, xs, rfl, ga, kk⟩ := k.tupV
      exact ⟨_, _, rfl, .inl (.inl (Evl.ex_rd s2.pre.1 ga)), hr G2 H2 (x.trans s2.ex) s2.pre _ fun vs ds G3 H3 s3 k3 g => q _ _ G3 H3 (s2.trans s3) ((kk.mono s3.ex).app k3) (z ds g)⟩
    · obtain ⟨a, xs, rfl, ga, kk⟩ := k.lstV
      exact ⟨_, _, rfl, .inr (.inl (.inl (s2.pre.1 _ _ ga))), hr G2 H2 (x.trans s2.ex) s2.pre _ fun vs ds G3 H3 s3 k3 g => q _ _ G3 H3 (s2.trans s3) ((kk.mono s3.ex).app k3) (z ds g)⟩
theorem e_tup {ta : TA} {ξ : List PyData → Prop} (h : EvA T ta σ G ξ) (hz : ∀ ds, ξ ds → ds.length ≤ 100000 ∧ χ (.tuple ds)) : EvP T (tTup ta) σ G χ := fun G1 H x p Q q =>
  h G1 H x p _ fun vs ds G2 H2 s2 k f => ⟨Evl.sz_of (by rw [k.length]; exact (hz ds f).1), fun l hl => by
    have s := Stp.new s2.pre (.tup vs) hl
    exact q _ _ _ _ (s2.trans s) (.tup (.inl upd_same) (k.mono s.ex)) (hz ds f).2⟩
theorem e_lst {ta : TA} {ξ : List PyData → Prop} (h : EvA T ta σ G ξ) (hz : ∀ ds, ξ ds → ds.length ≤ 100000 ∧ χ (.list ds)) : EvP T (tLst ta) σ G χ := fun G1 H x p Q q =>
  h G1 H x p _ fun vs ds G2 H2 s2 k f => ⟨Evl.sz_of (by rw [k.length]; exact (hz ds f).1), fun l hl => by
    have s := Stp.new s2.pre (.lst vs) hl
    exact q _ _ _ _ (s2.trans s) (.lst upd_same (k.mono s.ex)) (hz ds f).2⟩
/-! tests -/
theorem b_test (h : EvP T te σ G φ) (hb : ∀ d, φ d → ∃ b, d = .bool b ∧ α b) : EvB T (tTest te) σ G α := fun G1 H x p Q q => h G1 H x p _ fun v d G2 H2 s2 k f => by
  obtain ⟨b, rfl, a⟩ := hb d f
  cases k.blV
  exact ⟨b, rfl, q b G2 H2 s2 a⟩
theorem b_B (h : EvP T te σ G φ) (hb : ∀ d, φ d → ∃ b, d = .bool b ∧ α b) : EvB T (tB te) σ G α := fun G1 H x p Q q => h G1 H x p _ fun v d G2 H2 s2 k f => by
  obtain ⟨b, rfl, a⟩ := hb d f
  cases k.blV
  exact ⟨b, rfl, q b G2 H2 s2 a⟩
theorem b_and {b c : Bool} (h1 : EvB T t σ G (· = b)) (h2 : b = true → EvB T u σ G (· = c)) : EvB T (tAnd t u) σ G (· = (b && c)) := fun G1 H x p Q q => h1 G1 H x p _ fun b' G2 H2 s2 e => by
  subst e
  cases b' with
  | true =>
    show u σ H2 Q
    exact h2 rfl G2 H2 (x.trans s2.ex) s2.pre Q fun b G3 H3 s3 e => q b G3 H3 (s2.trans s3) e
  | false =>
    show Q false H2
    exact q _ G2 H2 s2 rfl
theorem b_or {b c : Bool} (h1 : EvB T t σ G (· = b)) (h2 : b = false → EvB T u σ G (· = c)) : EvB T (tOr t u) σ G (· = (b || c)) := fun G1 H x p Q q => h1 G1 H x p _ fun b' G2 H2 s2 e => by
  subst e
  cases b' with
  | true =>
    show Q true H2
    exact q _ G2 H2 s2 rfl
  | false =>
    show u σ H2 Q
    exact h2 rfl G2 H2 (x.trans s2.ex) s2.pre Q fun b G3 H3 s3 e => q b G3 H3 (s2.trans s3) e
theorem b_not {b : Bool} (h1 : EvB T t σ G (· = b)) : EvB T (tNot t) σ G (· = !b) := fun G1 H x p Q q => h1 G1 H x p _ fun b' G2 H2 s2 e => q _ G2 H2 s2 (by rw [e])
theorem b_is {b c : Bool} (h : EvB T t σ G (· = b)) (e : b = c) : EvB T t σ G (· = c) := by rw [← e]; exact h
theorem e_is {d e : PyData} (h : EvP T te σ G (· = d)) (z : d = e) : EvP T te σ G (· = e) := by rw [← z]; exact h
theorem e_and {b c : Bool} (h1 : EvP T ta σ G (· = .bool b)) (h2 : b = true → EvP T tb σ G (· = .bool c)) : EvP T (tAndV ta tb) σ G (· = .bool (b && c)) := fun G1 H x p Q q => h1 G1 H x p _ fun v d G2 H2 s2 k e => by
  subst e
  cases k.blV
  refine ⟨b, rfl, ?_⟩
  cases b with
  | true =>
    show tb σ H2 Q
    exact h2 rfl G2 H2 (x.trans s2.ex) s2.pre Q fun v d G3 H3 s3 k e => q v d G3 H3 (s2.trans s3) k e
  | false =>
    show Q (.bl false) H2
    exact q _ _ G2 H2 s2 (.bl _) rfl
theorem e_or {b c : Bool} (h1 : EvP T ta σ G (· = .bool b)) (h2 : b = false → EvP T tb σ G (· = .bool c)) : EvP T (tOrV ta tb) σ G (· = .bool (b || c)) := fun G1 H x p Q q => h1 G1 H x p _ fun v d G2 H2 s2 k e => by
  subst e
  cases k.blV
  refine ⟨b, rfl, ?_⟩
  cases b with
  | true =>
    show Q (.bl true) H2
    exact q _ _ G2 H2 s2 (.bl _) rfl
  | false =>
    show tb σ H2 Q
    exact h2 rfl G2 H2 (x.trans s2.ex) s2.pre Q fun v d G3 H3 s3 k e => q v d G3 H3 (s2.trans s3) k e
theorem e_not {b : Bool} (h1 : EvP T ta σ G (· = .bool b)) : EvP T (tNotV ta) σ G (· = .bool (!b)) := fun G1 H x p Q q => h1 G1 H x p _ fun v d G2 H2 s2 k e => by
  subst e
  cases k.blV
  exact ⟨b, rfl, q _ _ G2 H2 s2 (.bl _) rfl⟩
theorem e_if (h : EvB T t σ G α) (h1 : α true → EvP T ta σ G φ) (h2 : α false → EvP T tb σ G φ) : EvP T (tIf t ta tb) σ G φ := fun G1 H x p Q q => h G1 H x p _ fun b G2 H2 s2 a => by
  cases b with
  | true =>
    show ta σ H2 Q
    exact h1 a G2 H2 (x.trans s2.ex) s2.pre Q fun v d G3 H3 s3 k e => q v d G3 H3 (s2.trans s3) k e
  | false =>
    show tb σ H2 Q
    exact h2 a G2 H2 (x.trans s2.ex) s2.pre Q fun v d G3 H3 s3 k e => q v d G3 H3 (s2.trans s3) k e
theorem e_isN {d : PyData} {b : Bool} (h : EvP T ta σ G (· = d)) (hb : (d = .none ∧ b = true) ∨ (∃ ds, d = .tuple ds ∧ b = false)) : EvP T (tIsN ta) σ G (· = .bool b) := fun G1 H x p Q q => h G1 H x p _ fun v d' G2 H2 s2 k e => by
  subst e
  rcases hb with ⟨rfl, rfl⟩ | ⟨ds, rfl, rfl⟩
  · cases k.nonV
    exact q _ _ G2 H2 s2 (.bl _) rfl
  · obtain ⟨a, xs, rfl, _, _⟩ := k.tupV
    exact q _ _ G2 H2 s2 (.bl _) rfl
/-! calls of built-ins -/
theorem e_cb {r : List V → Hp → VK → Prop} {ta : TA} {ξ : List PyData → Prop} (h : EvA T ta σ G ξ) (hr : ∀ ds, ξ ds → RCD T r ds χ) : EvP T (tCB r ta) σ G χ := fun G1 H x p Q q =>
  h G1 H x p _ fun vs ds G2 H2 s2 k f => hr ds f vs G2 H2 k s2.pre Q fun v d G3 H3 s3 k3 c => q v d G3 H3 (s2.trans s3) k3 c
end
end Dv

namespace Dv
open PySem PySem.Spec PyProof.Rows L2
open Evl (Ex)
section
variable {K : PySem.W.Frag} {T : Tw} {σ : L2.St} {G G' H H' : Hp} {ta tb te tx : TE} {t u : TT} {v : V} {d : PyData} {r : R2} {φ ψ χ : PyData → Prop} {α β : Bool → Prop}
/-! built-ins -/
theorem c_int {i : Int} : RCD T (fun xs H Q => (∃ i, xs = [.int i] ∧ Q (.int i) H) ∨ ∃ k, xs = [.bl k] ∧ Q (.int (if k then 1 else 0)) H) [.int i] (· = .int i) := fun xs G H hx p Q q => by
  obtain ⟨v, ws, rfl, h, k⟩ := hx.consV
  cases k.nilV; cases h.intV
  exact .inl ⟨i, rfl, q _ _ G H (Stp.refl p) (.int i) rfl⟩
theorem c_len {d : PyData} {ds : List PyData} (hd : d = .list ds ∨ d = .tuple ds) : RCD T (fun xs H Q => ∃ p ys, xs = [.ref p] ∧ (SqL K H p ys ∨ SqT K H p ys) ∧ Q (.int ys.length) H) [d] (· = .int ds.length) := fun xs G H hx p Q q => by
  obtain ⟨v, ws, rfl, h, k⟩ := hx.consV
  cases k.nilV
  rcases hd with rfl | rfl
  · obtain ⟨a, ys, rfl, ga, kk⟩ := h.lstV
    exact ⟨a, ys, rfl, .inl (.inl (.inl (p.1 _ _ ga))), by rw [kk.length]; exact q _ _ G H (Stp.refl p) (.int _) rfl⟩
  · obtain ⟨a, ys, rfl, ga, kk⟩ := h.tupV
    exact ⟨a, ys, rfl, .inr (.inl (Evl.ex_rd p.1 ga)), by rw [kk.length]; exact q _ _ G H (Stp.refl p) (.int _) rfl⟩
theorem c_list {d : PyData} {ds : List PyData} (hd : d = .list ds ∨ d = .tuple ds) : RCD T (fun xs H Q => ∃ p ys, xs = [.ref p] ∧ (SqL K H p ys ∨ SqT K H p ys) ∧ ∀ l, H l = none → Q (.ref l) (upd H l (.lst ys))) [d] (· = .list ds) := fun xs G H hx p Q q => by
  obtain ⟨v, ws, rfl, h, k⟩ := hx.consV
  cases k.nilV
  rcases hd with rfl | rfl
  · obtain ⟨a, ys, rfl, ga, kk⟩ := h.lstV
    exact ⟨a, ys, rfl, .inl (.inl (.inl (p.1 _ _ ga))), fun l hl => by
      have s := Stp.new p (.lst ys) hl
      exact q _ _ _ _ s (.lst upd_same (kk.mono s.ex)) rfl⟩
  · obtain ⟨a, ys, rfl, ga, kk⟩ := h.tupV
    exact ⟨a, ys, rfl, .inr (.inl (Evl.ex_rd p.1 ga)), fun l hl => by
      have s := Stp.new p (.lst ys) hl
      exact q _ _ _ _ s (.lst upd_same (kk.mono s.ex)) rfl⟩
theorem c_tupL {ds : List PyData} : RCD T (fun xs H Q => ∃ p ys, xs = [.ref p] ∧ ((SqL K H p ys ∧ ∀ l, H l = none → Q (.ref l) (upd H l (.tup ys))) ∨ (SqT K H p ys ∧ Q (.ref p) H))) [.list ds] (· = .tuple ds) := fun xs G H hx p Q q => by
  obtain ⟨v, ws, rfl, h, k⟩ := hx.consV
  cases k.nilV
  obtain ⟨a, ys, rfl, ga, kk⟩ := h.lstV
  exact ⟨a, ys, rfl, .inl ⟨.inl (.inl (p.1 _ _ ga)), fun l hl => by
      have s := Stp.new p (.tup ys) hl
      exact q _ _ _ _ s (.tup (.inl upd_same) (kk.mono s.ex)) rfl⟩⟩
theorem c_all {bs : List Bool} : RCD T (rAll K) [.list (bs.map .bool)] (· = .bool (bs.all id)) := fun xs G H hx p Q q => by
  obtain ⟨v, ws, rfl, h, k⟩ := hx.consV
  cases k.nilV
  obtain ⟨a, ys, rfl, ga, kk⟩ := h.lstV
  cases kk.blsV
  exact ⟨a, bs, rfl, .inl (.inl (p.1 _ _ ga)), q _ _ G H (Stp.refl p) (.bl _) rfl⟩
/-- ascending: one of the lists with the same ints -/
theorem c_sorted {ns : List Int} (hz : ns.length < 64) (hq : ∀ ms : List Int, ms.Perm ns → ms.Pairwise (· ≤ ·) → χ (.list (ms.map .int))) : RCD T (rSorted K) [.list (ns.map .int)] χ := fun xs G H hx p Q q => by
  obtain ⟨v, ws, rfl, h, k⟩ := hx.consV
  cases k.nilV
  obtain ⟨a, ys, rfl, ga, kk⟩ := h.lstV
  cases kk.intsV
  refine ⟨a, ns, rfl, .inl (.inl (p.1 _ _ ga)), hz, fun ms l h1 h2 hl => ?_⟩
  have s := Stp.new p (.lst (ms.map V.int)) hl
  exact q _ _ _ _ s (.lst upd_same (.ints ms)) (hq ms h1 h2)
/-- isinstance of an int, a tuple -/
def IsiOf : PyData → String → String → Prop
  | .int _, T, _ => T = "int"
  | .tuple _, T, _ => T = "tuple"
  | .list _, T, _ => T = "list"
  | _, _, _ => False
theorem e_isi {tc : TE} {c A : String} {b : Bool} {d : PyData} {tn : TA} (h : EvP T te σ G (· = d)) (hn : tn = tNil) (hc : ∀ σ H Q, Q (.ty c) H → tc σ H Q) (ho : IsiOf d A c) (hk : kitB A c = some b) : EvP T (tCB (rIsi K) (tCons te (tCons tc tn))) σ G (· = .bool b) := fun G1 H x p Q q => h G1 H x p _ fun v d' G2 H2 s2 k e => by
  subst e; subst hn
  refine hc σ H2 _ ?_
  refine ⟨v, .ty c, .type A, .type c, b, rfl, .ty c, ?_, kit_ty hk, q _ _ G2 H2 s2 (.bl b) rfl⟩
  cases k with
  | int i => cases (show A = "int" from ho); exact .base (.int i)
  | lst hh kk => cases (show A = "list" from ho); exact .base (.lst (s2.pre.1 _ _ hh))
  | tup hh kk =>
    cases (show A = "tuple" from ho)
    rcases Evl.ex_rd s2.pre.1 hh with z | ⟨o, z⟩
    · exact .base (.tup z)
    · exact .fTuple z
  | non => exact ho.elim
  | bl b => exact ho.elim
theorem e_ty {c : String} : ∀ (σ : L2.St) (H : Hp) (Q : VK), Q (.ty c) H → tC (.ty c) σ H Q := fun _ _ _ q => q
/-- a slice -/
def EvO (T : Tw) (to : TO) (σ : L2.St) (G : Hp) (φ : Option Int → Prop) : Prop := ∀ G1 H, Ex G G1 → Pre T G1 H → ∀ Q : Option Int → Hp → Prop, (∀ b G2 H2, Stp T G1 H G2 H2 → φ b → Q b H2) → to σ H Q
theorem o_none : EvO T tNoPart σ G (· = none) := fun G1 H x p Q q => q _ G1 H (Stp.refl p) rfl
theorem o_some {ξ : Option Int → Prop} (h : EvP T te σ G φ) (e : ∀ d, φ d → ∃ i : Int, d = .int i ∧ ξ (some i)) : EvO T (tPart te) σ G ξ := fun G1 H x p Q q => h G1 H x p _ fun v d G2 H2 s2 k f => by
  obtain ⟨i, rfl, z⟩ := e d f
  cases k.intV
  exact ⟨i, rfl, q _ G2 H2 s2 z⟩
theorem daa_drop : ∀ {vs : List V} {ds : List PyData} (n : Nat), DaA G vs ds → DaA G (vs.drop n) (ds.drop n)
  | _, _, 0, h => h
  | _, _, _ + 1, .nil => .nil
  | _, _, n + 1, .cons _ k => daa_drop n k
theorem daa_take : ∀ {vs : List V} {ds : List PyData} (n : Nat), DaA G vs ds → DaA G (vs.take n) (ds.take n)
  | _, _, 0, h => by simp; exact .nil
  | _, _, _ + 1, .nil => .nil
  | _, _, n + 1, .cons h k => .cons h (daa_take n k)
theorem e_slHead {th : TO} {tl : TO} {ds : List PyData} {n : Nat → Prop} (h : EvP T te σ G φ) (h1 : EvO T tl σ G (· = none)) (h2 : EvO T th σ G (fun o => ∃ m : Nat, o = some (m : Int) ∧ n m)) (hq : ∀ d, φ d → ∃ ds, d = .list ds ∧ ∀ m, n m → χ (.list (ds.take m))) : EvP T (tSl (rSlL K) te tl th) σ G χ := fun G1 H x p Q q =>
  h G1 H x p _ fun v d G2 H2 s2 k f => h1 G2 H2 (x.trans s2.ex) s2.pre _ fun o G3 H3 s3 e => h2 G3 H3 ((x.trans s2.ex).trans s3.ex) s3.pre _ fun o' G4 H4 s4 e' => by
    obtain ⟨ds, rfl, z⟩ := hq d f
    obtain ⟨m, rfl, hm⟩ := e'
    subst e
    obtain ⟨a, xs, rfl, ga, kk⟩ := k.lstV
    refine ⟨a, xs, rfl, .inl (.inl (s4.pre.1 _ _ (s4.ex _ _ (s3.ex _ _ ga)))), fun l hl => ?_⟩
    have ec : cutV xs none (some (m : Int)) = xs.take m := by
      unfold cutV
      rw [HT.sIx_none, HT.sIx_nat, List.drop_zero, Nat.sub_zero]
      by_cases e : m ≤ xs.length
      · rw [Nat.min_eq_left e]
      · rw [Nat.min_eq_right (by omega), List.take_of_length_le (Nat.le_refl _), List.take_of_length_le (by omega)]
    rw [ec]
    have s := Stp.new s4.pre (.lst (xs.take m)) hl
    exact q _ _ _ _ (((s2.trans s3).trans s4).trans s) (.lst upd_same (daa_take m (((kk.mono s3.ex).mono s4.ex).mono s.ex))) (z m hm)

/-! ### comprehensions -/
/-- what the new list at l holds so far -/
def Ap (l : Addr) (es : List PyData) (G H : Hp) : Prop := G l = none ∧ ∃ xs, H l = some (.lst xs) ∧ DaA G xs es
theorem Ap.stp {G0 H0 G1 H1 : Hp} {l : Addr} {es : List PyData} (a : Ap l es G H) (p0 : Pre T G0 H0) (hl : H0 l = none) (s : Stp T G H G1 H1) : Ap l es G1 H1 := by
  obtain ⟨gl, xs, e, k⟩ := a
  obtain ⟨g1, e1⟩ := s.apart gl e (p0.freshS hl)
  exact ⟨g1, xs, e1, k.mono s.ex⟩
theorem Stp.free {G0 H0 : Hp} (s : Stp T G0 H0 G H) (p0 : Pre T G0 H0) {l : Addr} (hl : H l = none) : H0 l = none := by
  cases q : H0 l with
  | none => rfl
  | some u =>
    by_cases n : ∃ C, T = some (l, C)
    · obtain ⟨C, e⟩ := n
      obtain ⟨_, _, _, _, z, _⟩ := (s.pre.2 l C e).2
      rw [hl] at z
      cases z
    · have := s.fm l u (fun C e => n ⟨C, e⟩) q
      rw [hl] at this
      cases this
theorem lc_run {J : It} {n : Nat} {Gd : Hp → Prop} {Y : Nat → Hp → V → Hp → Prop} (w : Walk J n Gd Y) {G2 H2 : Hp} (p2 : Pre T G2 H2) (hGd : ∀ G3 H, Ex G2 G3 → Ex G3 H → Gd H) {item : Nat → V → Prop} (hY : ∀ i H x H', i < n → Gd H → Y i H x H' → H' = H ∧ item i x)
    {j : Nat} {vs : List Nat} (I : Nat → List PyData → Prop) {α : Nat → Bool → Prop} {φ : Nat → PyData → Prop} (h0 : I 0 []) (hI : ∀ i es, I i es → es.length ≤ 50000) (hw : ∀ x, wipe ((wipe σ vs).set j (some x)) vs = wipe σ vs)
    (ht : ∀ i x G1, i < n → Ex G2 G1 → item i x → EvB T t ((wipe σ vs).set j (some x)) G1 (α i)) (he : ∀ i x G1, i < n → Ex G2 G1 → item i x → α i true → EvP T te ((wipe σ vs).set j (some x)) G1 (φ i))
    (hy : ∀ i es e, i < n → I i es → α i true → φ i e → I (i + 1) (es ++ [e])) (hn : ∀ i es, i < n → I i es → α i false → I (i + 1) es) {Q : VK} (hd : ∀ v es G3 H3, Stp T G2 H2 G3 H3 → Da G3 v (.list es) → I n es → Q v H3) :
    tLc (fun _ H R => R J H) (gName j) t te vs σ H2 Q := fun D hD => by
  have gD : G2 D = none := Evl.fresh_back p2.1 hD
  refine lc_it w (fun i H => ∃ G' es', Ex G2 G' ∧ Stp T G2 H2 G' H ∧ Ap D es' G' H ∧ I i es') ⟨G2, [], Ex.refl _, (Stp.refl p2).mut p2 _ hD gD, ⟨gD, [], upd_same, .nil⟩, h0⟩ (fun i H _ ⟨G', es, e, s, _, _⟩ => hGd G' H e s.pre.1) (fun i x H H' hi ⟨G', es, e, s, a, i0⟩ y => ?_) (fun H ⟨G', es, e, s, ⟨g, xs, ex, k⟩, i0⟩ => ?_)
  · obtain ⟨rfl, it⟩ := hY i H x H' hi (hGd G' H e s.pre.1) y
    refine ⟨hw x, ?_⟩
    refine ht i x G' hi e it G' H' (Ex.refl _) s.pre _ fun b G3 H3 s3 ab => ?_
    have a3 := a.stp p2 hD s3
    cases b with
    | false => exact ⟨G3, es, e.trans s3.ex, s.trans s3, a3, hn i es hi i0 ab⟩
    | true =>
      refine he i x G' hi e it ab G3 H3 s3.ex s3.pre _ fun y e' G4 H4 s4 k f => ?_
      obtain ⟨g4, xs, e4, kk⟩ := a3.stp p2 hD s4
      exact ⟨xs, e4, Evl.sz_lt (by rw [kk.length]; have := hI i es i0; omega), G4, es ++ [e'], (e.trans s3.ex).trans s4.ex, ((s.trans s3).trans s4).mut p2 _ hD g4, ⟨g4, _, upd_same, kk.snoc k⟩, hy i es e' hi i0 ab f⟩
  · exact hd _ es _ H (s.tell p2 hD g ex) (.lst upd_same (k.mono (Ex.new g))) i0
end
end Dv

namespace Dv
open PySem PySem.Spec PyProof.Rows L2
open Evl (Ex)
section
variable {K : PySem.W.Frag} {T : Tw} {σ : L2.St} {G G' H H' : Hp} {ta tb te tx tl : TE} {t u : TT} {v : V} {d : PyData} {r : R2} {χ ψ : PyData → Prop} {j : Nat} {vs : List Nat}
/-- over a list, a tuple -/
def IsSq : Bool → List PyData → PyData
  | true, ds => .list ds
  | false, ds => .tuple ds
def iSq (K : PySem.W.Frag) : Bool → TE → TI
  | true, tl => iList K tl
  | false, tl => iTup K tl
theorem sq_walk {b : Bool} {ds : List PyData} {G2 H2 : Hp} {x : V} (k : Da G2 x (IsSq b ds)) : ∃ (a : Addr) (xs : List V), x = .ref a ∧ DaA G2 xs ds ∧ (∀ R : It → Hp → Prop, (R (if b then Itl K a else Itt K a) H2) → Ex G2 H2 → (if b then (∃ xs, SqL K H2 a xs) ∧ R (Itl K a) H2 else (∃ xs, SqT K H2 a xs) ∧ R (Itt K a) H2)) ∧
    ∃ Gd : Hp → Prop, (∀ G3 H, Ex G2 G3 → Ex G3 H → Gd H) ∧ Walk (if b then Itl K a else Itt K a) xs.length Gd (YAt xs) := by
  cases b with
  | true =>
    obtain ⟨a, xs, rfl, ga, kk⟩ := Da.lstV (show Da G2 x (.list ds) from k)
    exact ⟨a, xs, rfl, kk, fun R hr e => ⟨⟨xs, .inl (.inl (e _ _ ga))⟩, hr⟩, fun H => SqL K H a xs, fun G3 H e1 e2 => .inl (.inl (e2 _ _ (e1 _ _ ga))), walk_list⟩
  | false =>
    obtain ⟨a, xs, rfl, ga, kk⟩ := Da.tupV (show Da G2 x (.tuple ds) from k)
    exact ⟨a, xs, rfl, kk, fun R hr e => ⟨⟨xs, .inl (Evl.ex_rd e ga)⟩, hr⟩, fun H => SqT K H a xs, fun G3 H e1 e2 => .inl (Evl.ex_rd e2 (Evl.ex_rd e1 ga)), walk_tup⟩
theorem iSq_runX {b : Bool} {R : It → Hp → Prop} {φ : PyData → Prop} {ξ : List PyData → Prop} (h : EvP T tl σ G φ) (hφ : ∀ d, φ d → ∃ ds, d = IsSq b ds ∧ ξ ds) {G1 H1 : Hp} (x : Ex G G1) (p : Pre T G1 H1)
    (k : ∀ (J : It) (ds : List PyData) (xs : List V) (Gd : Hp → Prop) G2 H2, ξ ds → Stp T G1 H1 G2 H2 → DaA G2 xs ds → (∀ G3 H, Ex G2 G3 → Ex G3 H → Gd H) → Walk J xs.length Gd (YAt xs) → R J H2) : iSq K b tl σ H1 R := by
  cases b with
  | true =>
    refine h G1 H1 x p _ fun v d G2 H2 s2 kd e => ?_
    obtain ⟨ds, rfl, z⟩ := hφ d e
    obtain ⟨a, xs, rfl, kk, f, Gd, g, w⟩ := sq_walk (K := K) (H2 := H2) kd
    exact ⟨a, rfl, f R (k _ ds xs Gd G2 H2 z s2 kk g w) s2.pre.1⟩
  | false =>
    refine h G1 H1 x p _ fun v d G2 H2 s2 kd e => ?_
    obtain ⟨ds, rfl, z⟩ := hφ d e
    obtain ⟨a, xs, rfl, kk, f, Gd, g, w⟩ := sq_walk (K := K) (H2 := H2) kd
    exact ⟨a, rfl, f R (k _ ds xs Gd G2 H2 z s2 kk g w) s2.pre.1⟩
theorem iSq_run {b : Bool} {R : It → Hp → Prop} {ds : List PyData} (h : EvP T tl σ G (· = IsSq b ds)) {G1 H1 : Hp} (x : Ex G G1) (p : Pre T G1 H1)
    (k : ∀ (J : It) (xs : List V) (Gd : Hp → Prop) G2 H2, Stp T G1 H1 G2 H2 → DaA G2 xs ds → (∀ G3 H, Ex G2 G3 → Ex G3 H → Gd H) → Walk J xs.length Gd (YAt xs) → R J H2) : iSq K b tl σ H1 R :=
  iSq_runX (ξ := (· = ds)) h (fun d e => ⟨ds, e, rfl⟩) x p fun J ds' xs Gd G2 H2 e => by
    subst e
    exact k J xs Gd G2 H2
theorem e_lc {b : Bool} {ds : List PyData} (I : Nat → List PyData → Prop) {α : Nat → Bool → Prop} {φ : Nat → PyData → Prop} (h : EvP T tl σ G (· = IsSq b ds)) (h0 : I 0 []) (hI : ∀ i es, I i es → es.length ≤ 50000) (hw : ∀ x, wipe ((wipe σ vs).set j (some x)) vs = wipe σ vs)
    (ht : ∀ i d x G1, Ex G G1 → ds[i]? = some d → Da G1 x d → EvB T t ((wipe σ vs).set j (some x)) G1 (α i)) (he : ∀ i d x G1, Ex G G1 → ds[i]? = some d → Da G1 x d → α i true → EvP T te ((wipe σ vs).set j (some x)) G1 (φ i))
    (hy : ∀ i es e, i < ds.length → I i es → α i true → φ i e → I (i + 1) (es ++ [e])) (hn : ∀ i es, i < ds.length → I i es → α i false → I (i + 1) es) (hd : ∀ es, I ds.length es → χ (.list es)) :
    EvP T (tLc (iSq K b tl) (gName j) t te vs) σ G χ := fun G1 H1 x p Q q => by
  refine iSq_run h x p fun J xs Gd G2 H2 s2 kk g w D hD => ?_
  have el := kk.length
  refine lc_run (t := t) (te := te) (vs := vs) w s2.pre g (item := fun i x => xs[i]? = some x) (fun i H x H' _ _ y => y) I (α := α) (φ := φ) h0 hI hw (fun i x' G3 hi e it => ?_) (fun i x' G3 hi e it ab => ?_) (fun i es e hi => hy i es e (by omega)) (fun i es hi => hn i es (by omega)) (fun v es G3 H3 s3 k3 i3 => q v _ G3 H3 (s2.trans s3) k3 (hd es (by rw [← el]; exact i3))) D hD
  · obtain ⟨d, hd', kd⟩ := kk.getV it
    exact ht i d x' G3 ((x.trans s2.ex).trans e) hd' (kd.mono e)
  · obtain ⟨d, hd', kd⟩ := kk.getV it
    exact he i d x' G3 ((x.trans s2.ex).trans e) hd' (kd.mono e) ab
/-- over range(n) -/
theorem e_lcR {φn : Int → Prop} {ta : TA} (I : Nat → List PyData → Prop) {α : Nat → Bool → Prop} {φ : Nat → PyData → Prop} (h : EvA T ta σ G (fun ds => ∃ n : Int, ds = [.int n] ∧ φn n)) (hn0 : ∀ n, φn n → 0 ≤ n ∧ n ≤ 40000) (h0 : I 0 []) (hI : ∀ i es, I i es → es.length ≤ 50000) (hw : ∀ x, wipe ((wipe σ vs).set j (some x)) vs = wipe σ vs)
    (ht : ∀ (n : Int) (i : Nat) G1, φn n → (i : Int) < n → Ex G G1 → EvB T t ((wipe σ vs).set j (some (.int (i : Int)))) G1 (α i)) (he : ∀ (n : Int) (i : Nat) G1, φn n → (i : Int) < n → Ex G G1 → α i true → EvP T te ((wipe σ vs).set j (some (.int (i : Int)))) G1 (φ i))
    (hy : ∀ (n : Int) (i : Nat) es e, φn n → (i : Int) < n → I i es → α i true → φ i e → I (i + 1) (es ++ [e])) (hn : ∀ (n : Int) (i : Nat) es, φn n → (i : Int) < n → I i es → α i false → I (i + 1) es) (hd : ∀ (n : Int) es, φn n → I n.toNat es → χ (.list es)) :
    EvP T (tLc (iRng1 ta) (gName j) t te vs) σ G χ := fun G1 H1 x p Q q => by
  refine h G1 H1 x p _ fun ws ds G2 H2 s2 kk f => ?_
  obtain ⟨n, rfl, fn⟩ := f
  obtain ⟨v, ws', rfl, kv, k0⟩ := kk.consV
  cases k0.nilV
  cases kv.intV
  obtain ⟨n0, n1⟩ := hn0 n fn
  refine ⟨n, rfl, by omega, by omega, fun D hD => ?_⟩
  refine lc_run (t := t) (te := te) (walk_range (lo := 0) (n := n.toNat)) s2.pre (fun _ _ _ _ => True.intro) (item := fun i x => x = .int ((0 : Int) + (i : Int))) (fun i H x H' _ _ y => y) I (α := α) (φ := φ) h0 hI hw (fun i x' G3 hi e it => ?_) (fun i x' G3 hi e it ab => ?_) (fun i es e hi => hy n i es e fn (by omega)) (fun i es hi => hn n i es fn (by omega)) (fun v es G3 H3 s3 k3 i3 => q v _ G3 H3 (s2.trans s3) k3 (hd n es fn i3)) D hD
  · subst it
    rw [Int.zero_add]
    exact ht n i G3 fn (by omega) ((x.trans s2.ex).trans e)
  · subst it
    rw [Int.zero_add]
    exact he n i G3 fn (by omega) ((x.trans s2.ex).trans e) ab
/-- two clauses -/
theorem e_lc2 {b b1 : Bool} {ds : List PyData} {f : Nat → List PyData} {tl1 : TE} {j1 : Nat} {vs1 : List Nat} (I : Nat → Nat → List PyData → Prop) {φ : Nat → Nat → PyData → Prop} (h : EvP T tl σ G (· = IsSq b ds)) (h0 : I 0 0 []) (hI : ∀ i k es, I i k es → es.length ≤ 50000)
    (hw : ∀ x, wipe ((wipe σ vs).set j (some x)) vs = wipe σ vs)
    (hw1 : ∀ x y, wipe ((wipe ((wipe σ vs).set j (some x)) vs1).set j1 (some y)) vs1 = wipe ((wipe σ vs).set j (some x)) vs1)
    (hs : ∀ i d x G1, Ex G G1 → ds[i]? = some d → Da G1 x d → EvP T tl1 ((wipe σ vs).set j (some x)) G1 (· = IsSq b1 (f i)))
    (he : ∀ i k d e x y G1, Ex G G1 → ds[i]? = some d → Da G1 x d → (f i)[k]? = some e → Da G1 y e → EvP T te ((wipe ((wipe σ vs).set j (some x)) vs1).set j1 (some y)) G1 (φ i k))
    (hy : ∀ i k es e, i < ds.length → k < (f i).length → I i k es → φ i k e → I i (k + 1) (es ++ [e])) (hn : ∀ i es, i < ds.length → I i (f i).length es → I (i + 1) 0 es) (hd : ∀ es, I ds.length 0 es → χ (.list es)) :
    EvP T (tLc2 (iSq K b tl) (gName j) tYes (iSq K b1 tl1) (gName j1) tYes te vs vs1) σ G χ := fun G1 H1 x p Q q => by
  refine iSq_run h x p fun J xs Gd G2 H2 s2 kk g w D hD => ?_
  have el := kk.length
  have p2 := s2.pre
  have gD : G2 D = none := Evl.fresh_back p2.1 hD
  refine ⟨fun i m H => m = xs.length - i ∧ i ≤ xs.length ∧ ∃ G' es', Ex G2 G' ∧ Stp T G2 H2 G' H ∧ Ap D es' G' H ∧ I i 0 es', ⟨xs.length, by simp, Nat.zero_le _, G2, [], Ex.refl _, (Stp.refl p2).mut p2 _ hD gD, ⟨gD, [], upd_same, .nil⟩, h0⟩, ?_⟩
  rintro i m H ⟨rfl, hi, G3, es, e3, s3, a3, i3⟩
  have gdH := g G3 H e3 s3.pre.1
  by_cases hlt : i < xs.length
  · refine .inr ⟨w.goes i H hlt gdH, fun H' => ∃ G' es', Ex G2 G' ∧ Stp T G2 H2 G' H' ∧ Ap D es' G' H' ∧ I (i + 1) 0 es', fun H' p' => ⟨xs.length - (i + 1), by omega, rfl, hlt, p'⟩, fun xv H' y => ?_⟩
    obtain ⟨rfl, hx⟩ := w.yields i H xv H' hlt gdH y
    obtain ⟨d, hd', kd⟩ := kk.getV hx
    refine ⟨hw xv, ?_⟩
    show iSq K b1 tl1 ((wipe σ vs).set j (some xv)) H' _
    refine iSq_run (hs i d xv G3 ((x.trans s2.ex).trans e3) hd' (kd.mono e3)) (Ex.refl _) s3.pre fun J1 ys Gd1 G4 H4 s4 kk1 g1 w1 => ?_
    have el1 := kk1.length
    have e24 := e3.trans s4.ex
    refine ⟨fun k m Hk => m = ys.length - k ∧ k ≤ ys.length ∧ ∃ G' es', Ex G4 G' ∧ Stp T G2 H2 G' Hk ∧ Ap D es' G' Hk ∧ I i k es', ⟨ys.length, rfl, Nat.zero_le _, G4, es, Ex.refl _, s3.trans s4, a3.stp p2 hD s4, i3⟩, ?_⟩
    rintro k m H6 ⟨rfl, hkl, G5, es5, e5, s5, a5, i5⟩
    have gd6 := g1 G5 H6 e5 s5.pre.1
    by_cases hk : k < ys.length
    · refine .inr ⟨w1.goes k H6 hk gd6, fun Hn => ∃ G' es', Ex G4 G' ∧ Stp T G2 H2 G' Hn ∧ Ap D es' G' Hn ∧ I i (k + 1) es', fun Hn hn' => ⟨ys.length - (k + 1), by omega, rfl, hk, hn'⟩, fun y Hn yy => ?_⟩
      obtain ⟨rfl, hyk⟩ := w1.yields k H6 y Hn hk gd6 yy
      obtain ⟨e, he', ke⟩ := kk1.getV hyk
      refine ⟨hw1 xv y, ?_⟩
      show te ((wipe ((wipe σ vs).set j (some xv)) vs1).set j1 (some y)) Hn _
      refine he i k d e xv y G5 ((x.trans s2.ex).trans (e24.trans e5)) hd' (kd.mono (e24.trans e5)) he' (ke.mono e5) G5 Hn (Ex.refl _) s5.pre _ fun z e' G7 H7 s7 k7 f7 => ?_
      obtain ⟨g7, zs, e7, kz⟩ := a5.stp p2 hD s7
      refine ⟨zs, e7, Evl.sz_lt (by rw [kz.length]; have := hI i k es5 i5; omega), G7, es5 ++ [e'], e5.trans s7.ex, (s5.trans s7).mut p2 _ hD g7, ⟨g7, _, upd_same, kz.snoc k7⟩, hy i k es5 e' (by omega) (by omega) i5 f7⟩
    · obtain rfl : k = ys.length := by omega
      exact .inl ⟨w1.stops H6 gd6, G5, es5, e24.trans e5, s5, a5, hn i es5 (by omega) (by rw [← el1]; exact i5)⟩
  · obtain rfl : i = xs.length := by omega
    refine .inl ⟨w.stops H gdH, ?_⟩
    obtain ⟨g3, zs, e7, kz⟩ := a3
    exact q _ _ _ H (s2.trans (s3.tell p2 hD g3 e7)) (.lst upd_same (kz.mono (Ex.new g3))) (hd es (by rw [← el]; exact i3))

/-! ### defs -/
def spF (R : List PyData → PyData → Prop) : Sp := fun vs H Q _ => ∃ G ds d, Pre none G H ∧ DaA G vs ds ∧ R ds d ∧ ∀ v G' H', Stp none G H G' H' → Da G' v d → Q v H'
theorem e_call {R : List PyData → PyData → Prop} {ta : TA} {ξ : List PyData → Prop} {E : XK} (h : EvA T ta σ G ξ) (hs : ∀ ds, ξ ds → ∃ d, R ds d ∧ χ d) : EvP T (tCall (spF R) [] E ta) σ G χ := fun G1 H1 x p Q q =>
  h G1 H1 x p _ fun ws ds G2 H2 s2 kk f => by
    obtain ⟨d, hr, c⟩ := hs ds f
    exact ⟨G2, ds, d, s2.pre.none, by rw [List.append_nil]; exact kk, hr, fun v G3 H3 s3 k3 => q v d G3 H3 (s2.trans (s3.any s2.pre)) k3 c⟩
/-- .. whose first argument is the drawn source -/
def spG (R : List PyData → (PyData → Prop) → Prop) : Sp := fun vs H Q _ => ∃ S C ws G ds φ, vs = .ref S :: ws ∧ Pre (some (S, C)) G H ∧ DaA G ws ds ∧ R ds φ ∧ ∀ v d G' H', Stp (some (S, C)) G H G' H' → Da G' v d → φ d → Q v H'
theorem e_callG {R : List PyData → (PyData → Prop) → Prop} {S C : Addr} {ta : TA} {ξ : List PyData → Prop} {E : XK} {i : Nat} (hi : σ[i]? = some (some (.ref S))) (h : EvA (some (S, C)) ta σ G ξ) (hs : ∀ ds, ξ ds → ∃ φ, R ds φ ∧ ∀ d, φ d → χ d) :
    EvP (some (S, C)) (tCall (spG R) [] E (tCons (tVar i) ta)) σ G χ := fun G1 H1 x p Q q => ⟨_, hi, h G1 H1 x p _ fun ws ds G2 H2 s2 kk f => by
    obtain ⟨φ, hr, c⟩ := hs ds f
    exact ⟨S, C, ws, G2, ds, φ, by rw [List.append_nil], s2.pre, kk, hr, fun v d G3 H3 s3 k3 f3 => q v d G3 H3 (s2.trans s3) k3 (c d f3)⟩⟩

/-! ### statements -/
variable {D : Ends} {tu tw tz : TS} {φ : PyData → Prop} {α : Bool → Prop} {G0 H0 : Hp}
theorem q_asg {i : Nat} (p : Pre T G H) (h : EvP T te σ G φ) (k : ∀ v d G1 H1, Stp T G H G1 H1 → Da G1 v d → φ d → tz D (σ.set i (some v)) H1) : tSeq (tAsg te (gName i)) tz D σ H :=
  h G H (Ex.refl _) p _ fun v d G1 H1 s kd f => k v d G1 H1 s kd f
theorem s_asg {i : Nat} (p : Pre T G H) (h : EvP T te σ G φ) (k : ∀ v d G1 H1, Stp T G H G1 H1 → Da G1 v d → φ d → D.nx (σ.set i (some v)) H1) : tAsg te (gName i) D σ H :=
  h G H (Ex.refl _) p _ fun v d G1 H1 s kd f => k v d G1 H1 s kd f
theorem s_ret (p : Pre T G H) (h : EvP T te σ G φ) (k : ∀ v d G1 H1, Stp T G H G1 H1 → Da G1 v d → φ d → D.rt v H1) : tRet te D σ H :=
  h G H (Ex.refl _) p _ fun v d G1 H1 s kd f => k v d G1 H1 s kd f
theorem q_when (p : Pre T G H) (h : EvB T t σ G α) (h1 : α true → ∀ G1 H1, Stp T G H G1 H1 → tu { D with nx := tz D } σ H1) (h2 : α false → ∀ G1 H1, Stp T G H G1 H1 → tz D σ H1) : tSeq (tIfS t tu tNext) tz D σ H :=
  h G H (Ex.refl _) p _ fun b G1 H1 s f => by
    cases b with
    | true => exact h1 f G1 H1 s
    | false => exact h2 f G1 H1 s
theorem s_when (p : Pre T G H) (h : EvB T t σ G α) (h1 : α true → ∀ G1 H1, Stp T G H G1 H1 → tu D σ H1) (h2 : α false → ∀ G1 H1, Stp T G H G1 H1 → D.nx σ H1) : tIfS t tu tNext D σ H :=
  h G H (Ex.refl _) p _ fun b G1 H1 s f => by
    cases b with
    | true => exact h1 f G1 H1 s
    | false => exact h2 f G1 H1 s
/-- xs = [], kept apart -/
theorem q_new {i : Nat} (p0 : Pre T G0 H0) (s : Stp T G0 H0 G H) (k : ∀ l H1, H0 l = none → Stp T G0 H0 G H1 → (∀ a o, H a = some o → H1 a = some o) → H l = none → Ap l [] G H1 → tz D (σ.set i (some (.ref l))) H1) : tSeq (tAsg (tLst tNil) (gName i)) tz D σ H :=
  ⟨Evl.sz_of (by decide), fun l hl => by
    have h0 := s.free p0 hl
    have g := Evl.fresh_back s.pre.1 hl
    exact k l _ h0 (s.mut p0 _ h0 g) (fun a o e => by rw [upd_ne (ne_of_none e hl)]; exact e) hl ⟨g, [], upd_same, .nil⟩⟩
/-- l.append(e) -/
theorem s_app {i : Nat} {l : Addr} {es : List PyData} (p0 : Pre T G0 H0) (s : Stp T G0 H0 G H) (hi : σ[i]? = some (some (.ref l))) (hl : H0 l = none) (a : Ap l es G H) (hz : es.length ≤ 50000) (h : EvP T te σ G φ)
    (k : ∀ d G1 H1, Ex G G1 → Stp T G0 H0 G1 H1 → Ap l (es ++ [d]) G1 H1 → φ d → D.nx σ H1) : tDrop (tBM K "list" rAppend (tVar i) (tCons te tNil)) D σ H := by
  obtain ⟨g, xs, e, kk⟩ := id a
  refine ⟨_, hi, .inl ⟨rfl, xs, .inl (.inl e)⟩, h G H (Ex.refl _) s.pre _ fun v d G1 H1 s1 kd f => ?_⟩
  obtain ⟨g1, ys, e1, k1⟩ := a.stp p0 hl s1
  exact ⟨l, ys, v, rfl, rfl, e1, Evl.sz_lt (by rw [k1.length]; omega), k d G1 _ s1.ex ((s.trans s1).mut p0 _ hl g1) ⟨g1, _, upd_same, k1.snoc kd⟩ f⟩
theorem q_app {i : Nat} {l : Addr} {es : List PyData} (p0 : Pre T G0 H0) (s : Stp T G0 H0 G H) (hi : σ[i]? = some (some (.ref l))) (hl : H0 l = none) (a : Ap l es G H) (hz : es.length ≤ 50000) (h : EvP T te σ G φ)
    (k : ∀ d G1 H1, Ex G G1 → Stp T G0 H0 G1 H1 → Ap l (es ++ [d]) G1 H1 → φ d → tz D σ H1) : tSeq (tDrop (tBM K "list" rAppend (tVar i) (tCons te tNil))) tz D σ H :=
  s_app (D := { D with nx := tz D }) p0 s hi hl a hz h k
/-- l.extend(e), e a new list -/
theorem s_ext {i : Nat} {l : Addr} {es fs : List PyData} (p0 : Pre T G0 H0) (s : Stp T G0 H0 G H) (hi : σ[i]? = some (some (.ref l))) (hl : H0 l = none) (a : Ap l es G H) (hz : es.length + fs.length ≤ 50000) (h : EvP T te σ G (· = .list fs))
    (k : ∀ G1 H1, Ex G G1 → Stp T G0 H0 G1 H1 → Ap l (es ++ fs) G1 H1 → D.nx σ H1) : tDrop (tBM K "list" rExtend (tVar i) (tCons te tNil)) D σ H := by
  obtain ⟨g, xs, e, kk⟩ := id a
  refine ⟨_, hi, .inl ⟨rfl, xs, .inl (.inl e)⟩, h G H (Ex.refl _) s.pre _ fun v d G1 H1 s1 kd f => ?_⟩
  subst f
  obtain ⟨b, zs, rfl, gb, kz⟩ := kd.lstV
  obtain ⟨g1, ys, e1, k1⟩ := a.stp p0 hl s1
  exact ⟨l, b, ys, zs, rfl, rfl, e1, s1.pre.1 _ _ gb, Evl.sz_of (by rw [k1.length, kz.length]; omega), k G1 _ s1.ex ((s.trans s1).mut p0 _ hl g1) ⟨g1, _, upd_same, k1.app kz⟩⟩
/-- the list kept apart, told -/
theorem Ap.tell {l : Addr} {es : List PyData} (p0 : Pre T G0 H0) (s : Stp T G0 H0 G H) (hl : H0 l = none) (a : Ap l es G H) : ∃ G1, Ex G G1 ∧ Stp T G0 H0 G1 H ∧ Da G1 (.ref l) (.list es) := by
  obtain ⟨g, xs, e, k⟩ := a
  exact ⟨_, Ex.new g, s.tell p0 hl g e, .lst upd_same (k.mono (Ex.new g))⟩
/-- for x in a list, a tuple -/
theorem q_forX {b : Bool} {φ : PyData → Prop} {ξ : List PyData → Prop} {g : TG} (p : Pre T G H) (h : EvP T tl σ G φ) (hφ : ∀ d, φ d → ∃ ds, d = IsSq b ds ∧ ξ ds) (Bs : Hp → Hp → Prop) (I : List PyData → Nat → L2.St → Hp → Hp → Prop) (h0 : ∀ ds G2 H2, ξ ds → Stp T G H G2 H2 → Bs G2 H2 ∧ I ds 0 σ G2 H2) (hB : ∀ G1 H1, Bs G1 H1 → Ex G1 H1)
    (hs : ∀ ds i d x σ' G1 H1, ξ ds → Ex G G1 → Bs G1 H1 → ds[i]? = some d → Da G1 x d → I ds i σ' G1 H1 → g x σ' H1 fun σ2 H2 => tu { D with nx := fun σ'' H'' => ∃ G'', Ex G1 G'' ∧ Bs G'' H'' ∧ I ds (i + 1) σ'' G'' H'', ct := fun σ'' H'' => ∃ G'', Ex G1 G'' ∧ Bs G'' H'' ∧ I ds (i + 1) σ'' G'' H'', bk := tz D } σ2 H2)
    (hd : ∀ ds σ' G1 H1, ξ ds → Ex G G1 → Bs G1 H1 → I ds ds.length σ' G1 H1 → tz D σ' H1) : tSeq (tFor (iSq K b tl) g tu) tz D σ H := by
  refine iSq_runX h hφ (Ex.refl _) p fun J ds xs Gd G2 H2 z2 s2 kk gg w => ?_
  have el := kk.length
  obtain ⟨b0, i0⟩ := h0 ds G2 H2 z2 s2
  refine ⟨fun i m σ H => m = xs.length - i ∧ i ≤ xs.length ∧ ∃ G1, Ex G2 G1 ∧ Bs G1 H ∧ I ds i σ G1 H, ⟨xs.length, by simp, Nat.zero_le _, G2, Ex.refl _, b0, i0⟩, ?_⟩
  rintro i m σ' H' ⟨rfl, hi, G1, e1, b1, i1⟩
  have gd := gg G1 H' e1 (hB _ _ b1)
  by_cases hlt : i < xs.length
  · refine .inr ⟨w.goes i H' hlt gd, fun σ'' H'' => ∃ G'', Ex G1 G'' ∧ Bs G'' H'' ∧ I ds (i + 1) σ'' G'' H'', fun σ'' H'' ⟨G'', e'', p''⟩ => ⟨xs.length - (i + 1), by omega, rfl, hlt, G'', e1.trans e'', p''⟩, fun xv H'' y => ?_⟩
    obtain ⟨rfl, hx⟩ := w.yields i H' xv H'' hlt gd y
    obtain ⟨d, hd', kd⟩ := kk.getV hx
    exact hs ds i d xv σ' G1 H'' z2 (s2.ex.trans e1) b1 hd' (kd.mono e1) i1
  · obtain rfl : i = xs.length := by omega
    exact .inl ⟨w.stops H' gd, hd ds σ' G1 H' z2 (s2.ex.trans e1) b1 (by rw [← el]; exact i1)⟩
theorem q_for {b : Bool} {ds : List PyData} {g : TG} (p : Pre T G H) (h : EvP T tl σ G (· = IsSq b ds)) (Bs : Hp → Hp → Prop) (I : Nat → L2.St → Hp → Hp → Prop) (h0 : ∀ G2 H2, Stp T G H G2 H2 → Bs G2 H2 ∧ I 0 σ G2 H2) (hB : ∀ G1 H1, Bs G1 H1 → Ex G1 H1)
    (hs : ∀ i d x σ' G1 H1, Ex G G1 → Bs G1 H1 → ds[i]? = some d → Da G1 x d → I i σ' G1 H1 → g x σ' H1 fun σ2 H2 => tu { D with nx := fun σ'' H'' => ∃ G'', Ex G1 G'' ∧ Bs G'' H'' ∧ I (i + 1) σ'' G'' H'', ct := fun σ'' H'' => ∃ G'', Ex G1 G'' ∧ Bs G'' H'' ∧ I (i + 1) σ'' G'' H'', bk := tz D } σ2 H2)
    (hd : ∀ σ' G1 H1, Ex G G1 → Bs G1 H1 → I ds.length σ' G1 H1 → tz D σ' H1) : tSeq (tFor (iSq K b tl) g tu) tz D σ H :=
  q_forX (ξ := (· = ds)) p h (fun d e => ⟨ds, e, rfl⟩) Bs (fun _ => I) (fun ds' G2 H2 e => h0 G2 H2) hB (fun ds' i d x σ' G1 H1 e => by
    subst e
    exact hs i d x σ' G1 H1) (fun ds' σ' G1 H1 e => by
    subst e
    exact hd σ' G1 H1)
/-- .. whose target is a name -/
theorem q_forXN {b : Bool} {φ : PyData → Prop} {ξ : List PyData → Prop} {i0 : Nat} (p : Pre T G H) (h : EvP T tl σ G φ) (hφ : ∀ d, φ d → ∃ ds, d = IsSq b ds ∧ ξ ds) (Bs : Hp → Hp → Prop) (I : List PyData → Nat → L2.St → Hp → Hp → Prop) (h0 : ∀ ds G2 H2, ξ ds → Stp T G H G2 H2 → Bs G2 H2 ∧ I ds 0 σ G2 H2) (hB : ∀ G1 H1, Bs G1 H1 → Ex G1 H1)
    (hs : ∀ ds i d x σ' G1 H1, ξ ds → Ex G G1 → Bs G1 H1 → ds[i]? = some d → Da G1 x d → I ds i σ' G1 H1 → tu { D with nx := fun σ'' H'' => ∃ G'', Ex G1 G'' ∧ Bs G'' H'' ∧ I ds (i + 1) σ'' G'' H'', ct := fun σ'' H'' => ∃ G'', Ex G1 G'' ∧ Bs G'' H'' ∧ I ds (i + 1) σ'' G'' H'', bk := tz D } (σ'.set i0 (some x)) H1)
    (hd : ∀ ds σ' G1 H1, ξ ds → Ex G G1 → Bs G1 H1 → I ds ds.length σ' G1 H1 → tz D σ' H1) : tSeq (tFor (iSq K b tl) (gName i0) tu) tz D σ H :=
  q_forX p h hφ Bs I h0 hB hs hd
theorem q_forN {b : Bool} {ds : List PyData} {i0 : Nat} (p : Pre T G H) (h : EvP T tl σ G (· = IsSq b ds)) (Bs : Hp → Hp → Prop) (I : Nat → L2.St → Hp → Hp → Prop) (h0 : ∀ G2 H2, Stp T G H G2 H2 → Bs G2 H2 ∧ I 0 σ G2 H2) (hB : ∀ G1 H1, Bs G1 H1 → Ex G1 H1)
    (hs : ∀ i d x σ' G1 H1, Ex G G1 → Bs G1 H1 → ds[i]? = some d → Da G1 x d → I i σ' G1 H1 → tu { D with nx := fun σ'' H'' => ∃ G'', Ex G1 G'' ∧ Bs G'' H'' ∧ I (i + 1) σ'' G'' H'', ct := fun σ'' H'' => ∃ G'', Ex G1 G'' ∧ Bs G'' H'' ∧ I (i + 1) σ'' G'' H'', bk := tz D } (σ'.set i0 (some x)) H1)
    (hd : ∀ σ' G1 H1, Ex G G1 → Bs G1 H1 → I ds.length σ' G1 H1 → tz D σ' H1) : tSeq (tFor (iSq K b tl) (gName i0) tu) tz D σ H :=
  q_for p h Bs I h0 hB hs hd
/-- for i in range(n) -/
theorem q_forR {ta : TA} {n : Int} (p : Pre T G H) (h : EvA T ta σ G (· = [.int n])) (hn : 0 ≤ n ∧ n ≤ 100000) (I : Nat → L2.St → Hp → Prop) (h0 : ∀ G2 H2, Stp T G H G2 H2 → I 0 σ H2)
    (hs : ∀ (i : Nat) σ' H1, (i : Int) < n → I i σ' H1 → tu { D with nx := I (i + 1), ct := I (i + 1), bk := tz D } (σ'.set j (some (.int (i : Int)))) H1)
    (hd : ∀ σ' H1, I n.toNat σ' H1 → tz D σ' H1) : tSeq (tFor (iRng1 ta) (gName j) tu) tz D σ H := by
  refine h G H (Ex.refl _) p _ fun ws ds G2 H2 s2 kk f => ?_
  subst f
  obtain ⟨v, ws', rfl, kv, k0⟩ := kk.consV
  cases k0.nilV
  cases kv.intV
  refine ⟨n, rfl, by omega, by omega, for_range (lo := 0) (n := n.toNat) I (h0 G2 H2 s2) (fun i σ' H' hi p => ?_) hd⟩
  have e0 : 0 + (i : Int) = i := Int.zero_add _
  show tu { D with nx := I (i + 1), ct := I (i + 1), bk := tz D } (σ'.set j (some (.int ((0 : Int) + (i : Int))))) H'
  rw [e0]
  exact hs i σ' H' (by omega) p
end
end Dv

/-! a pure reading of programs over plain data: what is known (G) within the heap (H), slots by their data -/
namespace Rx
open PySem PySem.Spec PyProof.Rows L2 Dv
open Evl (Ex)

/-- a lasting fact of a value -/
structure Fact where
  holds : Hp → V → Prop
  up : ∀ {G G' : Hp} {v : V}, Ex G G' → holds G v → holds G' v

inductive KvD (G : Hp) : List (Key × V) → List (Key × PyData) → Prop
  | nil : KvD G [] []
  | cons {k : Key} {v : V} {d : PyData} {ws : List (Key × V)} {ds : List (Key × PyData)} : Da G v d → KvD G ws ds → KvD G ((k, v) :: ws) ((k, d) :: ds)
theorem KvD.mono {G G' : Hp} (e : Ex G G') : ∀ {ws : List (Key × V)} {ds : List (Key × PyData)}, KvD G ws ds → KvD G' ws ds
  | _, _, .nil => .nil
  | _, _, .cons k r => .cons (k.mono e) (r.mono e)
/-- what is one's own: a list, a dict -/
inductive Ct where
  | l (ds : List PyData)
  | d (kvs : List (Key × PyData))
inductive CtR (G : Hp) : HO → Ct → Prop
  | l {xs : List V} {ds : List PyData} : DaA G xs ds → CtR G (.lst xs) (.l ds)
  | d {ws : List (Key × V)} {kvs : List (Key × PyData)} : KvD G ws kvs → CtR G (.dK ws) (.d kvs)
theorem CtR.mono {G G' : Hp} (e : Ex G G') {o : HO} {c : Ct} : CtR G o c → CtR G' o c
  | .l k => .l (k.mono e)
  | .d k => .d (k.mono e)
theorem CtR.lV {G : Hp} {o : HO} {ds : List PyData} (h : CtR G o (.l ds)) : ∃ xs, o = .lst xs ∧ DaA G xs ds := by
  cases h with
  | l k => exact ⟨_, rfl, k⟩
theorem CtR.dV {G : Hp} {o : HO} {ds : List (Key × PyData)} (h : CtR G o (.d ds)) : ∃ xs, o = .dK xs ∧ KvD G xs ds := by
  cases h with
  | d k => exact ⟨_, rfl, k⟩
/-- a slot: unknown; shared data (with a fact); a list, a dict of one's own; the drawn source -/
inductive Sl where
  | no
  | sh (d : PyData)
  | sp (d : PyData) (P : Fact)
  | ol (c : Ct)
  | src
abbrev Env := List Sl
def NS (T : Tw) (l : Addr) : Prop := ∀ S C, T = some (S, C) → l ≠ S ∧ l ≠ C
def SlR (T : Tw) (G H : Hp) (x : Option (Option V)) : Sl → Prop
  | .no => True
  | .sh d => ∃ v, x = some (some v) ∧ Da G v d
  | .sp d P => ∃ v, x = some (some v) ∧ Da G v d ∧ P.holds G v
  | .ol c => ∃ l o, x = some (some (.ref l)) ∧ G l = none ∧ H l = some o ∧ CtR G o c ∧ NS T l
  | .src => ∃ S C, T = some (S, C) ∧ x = some (some (.ref S))
/-- a step: what is not known and not in O stays as it is, and unknown -/
structure Go (T : Tw) (O : Addr → Prop) (G H G' H' : Hp) : Prop where
  ex : Ex G G'
  ap : ∀ a o, G a = none → H a = some o → (∀ C, T ≠ some (a, C)) → ¬ O a → G' a = none ∧ H' a = some o
  pre : Pre T G' H'
  st : ∀ a, H' a = none → H a = none
section
variable {T : Tw} {O O' O1 : Addr → Prop} {G H G' H' G1 H1 G2 H2 : Hp}
theorem Go.refl (h : Pre T G H) : Go T O G H G H := ⟨Ex.refl _, fun a o g h _ _ => ⟨g, h⟩, h, fun _ h => h⟩
theorem Go.of (p : Pre T G H) (s : Stp T G H G' H') : Go T O G H G' H' := ⟨s.ex, fun a o g h n _ => s.apart g h n, s.pre, fun a h => s.free p h⟩
theorem Go.stp (h : Pre T G H) (g : Go T (fun _ => False) G H G' H') : Stp T G H G' H' := by
  refine ⟨g.ex, fun a o e n => ?_, fun a o n e => ?_, g.pre⟩
  · cases q : H a with
    | none => rfl
    | some u =>
      by_cases z : ∃ C, T = some (a, C)
      · obtain ⟨C, z⟩ := z
        have := (g.pre.2 a C z).1
        rw [e] at this; cases this
      · have := (g.ap a u n q (fun C e => z ⟨C, e⟩) fun z => z).1
        rw [e] at this; cases this
  · cases q : G a with
    | none => exact (g.ap a o q e n fun z => z).2
    | some u =>
      have := h.1 a u q
      rw [e] at this; cases this
      exact g.pre.1 a o (g.ex a o q)
theorem Go.trans (a : Go T O G H G1 H1) (b : Go T O1 G1 H1 G2 H2) (h : ∀ x, O1 x → O x ∨ H x = none) : Go T O G H G2 H2 :=
  have a_st : ∀ x, H2 x = none → H x = none := fun x h => a.st x (b.st x h)
  ⟨a.ex.trans b.ex, fun x o g e n no => by
    obtain ⟨g1, e1⟩ := a.ap x o g e n no
    refine b.ap x o g1 e1 n fun z => ?_
    rcases h x z with z | z
    · exact no z
    · (rw [e] at z; cases z), b.pre, fun a h => a_st a h⟩
theorem Go.mono (a : Go T O G H G1 H1) (h : ∀ x, O x → O' x) : Go T O' G H G1 H1 := ⟨a.ex, fun x o g e n no => a.ap x o g e n fun z => no (h x z), a.pre, a.st⟩
theorem ns_fresh (p : Pre T G H) {l : Addr} (h : H l = none) : NS T l := fun S C e => by
  obtain ⟨_, _, _, _, _, z1, _, z2, _⟩ := p.2 S C e
  exact ⟨fun q => (by rw [q, z1] at h; cases h), fun q => (by rw [q, z2] at h; cases h)⟩
theorem NS.t {l : Addr} (h : NS T l) : ∀ C, T ≠ some (l, C) := fun C e => (h l C e).1 rfl
theorem upd_none {l a : Addr} {o : HO} (h : upd H l o a = none) : H a = none := by
  by_cases q : a = l
  · rw [q, upd_same] at h; cases h
  · rw [upd_ne q] at h; exact h
theorem pre_upd (p : Pre T G H) {l : Addr} {o : HO} (g : G l = none) (n : NS T l) : Pre T G (upd H l o) := by
  refine ⟨fun a u e => ?_, fun S C e => ?_⟩
  · rw [upd_ne (fun q => (by rw [q, g] at e; cases e))]
    exact p.1 a u e
  · obtain ⟨gs, ns, p', r, z, h1, h2, h3, h4⟩ := p.2 S C e
    obtain ⟨n1, n2⟩ := n S C e
    exact ⟨gs, ns, p', r, z, by rw [upd_ne (Ne.symm n1)]; exact h1, h2, by rw [upd_ne (Ne.symm n2)]; exact h3, h4⟩
theorem pre_tell (p : Pre T G H) {l : Addr} {o : HO} (e : H l = some o) (g : G l = none) (n : NS T l) : Pre T (upd G l o) H := by
  refine ⟨fun a u q => ?_, fun S C z => ⟨?_, (p.2 S C z).2⟩⟩
  · by_cases h : a = l
    · rw [h, upd_same] at q; rw [h, ← q]; exact e
    · rw [upd_ne h] at q; exact p.1 a u q
  · rw [upd_ne (Ne.symm (n S C z).1)]
    exact (p.2 S C z).1
end
def Own (σ : L2.St) (δ : Env) (a : Addr) : Prop := ∃ (i : Nat) (ds : Ct), δ[i]? = some (Sl.ol ds) ∧ σ[i]? = some (some (V.ref a))
def Sub (δ2 δ : Env) : Prop := ∀ (i : Nat) (ds : Ct), δ2[i]? = some (Sl.ol ds) → ∃ es : Ct, δ[i]? = some (Sl.ol es)
structure Rel (T : Tw) (σ : L2.St) (δ : Env) (G H : Hp) : Prop where
  len : σ.length = δ.length
  sl : ∀ (i : Nat) (s : Sl), δ[i]? = some s → SlR T G H σ[i]? s
  dis : ∀ (i j : Nat) (a : Addr) (ds es : Ct), δ[i]? = some (Sl.ol ds) → δ[j]? = some (Sl.ol es) → σ[i]? = some (some (V.ref a)) → σ[j]? = some (some (V.ref a)) → i = j
/-- what an expression does -/
structure Mv (T : Tw) (σ : L2.St) (δ : Env) (G H : Hp) (δ2 : Env) (G2 H2 : Hp) : Prop where
  go : Go T (Own σ δ) G H G2 H2
  rel : Rel T σ δ2 G2 H2
  sub : Sub δ2 δ
section
variable {T : Tw} {O O' : Addr → Prop} {G H G' H' G1 H1 G2 H2 : Hp} {σ : L2.St} {δ δ1 δ2 : Env} {v : V} {d : PyData}
theorem Sub.refl : Sub δ δ := fun _ ds h => ⟨ds, h⟩
theorem Sub.trans (a : Sub δ1 δ) (b : Sub δ2 δ1) : Sub δ2 δ := fun i ds h => by
  obtain ⟨es, h⟩ := b i ds h
  exact a i es h
theorem Own.sub {a : Addr} (h : Own σ δ2 a) (s : Sub δ2 δ) : Own σ δ a := by
  obtain ⟨i, ds, h1, h2⟩ := h
  obtain ⟨es, h3⟩ := s i ds h1
  exact ⟨i, es, h3, h2⟩
theorem Rel.own (r : Rel T σ δ G H) {a : Addr} (h : Own σ δ a) : ∃ xs, G a = none ∧ H a = some xs ∧ NS T a := by
  obtain ⟨i, ds, h1, h2⟩ := h
  obtain ⟨l, xs, e, g, k, _, n⟩ := r.sl i _ h1
  rw [h2] at e; cases e
  exact ⟨xs, g, k, n⟩
theorem SlR.go {x : Option (Option V)} {s : Sl} (h : SlR T G H x s) (g : Go T O G H G' H') (n : ∀ ds a, s = .ol ds → x = some (some (.ref a)) → ¬ O a) : SlR T G' H' x s := by
  cases s with
  | no => trivial
  | sh d => obtain ⟨v, e, k⟩ := h; exact ⟨v, e, k.mono g.ex⟩
  | sp d P => obtain ⟨v, e, k, p⟩ := h; exact ⟨v, e, k.mono g.ex, P.up g.ex p⟩
  | ol ds =>
    obtain ⟨l, xs, e, h1, h2, k, ns⟩ := h
    obtain ⟨h3, h4⟩ := g.ap l _ h1 h2 ns.t (n ds l rfl e)
    exact ⟨l, xs, e, h3, h4, k.mono g.ex, ns⟩
  | src => exact h
theorem Rel.go (r : Rel T σ δ G H) (g : Go T O G H G' H') (n : ∀ a, Own σ δ a → ¬ O a) : Rel T σ δ G' H' :=
  ⟨r.len, fun i s e => (r.sl i s e).go g fun ds a es ea => n a ⟨i, ds, by rw [e, es], ea⟩, r.dis⟩
theorem Rel.stp (p : Pre T G H) (r : Rel T σ δ G H) (s : Stp T G H G' H') : Rel T σ δ G' H' := r.go (O := fun _ => False) (Go.of p s) fun _ _ z => z
theorem Mv.refl (p : Pre T G H) (r : Rel T σ δ G H) : Mv T σ δ G H δ G H := ⟨Go.refl p, r, Sub.refl⟩
theorem Mv.stp (p : Pre T G H) (r : Rel T σ δ G H) (s : Stp T G H G' H') : Mv T σ δ G H δ G' H' := ⟨Go.of p s, r.stp p s, Sub.refl⟩
theorem Mv.trans (a : Mv T σ δ G H δ1 G1 H1) (b : Mv T σ δ1 G1 H1 δ2 G2 H2) : Mv T σ δ G H δ2 G2 H2 :=
  ⟨a.go.trans b.go fun x z => .inl (z.sub a.sub), b.rel, a.sub.trans b.sub⟩
theorem Mv.pre (a : Mv T σ δ G H δ1 G1 H1) : Pre T G1 H1 := a.go.pre
theorem Mv.ex (a : Mv T σ δ G H δ1 G1 H1) : Ex G G1 := a.go.ex
/-- a new list, told -/
theorem Mv.tell (r0 : Rel T σ δ G H) (m : Mv T σ δ G H δ2 G2 H2) {l : Addr} {o : HO} (g : G2 l = none) (e : H2 l = some o) (n : NS T l) (h : H l = none) : Mv T σ δ G H δ2 (upd G2 l o) H2 := by
  have nl : ∀ a, Own σ δ2 a → a ≠ l := fun a z q => by
    obtain ⟨xs, _, k, _⟩ := r0.own (z.sub m.sub)
    rw [q, h] at k; cases k
  have gg : Go T (fun a => a = l) G2 H2 (upd G2 l o) H2 := ⟨Ex.new g, fun a u ga ha _ na => ⟨by rw [upd_ne na]; exact ga, ha⟩, pre_tell m.pre e g n, fun _ h => h⟩
  exact ⟨m.go.trans gg fun x z => .inr (by rw [z]; exact h), m.rel.go gg nl, m.sub⟩
theorem len_lt {i : Nat} {s : Sl} (r : Rel T σ δ G H) (h : δ[i]? = some s) : i < σ.length := by
  have := (List.getElem?_eq_some_iff.mp h).1
  rw [r.len]; exact this
theorem get_set {α : Type} {l : List α} {i j : Nat} {a b : α} (h : (l.set i a)[j]? = some b) : (j = i ∧ b = a ∧ i < l.length) ∨ (j ≠ i ∧ l[j]? = some b) := by
  by_cases e : j = i
  · subst e
    by_cases hl : j < l.length
    · rw [List.getElem?_set_self hl] at h; cases h; exact .inl ⟨rfl, rfl, hl⟩
    · rw [List.getElem?_eq_none (by simpa using hl)] at h; cases h
  · rw [List.getElem?_set_ne (Ne.symm e)] at h
    exact .inr ⟨e, h⟩
theorem Rel.setS (r : Rel T σ δ G H) (i : Nat) {v : V} {s : Sl} (h : ∀ σ' : L2.St, i < σ'.length → SlR T G H ((σ'.set i (some v))[i]?) s) (hd : ∀ ds, s = .ol ds → ∀ l, v = .ref l → ¬ Own σ δ l) : Rel T (σ.set i (some v)) (δ.set i s) G H := by
  refine ⟨by rw [List.length_set, List.length_set, r.len], fun j t e => ?_, fun j k a ds es e1 e2 e3 e4 => ?_⟩
  · rcases get_set e with ⟨rfl, rfl, hl⟩ | ⟨ne, e⟩
    · exact h σ (by rw [r.len]; exact hl)
    · rw [List.getElem?_set_ne (Ne.symm ne)]
      exact r.sl j t e
  · rcases get_set e1 with ⟨rfl, q1, hl⟩ | ⟨n1, f1⟩
    · rcases get_set e2 with ⟨rfl, _, _⟩ | ⟨n2, f2⟩
      · rfl
      · rw [List.getElem?_set_self (by rw [r.len]; exact hl)] at e3
        rw [List.getElem?_set_ne (Ne.symm n2)] at e4
        cases e3
        exact absurd ⟨k, es, f2, e4⟩ (hd ds q1.symm a rfl)
    · rw [List.getElem?_set_ne (Ne.symm n1)] at e3
      rcases get_set e2 with ⟨rfl, q2, hl⟩ | ⟨n2, f2⟩
      · rw [List.getElem?_set_self (by rw [r.len]; exact hl)] at e4
        cases e4
        exact absurd ⟨j, ds, f1, e3⟩ (hd es q2.symm a rfl)
      · rw [List.getElem?_set_ne (Ne.symm n2)] at e4
        exact r.dis j k a ds es f1 f2 e3 e4
theorem Rel.sh (r : Rel T σ δ G H) (i : Nat) (k : Da G v d) : Rel T (σ.set i (some v)) (δ.set i (.sh d)) G H :=
  r.setS i (fun σ' hl => ⟨v, by rw [List.getElem?_set_self hl], k⟩) fun ds e => nomatch e
theorem Rel.sp (r : Rel T σ δ G H) (i : Nat) {P : Fact} (k : Da G v d) (p : P.holds G v) : Rel T (σ.set i (some v)) (δ.set i (.sp d P)) G H :=
  r.setS i (fun σ' hl => ⟨v, by rw [List.getElem?_set_self hl], k, p⟩) fun ds e => nomatch e
theorem Rel.ol (r : Rel T σ δ G H) (i : Nat) {l : Addr} {xs : HO} {ds : Ct} (g : G l = none) (h : H l = some xs) (k : CtR G xs ds) (n : NS T l) (no : ¬ Own σ δ l) : Rel T (σ.set i (some (.ref l))) (δ.set i (.ol ds)) G H :=
  r.setS i (fun σ' hl => ⟨l, xs, by rw [List.getElem?_set_self hl], g, h, k, n⟩) fun ds _ l' e => by cases e; exact no
/-- the slots after a store: what is owned -/
theorem own_set {i : Nat} {v : V} {s : Sl} {a : Addr} (h : Own (σ.set i (some v)) (δ.set i s) a) (hl : σ.length = δ.length) : (∃ ds, s = .ol ds ∧ v = .ref a) ∨ Own σ δ a := by
  obtain ⟨j, ds, e1, e2⟩ := h
  rcases get_set e1 with ⟨rfl, q, hi⟩ | ⟨n, e1⟩
  · rw [List.getElem?_set_self (by rw [hl]; exact hi)] at e2
    cases e2
    exact .inl ⟨ds, q.symm, rfl⟩
  · rw [List.getElem?_set_ne (Ne.symm n)] at e2
    exact .inr ⟨j, ds, e1, e2⟩
/-- a list of one's own, at its slot -/
theorem Rel.at_ol (r : Rel T σ δ G H) {i : Nat} {ds : Ct} (h : δ[i]? = some (.ol ds)) : ∃ l xs, σ[i]? = some (some (.ref l)) ∧ G l = none ∧ H l = some xs ∧ CtR G xs ds ∧ NS T l ∧ Own σ δ l := by
  obtain ⟨l, xs, e, g, k, da, n⟩ := r.sl i _ h
  exact ⟨l, xs, e, g, k, da, n, i, ds, h, e⟩
/-- .. changed -/
theorem Mv.upd (p : Pre T G H) (r : Rel T σ δ G H) {i : Nat} {ds ds' : Ct} {l : Addr} {xs' : HO} (h : δ[i]? = some (.ol ds)) (e : σ[i]? = some (some (.ref l))) (k : CtR G xs' ds') : Mv T σ δ G H (δ.set i (.ol ds')) G (upd H l xs') := by
  obtain ⟨l', xs, e', g, hl, da, n, ow⟩ := r.at_ol h
  rw [e] at e'; cases e'
  have hi := len_lt r h
  refine ⟨⟨Ex.refl _, fun a o ga ha _ no => ⟨ga, by rw [upd_ne (fun q => no (by rw [q]; exact ow))]; exact ha⟩, pre_upd p g n, fun a h => upd_none h⟩, ⟨by rw [List.length_set, r.len], fun j t et => ?_, fun j k a ds es e1 e2 e3 e4 => ?_⟩, fun j es ee => ?_⟩
  · rcases get_set et with ⟨rfl, rfl, _⟩ | ⟨ne, et⟩
    · exact ⟨l, xs', e, g, upd_same, k, n⟩
    · have q := r.sl j t et
      cases t with
      | no => trivial
      | sh d => exact q
      | sp d P => exact q
      | src => exact q
      | ol es =>
        obtain ⟨l2, ys, q1, q2, q3, q4, q5⟩ := q
        refine ⟨l2, ys, q1, q2, ?_, q4, q5⟩
        rw [upd_ne (fun z => ne (r.dis j i l es ds et h (by rw [← z]; exact q1) e))]
        exact q3
  · obtain ⟨ds1, e1⟩ : ∃ ds1, δ[j]? = some (.ol ds1) := by
      rcases get_set e1 with ⟨rfl, _, _⟩ | ⟨_, e1⟩
      · exact ⟨_, h⟩
      · exact ⟨_, e1⟩
    obtain ⟨ds2, e2⟩ : ∃ ds2, δ[k]? = some (.ol ds2) := by
      rcases get_set e2 with ⟨rfl, _, _⟩ | ⟨_, e2⟩
      · exact ⟨_, h⟩
      · exact ⟨_, e2⟩
    exact r.dis j k a _ _ e1 e2 e3 e4
  · rcases get_set ee with ⟨rfl, _, _⟩ | ⟨_, ee⟩
    · exact ⟨_, h⟩
    · exact ⟨_, ee⟩
/-- .. told -/
theorem Rel.told (p : Pre T G H) (r : Rel T σ δ G H) {i : Nat} {ds : List PyData} (h : δ[i]? = some (.ol (.l ds))) : ∃ G', Mv T σ δ G H (δ.set i (.sh (.list ds))) G' H := by
  obtain ⟨l, xo, e, g, hl, da, n, ow⟩ := r.at_ol h
  obtain ⟨xs, rfl, db⟩ := da.lV
  have ex := Ex.new (o := .lst xs) g
  refine ⟨L2.upd G l (.lst xs), ⟨ex, fun a o ga ha _ no => ⟨by rw [upd_ne (fun q => no (by rw [q]; exact ow))]; exact ga, ha⟩, pre_tell p hl g n, fun _ h => h⟩, ⟨by rw [List.length_set, r.len], fun j t et => ?_, fun j k a ds1 es e1 e2 e3 e4 => ?_⟩, fun j es ee => ?_⟩
  · rcases get_set et with ⟨rfl, rfl, _⟩ | ⟨ne, et⟩
    · exact ⟨.ref l, e, .lst upd_same (db.mono ex)⟩
    · have q := r.sl j t et
      cases t with
      | no => trivial
      | sh d => obtain ⟨v, q1, q2⟩ := q; exact ⟨v, q1, q2.mono ex⟩
      | sp d P => obtain ⟨v, q1, q2, q3⟩ := q; exact ⟨v, q1, q2.mono ex, P.up ex q3⟩
      | src => exact q
      | ol es =>
        obtain ⟨l2, ys, q1, q2, q3, q4, q5⟩ := q
        refine ⟨l2, ys, q1, ?_, q3, q4.mono ex, q5⟩
        rw [upd_ne (fun z => ne (r.dis j i l es (.l ds) et h (by rw [← z]; exact q1) e))]
        exact q2
  · rcases get_set e1 with ⟨_, q, _⟩ | ⟨_, e1⟩
    · cases q
    rcases get_set e2 with ⟨_, q, _⟩ | ⟨_, e2⟩
    · cases q
    exact r.dis j k a _ _ e1 e2 e3 e4
  · rcases get_set ee with ⟨_, q, _⟩ | ⟨_, ee⟩
    · cases q
    · exact ⟨_, ee⟩
end
end Rx

namespace Rx
open PySem PySem.Spec PyProof.Rows L2 Dv
open Evl (Ex)
/-! dicts of one's own -/
def keyD : PyData → Option Key
  | .int i => some (.inl i)
  | .str x => some (.inr x)
  | _ => none
def valD (kvs : List (Key × PyData)) (k : Key) : Option PyData := (kvs.find? fun kv => decide (kv.1 = k)).map (·.2)
def putD (kvs : List (Key × PyData)) (k : Key) (v : PyData) : List (Key × PyData) :=
  if (kvs.any fun kv => decide (kv.1 = k)) = true then kvs.map (fun kv => if kv.1 = k then (kv.1, v) else kv) else kvs ++ [(k, v)]
def odS : Option Sl → Option (List (Key × PyData))
  | some (.ol (.d kvs)) => some kvs
  | _ => none
section
variable {K : PySem.W.Frag} {T : Tw} {G H G' H' G1 H1 G2 H2 G0 H0 : Hp} {σ : L2.St} {δ δ1 δ2 : Env} {v : V} {d : PyData}
theorem odS_some {s : Option Sl} {ds : List (Key × PyData)} (h : odS s = some ds) : s = some (.ol (.d ds)) := by
  unfold odS at h
  split at h
  · cases h; rfl
  · cases h
theorem KvD.length : ∀ {ws : List (Key × V)} {ds : List (Key × PyData)}, KvD G ws ds → ws.length = ds.length
  | _, _, .nil => rfl
  | _, _, .cons _ r => congrArg (· + 1) r.length
theorem KvD.val : ∀ {ws : List (Key × V)} {ds : List (Key × PyData)} (k : Key), KvD G ws ds → (valV ws k = none ∧ valD ds k = none) ∨ ∃ v d, valV ws k = some v ∧ valD ds k = some d ∧ Da G v d
  | _, _, k, .nil => .inl ⟨rfl, rfl⟩
  | (k', v) :: ws, (_, d) :: ds, k, .cons h r => by
    unfold valV valD
    by_cases e : k' = k
    · rw [List.find?_cons_of_pos (by simpa using e), List.find?_cons_of_pos (by simpa using e)]
      exact .inr ⟨v, d, rfl, rfl, h⟩
    · rw [List.find?_cons_of_neg (by simpa using e), List.find?_cons_of_neg (by simpa using e)]
      exact KvD.val k r
theorem KvD.any : ∀ {ws : List (Key × V)} {ds : List (Key × PyData)} (k : Key), KvD G ws ds → (ws.any fun kv => decide (kv.1 = k)) = ds.any fun kv => decide (kv.1 = k)
  | _, _, k, .nil => rfl
  | _, _, k, .cons h r => by rw [List.any_cons, List.any_cons, KvD.any k r]
theorem KvD.app : ∀ {ws ws' : List (Key × V)} {ds ds' : List (Key × PyData)}, KvD G ws ds → KvD G ws' ds' → KvD G (ws ++ ws') (ds ++ ds')
  | _, _, _, _, .nil, k => k
  | _, _, _, _, .cons h r, k => .cons h (r.app k)
theorem KvD.mapK : ∀ {ws : List (Key × V)} {ds : List (Key × PyData)} (k : Key) {v : V} {d : PyData}, Da G v d → KvD G ws ds → KvD G (ws.map fun kv => if kv.1 = k then (kv.1, v) else kv) (ds.map fun kv => if kv.1 = k then (kv.1, d) else kv)
  | _, _, k, _, _, _, .nil => .nil
  | (k', v') :: ws, (_, d') :: ds, k, v, d, hd, .cons h r => by
    by_cases e : k' = k
    · simp only [List.map_cons, if_pos e]
      exact .cons hd (KvD.mapK k hd r)
    · simp only [List.map_cons, if_neg e]
      exact .cons h (KvD.mapK k hd r)
theorem KvD.put {ws : List (Key × V)} {ds : List (Key × PyData)} (k : Key) {v : V} {d : PyData} (hd : Da G v d) (r : KvD G ws ds) : KvD G (putK ws k v) (putD ds k d) := by
  unfold putK putD
  rw [r.any k]
  split
  · exact r.mapK k hd
  · exact r.app (.cons hd .nil)
theorem keyD_v {d : PyData} {k : Key} (h : keyD d = some k) (hd : Da G v d) : v = kV k := by
  cases d with
  | int i => cases h; exact hd.intV
  | str x => cases hd
  | _ => cases h
end
/-! judgements -/
def Ev (T : Tw) (te : TE) (σ : L2.St) (δ : Env) (φ : PyData → Env → Prop) : Prop := ∀ G H, Pre T G H → Rel T σ δ G H → ∀ Q : VK, (∀ v d δ2 G2 H2, Mv T σ δ G H δ2 G2 H2 → Da G2 v d → φ d δ2 → Q v H2) → te σ H Q
def EvA (T : Tw) (ta : TA) (σ : L2.St) (δ : Env) (φ : List PyData → Env → Prop) : Prop := ∀ G H, Pre T G H → Rel T σ δ G H → ∀ Q : List V → Hp → Prop, (∀ vs ds δ2 G2 H2, Mv T σ δ G H δ2 G2 H2 → DaA G2 vs ds → φ ds δ2 → Q vs H2) → ta σ H Q
def EvT (T : Tw) (tt : TT) (σ : L2.St) (δ : Env) (φ : Bool → Env → Prop) : Prop := ∀ G H, Pre T G H → Rel T σ δ G H → ∀ Q : Bool → Hp → Prop, (∀ b δ2 G2 H2, Mv T σ δ G H δ2 G2 H2 → φ b δ2 → Q b H2) → tt σ H Q
def EvO (T : Tw) (to : TO) (σ : L2.St) (δ : Env) (φ : Option Int → Env → Prop) : Prop := ∀ G H, Pre T G H → Rel T σ δ G H → ∀ Q : Option Int → Hp → Prop, (∀ b δ2 G2 H2, Mv T σ δ G H δ2 G2 H2 → φ b δ2 → Q b H2) → to σ H Q
/-- a new list, kept apart -/
def EvF (T : Tw) (te : TE) (σ : L2.St) (δ : Env) (φ : List PyData → Env → Prop) : Prop := ∀ G H, Pre T G H → Rel T σ δ G H → ∀ Q : VK, (∀ l xs ds δ2 G2 H2, Mv T σ δ G H δ2 G2 H2 → G2 l = none → H2 l = some (.lst xs) → DaA G2 xs ds → NS T l → H l = none → φ ds δ2 → Q (.ref l) H2) → te σ H Q
def WalkD (T : Tw) (J : It) (G : Hp) (items : List PyData) : Prop := ∃ (Gd : Hp → Prop) (Y : Nat → Hp → V → Hp → Prop), Walk J items.length Gd Y ∧ (∀ G3 H, Ex G G3 → Ex G3 H → Gd H) ∧ ∀ i H x H' G3, i < items.length → Ex G G3 → Pre T G3 H → Y i H x H' → ∃ d G4, items[i]? = some d ∧ Stp T G3 H G4 H' ∧ Da G4 x d
def EvI (T : Tw) (ti : TI) (σ : L2.St) (δ : Env) (φ : List PyData → Env → Prop) : Prop := ∀ G H, Pre T G H → Rel T σ δ G H → ∀ R : It → Hp → Prop, (∀ J items δ2 G2 H2, Mv T σ δ G H δ2 G2 H2 → WalkD T J G2 items → φ items δ2 → R J H2) → ti σ H R
def EvG (T : Tw) (g : TG) (gw : PyData → Env → (Env → Prop) → Prop) (ns : List Nat) : Prop := ∀ (v : V) (d : PyData) (σ : L2.St) (δ : Env) (G H : Hp) (ψ : Env → Prop), Da G v d → Pre T G H → Rel T σ δ G H → gw d δ ψ → ∀ Q : L2.St → Hp → Prop, (∀ σ' δ', Rel T σ' δ' G H → (∀ (i : Nat) (ds : Ct), δ'[i]? = some (Sl.ol ds) → δ[i]? = some (Sl.ol ds) ∧ σ'[i]? = σ[i]?) → (∀ vs : List Nat, (∀ j ∈ ns, j ∈ vs) → wipe σ' vs = wipe σ vs) → ψ δ' → Q σ' H) → g v σ H Q
/-! operations -/
structure O2 where
  tr : R2
  sem : PyData → PyData → (PyData → Prop) → Prop
  ok : ∀ (T : Tw) d e φ, sem d e φ → RD T tr d e φ
structure O1 where
  tr : V → Hp → VK → Prop
  sem : PyData → (PyData → Prop) → Prop
  ok : ∀ (T : Tw) d φ, sem d φ → RU1 T tr d φ
structure OA where
  tr : List V → Hp → VK → Prop
  sem : List PyData → (PyData → Prop) → Prop
  ok : ∀ (T : Tw) ds φ, sem ds φ → RCD T tr ds φ
structure OF where
  tr : List V → Hp → VK → Prop
  sem : List PyData → (List PyData → Prop) → Prop
  ok : ∀ (T : Tw) ds φ, sem ds φ → ∀ xs G H, DaA G xs ds → Pre T G H → ∀ Q : VK, (∀ l zs es, H l = none → DaA G zs es → φ es → Q (.ref l) (upd H l (.lst zs))) → tr xs H Q
structure OF2 where
  tr : R2
  sem : PyData → PyData → (List PyData → Prop) → Prop
  ok : ∀ (T : Tw) d e φ, sem d e φ → ∀ x y G H, Da G x d → Da G y e → Pre T G H → ∀ Q : VK, (∀ l zs es, H l = none → DaA G zs es → φ es → Q (.ref l) (upd H l (.lst zs))) → tr x y H Q
structure OS where
  tr : V → Option Int → Option Int → Hp → VK → Prop
  sem : PyData → Option Int → Option Int → (List PyData → Prop) → Prop
  ok : ∀ (T : Tw) d lo hi φ, sem d lo hi φ → ∀ x G H, Da G x d → Pre T G H → ∀ Q : VK, (∀ l zs es, H l = none → DaA G zs es → φ es → Q (.ref l) (upd H l (.lst zs))) → tr x lo hi H Q
structure OIt where
  k : V → Hp → (It → Hp → Prop) → Prop
  sem : PyData → Option (List PyData)
  ok : ∀ (T : Tw) x d items G H, Da G x d → Pre T G H → sem d = some items → ∀ R : It → Hp → Prop, (∀ J, WalkD T J G items → R J H) → k x H R
structure OItA where
  k : List V → Hp → (It → Hp → Prop) → Prop
  sem : List PyData → Option (List PyData)
  ok : ∀ (T : Tw) xs ds items G H, DaA G xs ds → Pre T G H → sem ds = some items → ∀ R : It → Hp → Prop, (∀ J, WalkD T J G items → R J H) → k xs H R
/-- any expression with a reading of its own -/
structure XE where
  tr : TE
  wp : Env → (PyData → Env → Prop) → Prop
  ok : ∀ (T : Tw) (σ : L2.St) (δ : Env) (φ : PyData → Env → Prop), wp δ φ → Ev T tr σ δ φ
structure XF where
  tr : TE
  wp : Env → (List PyData → Env → Prop) → Prop
  ok : ∀ (T : Tw) (σ : L2.St) (δ : Env) (φ : List PyData → Env → Prop), wp δ φ → EvF T tr σ δ φ
/-! slots, data -/
def wipeD (δ : Env) : List Nat → Env
  | [] => δ
  | v :: vs => (wipeD δ vs).set v .no
def mrg (δ δ' : Env) : List Nat → Env
  | [] => δ'
  | v :: vs => match δ[v]? with
    | some s => (mrg δ δ' vs).set v s
    | none => mrg δ δ' vs
inductive Tg where
  | nm (j : Nat)
  | tp (n : Nat) (js : List Nat)
def gNames : List Nat → TGs
  | [] => gNil
  | j :: js => gCons (gName j) (gNames js)
def Tg.tr (K : PySem.W.Frag) : Tg → TG
  | .nm j => gName j
  | .tp n js => gTup K n (gNames js)
def Tg.ns : Tg → List Nat
  | .nm j => [j]
  | .tp _ js => js
def setAll : List Nat → List PyData → Env → Env
  | j :: js, d :: ds, δ => setAll js ds (δ.set j (.sh d))
  | _, _, δ => δ
def Tg.wp : Tg → PyData → Env → (Env → Prop) → Prop
  | .nm j, d, δ, ψ => ψ (δ.set j (.sh d))
  | .tp n js, .tuple ds, δ, ψ => ds.length = n ∧ js.length = n ∧ ψ (setAll js ds δ)
  | .tp _ _, _, _, _ => False
def lcW (g : PyData → Env → (Env → Prop) → Prop) (t : Env → (Bool → Env → Prop) → Prop) (e : Env → (PyData → Env → Prop) → Prop) (vs : List Nat) (Kf : List PyData → Env → Prop) : List PyData → Env → List PyData → Prop
  | [], δ, acc => Kf acc δ
  | d :: ds, δ, acc => g d δ fun δ1 => t δ1 fun b δ2 => if b = true then e δ2 fun x δ3 => acc.length ≤ 50000 ∧ lcW g t e vs Kf ds (wipeD δ3 vs) (acc ++ [x]) else lcW g t e vs Kf ds (wipeD δ2 vs) acc
def lc2W (g : PyData → Env → (Env → Prop) → Prop) (t : Env → (Bool → Env → Prop) → Prop) (i1 : Env → (List PyData → Env → Prop) → Prop) (g1 : PyData → Env → (Env → Prop) → Prop) (t1 : Env → (Bool → Env → Prop) → Prop) (e : Env → (PyData → Env → Prop) → Prop) (vs vs1 : List Nat) (Kf : List PyData → Env → Prop) : List PyData → Env → List PyData → Prop
  | [], δ, acc => Kf acc δ
  | d :: ds, δ, acc => g d δ fun δ1 => t δ1 fun b δ2 => if b = true then i1 δ2 fun items δ3 => lcW g1 t1 e vs1 (fun acc' δ4 => lc2W g t i1 g1 t1 e vs vs1 Kf ds (wipeD δ4 vs) acc') items (wipeD δ3 vs1) acc else lc2W g t i1 g1 t1 e vs vs1 Kf ds (wipeD δ2 vs) acc
/-- what a slot tells -/
def rdS : Option Sl → Option PyData
  | some (.sh d) => some d
  | some (.sp d _) => some d
  | _ => none
def olS : Option Sl → Option (List PyData)
  | some (.ol (.l ds)) => some ds
  | _ => none
/-- a def's promise, with a fact of its first argument -/
def spS (R : List PyData → (PyData → Prop) → Prop) (P : Fact) : Sp := fun vs H Q _ => ∃ G ds φ, Pre none G H ∧ DaA G vs ds ∧ (∀ v, vs[0]? = some v → P.holds G v) ∧ R ds φ ∧ ∀ v d G' H', Stp none G H G' H' → Da G' v d → φ d → Q v H'
def spP (R : List PyData → (PyData → Prop) → Prop) : Sp := fun vs H Q _ => ∃ G ds φ, Pre none G H ∧ DaA G vs ds ∧ R ds φ ∧ ∀ v d G' H', Stp none G H G' H' → Da G' v d → φ d → Q v H'
abbrev Rr := List PyData → (PyData → Prop) → Prop
/-! the language -/
mutual
inductive E : Type
  | var (i : Nat)
  | con (v : V) (d : PyData) (h : ∀ G, Da G v d)
  | op (o : O2) (a b : E)
  | un (o : O1) (a : E)
  | cb (o : OA) (as : A)
  | call (R : Rr) (xk : XK) (as : A)
  | callF (R : List PyData → PyData → Prop) (xk : XK) (as : A)
  | callG (R : Rr) (xk : XK) (i : Nat) (as : A)
  | callS (R : Rr) (P : Fact) (xk : XK) (i : Nat) (as : A)
  | tup (as : A)
  | fr (f : F)
  | and (a b : E)
  | or (a b : E)
  | not (a : E)
  | ife (t : Ts) (a b : E)
  | ixO (i : Nat) (e : E)
  | lenO (i : Nat)
  | popO (i : Nat) (e : E)
  | dget (i : Nat) (e : E)
  | din (neg : Bool) (e : E) (i : Nat)
  | inO (neg : Bool) (e : E) (i : Nat)
  | xt (x : XE)
inductive A : Type
  | nil
  | cons (e : E) (r : A)
  | star (e : E) (r : A)
inductive Ts : Type
  | yes
  | tst (e : E)
  | tb (e : E)
  | and (a b : Ts)
  | or (a b : Ts)
  | not (a : Ts)
  | tru (i : Nat)
inductive F : Type
  | lst (as : A)
  | cb (o : OF) (as : A)
  | op (o : OF2) (a b : E)
  | sl (o : OS) (e : E) (lo hi : Pt)
  | lc (it : I) (g : Tg) (t : Ts) (e : E) (vs : List Nat)
  | lc2 (it : I) (g : Tg) (t : Ts) (it1 : I) (g1 : Tg) (t1 : Ts) (e : E) (vs vs1 : List Nat)
  | xt (x : XF)
inductive I : Type
  | it (o : OIt) (e : E)
  | ita (o : OItA) (as : A)
inductive Pt : Type
  | no
  | at (e : E)
end
def rLen (K : PySem.W.Frag) : List V → Hp → VK → Prop := fun xs H Q => ∃ p ys, xs = [.ref p] ∧ (SqL K H p ys ∨ SqT K H p ys) ∧ Q (.int ys.length) H
mutual
def E.tr (K : PySem.W.Frag) : E → TE
  | .var i => tVar i
  | .con v _ _ => tC v
  | .op o a b => tOp o.tr (a.tr K) (b.tr K)
  | .un o a => tUn o.tr (a.tr K)
  | .cb o as => tCB o.tr (as.tr K)
  | .call R xk as => tCall (spP R) [] xk (as.tr K)
  | .callF R xk as => tCall (spF R) [] xk (as.tr K)
  | .callG R xk i as => tCall (spG R) [] xk (tCons (tVar i) (as.tr K))
  | .callS R P xk i as => tCall (spS R P) [] xk (tCons (tVar i) (as.tr K))
  | .tup as => tTup (as.tr K)
  | .fr f => f.tr K
  | .and a b => tAndV (a.tr K) (b.tr K)
  | .or a b => tOrV (a.tr K) (b.tr K)
  | .not a => tNotV (a.tr K)
  | .ife t a b => tIf (t.tr K) (a.tr K) (b.tr K)
  | .ixO i e => tOp (rIxL K) (tVar i) (e.tr K)
  | .lenO i => tCB (rLen K) (tCons (tVar i) tNil)
  | .popO i e => tBM K "list" rPopAt (tVar i) (tCons (e.tr K) tNil)
  | .dget i e => tDGet (tVar i) (e.tr K)
  | .din true e i => tDNotIn (e.tr K) (tVar i)
  | .din false e i => tDIn (e.tr K) (tVar i)
  | .inO neg e i => tOp (rIn K neg) (e.tr K) (tVar i)
  | .xt x => x.tr
def A.tr (K : PySem.W.Frag) : A → TA
  | .nil => tNil
  | .cons e r => tCons (e.tr K) (r.tr K)
  | .star e r => StX.tStar K (e.tr K) (r.tr K)
def Ts.tr (K : PySem.W.Frag) : Ts → TT
  | .yes => tYes
  | .tst e => tTest (e.tr K)
  | .tb e => tB (e.tr K)
  | .and a b => tAnd (a.tr K) (b.tr K)
  | .or a b => tOr (a.tr K) (b.tr K)
  | .not a => tNot (a.tr K)
  | .tru i => fun σ H Q => tVar i σ H fun x H' => ∃ k, TruV K x H' k ∧ Q k H'
def F.tr (K : PySem.W.Frag) : F → TE
  | .lst as => tLst (as.tr K)
  | .cb o as => tCB o.tr (as.tr K)
  | .op o a b => tOp o.tr (a.tr K) (b.tr K)
  | .sl o e lo hi => tSl o.tr (e.tr K) (lo.tr K) (hi.tr K)
  | .lc it g t e vs => tLc (it.tr K) (g.tr K) (t.tr K) (e.tr K) vs
  | .lc2 it g t it1 g1 t1 e vs vs1 => tLc2 (it.tr K) (g.tr K) (t.tr K) (it1.tr K) (g1.tr K) (t1.tr K) (e.tr K) vs vs1
  | .xt x => x.tr
def I.tr (K : PySem.W.Frag) : I → TI
  | .it o e => fun σ H R => (e.tr K) σ H fun x H1 => o.k x H1 R
  | .ita o as => fun σ H R => (as.tr K) σ H fun xs H1 => o.k xs H1 R
def Pt.tr (K : PySem.W.Frag) : Pt → TO
  | .no => tNoPart
  | .at e => tPart (e.tr K)
end
mutual
def E.wp : E → Env → (PyData → Env → Prop) → Prop
  | .var i, δ, φ => match rdS δ[i]? with
    | some d => φ d δ
    | none => False
  | .con _ d _, δ, φ => φ d δ
  | .op o a b, δ, φ => a.wp δ fun d δ1 => b.wp δ1 fun e δ2 => o.sem d e fun r => φ r δ2
  | .un o a, δ, φ => a.wp δ fun d δ1 => o.sem d fun r => φ r δ1
  | .cb o as, δ, φ => as.wp δ fun ds δ1 => o.sem ds fun r => φ r δ1
  | .call R _ as, δ, φ => as.wp δ fun ds δ1 => ∃ ψ, R ds ψ ∧ ∀ d, ψ d → φ d δ1
  | .callF R _ as, δ, φ => as.wp δ fun ds δ1 => ∃ d, R ds d ∧ φ d δ1
  | .callG R _ i as, δ, φ => (match δ[i]? with | some .src => True | _ => False) ∧ as.wp δ fun ds δ1 => ∃ ψ, R ds ψ ∧ ∀ d, ψ d → φ d δ1
  | .callS R P _ i as, δ, φ => ∃ d0, δ[i]? = some (.sp d0 P) ∧ as.wp δ fun ds δ1 => ∃ ψ, R (d0 :: ds) ψ ∧ ∀ d, ψ d → φ d δ1
  | .tup as, δ, φ => as.wp δ fun ds δ1 => ds.length ≤ 100000 ∧ φ (.tuple ds) δ1
  | .fr f, δ, φ => f.wp δ fun ds δ1 => φ (.list ds) δ1
  | .and a b, δ, φ => a.wp δ fun d δ1 => match d with
    | .bool true => b.wp δ1 φ
    | .bool false => φ (.bool false) δ1
    | _ => False
  | .or a b, δ, φ => a.wp δ fun d δ1 => match d with
    | .bool true => φ (.bool true) δ1
    | .bool false => b.wp δ1 φ
    | _ => False
  | .not a, δ, φ => a.wp δ fun d δ1 => match d with
    | .bool b => φ (.bool (!b)) δ1
    | _ => False
  | .ife t a b, δ, φ => t.wp δ fun c δ1 => if c = true then a.wp δ1 φ else b.wp δ1 φ
  | .ixO i e, δ, φ => (∃ ds, olS δ[i]? = some ds) ∧ e.wp δ fun d δ1 => match d, olS δ1[i]? with
    | .int j, some ds => (match atI ds j with | some x => φ x δ1 | none => False)
    | _, _ => False
  | .lenO i, δ, φ => match olS δ[i]? with
    | some ds => φ (.int ds.length) δ
    | none => False
  | .popO i e, δ, φ => (∃ ds, olS δ[i]? = some ds) ∧ e.wp δ fun d δ1 => match d, olS δ1[i]? with
    | .int j, some ds => (0 ≤ j ∧ ds.length ≤ 50000) ∧ (match ds[j.toNat]? with | some x => φ x (δ1.set i (.ol (.l (ds.eraseIdx j.toNat)))) | none => False)
    | _, _ => False
  | .dget i e, δ, φ => (∃ kvs, odS δ[i]? = some kvs) ∧ e.wp δ fun d δ1 => match keyD d, odS δ1[i]? with
    | some k, some kvs => (match valD kvs k with | some x => φ x δ1 | none => False)
    | _, _ => False
  | .din neg e i, δ, φ => e.wp δ fun d δ1 => match keyD d, odS δ1[i]? with
    | some k, some kvs => φ (.bool (if neg = true then !(valD kvs k).isSome else (valD kvs k).isSome)) δ1
    | _, _ => False
  | .inO neg e i, δ, φ => e.wp δ fun d δ1 => match d, olS δ1[i]? with
    | .int j, some ds => ∃ ns : List Int, ds = ns.map .int ∧ φ (.bool (if neg = true then !decide (j ∈ ns) else decide (j ∈ ns))) δ1
    | _, _ => False
  | .xt x, δ, φ => x.wp δ φ
def A.wp : A → Env → (List PyData → Env → Prop) → Prop
  | .nil, δ, φ => φ [] δ
  | .cons e r, δ, φ => e.wp δ fun d δ1 => r.wp δ1 fun ds δ2 => φ (d :: ds) δ2
  | .star e r, δ, φ => e.wp δ fun d δ1 => match d with
    | .tuple es => r.wp δ1 fun ds δ2 => φ (es ++ ds) δ2
    | .list es => r.wp δ1 fun ds δ2 => φ (es ++ ds) δ2
    | _ => False
def Ts.wp : Ts → Env → (Bool → Env → Prop) → Prop
  | .yes, δ, φ => φ true δ
  | .tst e, δ, φ => e.wp δ fun d δ1 => match d with
    | .bool b => φ b δ1
    | _ => False
  | .tb e, δ, φ => e.wp δ fun d δ1 => match d with
    | .bool b => φ b δ1
    | _ => False
  | .and a b, δ, φ => a.wp δ fun c δ1 => if c = true then b.wp δ1 φ else φ false δ1
  | .or a b, δ, φ => a.wp δ fun c δ1 => if c = true then φ true δ1 else b.wp δ1 φ
  | .not a, δ, φ => a.wp δ fun c δ1 => φ (!c) δ1
  | .tru i, δ, φ => match δ[i]? with
    | some (.ol (.l ds)) => φ (!ds.isEmpty) δ
    | some (.sh (.list ds)) => φ (!ds.isEmpty) δ
    | _ => False
def F.wp : F → Env → (List PyData → Env → Prop) → Prop
  | .lst as, δ, φ => as.wp δ fun ds δ1 => ds.length ≤ 100000 ∧ φ ds δ1
  | .cb o as, δ, φ => as.wp δ fun ds δ1 => o.sem ds fun r => φ r δ1
  | .op o a b, δ, φ => a.wp δ fun d δ1 => b.wp δ1 fun e δ2 => o.sem d e fun r => φ r δ2
  | .sl o e lo hi, δ, φ => e.wp δ fun d δ1 => lo.wp δ1 fun l δ2 => hi.wp δ2 fun h δ3 => o.sem d l h fun r => φ r δ3
  | .lc it g t e vs, δ, φ => (∀ j ∈ g.ns, j ∈ vs) ∧ it.wp δ fun items δ1 => lcW g.wp t.wp e.wp vs (fun es δ2 => φ es (mrg δ1 δ2 vs)) items (wipeD δ1 vs) []
  | .lc2 it g t it1 g1 t1 e vs vs1, δ, φ => ((∀ j ∈ g.ns, j ∈ vs) ∧ (∀ j ∈ g1.ns, j ∈ vs1) ∧ ∀ j ∈ vs1, j ∈ vs) ∧ it.wp δ fun items δ1 => lc2W g.wp t.wp it1.wp g1.wp t1.wp e.wp vs vs1 (fun es δ2 => φ es (mrg δ1 δ2 vs)) items (wipeD δ1 vs) []
  | .xt x, δ, φ => x.wp δ φ
def I.wp : I → Env → (List PyData → Env → Prop) → Prop
  | .it o e, δ, φ => e.wp δ fun d δ1 => match o.sem d with
    | some items => φ items δ1
    | none => False
  | .ita o as, δ, φ => as.wp δ fun ds δ1 => match o.sem ds with
    | some items => φ items δ1
    | none => False
def Pt.wp : Pt → Env → (Option Int → Env → Prop) → Prop
  | .no, δ, φ => φ none δ
  | .at e, δ, φ => e.wp δ fun d δ1 => match d with
    | .int i => φ (some i) δ1
    | _ => False
end
end Rx

namespace Rx
open PySem PySem.Spec PyProof.Rows L2 Dv
open Evl (Ex)
section
variable {K : PySem.W.Frag} {T : Tw} {O O' : Addr → Prop} {G H G' H' G1 H1 G2 H2 : Hp} {σ : L2.St} {δ δ1 δ2 : Env} {v : V} {d : PyData}
theorem wipeD_length (δ : Env) : ∀ vs : List Nat, (wipeD δ vs).length = δ.length
  | [] => rfl
  | v :: vs => by unfold wipeD; rw [List.length_set, wipeD_length δ vs]
theorem wipeD_some {i : Nat} {s : Sl} : ∀ {vs : List Nat}, (wipeD δ vs)[i]? = some s → s = .no ∨ (i ∉ vs ∧ δ[i]? = some s)
  | [], h => .inr ⟨by simp, h⟩
  | v :: vs, h => by
    unfold wipeD at h
    rcases get_set h with ⟨_, e, _⟩ | ⟨n, h⟩
    · exact .inl e
    · rcases wipeD_some h with e | ⟨n2, e⟩
      · exact .inl e
      · exact .inr ⟨by simp only [List.mem_cons, not_or]; exact ⟨n, n2⟩, e⟩
theorem wipeD_out {i : Nat} : ∀ {vs : List Nat}, i ∉ vs → (wipeD δ vs)[i]? = δ[i]?
  | [], _ => rfl
  | v :: vs, h => by
    unfold wipeD
    rw [List.getElem?_set_ne (fun e => h (by rw [e]; exact List.mem_cons_self)), wipeD_out (fun m => h (List.mem_cons_of_mem _ m))]
theorem wipe_in {i : Nat} : ∀ {vs : List Nat}, i ∈ vs → (wipe σ vs)[i]? = if i < σ.length then some none else none
  | v :: vs, h => by
    unfold wipe
    by_cases e : v = i
    · subst e
      by_cases hl : v < σ.length
      · rw [List.getElem?_set_self (by rw [wipe_length]; exact hl), if_pos hl]
      · rw [List.getElem?_eq_none (by rw [List.length_set, wipe_length]; omega), if_neg hl]
    · rw [List.getElem?_set_ne e, wipe_in (by rcases List.mem_cons.mp h with q | q; exact absurd q.symm e; exact q)]
theorem wipe_ext {σ' : L2.St} {vs : List Nat} (hl : σ'.length = σ.length) (h : ∀ i, i ∉ vs → σ'[i]? = σ[i]?) : wipe σ' vs = wipe σ vs := by
  refine List.ext_getElem? fun i => ?_
  by_cases hi : i ∈ vs
  · rw [wipe_in hi, wipe_in hi, hl]
  · rw [wipe_out hi, wipe_out hi, h i hi]
theorem wipe_wipe {vs vs1 : List Nat} (h : ∀ j ∈ vs1, j ∈ vs) : wipe (wipe σ vs1) vs = wipe σ vs :=
  wipe_ext (wipe_length _ _) fun i hi => wipe_out fun m => hi (h i m)
theorem wipe_set {vs : List Nat} {j : Nat} {x : Option V} (h : j ∈ vs) : wipe (σ.set j x) vs = wipe σ vs :=
  wipe_ext (List.length_set ..) fun i hi => List.getElem?_set_ne fun e => hi (by rw [← e]; exact h)
theorem mrg_length (δ δ' : Env) (h : δ'.length = δ.length) : ∀ vs, (mrg δ δ' vs).length = δ.length
  | [] => h
  | v :: vs => by
    unfold mrg
    split
    · rw [List.length_set, mrg_length δ δ' h vs]
    · exact mrg_length δ δ' h vs
theorem mrg_get {δ' : Env} (h : δ'.length = δ.length) {i : Nat} : ∀ {vs : List Nat}, (mrg δ δ' vs)[i]? = if i ∈ vs then δ[i]? else δ'[i]?
  | [] => by simp [mrg]
  | v :: vs => by
    have ih := mrg_get h (i := i) (vs := vs)
    unfold mrg
    by_cases e : i = v
    · subst e
      rw [if_pos List.mem_cons_self]
      cases q : δ[i]? with
      | some s => 
        have := (List.getElem?_eq_some_iff.mp q).1
        show ((mrg δ δ' vs).set i s)[i]? = _
        rw [List.getElem?_set_self (by rw [mrg_length δ δ' h]; exact this)]
      | none =>
        show (mrg δ δ' vs)[i]? = _
        rw [List.getElem?_eq_none]
        rw [mrg_length δ δ' h]
        exact List.getElem?_eq_none_iff.mp q
    · have e2 : (if i ∈ v :: vs then δ[i]? else δ'[i]?) = if i ∈ vs then δ[i]? else δ'[i]? := by simp [e]
      rw [e2, ← ih]
      cases q : δ[v]? with
      | some s =>
        show ((mrg δ δ' vs).set v s)[i]? = _
        rw [List.getElem?_set_ne (Ne.symm e)]
      | none => rfl
theorem own_wipe {vs : List Nat} {a : Addr} (h : Own (wipe σ vs) (wipeD δ vs) a) : ∃ (i : Nat) (ds : Ct), i ∉ vs ∧ δ[i]? = some (Sl.ol ds) ∧ σ[i]? = some (some (V.ref a)) := by
  obtain ⟨i, ds, e1, e2⟩ := h
  rcases wipeD_some e1 with q | ⟨n, q⟩
  · cases q
  · exact ⟨i, ds, n, q, (wipe_some e2).1⟩
theorem own_wipe2 {vs : List Nat} {a : Addr} (h : Own (wipe σ vs) (wipeD δ vs) a) : Own σ δ a := by
  obtain ⟨i, ds, _, h1, h2⟩ := own_wipe h
  exact ⟨i, ds, h1, h2⟩
theorem Rel.wipe (r : Rel T σ δ G H) (vs : List Nat) : Rel T (L2.wipe σ vs) (wipeD δ vs) G H := by
  refine ⟨by rw [wipe_length, wipeD_length, r.len], fun i s e => ?_, fun i j a ds es e1 e2 e3 e4 => ?_⟩
  · rcases wipeD_some e with q | ⟨n, q⟩
    · rw [q]; trivial
    · rw [wipe_out n]; exact r.sl i s q
  · rcases wipeD_some e1 with q | ⟨n1, q1⟩
    · cases q
    rcases wipeD_some e2 with q | ⟨n2, q2⟩
    · cases q
    exact r.dis i j a ds es q1 q2 (wipe_some e3).1 (wipe_some e4).1
theorem go_new (p : Pre T G H) {D : Addr} {o : HO} (h : H D = none) : Go T O G H G (upd H D o) :=
  ⟨Ex.refl _, fun a u g e _ _ => ⟨g, by rw [upd_ne (ne_of_none e h)]; exact e⟩, pre_upd p (Evl.fresh_back p.1 h) (ns_fresh p h), fun _ h => upd_none h⟩
theorem go_upd (p : Pre T G H) {D : Addr} {o : HO} (g : G D = none) (n : NS T D) : Go T (fun a => a = D) G H G (upd H D o) :=
  ⟨Ex.refl _, fun a u ga e _ na => ⟨ga, by rw [upd_ne na]; exact e⟩, pre_upd p g n, fun _ h => upd_none h⟩
theorem Own.ne (r : Rel T σ δ G H) {a D : Addr} (h : Own σ δ a) (hD : H D = none) : a ≠ D := fun q => by
  obtain ⟨xs, _, k, _⟩ := r.own h
  rw [q, hD] at k; cases k
/-- targets -/
theorem setAll_rel : ∀ {js : List Nat} {ds : List PyData} {vs : List V} {σ : L2.St} {δ : Env} {ψ : Env → Prop}, DaA G vs ds → js.length = ds.length → Rel T σ δ G H → ψ (setAll js ds δ) → ∀ Q : L2.St → Hp → Prop,
    (∀ σ' δ', Rel T σ' δ' G H → (∀ (i : Nat) (ds : Ct), δ'[i]? = some (Sl.ol ds) → δ[i]? = some (Sl.ol ds) ∧ σ'[i]? = σ[i]?) → (∀ vs : List Nat, (∀ j ∈ js, j ∈ vs) → wipe σ' vs = wipe σ vs) → ψ δ' → Q σ' H) → gNames js vs σ H Q
  | [], [], [], σ, δ, ψ, _, _, r, h, Q, q => ⟨rfl, q σ δ r (fun i ds e => ⟨e, rfl⟩) (fun _ _ => rfl) h⟩
  | j :: js, d :: ds, _ :: _, σ, δ, ψ, .cons k kk, hl, r, h, Q, q => ⟨_, _, rfl, setAll_rel kk (by simpa using hl) (r.sh j k) h Q fun σ' δ' r' h1 h2 h3 => q σ' δ' r' (fun i es e => by
      obtain ⟨e1, e2⟩ := h1 i es e
      rcases get_set e1 with ⟨_, z, _⟩ | ⟨n, e1⟩
      · cases z
      · exact ⟨e1, by rw [e2, List.getElem?_set_ne (Ne.symm n)]⟩) (fun vs hv => by
      rw [h2 vs fun i hi => hv i (List.mem_cons_of_mem _ hi), wipe_set (hv j List.mem_cons_self)]) h3⟩
theorem Tg.ok (g : Tg) : EvG T (g.tr K) g.wp g.ns := fun v d σ δ G H ψ k p r h Q q => by
  cases g with
  | nm j =>
    refine q _ _ (r.sh j k) (fun i ds e => ?_) (fun vs hv => wipe_set (hv j (by simp [Tg.ns]))) h
    rcases get_set e with ⟨_, z, _⟩ | ⟨n, e1⟩
    · cases z
    · exact ⟨e1, List.getElem?_set_ne (Ne.symm n)⟩
  | tp n js =>
    cases d with
    | tuple ds =>
      obtain ⟨h1, h2, h3⟩ := (show ds.length = n ∧ js.length = n ∧ ψ (setAll js ds δ) from h)
      obtain ⟨a, xs, rfl, ga, kk⟩ := k.tupV
      exact ⟨a, xs, rfl, .inl (Evl.ex_rd p.1 ga), by rw [kk.length, h1], setAll_rel kk (by omega) r h3 Q q⟩
    | _ => exact h.elim
theorem stp_keep {D : Addr} {o : HO} (s : Stp T G H G1 H1) (g : G D = none) (e : H D = some o) (n : NS T D) : G1 D = none ∧ H1 D = some o := s.apart g e n.t
/-- a comprehension, from its turns: Pv of what is reached -/
theorem lc_turn {tt : TT} {te : TE} {gg : TG} {gw : PyData → Env → (Env → Prop) → Prop} {tw : Env → (Bool → Env → Prop) → Prop} {ew : Env → (PyData → Env → Prop) → Prop} {ns vs : List Nat} (hg : EvG T gg gw ns) (ht : ∀ σ δ φ, tw δ φ → EvT T tt σ δ φ) (he : ∀ σ δ φ, ew δ φ → Ev T te σ δ φ) (hns : ∀ j ∈ ns, j ∈ vs)
    {J : It} {items : List PyData} {G2 H2 : Hp} (w : WalkD T J G2 items) {σ0 : L2.St} {δ0 : Env} (hσ0 : wipe σ0 vs = σ0) {Kf : List PyData → Env → Prop} {D : Addr} {Ow : Addr → Prop} (nD : NS T D) (hOw : ∀ a, Ow a → a ≠ D) (hO0 : ∀ a, Own σ0 δ0 a → Ow a)
    {Gs Hs : Hp} (pf : Go T Ow Gs Hs G2 H2) (hDs : Hs D = none) (r0 : Rel T σ0 δ0 G2 H2) {acc0 : List PyData} {xs0 : List V} (g0 : G2 D = none) (e0 : H2 D = some (.lst xs0)) (k0 : DaA G2 xs0 acc0) (h : lcW gw tw ew vs Kf items δ0 acc0)
    {Qd : Hp → Prop} (hq : ∀ G' H' δ' acc xs, Ex G2 G' → Go T Ow Gs Hs G' H' → Rel T σ0 δ' G' H' → Sub δ' δ0 → G' D = none → H' D = some (.lst xs) → DaA G' xs acc → Kf acc δ' → Qd H') :
    ∃ W : Nat → Nat → Hp → Prop, (∃ m, W 0 m H2) ∧ ∀ i m H, W i m H →
      (J.stop i H ∧ Qd H) ∨ (J.go i H ∧ ∃ Nx : Hp → Prop, (∀ H', Nx H' → ∃ m', m' < m ∧ W (i + 1) m' H') ∧ ∀ x H', J.yld i H x H' → gg x σ0 H' fun σ2 H2 => wipe σ2 vs = σ0 ∧ tt σ2 H2 fun b H3 =>
        if b = true then te σ2 H3 fun y H4 => ∃ acc, H4 D = some (.lst acc) ∧ acc.length < sizeLine ∧ Nx (upd H4 D (.lst (acc ++ [y]))) else Nx H3) := by
  obtain ⟨Gd, Y, wk, hGd, hY⟩ := w
  have OnD : ∀ {σ' δ'}, (∀ a, Own σ' δ' a → Ow a) → ¬ Own σ' δ' D := fun h1 h2 => hOw D (h1 D h2) rfl
  let Pv : Nat → Hp → Prop := fun i Hc => ∃ (G' : Hp) (δ' : Env) (acc : List PyData) (xs : List V), Ex G2 G' ∧ Go T Ow Gs Hs G' Hc ∧ Rel T σ0 δ' G' Hc ∧ Sub δ' δ0 ∧ G' D = none ∧ Hc D = some (.lst xs) ∧ DaA G' xs acc ∧ lcW gw tw ew vs Kf (items.drop i) δ' acc
  refine ⟨fun i m H => m = items.length - i ∧ i ≤ items.length ∧ Pv i H, ⟨items.length, by simp, Nat.zero_le _, G2, δ0, acc0, xs0, Ex.refl _, pf, r0, Sub.refl, g0, e0, k0, h⟩, ?_⟩
  rintro i m Hc ⟨rfl, hi, G', δ', acc, xs, ex, go, rel, sub, gD, eD, kD, hw⟩
  have gd : Gd Hc := hGd G' Hc ex go.pre.1
  by_cases hlt : i < items.length
  · refine .inr ⟨wk.goes i Hc hlt gd, Pv (i + 1), fun H' p' => ⟨items.length - (i + 1), by omega, rfl, hlt, p'⟩, fun x H' y => ?_⟩
    obtain ⟨d, G4, hd, s4, k4⟩ := hY i Hc x H' G' hlt ex go.pre (wk.yields i Hc x H' hlt gd y)
    have hdr : items.drop i = d :: items.drop (i + 1) := by
      obtain ⟨hh, e⟩ := List.getElem?_eq_some_iff.mp hd
      rw [List.drop_eq_getElem_cons hh, e]
    rw [hdr] at hw
    have rel4 := rel.stp go.pre s4
    obtain ⟨gD4, eD4⟩ := stp_keep s4 gD eD nD
    have O' : ∀ a, Own σ0 δ' a → Ow a := fun a z => hO0 a (z.sub sub)
    refine hg x d σ0 δ' G4 H' _ k4 s4.pre rel4 hw _ fun σ2 δ2 rel2 own2 wip2 h2 => ⟨by rw [wip2 vs hns, hσ0], ?_⟩
    have O2' : ∀ a, Own σ2 δ2 a → Ow a := fun a ⟨j, ds, z1, z2⟩ => by
      obtain ⟨z3, z4⟩ := own2 j ds z1
      exact O' a ⟨j, ds, z3, by rw [← z4]; exact z2⟩
    have sub2 : Sub δ2 δ0 := fun j ds z => sub j ds (own2 j ds z).1
    have w2 : wipe σ2 vs = σ0 := by rw [wip2 vs hns, hσ0]
    have go4 : Go T Ow Gs Hs G4 H' := go.trans (Go.of (O := fun _ => False) go.pre s4) fun _ z => z.elim
    refine ht σ2 δ2 _ h2 G4 H' s4.pre rel2 _ fun b δ3 G5 H5 m5 h3 => ?_
    obtain ⟨gD5, eD5⟩ := m5.go.ap D _ gD4 eD4 nD.t (OnD O2')
    have go5 : Go T Ow Gs Hs G5 H5 := go4.trans m5.go fun a z => .inl (O2' a z)
    have ex5 := (ex.trans s4.ex).trans m5.ex
    have fin : ∀ {δ4 G6 H6 acc' xs'}, Rel T σ2 δ4 G6 H6 → Sub δ4 δ2 → Ex G2 G6 → Go T Ow Gs Hs G6 H6 → G6 D = none → H6 D = some (.lst xs') → DaA G6 xs' acc' → lcW gw tw ew vs Kf (items.drop (i + 1)) (wipeD δ4 vs) acc' → Pv (i + 1) H6 := fun {δ4 G6 H6 acc' xs'} q1 q2 q3 q4 q5 q6 q7 q8 => by
      refine ⟨G6, wipeD δ4 vs, acc', xs', q3, q4, ?_, fun j ds z => ?_, q5, q6, q7, q8⟩
      · have := q1.wipe vs
        rw [w2] at this
        exact this
      · rcases wipeD_some z with z | ⟨_, z⟩
        · cases z
        · exact (Sub.trans sub2 q2) j ds z
    cases b with
    | false => exact fin m5.rel m5.sub ex5 go5 gD5 eD5 (kD.mono (s4.ex.trans m5.ex)) h3
    | true =>
      have O3' : ∀ a, Own σ2 δ3 a → Ow a := fun a z => O2' a (z.sub m5.sub)
      refine he σ2 δ3 _ h3 G5 H5 m5.pre m5.rel _ fun y e' δ4 G6 H6 m6 k6 ⟨hlen, h4⟩ => ?_
      obtain ⟨gD6, eD6⟩ := m6.go.ap D _ gD5 eD5 nD.t (OnD O3')
      have go6 : Go T Ow Gs Hs G6 H6 := go5.trans m6.go fun a z => .inl (O3' a z)
      have kk := (kD.mono ((s4.ex.trans m5.ex).trans m6.ex)).snoc k6
      refine ⟨xs, eD6, Evl.sz_lt (by rw [kD.length]; omega), ?_⟩
      have gu := go_upd (o := .lst (xs ++ [y])) m6.pre gD6 nD
      exact fin (m6.rel.go gu fun a z q => hOw a (O3' a (z.sub m6.sub)) q) (m5.sub.trans m6.sub) (ex5.trans m6.ex) (go6.trans gu fun a z => .inr (by rw [z]; exact hDs)) gD6 upd_same kk h4
  · have e : i = items.length := by omega
    subst e
    rw [List.drop_length] at hw
    exact .inl ⟨wk.stops Hc gd, hq G' Hc δ' acc xs ex go rel sub gD eD kD hw⟩

theorem mrg_rel {δ' : Env} {vs : List Nat} (r : Rel T σ δ G H) (go : Go T (Own (L2.wipe σ vs) (wipeD δ vs)) G H G' H') (r' : Rel T (L2.wipe σ vs) δ' G' H') (sub : Sub δ' (wipeD δ vs)) : Rel T σ (mrg δ δ' vs) G' H' ∧ Sub (mrg δ δ' vs) δ := by
  have hl : δ'.length = δ.length := by rw [← r'.len, wipe_length, r.len]
  have out : ∀ {i ds}, i ∉ vs → δ'[i]? = some (Sl.ol ds) → ∃ es, δ[i]? = some (Sl.ol es) := fun {i ds} hi e => by
    obtain ⟨es, e⟩ := sub i ds e
    exact ⟨es, by rw [← wipeD_out hi]; exact e⟩
  refine ⟨⟨by rw [mrg_length _ _ hl, r.len], fun i s e => ?_, fun i j a ds es e1 e2 e3 e4 => ?_⟩, fun i ds e => ?_⟩
  · rw [mrg_get hl] at e
    by_cases hi : i ∈ vs
    · rw [if_pos hi] at e
      refine (r.sl i s e).go go fun ds a es ea z => ?_
      obtain ⟨j, fs, hj, z1, z2⟩ := own_wipe z
      subst es
      have := r.dis i j a ds fs e z1 ea z2
      exact hj (this ▸ hi)
    · rw [if_neg hi] at e
      have := r'.sl i s e
      rw [wipe_out hi] at this
      exact this
  · rw [mrg_get hl] at e1 e2
    have q1 : ∃ fs, δ[i]? = some (Sl.ol fs) := by
      by_cases hi : i ∈ vs
      · rw [if_pos hi] at e1; exact ⟨_, e1⟩
      · rw [if_neg hi] at e1; exact out hi e1
    have q2 : ∃ fs, δ[j]? = some (Sl.ol fs) := by
      by_cases hi : j ∈ vs
      · rw [if_pos hi] at e2; exact ⟨_, e2⟩
      · rw [if_neg hi] at e2; exact out hi e2
    obtain ⟨f1, q1⟩ := q1
    obtain ⟨f2, q2⟩ := q2
    exact r.dis i j a f1 f2 q1 q2 e3 e4
  · rw [mrg_get hl] at e
    by_cases hi : i ∈ vs
    · rw [if_pos hi] at e; exact ⟨_, e⟩
    · rw [if_neg hi] at e; exact out hi e
theorem lc_ok {ti : TI} {tt : TT} {te : TE} {gg : TG} {iw : Env → (List PyData → Env → Prop) → Prop} {gw : PyData → Env → (Env → Prop) → Prop} {tw : Env → (Bool → Env → Prop) → Prop} {ew : Env → (PyData → Env → Prop) → Prop} {ns vs : List Nat} (hi : ∀ σ δ φ, iw δ φ → EvI T ti σ δ φ) (hg : EvG T gg gw ns) (ht : ∀ σ δ φ, tw δ φ → EvT T tt σ δ φ) (he : ∀ σ δ φ, ew δ φ → Ev T te σ δ φ) (hns : ∀ j ∈ ns, j ∈ vs)
    {φ : List PyData → Env → Prop} (h : iw δ fun items δ1 => lcW gw tw ew vs (fun es δ2 => φ es (mrg δ1 δ2 vs)) items (wipeD δ1 vs) []) : EvF T (tLc ti gg tt te vs) σ δ φ := fun G H p r Q q => by
  refine hi σ δ _ h G H p r _ fun J items δ1 G2 H2 m w hw D hD => ?_
  have gD : G2 D = none := Evl.fresh_back m.pre.1 hD
  have nD : NS T D := ns_fresh m.pre hD
  have gn : Go T (fun _ => False) G2 H2 G2 (upd H2 D (.lst [])) := go_new m.pre hD
  have r1 : Rel T (wipe σ vs) (wipeD δ1 vs) G2 (upd H2 D (.lst [])) := (m.rel.wipe vs).go gn fun _ _ z => z
  refine lc_turn hg ht he hns w (wipe_wipe fun _ h => h) nD (Ow := Own (wipe σ vs) (wipeD δ1 vs)) (fun a z => Own.ne m.rel (own_wipe2 z) hD) (fun _ z => z) (Gs := G2) (Hs := H2) (go_new m.pre hD) hD r1 gD upd_same .nil hw fun G' H' δ' acc xs ex go rel sub g e k f => ?_
  obtain ⟨r', s'⟩ := mrg_rel m.rel go rel sub
  exact q D xs acc (mrg δ1 δ' vs) G' H' ⟨m.go.trans go fun a z => .inl ((own_wipe2 z).sub m.sub), r', m.sub.trans s'⟩ g e k nD (m.go.st D hD) f
theorem lc2_ok {ti ti1 : TI} {tt tt1 : TT} {te : TE} {gg gg1 : TG} {iw iw1 : Env → (List PyData → Env → Prop) → Prop} {gw gw1 : PyData → Env → (Env → Prop) → Prop} {tw tw1 : Env → (Bool → Env → Prop) → Prop} {ew : Env → (PyData → Env → Prop) → Prop} {ns ns1 vs vs1 : List Nat} (hi : ∀ σ δ φ, iw δ φ → EvI T ti σ δ φ) (hg : EvG T gg gw ns) (ht : ∀ σ δ φ, tw δ φ → EvT T tt σ δ φ) (hi1 : ∀ σ δ φ, iw1 δ φ → EvI T ti1 σ δ φ) (hg1 : EvG T gg1 gw1 ns1) (ht1 : ∀ σ δ φ, tw1 δ φ → EvT T tt1 σ δ φ) (he : ∀ σ δ φ, ew δ φ → Ev T te σ δ φ) (hns : ∀ j ∈ ns, j ∈ vs) (hns1 : ∀ j ∈ ns1, j ∈ vs1) (hvs : ∀ j ∈ vs1, j ∈ vs)
    {φ : List PyData → Env → Prop} (h : iw δ fun items δ1 => lc2W gw tw iw1 gw1 tw1 ew vs vs1 (fun es δ2 => φ es (mrg δ1 δ2 vs)) items (wipeD δ1 vs) []) : EvF T (tLc2 ti gg tt ti1 gg1 tt1 te vs vs1) σ δ φ := fun G H p r Q q => by
  refine hi σ δ _ h G H p r _ fun J items δ1 G2 H2 m w hw D hD => ?_
  have gD2 : G2 D = none := Evl.fresh_back m.pre.1 hD
  have nD : NS T D := ns_fresh m.pre hD
  have gn : Go T (fun _ => False) G2 H2 G2 (upd H2 D (.lst [])) := go_new m.pre hD
  have r1 : Rel T (wipe σ vs) (wipeD δ1 vs) G2 (upd H2 D (.lst [])) := (m.rel.wipe vs).go gn fun _ _ z => z
  obtain ⟨Gd, Y, wk, hGd, hY⟩ := w
  let Ow : Addr → Prop := Own (wipe σ vs) (wipeD δ1 vs)
  have hOw : ∀ a, Ow a → a ≠ D := fun a z => Own.ne m.rel (own_wipe2 z) hD
  let Pv : Nat → Hp → Prop := fun i Hc => ∃ (G' : Hp) (δ' : Env) (acc : List PyData) (xs : List V), Ex G2 G' ∧ Go T Ow G2 H2 G' Hc ∧ Rel T (wipe σ vs) δ' G' Hc ∧ Sub δ' (wipeD δ1 vs) ∧ G' D = none ∧ Hc D = some (.lst xs) ∧ DaA G' xs acc ∧ lc2W gw tw iw1 gw1 tw1 ew vs vs1 (fun es δ2 => φ es (mrg δ1 δ2 vs)) (items.drop i) δ' acc
  refine ⟨fun i m H => m = items.length - i ∧ i ≤ items.length ∧ Pv i H, ⟨items.length, by simp, Nat.zero_le _, G2, _, [], [], Ex.refl _, go_new m.pre hD, r1, Sub.refl, gD2, upd_same, .nil, hw⟩, ?_⟩
  rintro i mm Hc ⟨rfl, hi', G', δ', acc, xs, ex, go, rel, sub, gD, eD, kD, hw⟩
  have gd : Gd Hc := hGd G' Hc ex go.pre.1
  by_cases hlt : i < items.length
  · refine .inr ⟨wk.goes i Hc hlt gd, Pv (i + 1), fun H' p' => ⟨items.length - (i + 1), by omega, rfl, hlt, p'⟩, fun x H' y => ?_⟩
    obtain ⟨d, G4, hd, s4, k4⟩ := hY i Hc x H' G' hlt ex go.pre (wk.yields i Hc x H' hlt gd y)
    have hdr : items.drop i = d :: items.drop (i + 1) := by
      obtain ⟨hh, e⟩ := List.getElem?_eq_some_iff.mp hd
      rw [List.drop_eq_getElem_cons hh, e]
    rw [hdr] at hw
    have rel4 := rel.stp go.pre s4
    obtain ⟨gD4, eD4⟩ := stp_keep s4 gD eD nD
    have O' : ∀ a, Own (wipe σ vs) δ' a → Ow a := fun a z => z.sub sub
    have OnD : ∀ {σ' δ'}, (∀ a, Own σ' δ' a → Ow a) → ¬ Own σ' δ' D := fun h1 h2 => hOw D (h1 D h2) rfl
    refine hg x d (wipe σ vs) δ' G4 H' _ k4 s4.pre rel4 hw _ fun σ2 δ2 rel2 own2 wip2 h2 => ⟨by rw [wip2 vs hns, wipe_wipe fun _ h => h], ?_⟩
    have w2 : wipe σ2 vs = wipe σ vs := by rw [wip2 vs hns, wipe_wipe fun _ h => h]
    have O2' : ∀ a, Own σ2 δ2 a → Ow a := fun a ⟨j, ds, z1, z2⟩ => by
      obtain ⟨z3, z4⟩ := own2 j ds z1
      exact O' a ⟨j, ds, z3, by rw [← z4]; exact z2⟩
    have sub2 : Sub δ2 (wipeD δ1 vs) := fun j ds z => sub j ds (own2 j ds z).1
    have go4 : Go T Ow G2 H2 G4 H' := go.trans (Go.of (O := fun _ => False) go.pre s4) fun _ z => z.elim
    refine ht σ2 δ2 _ h2 G4 H' s4.pre rel2 _ fun b δ3 G5 H5 m5 h3 => ?_
    obtain ⟨gD5, eD5⟩ := m5.go.ap D _ gD4 eD4 nD.t (OnD O2')
    have go5 : Go T Ow G2 H2 G5 H5 := go4.trans m5.go fun a z => .inl (O2' a z)
    have ex5 := (ex.trans s4.ex).trans m5.ex
    have fin : ∀ {σx δ4 G6 H6 acc' xs'}, wipe σx vs = wipe σ vs → Rel T σx δ4 G6 H6 → Sub δ4 δ2 → Ex G2 G6 → Go T Ow G2 H2 G6 H6 → G6 D = none → H6 D = some (.lst xs') → DaA G6 xs' acc' → lc2W gw tw iw1 gw1 tw1 ew vs vs1 (fun es δ2 => φ es (mrg δ1 δ2 vs)) (items.drop (i + 1)) (wipeD δ4 vs) acc' → Pv (i + 1) H6 := fun {σx δ4 G6 H6 acc' xs'} q0 q1 q2 q3 q4 q5 q6 q7 q8 => by
      refine ⟨G6, wipeD δ4 vs, acc', xs', q3, q4, ?_, fun j ds z => ?_, q5, q6, q7, q8⟩
      · have := q1.wipe vs
        rw [q0] at this
        exact this
      · rcases wipeD_some z with z | ⟨_, z⟩
        · cases z
        · exact (Sub.trans sub2 q2) j ds z
    cases b with
    | false => exact fin w2 m5.rel m5.sub ex5 go5 gD5 eD5 (kD.mono (s4.ex.trans m5.ex)) h3
    | true =>
      have O3' : ∀ a, Own σ2 δ3 a → Ow a := fun a z => O2' a (z.sub m5.sub)
      refine hi1 σ2 δ3 _ h3 G5 H5 m5.pre m5.rel _ fun J1 items1 δ4 G6 H6 m6 w1 h4 => ?_
      obtain ⟨gD6, eD6⟩ := m6.go.ap D _ gD5 eD5 nD.t (OnD O3')
      have go6 : Go T Ow G2 H2 G6 H6 := go5.trans m6.go fun a z => .inl (O3' a z)
      have O4' : ∀ a, Own σ2 δ4 a → Ow a := fun a z => O3' a (z.sub m6.sub)
      have ex6 := ex5.trans m6.ex
      refine lc_turn hg1 ht1 he hns1 w1 (wipe_wipe fun _ h => h) nD (Ow := Ow) hOw (fun a z => O4' a (own_wipe2 z)) go6 hD (m6.rel.wipe vs1) gD6 eD6 (kD.mono ((s4.ex.trans m5.ex).trans m6.ex)) h4 fun G7 H7 δ7 acc7 xs7 ex7 go7 rel7 sub7 g7 e7 k7 f7 => ?_
      refine fin (σx := wipe σ2 vs1) (by rw [wipe_wipe hvs, w2]) rel7 (fun j ds z => ?_) (ex6.trans ex7) go7 g7 e7 k7 f7
      obtain ⟨es, z⟩ := sub7 j ds z
      rcases wipeD_some z with z | ⟨_, z⟩
      · cases z
      · exact (Sub.trans m5.sub m6.sub) j es z
  · have e : i = items.length := by omega
    subst e
    rw [List.drop_length] at hw
    obtain ⟨r', s'⟩ := mrg_rel m.rel go rel sub
    exact .inl ⟨wk.stops Hc gd, q D xs acc (mrg δ1 δ' vs) G' Hc ⟨m.go.trans go fun a z => .inl ((own_wipe2 z).sub m.sub), r', m.sub.trans s'⟩ gD eD kD nD (m.go.st D hD) hw⟩
end
end Rx

namespace Rx
open PySem PySem.Spec PyProof.Rows L2 Dv
open Evl (Ex)
section
variable {K : PySem.W.Frag} {T : Tw} {G H G' H' G1 H1 G2 H2 : Hp} {σ : L2.St} {δ δ1 δ2 : Env} {v : V} {d : PyData}
theorem atI_da {xs : List V} {ds : List PyData} {i : Int} {x : PyData} (k : DaA G xs ds) (h : atI ds i = some x) : ∃ v, atI xs i = some v ∧ Da G v x := by
  unfold atI at h ⊢
  rw [k.length]
  cases q : ixN ds.length i with
  | none => rw [q] at h; cases h
  | some j =>
    rw [q] at h
    obtain ⟨v, hv, kv⟩ := k.get (show ds[j]? = some x from h)
    exact ⟨v, hv, kv⟩
theorem seqIx {j n : Nat} (h : j < n) : seqIndex? (j : Int) n = some j := by
  have h0 : ¬ ((j : Int) < 0) := by omega
  simp only [seqIndex?, h0, if_false]
  rw [if_pos (by simp [h])]
  simp
theorem daa_erase {G : Hp} : ∀ {vs : List V} {ds : List PyData} (i : Nat), DaA G vs ds → DaA G (vs.eraseIdx i) (ds.eraseIdx i)
  | _, _, _, .nil => .nil
  | _, _, 0, .cons _ k => k
  | _, _, i + 1, .cons h k => .cons h (daa_erase i k)
theorem olS_some {s : Option Sl} {ds : List PyData} (h : olS s = some ds) : s = some (.ol (.l ds)) := by
  unfold olS at h
  split at h
  · cases h; rfl
  · cases h
theorem rdS_at (r : Rel T σ δ G H) {i : Nat} {d : PyData} (h : rdS δ[i]? = some d) : ∃ v, σ[i]? = some (some v) ∧ Da G v d := by
  cases q : δ[i]? with
  | none => rw [q] at h; cases h
  | some s =>
    rw [q] at h
    have := r.sl i s q
    cases s with
    | sh d' => cases h; exact this
    | sp d' P => cases h; obtain ⟨v, e, k, _⟩ := this; exact ⟨v, e, k⟩
    | _ => cases h
theorem Mv.snd (p : Pre T G H) (r : Rel T σ δ G H) (m : Mv T σ δ G H δ1 G1 H1) (s : Stp T G1 H1 G2 H2) : Mv T σ δ G H δ1 G2 H2 := m.trans (Mv.stp m.pre m.rel s)
mutual
theorem E.ok : ∀ (e : E) (σ : L2.St) (δ : Env) (φ : PyData → Env → Prop), e.wp δ φ → Ev T (e.tr K) σ δ φ
  | .var i, σ, δ, φ, h => fun G H p r Q q => by
    have h' : (match rdS δ[i]? with | some d => φ d δ | none => False) := h
    cases e : rdS δ[i]? with
    | none => rw [e] at h'; exact h'.elim
    | some d =>
      rw [e] at h'
      obtain ⟨v, ev, k⟩ := rdS_at r e
      exact ⟨v, ev, q v d δ G H (Mv.refl p r) k h'⟩
  | .con v d k, σ, δ, φ, h => fun G H p r Q q => q v d δ G H (Mv.refl p r) (k G) h
  | .op o a b, σ, δ, φ, h => fun G H p r Q q =>
    E.ok a σ δ _ h G H p r _ fun x d δ1 G1 H1 m1 k1 h1 => E.ok b σ δ1 _ h1 G1 H1 m1.pre m1.rel _ fun y e δ2 G2 H2 m2 k2 h2 =>
      o.ok T d e _ h2 x y G2 H2 (k1.mono m2.ex) k2 m2.pre Q fun z f G3 H3 s k f' => q z f δ2 G3 H3 ((m1.trans m2).trans (Mv.stp m2.pre m2.rel s)) k f'
  | .un o a, σ, δ, φ, h => fun G H p r Q q =>
    E.ok a σ δ _ h G H p r _ fun x d δ1 G1 H1 m1 k1 h1 => o.ok T d _ h1 x G1 H1 k1 m1.pre Q fun z f G3 H3 s k f' => q z f δ1 G3 H3 (m1.trans (Mv.stp m1.pre m1.rel s)) k f'
  | .cb o as, σ, δ, φ, h => fun G H p r Q q =>
    A.ok as σ δ _ h G H p r _ fun xs ds δ1 G1 H1 m1 k1 h1 => o.ok T ds _ h1 xs G1 H1 k1 m1.pre Q fun z f G3 H3 s k f' => q z f δ1 G3 H3 (m1.trans (Mv.stp m1.pre m1.rel s)) k f'
  | .call R xk as, σ, δ, φ, h => fun G H p r Q q =>
    A.ok as σ δ _ h G H p r _ fun xs ds δ1 G1 H1 m1 k1 ⟨ψ, hR, hψ⟩ => ⟨G1, ds, ψ, m1.pre.none, by rw [List.append_nil]; exact k1, hR, fun z f G3 H3 s k f' => q z f δ1 G3 H3 (m1.trans (Mv.stp m1.pre m1.rel (s.any m1.pre))) k (hψ f f')⟩
  | .callF R xk as, σ, δ, φ, h => fun G H p r Q q =>
    A.ok as σ δ _ h G H p r _ fun xs ds δ1 G1 H1 m1 k1 ⟨d, hR, hd⟩ => ⟨G1, ds, d, m1.pre.none, by rw [List.append_nil]; exact k1, hR, fun z G3 H3 s k => q z d δ1 G3 H3 (m1.trans (Mv.stp m1.pre m1.rel (s.any m1.pre))) k hd⟩
  | .callG R xk i as, σ, δ, φ, h => fun G H p r Q q => by
    obtain ⟨hi, h⟩ := (show (match δ[i]? with | some Sl.src => True | _ => False) ∧ A.wp as δ _ from h)
    obtain ⟨S, C, eT, es⟩ : ∃ S C, T = some (S, C) ∧ σ[i]? = some (some (.ref S)) := by
      cases e : δ[i]? with
      | none => rw [e] at hi; exact hi.elim
      | some s =>
        rw [e] at hi
        cases s with
        | src => exact r.sl i _ e
        | _ => exact hi.elim
    refine ⟨_, es, A.ok as σ δ _ h G H p r _ fun xs ds δ1 G1 H1 m1 k1 ⟨ψ, hR, hψ⟩ => ?_⟩
    have p1 := m1.pre
    refine ⟨S, C, xs, G1, ds, ψ, by rw [List.append_nil], by rw [← eT]; exact p1, k1, hR, fun z f G3 H3 s k f' => ?_⟩
    rw [← eT] at s
    exact q z f δ1 G3 H3 (m1.trans (Mv.stp m1.pre m1.rel s)) k (hψ f f')
  | .callS R P xk i as, σ, δ, φ, h => fun G H p r Q q => by
    obtain ⟨d0, e0, h⟩ := h
    obtain ⟨v0, ev, k0, P0⟩ := r.sl i _ e0
    refine ⟨v0, ev, A.ok as σ δ _ h G H p r _ fun xs ds δ1 G1 H1 m1 k1 ⟨ψ, hR, hψ⟩ => ⟨G1, d0 :: ds, ψ, m1.pre.none, by rw [List.append_nil]; exact .cons (k0.mono m1.ex) k1, fun v e => ?_, hR, fun z f G3 H3 s k f' => q z f δ1 G3 H3 (m1.trans (Mv.stp m1.pre m1.rel (s.any m1.pre))) k (hψ f f')⟩⟩
    cases e
    exact P.up m1.ex P0
  | .tup as, σ, δ, φ, h => fun G H p r Q q =>
    A.ok as σ δ _ h G H p r _ fun xs ds δ1 G1 H1 m1 k1 ⟨hz, hφ⟩ => ⟨Evl.sz_of (by rw [k1.length]; exact hz), fun l hl => by
      have s := Stp.new m1.pre (.tup xs) hl
      exact q _ _ δ1 _ _ (m1.trans (Mv.stp m1.pre m1.rel s)) (.tup (.inl upd_same) (k1.mono s.ex)) hφ⟩
  | .fr f, σ, δ, φ, h => fun G H p r Q q =>
    F.ok f σ δ _ h G H p r _ fun l xs ds δ1 G1 H1 m1 g e k n hl f' => q _ _ δ1 _ H1 (Mv.tell r m1 g e n hl) (.lst upd_same (k.mono (Ex.new g))) f'
  | .and a b, σ, δ, φ, h => fun G H p r Q q =>
    E.ok a σ δ _ h G H p r _ fun x d δ1 G1 H1 m1 k1 h1 => by
      cases d with
      | bool c =>
        cases k1.blV
        refine ⟨c, rfl, ?_⟩
        cases c with
        | true => exact E.ok b σ δ1 _ h1 G1 H1 m1.pre m1.rel Q fun y e δ2 G2 H2 m2 k2 h2 => q y e δ2 G2 H2 (m1.trans m2) k2 h2
        | false => exact q _ _ δ1 G1 H1 m1 (.bl false) h1
      | _ => exact h1.elim
  | .or a b, σ, δ, φ, h => fun G H p r Q q =>
    E.ok a σ δ _ h G H p r _ fun x d δ1 G1 H1 m1 k1 h1 => by
      cases d with
      | bool c =>
        cases k1.blV
        refine ⟨c, rfl, ?_⟩
        cases c with
        | false => exact E.ok b σ δ1 _ h1 G1 H1 m1.pre m1.rel Q fun y e δ2 G2 H2 m2 k2 h2 => q y e δ2 G2 H2 (m1.trans m2) k2 h2
        | true => exact q _ _ δ1 G1 H1 m1 (.bl true) h1
      | _ => exact h1.elim
  | .not a, σ, δ, φ, h => fun G H p r Q q =>
    E.ok a σ δ _ h G H p r _ fun x d δ1 G1 H1 m1 k1 h1 => by
      cases d with
      | bool c =>
        cases k1.blV
        exact ⟨c, rfl, q _ _ δ1 G1 H1 m1 (.bl _) h1⟩
      | _ => exact h1.elim
  | .ife t a b, σ, δ, φ, h => fun G H p r Q q =>
    Ts.ok t σ δ _ h G H p r _ fun c δ1 G1 H1 m1 h1 => by
      cases c with
      | true => exact E.ok a σ δ1 _ h1 G1 H1 m1.pre m1.rel Q fun y e δ2 G2 H2 m2 k2 h2 => q y e δ2 G2 H2 (m1.trans m2) k2 h2
      | false => exact E.ok b σ δ1 _ h1 G1 H1 m1.pre m1.rel Q fun y e δ2 G2 H2 m2 k2 h2 => q y e δ2 G2 H2 (m1.trans m2) k2 h2
  | .ixO i e, σ, δ, φ, h => fun G H p r Q q => by
    obtain ⟨⟨ds0, e0⟩, h⟩ := h
    obtain ⟨l0, xs0, ev0, _⟩ := r.at_ol (olS_some e0)
    refine ⟨_, ev0, E.ok e σ δ _ h G H p r _ fun y d δ1 G1 H1 m1 k1 h1 => ?_⟩
    cases d with
    | int j =>
      cases e1 : olS δ1[i]? with
      | none => simp only [e1] at h1
      | some ds =>
        simp only [e1] at h1
        cases a1 : atI ds j with
        | none => simp only [a1] at h1
        | some x =>
          simp only [a1] at h1
          obtain ⟨l, xo, ev, g, eh, k, _⟩ := m1.rel.at_ol (olS_some e1)
          obtain ⟨xs, rfl, kl⟩ := k.lV
          rw [ev0] at ev; cases ev
          cases k1.intV
          obtain ⟨w, hw, kw⟩ := atI_da kl a1
          exact ⟨l0, xs, j, w, rfl, rfl, .inl (.inl eh), hw, q w x δ1 G1 H1 m1 kw h1⟩
    | _ => exact h1.elim
  | .lenO i, σ, δ, φ, h => fun G H p r Q q => by
    have h' : (match olS δ[i]? with | some ds => φ (.int ds.length) δ | none => False) := h
    cases e : olS δ[i]? with
    | none => rw [e] at h'; exact h'.elim
    | some ds =>
      rw [e] at h'
      obtain ⟨l, xo, ev, g, eh, k, _⟩ := r.at_ol (olS_some e)
      obtain ⟨xs, rfl, kl⟩ := k.lV
      exact ⟨_, ev, l, xs, rfl, .inl (.inl (.inl eh)), by rw [kl.length]; exact q _ _ δ G H (Mv.refl p r) (.int _) h'⟩
  | .popO i e, σ, δ, φ, h => fun G H p r Q q => by
    obtain ⟨⟨ds0, e0⟩, h⟩ := h
    obtain ⟨l0, xo0, ev0, g0, eh0, k0, _⟩ := r.at_ol (olS_some e0)
    obtain ⟨xs0, rfl, kl0⟩ := k0.lV
    refine ⟨_, ev0, .inl ⟨rfl, xs0, .inl (.inl eh0)⟩, E.ok e σ δ _ h G H p r _ fun y d δ1 G1 H1 m1 k1 h1 => ?_⟩
    cases d with
    | int j =>
      cases e1 : olS δ1[i]? with
      | none => simp only [e1] at h1
      | some ds =>
        simp only [e1] at h1
        obtain ⟨⟨j0, jz⟩, h1⟩ := h1
        cases a1 : ds[j.toNat]? with
        | none => simp only [a1] at h1
        | some x =>
          simp only [a1] at h1
          obtain ⟨l, xo, ev, g, eh, k, _⟩ := m1.rel.at_ol (olS_some e1)
          obtain ⟨xs, rfl, kl⟩ := k.lV
          rw [ev0] at ev; cases ev
          cases k1.intV
          obtain ⟨w, hw, kw⟩ := kl.get a1
          have hlt : j.toNat < xs.length := (List.getElem?_eq_some_iff.mp hw).1
          have hlen := kl.length
          have hix : seqIndex? j xs.length = some j.toNat := by
            have := seqIx hlt
            rw [show ((j.toNat : Nat) : Int) = j by omega] at this
            exact this
          exact ⟨l0, xs, j, j.toNat, w, rfl, rfl, eh, by omega, by omega, hix, hw, q w x _ G1 _ (m1.trans (Mv.upd m1.pre m1.rel (olS_some e1) ev0 (.l (daa_erase _ kl)))) kw h1⟩
    | _ => exact h1.elim
  | .dget i e, σ, δ, φ, h => fun G H p r Q q => by
    obtain ⟨⟨ds0, e0⟩, h⟩ := h
    obtain ⟨l0, xo0, ev0, _⟩ := r.at_ol (odS_some e0)
    refine ⟨_, ev0, E.ok e σ δ _ h G H p r _ fun y d δ1 G1 H1 m1 k1 h1 => ?_⟩
    cases ek : keyD d with
    | none => simp only [ek] at h1
    | some k =>
      cases e1 : odS δ1[i]? with
      | none => simp only [ek, e1] at h1
      | some kvs =>
        simp only [ek, e1] at h1
        obtain ⟨l, xo, ev, g, eh, kc, _⟩ := m1.rel.at_ol (odS_some e1)
        obtain ⟨ws, rfl, kd⟩ := kc.dV
        rw [ev0] at ev; cases ev
        have := keyD_v ek k1
        subst this
        rcases kd.val k with ⟨_, z⟩ | ⟨w, x, z1, z2, kx⟩
        · simp only [z] at h1
        · simp only [z2] at h1
          exact ⟨l0, w, rfl, .inl ⟨ws, k, .inl eh, rfl, z1.symm⟩, q w x δ1 G1 H1 m1 kx h1⟩
  | .din neg e i, σ, δ, φ, h => fun G H p r Q q => by
    have run : ∀ R : VK, (∀ y H1 l o, σ[i]? = some (some (.ref l)) → DGet H1 l y o → Q (.bl (if neg = true then !o.isSome else o.isSome)) H1 → R y H1) → E.tr K e σ H R := fun R hR => by
      refine E.ok e σ δ _ h G H p r _ fun y d δ1 G1 H1 m1 k1 h1 => ?_
      cases ek : keyD d with
      | none => simp only [ek] at h1
      | some k =>
        cases e1 : odS δ1[i]? with
        | none => simp only [ek, e1] at h1
        | some kvs =>
          simp only [ek, e1] at h1
          obtain ⟨l, xo, ev, g, eh, kc, _⟩ := m1.rel.at_ol (odS_some e1)
          obtain ⟨ws, rfl, kd⟩ := kc.dV
          have := keyD_v ek k1
          subst this
          refine hR _ H1 l _ ev (.inl ⟨ws, k, .inl eh, rfl, rfl⟩) ?_
          have es : (valV ws k).isSome = (valD kvs k).isSome := by
            rcases kd.val k with ⟨z1, z2⟩ | ⟨w, x, z1, z2, _⟩ <;> rw [z1, z2] <;> rfl
          rw [es]
          exact q _ _ δ1 G1 H1 m1 (.bl _) h1
    cases neg with
    | true => exact run _ fun y H1 l o ev hg hq => ⟨_, ev, l, o, rfl, hg, hq⟩
    | false => exact run _ fun y H1 l o ev hg hq => ⟨_, ev, l, o, rfl, hg, hq⟩
  | .inO neg e i, σ, δ, φ, h => fun G H p r Q q =>
    E.ok e σ δ _ h G H p r _ fun y d δ1 G1 H1 m1 k1 h1 => by
      cases d with
      | int j =>
        cases e1 : olS δ1[i]? with
        | none => simp only [e1] at h1
        | some ds =>
          simp only [e1] at h1
          obtain ⟨ns, rfl, h1⟩ := h1
          obtain ⟨l, xo, ev, g, eh, k, _⟩ := m1.rel.at_ol (olS_some e1)
          obtain ⟨xs, rfl, kl⟩ := k.lV
          cases kl.intsV
          cases k1.intV
          refine ⟨_, ev, l, _, rfl, .inl (.inl (.inl eh)), rfl, flat_ints ns, ?_⟩
          rw [inV_ints]
          cases neg <;> exact q _ _ δ1 G1 H1 m1 (.bl _) h1
      | _ => exact h1.elim
  | .xt x, σ, δ, φ, h => x.ok T σ δ φ h
theorem A.ok : ∀ (as : A) (σ : L2.St) (δ : Env) (φ : List PyData → Env → Prop), as.wp δ φ → EvA T (as.tr K) σ δ φ
  | .nil, σ, δ, φ, h => fun G H p r Q q => q [] [] δ G H (Mv.refl p r) .nil h
  | .cons e rs, σ, δ, φ, h => fun G H p r Q q =>
    E.ok e σ δ _ h G H p r _ fun x d δ1 G1 H1 m1 k1 h1 => A.ok rs σ δ1 _ h1 G1 H1 m1.pre m1.rel _ fun xs ds δ2 G2 H2 m2 k2 h2 => q (x :: xs) (d :: ds) δ2 G2 H2 (m1.trans m2) (.cons (k1.mono m2.ex) k2) h2
  | .star e rs, σ, δ, φ, h => fun G H p r Q q =>
    E.ok e σ δ _ h G H p r _ fun x d δ1 G1 H1 m1 k1 h1 => by
      cases d with
      | tuple es =>
        obtain ⟨a, xs, rfl, ga, kk⟩ := k1.tupV
        exact ⟨_, _, rfl, .inl (.inl (Evl.ex_rd m1.pre.1 ga)), A.ok rs σ δ1 _ h1 G1 H1 m1.pre m1.rel _ fun ys ds δ2 G2 H2 m2 k2 h2 => q _ _ δ2 G2 H2 (m1.trans m2) ((kk.mono m2.ex).app k2) h2⟩
      | list es =>
        obtain ⟨a, xs, rfl, ga, kk⟩ := k1.lstV
        exact ⟨_, _, rfl, .inr (.inl (.inl (m1.pre.1 _ _ ga))), A.ok rs σ δ1 _ h1 G1 H1 m1.pre m1.rel _ fun ys ds δ2 G2 H2 m2 k2 h2 => q _ _ δ2 G2 H2 (m1.trans m2) ((kk.mono m2.ex).app k2) h2⟩
      | _ => exact h1.elim
theorem Ts.ok : ∀ (t : Ts) (σ : L2.St) (δ : Env) (φ : Bool → Env → Prop), t.wp δ φ → EvT T (t.tr K) σ δ φ
  | .yes, σ, δ, φ, h => fun G H p r Q q => q true δ G H (Mv.refl p r) h
  | .tst e, σ, δ, φ, h => fun G H p r Q q =>
    E.ok e σ δ _ h G H p r _ fun x d δ1 G1 H1 m1 k1 h1 => by
      cases d with
      | bool c =>
        cases k1.blV
        exact ⟨c, rfl, q c δ1 G1 H1 m1 h1⟩
      | _ => exact h1.elim
  | .tb e, σ, δ, φ, h => fun G H p r Q q =>
    E.ok e σ δ _ h G H p r _ fun x d δ1 G1 H1 m1 k1 h1 => by
      cases d with
      | bool c =>
        cases k1.blV
        exact ⟨c, rfl, q c δ1 G1 H1 m1 h1⟩
      | _ => exact h1.elim
  | .and a b, σ, δ, φ, h => fun G H p r Q q =>
    Ts.ok a σ δ _ h G H p r _ fun c δ1 G1 H1 m1 h1 => by
      cases c with
      | true => exact Ts.ok b σ δ1 _ h1 G1 H1 m1.pre m1.rel Q fun e δ2 G2 H2 m2 h2 => q e δ2 G2 H2 (m1.trans m2) h2
      | false => exact q false δ1 G1 H1 m1 h1
  | .or a b, σ, δ, φ, h => fun G H p r Q q =>
    Ts.ok a σ δ _ h G H p r _ fun c δ1 G1 H1 m1 h1 => by
      cases c with
      | false => exact Ts.ok b σ δ1 _ h1 G1 H1 m1.pre m1.rel Q fun e δ2 G2 H2 m2 h2 => q e δ2 G2 H2 (m1.trans m2) h2
      | true => exact q true δ1 G1 H1 m1 h1
  | .not a, σ, δ, φ, h => fun G H p r Q q => Ts.ok a σ δ _ h G H p r _ fun c δ1 G1 H1 m1 h1 => q (!c) δ1 G1 H1 m1 h1
  | .tru i, σ, δ, φ, h => fun G H p r Q q => by
    have h' : (match δ[i]? with | some (.ol (.l ds)) => φ (!ds.isEmpty) δ | some (.sh (.list ds)) => φ (!ds.isEmpty) δ | _ => False) := h
    have em : ∀ {xs : List V} {ds : List PyData}, DaA G xs ds → (!ds.isEmpty) = !xs.isEmpty := fun k => by cases k <;> rfl
    cases e : δ[i]? with
    | none => rw [e] at h'; exact h'.elim
    | some s =>
      rw [e] at h'
      cases s with
      | ol c =>
        cases c with
        | d _ => exact h'.elim
        | l ds =>
        obtain ⟨l, xo, ev, g, eh, k, _⟩ := r.at_ol e
        obtain ⟨xs, rfl, kl⟩ := k.lV
        exact ⟨_, ev, !ds.isEmpty, .inl ⟨xs, .inl (.inl eh), em kl⟩, q _ δ G H (Mv.refl p r) h'⟩
      | sh d =>
        cases d with
        | list ds =>
          obtain ⟨v, ev, k⟩ := r.sl i _ e
          obtain ⟨a, xs, rfl, ga, kk⟩ := k.lstV
          exact ⟨_, ev, !ds.isEmpty, .inl ⟨xs, .inl (.inl (p.1 _ _ ga)), em kk⟩, q _ δ G H (Mv.refl p r) h'⟩
        | _ => exact h'.elim
      | _ => exact h'.elim
theorem F.ok : ∀ (f : F) (σ : L2.St) (δ : Env) (φ : List PyData → Env → Prop), f.wp δ φ → EvF T (f.tr K) σ δ φ
  | .lst as, σ, δ, φ, h => fun G H p r Q q =>
    A.ok as σ δ _ h G H p r _ fun xs ds δ1 G1 H1 m1 k1 ⟨hz, hφ⟩ => ⟨Evl.sz_of (by rw [k1.length]; exact hz), fun l hl => by
      have gn : Go T (fun _ => False) G1 H1 G1 (upd H1 l (.lst xs)) := go_new m1.pre hl
      exact q l xs ds δ1 G1 _ (m1.trans ⟨go_new m1.pre hl, m1.rel.go gn fun _ _ z => z, Sub.refl⟩) (Evl.fresh_back m1.pre.1 hl) upd_same k1 (ns_fresh m1.pre hl) (m1.go.st l hl) hφ⟩
  | .cb o as, σ, δ, φ, h => fun G H p r Q q =>
    A.ok as σ δ _ h G H p r _ fun xs ds δ1 G1 H1 m1 k1 h1 => o.ok T ds _ h1 xs G1 H1 k1 m1.pre Q fun l zs es hl kz f => by
      have gn : Go T (fun _ => False) G1 H1 G1 (upd H1 l (.lst zs)) := go_new m1.pre hl
      exact q l zs es δ1 G1 _ (m1.trans ⟨go_new m1.pre hl, m1.rel.go gn fun _ _ z => z, Sub.refl⟩) (Evl.fresh_back m1.pre.1 hl) upd_same kz (ns_fresh m1.pre hl) (m1.go.st l hl) f
  | .op o a b, σ, δ, φ, h => fun G H p r Q q =>
    E.ok a σ δ _ h G H p r _ fun x d δ1 G1 H1 m1 k1 h1 => E.ok b σ δ1 _ h1 G1 H1 m1.pre m1.rel _ fun y e δ2 G2 H2 m2 k2 h2 => o.ok T d e _ h2 x y G2 H2 (k1.mono m2.ex) k2 m2.pre Q fun l zs es hl kz f => by
      have gn : Go T (fun _ => False) G2 H2 G2 (upd H2 l (.lst zs)) := go_new m2.pre hl
      exact q l zs es δ2 G2 _ ((m1.trans m2).trans ⟨go_new m2.pre hl, m2.rel.go gn fun _ _ z => z, Sub.refl⟩) (Evl.fresh_back m2.pre.1 hl) upd_same kz (ns_fresh m2.pre hl) ((m1.trans m2).go.st l hl) f
  | .sl o e lo hi, σ, δ, φ, h => fun G H p r Q q =>
    E.ok e σ δ _ h G H p r _ fun x d δ1 G1 H1 m1 k1 h1 => Pt.ok lo σ δ1 _ h1 G1 H1 m1.pre m1.rel _ fun l δ2 G2 H2 m2 h2 => Pt.ok hi σ δ2 _ h2 G2 H2 m2.pre m2.rel _ fun u δ3 G3 H3 m3 h3 =>
      o.ok T d l u _ h3 x G3 H3 ((k1.mono m2.ex).mono m3.ex) m3.pre Q fun l zs es hl kz f => by
      have gn : Go T (fun _ => False) G3 H3 G3 (upd H3 l (.lst zs)) := go_new m3.pre hl
      have mm := (m1.trans m2).trans m3
      exact q l zs es δ3 G3 _ (mm.trans ⟨go_new m3.pre hl, m3.rel.go gn fun _ _ z => z, Sub.refl⟩) (Evl.fresh_back m3.pre.1 hl) upd_same kz (ns_fresh m3.pre hl) (mm.go.st l hl) f
  | .lc it g t e vs, σ, δ, φ, h => lc_ok (fun σ δ φ => I.ok it σ δ φ) (Tg.ok g) (fun σ δ φ => Ts.ok t σ δ φ) (fun σ δ φ => E.ok e σ δ φ) h.1 h.2
  | .lc2 it g t it1 g1 t1 e vs vs1, σ, δ, φ, h => lc2_ok (fun σ δ φ => I.ok it σ δ φ) (Tg.ok g) (fun σ δ φ => Ts.ok t σ δ φ) (fun σ δ φ => I.ok it1 σ δ φ) (Tg.ok g1) (fun σ δ φ => Ts.ok t1 σ δ φ) (fun σ δ φ => E.ok e σ δ φ) h.1.1 h.1.2.1 h.1.2.2 h.2
  | .xt x, σ, δ, φ, h => x.ok T σ δ φ h
theorem I.ok : ∀ (i : I) (σ : L2.St) (δ : Env) (φ : List PyData → Env → Prop), i.wp δ φ → EvI T (i.tr K) σ δ φ
  | .it o e, σ, δ, φ, h => fun G H p r Q q =>
    E.ok e σ δ _ h G H p r _ fun x d δ1 G1 H1 m1 k1 h1 => by
      cases z : o.sem d with
      | none => rw [z] at h1; exact h1.elim
      | some items =>
        rw [z] at h1
        exact o.ok T x d items G1 H1 k1 m1.pre z Q fun J w => q J items δ1 G1 H1 m1 w h1
  | .ita o as, σ, δ, φ, h => fun G H p r Q q =>
    A.ok as σ δ _ h G H p r _ fun xs ds δ1 G1 H1 m1 k1 h1 => by
      cases z : o.sem ds with
      | none => rw [z] at h1; exact h1.elim
      | some items =>
        rw [z] at h1
        exact o.ok T xs ds items G1 H1 k1 m1.pre z Q fun J w => q J items δ1 G1 H1 m1 w h1
theorem Pt.ok : ∀ (o : Pt) (σ : L2.St) (δ : Env) (φ : Option Int → Env → Prop), o.wp δ φ → EvO T (o.tr K) σ δ φ
  | .no, σ, δ, φ, h => fun G H p r Q q => q none δ G H (Mv.refl p r) h
  | .at e, σ, δ, φ, h => fun G H p r Q q =>
    E.ok e σ δ _ h G H p r _ fun x d δ1 G1 H1 m1 k1 h1 => by
      cases d with
      | int i =>
        cases k1.intV
        exact ⟨i, rfl, q (some i) δ1 G1 H1 m1 h1⟩
      | _ => exact h1.elim
end
end
end Rx

namespace Rx
open PySem PySem.Spec PyProof.Rows L2 Dv
open Evl (Ex)
/-! several values at once -/
inductive Pi where
  | ex (x : E)
  | fr (x : F)
  | nd
def Pi.tr (K : PySem.W.Frag) : Pi → TE
  | .ex x => x.tr K
  | .fr x => x.tr K
  | .nd => tDNewK
def piA (K : PySem.W.Frag) : List Pi → TA
  | [] => tNil
  | p :: ps => tCons (p.tr K) (piA K ps)
def Pi.wp : Pi → Env → (Sl → Env → Prop) → Prop
  | .ex x, δ, φ => x.wp δ fun d δ1 => φ (.sh d) δ1
  | .fr x, δ, φ => x.wp δ fun ds δ1 => φ (.ol (.l ds)) δ1
  | .nd, δ, φ => φ (.ol (.d [])) δ
def piW : List Pi → Env → (List Sl → Env → Prop) → Prop
  | [], δ, φ => φ [] δ
  | p :: ps, δ, φ => p.wp δ fun s δ1 => piW ps δ1 fun ss δ2 => φ (s :: ss) δ2
/-- a value that waits for its slot -/
def PdS (T : Tw) (G H : Hp) (v : V) : Sl → Prop
  | .sh d => Da G v d
  | .ol c => ∃ l o, v = .ref l ∧ G l = none ∧ H l = some o ∧ CtR G o c ∧ NS T l
  | _ => False
def isOl : Sl → Prop
  | .ol _ => True
  | _ => False
inductive Pds (T : Tw) (G H : Hp) : List V → List Sl → Prop
  | nil : Pds T G H [] []
  | cons {v : V} {s : Sl} {vs : List V} {ss : List Sl} : PdS T G H v s → (∀ (i : Nat) (t : Sl), ss[i]? = some t → isOl s → isOl t → vs[i]? ≠ some v) → Pds T G H vs ss → Pds T G H (v :: vs) (s :: ss)
def setP : List Nat → List Sl → Env → Env
  | j :: js, s :: ss, δ => setP js ss (δ.set j s)
  | _, _, δ => δ
def setV : List Nat → List V → L2.St → L2.St
  | j :: js, v :: vs, σ => setV js vs (σ.set j (some v))
  | _, _, σ => σ
/-! statements -/
structure Post where
  nx : Env → Prop
  rt : PyData → Prop
  bk : Env → Prop := fun _ => False
  ct : Env → Prop := fun _ => False
/-! what stands while a def runs -/
structure Sta (T : Tw) (G0 H0 : Hp) (σ : L2.St) (δ : Env) (G H : Hp) : Prop where
  go : Go T (fun _ => False) G0 H0 G H
  rel : Rel T σ δ G H
  own : ∀ a, Own σ δ a → H0 a = none
structure EndR (T : Tw) (G0 H0 G : Hp) (D : Ends) (P : Post) : Prop where
  nx : ∀ σ' δ' G' H', Ex G G' → Sta T G0 H0 σ' δ' G' H' → P.nx δ' → D.nx σ' H'
  rt : ∀ v d G' H', Go T (fun _ => False) G0 H0 G' H' → Da G' v d → P.rt d → D.rt v H'
  bk : ∀ σ' δ' G' H', Ex G G' → Sta T G0 H0 σ' δ' G' H' → P.bk δ' → D.bk σ' H'
  ct : ∀ σ' δ' G' H', Ex G G' → Sta T G0 H0 σ' δ' G' H' → P.ct δ' → D.ct σ' H'
def EvS (T : Tw) (ts : TS) (δ : Env) (P : Post) : Prop := ∀ G0 H0 σ G H, Sta T G0 H0 σ δ G H → ∀ D : Ends, EndR T G0 H0 G D P → ts D σ H
structure XS where
  tr : TS
  wp : Env → Post → Prop
  ok : ∀ (T : Tw) (δ : Env) (P : Post), wp δ P → EvS T tr δ P
inductive S : Type
  | next
  | seq (a b : S)
  | asg (g : Tg) (e : E)
  | own (i : Nat) (f : F)
  | ownD (i : Nat)
  | par2 (i j : Nat) (p q : Pi)
  | par3 (i j l : Nat) (p q r : Pi)
  | aug (i : Nat) (o : O2) (e : E)
  | ret (e : E)
  | drop (e : E)
  | app (i : Nat) (e : E)
  | ext (i : Nat) (e : E)
  | setO (i : Nat) (j e : E)
  | putO (i : Nat) (k e : E)
  | ifS (t : Ts) (a b : S)
  | for (it : I) (g : Tg) (b : S)
  | while (t : Ts) (b : S)
  | brk
  | cnt
  | tell (i : Nat) (s : S)
  | never
  | xt (x : XS)
def S.tr (K : PySem.W.Frag) : S → TS
  | .next => tNext
  | .seq a b => tSeq (a.tr K) (b.tr K)
  | .asg g e => tAsg (e.tr K) (g.tr K)
  | .own i f => tAsg (f.tr K) (gName i)
  | .ownD i => tAsg tDNewK (gName i)
  | .par2 i j p q => tPar i j (piA K [p, q])
  | .par3 i j l p q r => tPar3 i j l (piA K [p, q, r])
  | .aug i o e => tAug i (e.tr K) o.tr
  | .ret e => tRet (e.tr K)
  | .drop e => tDrop (e.tr K)
  | .app i e => tDrop (tBM K "list" rAppend (tVar i) (tCons (e.tr K) tNil))
  | .ext i e => tDrop (tBM K "list" rExtend (tVar i) (tCons (e.tr K) tNil))
  | .setO i j e => tAsg (e.tr K) (gSub (tVar i) (j.tr K) rSetL)
  | .putO i k e => sDPut (tVar i) (k.tr K) (e.tr K)
  | .ifS t a b => tIfS (t.tr K) (a.tr K) (b.tr K)
  | .for it g b => tFor (it.tr K) (g.tr K) (b.tr K)
  | .while t b => tWhile (t.tr K) (b.tr K)
  | .brk => tBreak
  | .cnt => tCont
  | .tell _ s => s.tr K
  | .never => tNever
  | .xt x => x.tr
def forW (g : PyData → Env → (Env → Prop) → Prop) (b : Env → Post → Prop) (P : Post) : List PyData → Env → Prop
  | [], δ => P.nx δ
  | d :: ds, δ => g d δ fun δ1 => b δ1 { nx := forW g b P ds, rt := P.rt, bk := P.nx, ct := forW g b P ds }
def S.wp : S → Env → Post → Prop
  | .next, δ, P => P.nx δ
  | .seq a b, δ, P => a.wp δ { P with nx := fun δ1 => b.wp δ1 P }
  | .asg g e, δ, P => e.wp δ fun d δ1 => g.wp d δ1 P.nx
  | .own i f, δ, P => f.wp δ fun ds δ1 => P.nx (δ1.set i (.ol (.l ds)))
  | .ownD i, δ, P => P.nx (δ.set i (.ol (.d [])))
  | .par2 i j p q, δ, P => piW [p, q] δ fun ss δ1 => P.nx (setP [i, j] ss δ1)
  | .par3 i j l p q r, δ, P => piW [p, q, r] δ fun ss δ1 => P.nx (setP [i, j, l] ss δ1)
  | .aug i o e, δ, P => ∃ x, δ[i]? = some (.sh x) ∧ e.wp δ fun d δ1 => o.sem x d fun r => P.nx (δ1.set i (.sh r))
  | .ret e, δ, P => e.wp δ fun d _ => P.rt d
  | .drop e, δ, P => e.wp δ fun _ δ1 => P.nx δ1
  | .app i e, δ, P => (∃ ds, olS δ[i]? = some ds) ∧ e.wp δ fun d δ1 => match olS δ1[i]? with
    | some ds => ds.length ≤ 50000 ∧ P.nx (δ1.set i (.ol (.l (ds ++ [d]))))
    | none => False
  | .ext i e, δ, P => (∃ ds, olS δ[i]? = some ds) ∧ e.wp δ fun d δ1 => match d, olS δ1[i]? with
    | .list es, some ds => ds.length + es.length ≤ 100000 ∧ P.nx (δ1.set i (.ol (.l (ds ++ es))))
    | _, _ => False
  | .setO i j e, δ, P => (∃ ds, olS δ[i]? = some ds) ∧ e.wp δ fun d δ1 => j.wp δ1 fun z δ2 => match z, olS δ2[i]? with
    | .int k, some ds => (0 ≤ k ∧ k < ds.length) ∧ P.nx (δ2.set i (.ol (.l (ds.set k.toNat d))))
    | _, _ => False
  | .putO i k e, δ, P => e.wp δ fun d δ1 => (∃ kvs, odS δ1[i]? = some kvs) ∧ k.wp δ1 fun z δ2 => match keyD z, odS δ2[i]? with
    | some k, some kvs => kvs.length ≤ 50000 ∧ P.nx (δ2.set i (.ol (.d (putD kvs k d))))
    | _, _ => False
  | .ifS t a b, δ, P => t.wp δ fun c δ1 => if c = true then a.wp δ1 P else b.wp δ1 P
  | .for it g b, δ, P => it.wp δ fun items δ1 => forW g.wp b.wp P items δ1
  | .while t b, δ, P => ∃ W : Nat → Env → Prop, (∃ m, W m δ) ∧ ∀ m δ, W m δ → t.wp δ fun c δ1 => if c = true then b.wp δ1 { nx := fun δ2 => ∃ m', m' < m ∧ W m' δ2, rt := P.rt, bk := P.nx, ct := fun δ2 => ∃ m', m' < m ∧ W m' δ2 } else P.nx δ1
  | .brk, δ, P => P.bk δ
  | .cnt, δ, P => P.ct δ
  | .tell i s, δ, P => match olS δ[i]? with
    | some ds => s.wp (δ.set i (.sh (.list ds))) P
    | none => False
  | .never, _, _ => False
  | .xt x, δ, P => x.wp δ P
section
variable {K : PySem.W.Frag} {T : Tw} {G H G' H' G1 H1 G2 H2 G0 H0 : Hp} {σ σ' : L2.St} {δ δ1 δ2 : Env} {v : V} {d : PyData} {D : Ends} {P : Post}
theorem Sta.pre (s : Sta T G0 H0 σ δ G H) : Pre T G H := s.go.pre
theorem Sta.mv (s : Sta T G0 H0 σ δ G H) (m : Mv T σ δ G H δ1 G1 H1) : Sta T G0 H0 σ δ1 G1 H1 :=
  ⟨s.go.trans m.go fun a z => .inr (s.own a z), m.rel, fun a z => s.own a (z.sub m.sub)⟩
theorem EndR.mono (e : EndR T G0 H0 G D P) (x : Ex G G') : EndR T G0 H0 G' D P :=
  ⟨fun σ δ G1 H1 y => e.nx σ δ G1 H1 (x.trans y), e.rt, fun σ δ G1 H1 y => e.bk σ δ G1 H1 (x.trans y), fun σ δ G1 H1 y => e.ct σ δ G1 H1 (x.trans y)⟩
theorem Sta.sh (s : Sta T G0 H0 σ δ G H) (i : Nat) (k : Da G v d) : Sta T G0 H0 (σ.set i (some v)) (δ.set i (.sh d)) G H :=
  ⟨s.go, s.rel.sh i k, fun a z => by
    rcases own_set z s.rel.len with ⟨ds, e, _⟩ | z
    · cases e
    · exact s.own a z⟩
theorem Sta.tg (s : Sta T G0 H0 σ δ G H) {g : Tg} (k : Da G v d) {ψ : Env → Prop} (h : g.wp d δ ψ) {Q : L2.St → Hp → Prop} (q : ∀ σ' δ', Sta T G0 H0 σ' δ' G H → ψ δ' → Q σ' H) : g.tr K v σ H Q :=
  Tg.ok g v d σ δ G H ψ k s.pre s.rel h Q fun σ' δ' r own _ f => q σ' δ' ⟨s.go, r, fun a ⟨i, ds, z1, z2⟩ => by
    obtain ⟨e1, e2⟩ := own i ds z1
    exact s.own a ⟨i, ds, e1, by rw [← e2]; exact z2⟩⟩ f
/-- values that wait -/
theorem PdS.mono {s : Sl} (p : PdS T G H v s) (m : Go T (Own σ δ) G H G1 H1) (n : ∀ a, isOl s → v = .ref a → ¬ Own σ δ a) : PdS T G1 H1 v s := by
  cases s with
  | sh d => exact Da.mono m.ex p
  | ol c =>
    obtain ⟨l, o, rfl, g, h, k, ns⟩ := p
    obtain ⟨g1, h1⟩ := m.ap l o g h ns.t (n l trivial rfl)
    exact ⟨l, o, rfl, g1, h1, k.mono m.ex, ns⟩
  | _ => exact p.elim
/-- evaluated from the left: what waits is new -/
def EvPs (T : Tw) (ta : TA) (σ : L2.St) (δ : Env) (n : Nat) (φ : List Sl → Env → Prop) : Prop := ∀ G H, Pre T G H → Rel T σ δ G H → ∀ Q : List V → Hp → Prop, (∀ vs ss δ2 G2 H2, Mv T σ δ G H δ2 G2 H2 → vs.length = n → Pds T G2 H2 vs ss → (∀ (i : Nat) (t : Sl) (a : Addr), ss[i]? = some t → isOl t → vs[i]? = some (.ref a) → H a = none) → φ ss δ2 → Q vs H2) → ta σ H Q
theorem Pi.ok (p : Pi) (σ : L2.St) (δ : Env) (φ : Sl → Env → Prop) (h : p.wp δ φ) : ∀ G H, Pre T G H → Rel T σ δ G H → ∀ Q : VK, (∀ v s δ2 G2 H2, Mv T σ δ G H δ2 G2 H2 → PdS T G2 H2 v s → (∀ a, isOl s → v = .ref a → H a = none) → φ s δ2 → Q v H2) → p.tr K σ H Q := fun G H pr r Q q => by
  cases p with
  | ex e =>
    refine E.ok e σ δ _ h G H pr r Q fun v d δ2 G2 H2 m k f => q v (.sh d) δ2 G2 H2 m k (fun _ z => ?_) f
    exact z.elim
  | fr f => exact F.ok f σ δ _ h G H pr r Q fun l xs ds δ2 G2 H2 m g e k n hl f => q _ (.ol (.l ds)) δ2 G2 H2 m ⟨l, _, rfl, g, e, .l k, n⟩ (fun a _ z => by cases z; exact hl) f
  | nd =>
    intro l hl
    have gn : Go T (fun _ => False) G H G (upd H l (.dK [])) := go_new pr hl
    exact q _ (.ol (.d [])) δ G _ ⟨go_new pr hl, r.go gn fun _ _ z => z, Sub.refl⟩ ⟨l, _, rfl, Evl.fresh_back pr.1 hl, upd_same, .d .nil, ns_fresh pr hl⟩ (fun a _ z => by cases z; exact hl) h
theorem piA_ok : ∀ (ps : List Pi) (σ : L2.St) (δ : Env) (φ : List Sl → Env → Prop), piW ps δ φ → EvPs T (piA K ps) σ δ ps.length φ
  | [], σ, δ, φ, h => fun G H p r Q q => q [] [] δ G H (Mv.refl p r) rfl .nil (fun i t a e => by simp at e) h
  | p :: ps, σ, δ, φ, h => fun G H pr r Q q => Pi.ok p σ δ _ h G H pr r _ fun v s δ1 G1 H1 m1 k1 n1 h1 => piA_ok ps σ δ1 _ h1 G1 H1 m1.pre m1.rel _ fun vs ss δ2 G2 H2 m2 l2 k2 n2 h2 => by
    have nw : ∀ a, isOl s → v = .ref a → H1 a ≠ none := fun a z e => by
      subst e
      cases s with
      | ol c => obtain ⟨l, o, e, _, h, _⟩ := k1; cases e; rw [h]; simp
      | _ => exact z.elim
    refine q (v :: vs) (s :: ss) δ2 G2 H2 (m1.trans m2) (congrArg (· + 1) l2) (.cons (k1.mono m2.go fun a z e ow => ?_) (fun i t et z1 z2 ev => ?_) k2) (fun i t a et z ev => ?_) h2
    · obtain ⟨xs, _, q', _⟩ := r.own (ow.sub m1.sub)
      rw [n1 a z e] at q'; cases q'
    · cases s with
      | ol c =>
        obtain ⟨l, o, rfl, _, hh, _⟩ := k1
        rw [n2 i t l et z2 ev] at hh; cases hh
      | _ => exact z1.elim
    · cases i with
      | zero => simp at et ev; subst et; exact n1 a z ev
      | succ i => exact m1.go.st a (n2 i t a (by simpa using et) z (by simpa using ev))
end
end Rx

namespace Rx
open PySem PySem.Spec PyProof.Rows L2 Dv
open Evl (Ex)
section
variable {K : PySem.W.Frag} {T : Tw} {G H G' H' G1 H1 G2 H2 G0 H0 : Hp} {σ σ' : L2.St} {δ δ1 δ2 : Env} {v : V} {d : PyData} {D : Ends} {P : Post}
theorem Sta.ol (s : Sta T G0 H0 σ δ G H) (i : Nat) {l : Addr} {o : HO} {c : Ct} (g : G l = none) (e : H l = some o) (k : CtR G o c) (n : NS T l) (no : ¬ Own σ δ l) (h0 : H0 l = none) : Sta T G0 H0 (σ.set i (some (.ref l))) (δ.set i (.ol c)) G H :=
  ⟨s.go, s.rel.ol i g e k n no, fun a z => by
    rcases own_set z s.rel.len with ⟨ds, _, e⟩ | z
    · cases e; exact h0
    · exact s.own a z⟩
theorem Sta.setP : ∀ {js : List Nat} {vs : List V} {ss : List Sl} {σ : L2.St} {δ : Env}, js.length = vs.length → Pds T G H vs ss → Sta T G0 H0 σ δ G H → (∀ (i : Nat) (t : Sl) (a : Addr), ss[i]? = some t → isOl t → vs[i]? = some (.ref a) → H0 a = none ∧ ¬ Own σ δ a) → Sta T G0 H0 (setV js vs σ) (setP js ss δ) G H
  | [], [], _, σ, δ, _, .nil, s, _ => s
  | j :: js, v :: vs, sl :: ss, σ, δ, hl, .cons p dd r, s, hn => by
    have hl' : js.length = vs.length := by simpa using hl
    cases sl with
    | sh d =>
      refine Sta.setP (js := js) hl' r (s.sh j p) fun i t a e1 e2 e3 => ?_
      obtain ⟨q1, q2⟩ := hn (i + 1) t a (by simpa using e1) e2 (by simpa using e3)
      refine ⟨q1, fun z => ?_⟩
      rcases own_set z s.rel.len with ⟨ds, e, _⟩ | z
      · cases e
      · exact q2 z
    | ol c =>
      obtain ⟨l, o, rfl, g, e, k, n⟩ := p
      obtain ⟨q1, q2⟩ := hn 0 _ l rfl trivial rfl
      refine Sta.setP (js := js) hl' r (s.ol j g e k n q2 q1) fun i t a e1 e2 e3 => ?_
      obtain ⟨q3, q4⟩ := hn (i + 1) t a (by simpa using e1) e2 (by simpa using e3)
      refine ⟨q3, fun z => ?_⟩
      rcases own_set z s.rel.len with ⟨ds, _, e⟩ | z
      · cases e
        exact dd i t e1 trivial e2 e3
      · exact q4 z
    | _ => exact p.elim
theorem S.ok : ∀ (s : S) (δ : Env) (P : Post), s.wp δ P → EvS T (s.tr K) δ P
  | .next, δ, P, h => fun G0 H0 σ G H st D e => e.nx σ δ G H (Ex.refl _) st h
  | .seq a b, δ, P, h => fun G0 H0 σ G H st D e => S.ok a δ _ h G0 H0 σ G H st _ ⟨fun σ' δ' G' H' x st' h' => S.ok b δ' P h' G0 H0 σ' G' H' st' D (e.mono x), e.rt, e.bk, e.ct⟩
  | .asg g x, δ, P, h => fun G0 H0 σ G H st D e => E.ok x σ δ _ h G H st.pre st.rel _ fun v d δ1 G1 H1 m k h1 => (st.mv m).tg k h1 fun σ' δ' st' f => e.nx σ' δ' G1 H1 m.ex st' f
  | .own i f, δ, P, h => fun G0 H0 σ G H st D e => F.ok f σ δ _ h G H st.pre st.rel _ fun l xs ds δ1 G1 H1 m g eh k n hl f' =>
      e.nx _ _ G1 H1 m.ex ((st.mv m).ol i g eh (.l k) n (fun z => by
        obtain ⟨o, _, q, _⟩ := st.rel.own (z.sub m.sub)
        rw [hl] at q; cases q) (st.go.st l hl)) f'
  | .ownD i, δ, P, h => fun G0 H0 σ G H st D e => fun l hl => by
      have gn : Go T (fun _ => False) G H G (upd H l (.dK [])) := go_new st.pre hl
      have m : Mv T σ δ G H δ G (upd H l (.dK [])) := ⟨go_new st.pre hl, st.rel.go gn fun _ _ z => z, Sub.refl⟩
      exact e.nx _ _ G _ (Ex.refl _) ((st.mv m).ol i (Evl.fresh_back st.pre.1 hl) upd_same (.d .nil) (ns_fresh st.pre hl) (fun z => by
        obtain ⟨o, _, q, _⟩ := st.rel.own z
        rw [hl] at q; cases q) (st.go.st l hl)) h
  | .par2 i j p q, δ, P, h => fun G0 H0 σ G H st D e => by
    show tPar i j (piA K [p, q]) D σ H
    exact piA_ok (K := K) [p, q] σ δ _ h G H st.pre st.rel _ fun vs ss δ1 G1 H1 m hl pd n f => by
      have st1 := Sta.setP (js := [i, j]) (by rw [hl]; rfl) pd (st.mv m) fun k t a e1 e2 e3 => ⟨st.go.st a (n k t a e1 e2 e3), fun z => by
        obtain ⟨o, _, q, _⟩ := st.rel.own (z.sub m.sub)
        rw [n k t a e1 e2 e3] at q; cases q⟩
      match vs, hl, st1 with
      | [v, w], _, st1 => exact ⟨v, w, rfl, e.nx _ _ G1 H1 m.ex st1 f⟩
  | .par3 i j l p q r, δ, P, h => fun G0 H0 σ G H st D e => by
    show tPar3 i j l (piA K [p, q, r]) D σ H
    exact piA_ok (K := K) [p, q, r] σ δ _ h G H st.pre st.rel _ fun vs ss δ1 G1 H1 m hl pd n f => by
      have st1 := Sta.setP (js := [i, j, l]) (by rw [hl]; rfl) pd (st.mv m) fun k t a e1 e2 e3 => ⟨st.go.st a (n k t a e1 e2 e3), fun z => by
        obtain ⟨o, _, q, _⟩ := st.rel.own (z.sub m.sub)
        rw [n k t a e1 e2 e3] at q; cases q⟩
      match vs, hl, st1 with
      | [v, w, u], _, st1 => exact ⟨v, w, u, rfl, e.nx _ _ G1 H1 m.ex st1 f⟩
  | .aug i o x, δ, P, h => fun G0 H0 σ G H st D e => by
      obtain ⟨d0, e0, h⟩ := h
      obtain ⟨v0, ev, k0⟩ := st.rel.sl i _ e0
      exact ⟨v0, ev, E.ok x σ δ _ h G H st.pre st.rel _ fun v d δ1 G1 H1 m k h1 => o.ok T d0 d _ h1 v0 v G1 H1 (k0.mono m.ex) k m.pre _ fun z r G2 H2 s kr f =>
        e.nx _ _ G2 H2 (m.ex.trans s.ex) ((st.mv (m.trans (Mv.stp m.pre m.rel s))).sh i kr) f⟩
  | .ret x, δ, P, h => fun G0 H0 σ G H st D e => E.ok x σ δ _ h G H st.pre st.rel _ fun v d δ1 G1 H1 m k h1 => e.rt v d G1 H1 (st.mv m).go k h1
  | .drop x, δ, P, h => fun G0 H0 σ G H st D e => E.ok x σ δ _ h G H st.pre st.rel _ fun v d δ1 G1 H1 m k h1 => e.nx σ δ1 G1 H1 m.ex (st.mv m) h1
  | .app i x, δ, P, h => fun G0 H0 σ G H st D e => by
      obtain ⟨⟨ds0, e0⟩, h⟩ := h
      obtain ⟨l0, xo0, ev0, g0, eh0, k0, _⟩ := st.rel.at_ol (olS_some e0)
      obtain ⟨xs0, rfl, kl0⟩ := k0.lV
      refine ⟨_, ev0, .inl ⟨rfl, xs0, .inl (.inl eh0)⟩, E.ok x σ δ _ h G H st.pre st.rel _ fun v d δ1 G1 H1 m k h1 => ?_⟩
      cases e1 : olS δ1[i]? with
      | none => rw [e1] at h1; exact h1.elim
      | some ds =>
        rw [e1] at h1
        obtain ⟨hz, h1⟩ := h1
        obtain ⟨l, xo, ev, g, eh, kc, _⟩ := m.rel.at_ol (olS_some e1)
        obtain ⟨xs, rfl, kl⟩ := kc.lV
        rw [ev0] at ev; cases ev
        exact ⟨l0, xs, v, rfl, rfl, eh, Evl.sz_lt (by rw [kl.length]; omega), e.nx σ _ G1 _ m.ex (st.mv (m.trans (Mv.upd m.pre m.rel (olS_some e1) ev0 (.l (kl.snoc k))))) h1⟩
  | .ext i x, δ, P, h => fun G0 H0 σ G H st D e => by
      obtain ⟨⟨ds0, e0⟩, h⟩ := h
      obtain ⟨l0, xo0, ev0, g0, eh0, k0, _⟩ := st.rel.at_ol (olS_some e0)
      obtain ⟨xs0, rfl, kl0⟩ := k0.lV
      refine ⟨_, ev0, .inl ⟨rfl, xs0, .inl (.inl eh0)⟩, E.ok x σ δ _ h G H st.pre st.rel _ fun v d δ1 G1 H1 m k h1 => ?_⟩
      cases d with
      | list es =>
        cases e1 : olS δ1[i]? with
        | none => simp only [e1] at h1
        | some ds =>
          simp only [e1] at h1
          obtain ⟨hz, h1⟩ := h1
          obtain ⟨l, xo, ev, g, eh, kc, _⟩ := m.rel.at_ol (olS_some e1)
          obtain ⟨xs, rfl, kl⟩ := kc.lV
          obtain ⟨b, zs, rfl, gb, kz⟩ := k.lstV
          rw [ev0] at ev; cases ev
          exact ⟨l0, b, xs, zs, rfl, rfl, eh, m.pre.1 _ _ gb, Evl.sz_of (by rw [kl.length, kz.length]; exact hz), e.nx σ _ G1 _ m.ex (st.mv (m.trans (Mv.upd m.pre m.rel (olS_some e1) ev0 (.l (kl.app kz))))) h1⟩
      | _ => exact h1.elim
  | .setO i j x, δ, P, h => fun G0 H0 σ G H st D e => by
      obtain ⟨⟨ds0, e0⟩, h⟩ := h
      obtain ⟨l0, xo0, ev0, g0, eh0, k0, _⟩ := st.rel.at_ol (olS_some e0)
      refine E.ok x σ δ _ h G H st.pre st.rel _ fun v d δ1 G1 H1 m k h1 => ⟨_, ev0, E.ok j σ δ1 _ h1 G1 H1 m.pre m.rel _ fun w z δ2 G2 H2 m2 k2 h2 => ?_⟩
      cases z with
      | int n =>
        cases e1 : olS δ2[i]? with
        | none => simp only [e1] at h2
        | some ds =>
          simp only [e1] at h2
          obtain ⟨⟨n0, n1⟩, h2⟩ := h2
          obtain ⟨l, xo, ev, g, eh, kc, _⟩ := m2.rel.at_ol (olS_some e1)
          obtain ⟨xs, rfl, kl⟩ := kc.lV
          rw [ev0] at ev; cases ev
          cases k2.intV
          have hlen := kl.length
          refine ⟨l0, xs, n, n.toNat, rfl, rfl, eh, ?_, e.nx σ _ G2 _ (m.ex.trans m2.ex) (st.mv ((m.trans m2).trans (Mv.upd m2.pre m2.rel (olS_some e1) ev0 (.l (daa_set n.toNat kl (k.mono m2.ex)))))) h2⟩
          unfold ixN
          rw [if_pos n0, if_pos (by omega)]
      | _ => exact h2.elim
  | .putO i k x, δ, P, h => fun G0 H0 σ G H st D e => by
      refine E.ok x σ δ _ h G H st.pre st.rel _ fun v d δ1 G1 H1 m kd h1 => ?_
      obtain ⟨⟨ds0, e0⟩, h1⟩ := h1
      obtain ⟨l0, xo0, ev0, g0, eh0, k0, _⟩ := m.rel.at_ol (odS_some e0)
      refine ⟨_, ev0, E.ok k σ δ1 _ h1 G1 H1 m.pre m.rel _ fun w z δ2 G2 H2 m2 k2 h2 => ?_⟩
      cases ek : keyD z with
      | none => simp only [ek] at h2
      | some kk =>
        cases e1 : odS δ2[i]? with
        | none => simp only [ek, e1] at h2
        | some kvs =>
          simp only [ek, e1] at h2
          obtain ⟨hz, h2⟩ := h2
          obtain ⟨l, xo, ev, g, eh, kc, _⟩ := m2.rel.at_ol (odS_some e1)
          obtain ⟨ws, rfl, kl⟩ := kc.dV
          rw [ev0] at ev; cases ev
          have := keyD_v ek k2
          subst this
          exact ⟨l0, _, rfl, .inl ⟨ws, kk, eh, rfl, Evl.sz_lt (by rw [kl.length]; omega), rfl⟩, e.nx σ _ G2 _ (m.ex.trans m2.ex) (st.mv ((m.trans m2).trans (Mv.upd m2.pre m2.rel (odS_some e1) ev0 (.d (kl.put kk (kd.mono m2.ex)))))) h2⟩
  | .ifS t a b, δ, P, h => fun G0 H0 σ G H st D e => Ts.ok t σ δ _ h G H st.pre st.rel _ fun c δ1 G1 H1 m h1 => by
      cases c with
      | true => exact S.ok a δ1 P h1 G0 H0 σ G1 H1 (st.mv m) D (e.mono m.ex)
      | false => exact S.ok b δ1 P h1 G0 H0 σ G1 H1 (st.mv m) D (e.mono m.ex)
  | .for it g b, δ, P, h => fun G0 H0 σ G H st D e => I.ok it σ δ _ h G H st.pre st.rel _ fun J items δ1 G1 H1 m w h1 => by
      obtain ⟨Gd, Y, wk, hGd, hY⟩ := w
      have e1 := e.mono m.ex
      refine ⟨fun i mm σ' H' => mm = items.length - i ∧ i ≤ items.length ∧ ∃ δ' G', Ex G1 G' ∧ Sta T G0 H0 σ' δ' G' H' ∧ forW g.wp b.wp P (items.drop i) δ', ⟨items.length, by simp, Nat.zero_le _, δ1, G1, Ex.refl _, st.mv m, h1⟩, ?_⟩
      rintro i mm σ' H' ⟨rfl, hi, δ', G', ex, st', hw⟩
      have gd : Gd H' := hGd G' H' ex st'.pre.1
      by_cases hlt : i < items.length
      · refine .inr ⟨wk.goes i H' hlt gd, fun σ'' H'' => ∃ δ'' G'', Ex G' G'' ∧ Sta T G0 H0 σ'' δ'' G'' H'' ∧ forW g.wp b.wp P (items.drop (i + 1)) δ'', fun σ'' H'' ⟨δ'', G'', ex', st'', hw'⟩ => ⟨items.length - (i + 1), by omega, rfl, hlt, δ'', G'', ex.trans ex', st'', hw'⟩, fun x H'' y => ?_⟩
        obtain ⟨d, G4, hd, s4, k4⟩ := hY i H' x H'' G' hlt ex st'.pre (wk.yields i H' x H'' hlt gd y)
        have hdr : items.drop i = d :: items.drop (i + 1) := by
          obtain ⟨hh, e⟩ := List.getElem?_eq_some_iff.mp hd
          rw [List.drop_eq_getElem_cons hh, e]
        rw [hdr] at hw
        have st4 := st'.mv (Mv.stp st'.pre st'.rel s4)
        exact st4.tg k4 hw fun σ2 δ2 st2 h2 => S.ok b δ2 _ h2 G0 H0 σ2 G4 H'' st2 _ ⟨fun σ3 δ3 G3 H3 x3 s3 h3 => ⟨δ3, G3, s4.ex.trans x3, s3, h3⟩, e.rt, fun σ3 δ3 G3 H3 x3 s3 h3 => e1.nx σ3 δ3 G3 H3 ((ex.trans s4.ex).trans x3) s3 h3, fun σ3 δ3 G3 H3 x3 s3 h3 => ⟨δ3, G3, s4.ex.trans x3, s3, h3⟩⟩
      · have eq : i = items.length := by omega
        subst eq
        rw [List.drop_length] at hw
        exact .inl ⟨wk.stops H' gd, e1.nx σ' δ' G' H' ex st' hw⟩
  | .while t b, δ, P, h => fun G0 H0 σ G H st D e => by
      obtain ⟨W, ⟨m0, w0⟩, hW⟩ := h
      refine ⟨fun m σ' H' => ∃ δ' G', Ex G G' ∧ Sta T G0 H0 σ' δ' G' H' ∧ W m δ', ⟨m0, δ, G, Ex.refl _, st, w0⟩, ?_⟩
      rintro m σ' H' ⟨δ', G', ex, st', w⟩
      refine Ts.ok t σ' δ' _ (hW m δ' w) G' H' st'.pre st'.rel _ fun c δ1 G1 H1 m1 h1 => ?_
      cases c with
      | true =>
        refine ⟨fun σ2 H2 => ∃ δ2 G2, Ex G G2 ∧ Sta T G0 H0 σ2 δ2 G2 H2 ∧ ∃ m', m' < m ∧ W m' δ2, fun σ2 H2 ⟨δ2, G2, x2, s2, m', hm, hw⟩ => ⟨m', hm, δ2, G2, x2, s2, hw⟩, ?_⟩
        exact S.ok b δ1 _ h1 G0 H0 σ' G1 H1 (st'.mv m1) _ ⟨fun σ3 δ3 G3 H3 x3 s3 h3 => ⟨δ3, G3, (ex.trans m1.ex).trans x3, s3, h3⟩, e.rt, fun σ3 δ3 G3 H3 x3 s3 h3 => e.nx σ3 δ3 G3 H3 ((ex.trans m1.ex).trans x3) s3 h3, fun σ3 δ3 G3 H3 x3 s3 h3 => ⟨δ3, G3, (ex.trans m1.ex).trans x3, s3, h3⟩⟩
      | false => exact e.nx σ' δ1 G1 H1 (ex.trans m1.ex) (st'.mv m1) h1
  | .brk, δ, P, h => fun G0 H0 σ G H st D e => e.bk σ δ G H (Ex.refl _) st h
  | .cnt, δ, P, h => fun G0 H0 σ G H st D e => e.ct σ δ G H (Ex.refl _) st h
  | .tell i s, δ, P, h => fun G0 H0 σ G H st D e => by
      have h' : (match olS δ[i]? with | some ds => s.wp (δ.set i (.sh (.list ds))) P | none => False) := h
      cases e1 : olS δ[i]? with
      | none => rw [e1] at h'; exact h'.elim
      | some ds =>
        rw [e1] at h'
        obtain ⟨G', m⟩ := Rel.told st.pre st.rel (olS_some e1)
        exact S.ok s _ P h' G0 H0 σ G' H (st.mv m) D (e.mono m.ex)
  | .never, δ, P, h => h.elim
  | .xt x, δ, P, h => x.ok T δ P h
where
  daa_set {G : Hp} : ∀ {vs : List V} {ds : List PyData} (n : Nat) {v : V} {d : PyData}, DaA G vs ds → Da G v d → DaA G (vs.set n v) (ds.set n d)
    | _, _, _, _, _, .nil, _ => .nil
    | _, _, 0, _, _, .cons _ k, h => .cons h k
    | _, _, n + 1, _, _, .cons h' k, h => .cons h' (daa_set n k h)
end
end Rx

namespace Rx
open PySem PySem.Spec PyProof.Rows L2 Dv
open Evl (Ex)
section
variable {K : PySem.W.Frag} {T : Tw} {G H G' H' G1 H1 G2 H2 G0 H0 : Hp}
theorem rd_is {r : R2} {d e z : PyData} {φ : PyData → Prop} (h : RD T r d e (· = z)) (f : φ z) : RD T r d e φ := fun x y G H hx hy p Q q => h x y G H hx hy p Q fun v d' G2 H2 s k e => q v d' G2 H2 s k (by rw [e]; exact f)
theorem ru_is {r : V → Hp → VK → Prop} {d z : PyData} {φ : PyData → Prop} (h : RU1 T r d (· = z)) (f : φ z) : RU1 T r d φ := fun x G H hx p Q q => h x G H hx p Q fun v d' G2 H2 s k e => q v d' G2 H2 s k (by rw [e]; exact f)
theorem rc_is {r : List V → Hp → VK → Prop} {ds : List PyData} {z : PyData} {φ : PyData → Prop} (h : RCD T r ds (· = z)) (f : φ z) : RCD T r ds φ := fun x G H hx p Q q => h x G H hx p Q fun v d' G2 H2 s k e => q v d' G2 H2 s k (by rw [e]; exact f)
/-! ### operators on ints -/
def int0 (g : Int → Int → PyData) (gv : Int → Int → V) (hg : ∀ i j G, Da G (gv i j) (g i j)) : O2 where
  tr := rI0 gv
  sem d e φ := match d, e with
    | .int i, .int j => φ (g i j)
    | _, _ => False
  ok T d e φ h := by
    cases d <;> cases e <;> first | exact h.elim | skip
    intro x y G H hx hy p Q q
    cases hx.intV; cases hy.intV
    exact ⟨_, _, rfl, rfl, q _ _ G H (Stp.refl p) (hg _ _ _) h⟩
def int1 (C : Int → Int → Prop) (g : Int → Int → PyData) (gv : Int → Int → V) (hg : ∀ i j G, Da G (gv i j) (g i j)) : O2 where
  tr := rI C gv
  sem d e φ := match d, e with
    | .int i, .int j => C i j ∧ φ (g i j)
    | _, _ => False
  ok T d e φ h := by
    cases d <;> cases e <;> first | exact h.elim | skip
    intro x y G H hx hy p Q q
    cases hx.intV; cases hy.intV
    exact ⟨_, _, rfl, rfl, h.1, q _ _ G H (Stp.refl p) (hg _ _ _) h.2⟩
def oAdd : O2 := int0 (fun i j => .int (i + j)) _ fun i j G => .int _
def oSub : O2 := int0 (fun i j => .int (i - j)) _ fun i j G => .int _
def oLt : O2 := int0 (fun i j => .bool (decide (i < j))) _ fun i j G => .bl _
def oLe : O2 := int0 (fun i j => .bool (decide (i ≤ j))) _ fun i j G => .bl _
def oGt : O2 := int0 (fun i j => .bool (decide (j < i))) _ fun i j G => .bl _
def oGe : O2 := int0 (fun i j => .bool (decide (j ≤ i))) _ fun i j G => .bl _
def oMod : O2 := int1 (fun _ j => 0 < j) (fun i j => .int (i % j)) _ fun i j G => .int _
def oDivW : O2 := int1 CDivW (fun i j => .int (i / j)) _ fun i j G => .int _
def oMul : O2 := int1 CMul (fun i j => .int (i * j)) _ fun i j G => .int _
def oPow : O2 := int1 CPow (fun i j => .int (i ^ j.toNat)) _ fun i j G => .int _
def oNeg : O1 where
  tr := rU fun i => V.int (-i)
  sem d φ := match d with
    | .int i => φ (.int (-i))
    | _ => False
  ok T d φ h := by
    cases d <;> first | exact h.elim | skip
    intro x G H hx p Q q
    cases hx.intV
    exact ⟨_, rfl, q _ _ G H (Stp.refl p) (.int _) h⟩
/-! == of flat things, of data -/
def oEqI : O2 where
  tr := rEq
  sem d e φ := match d, e with
    | .int i, .int j => φ (.bool (decide (i = j)))
    | .bool i, .bool j => φ (.bool (decide (i = j)))
    | _, _ => False
  ok T d e φ h := by
    cases d <;> cases e <;> first | exact h.elim | exact rd_is r_eqI h | exact rd_is r_eqB h
def oNeI : O2 where
  tr := rNe
  sem d e φ := match d, e with
    | .int i, .int j => φ (.bool (!decide (i = j)))
    | .bool i, .bool j => φ (.bool (!decide (i = j)))
    | _, _ => False
  ok T d e φ h := by
    cases d <;> cases e <;> first | exact h.elim | exact rd_is r_neI h | exact rd_is r_neB h
def oEqD (K : PySem.W.Frag) : O2 where
  tr := rEqD K
  sem d e φ := SeqAt.shaped d = true ∧ SeqAt.shaped e = true ∧ φ (.bool (PyData.eqv d e))
  ok T d e φ h := rd_is (r_eqD h.1 h.2.1 rfl) h.2.2
def oNeD (K : PySem.W.Frag) : O2 where
  tr := rNeD K
  sem d e φ := SeqAt.shaped d = true ∧ SeqAt.shaped e = true ∧ φ (.bool (!PyData.eqv d e))
  ok T d e φ h := rd_is (r_neD h.1 h.2.1 rfl) h.2.2
/-! items -/
def oIxL (K : PySem.W.Frag) : O2 where
  tr := rIxL K
  sem d e φ := match d, e with
    | .list ds, .int i => (match atI ds i with | some x => φ x | none => False)
    | _, _ => False
  ok T d e φ h := by
    cases d <;> cases e <;> first | exact h.elim | skip
    rename_i ds i
    intro x y G H hx hy p Q q
    cases hy.intV
    obtain ⟨a, xs, rfl, ga, k⟩ := hx.lstV
    cases e1 : atI ds i with
    | none => simp only [e1] at h
    | some z =>
      simp only [e1] at h
      obtain ⟨w, hw, kw⟩ := atI_da k e1
      exact ⟨a, xs, i, w, rfl, rfl, .inl (.inl (p.1 _ _ ga)), hw, q w z G H (Stp.refl p) kw h⟩
def oIxT (K : PySem.W.Frag) : O2 where
  tr := rIxT K
  sem d e φ := match d, e with
    | .tuple ds, .int i => (match atI ds i with | some x => φ x | none => False)
    | _, _ => False
  ok T d e φ h := by
    cases d <;> cases e <;> first | exact h.elim | skip
    rename_i ds i
    intro x y G H hx hy p Q q
    cases hy.intV
    obtain ⟨a, xs, rfl, ga, k⟩ := hx.tupV
    cases e1 : atI ds i with
    | none => simp only [e1] at h
    | some z =>
      simp only [e1] at h
      obtain ⟨w, hw, kw⟩ := atI_da k e1
      exact ⟨a, xs, i, w, rfl, rfl, .inl (Evl.ex_rd p.1 ga), hw, q w z G H (Stp.refl p) kw h⟩
/-- tuple + tuple -/
def oCatT (K : PySem.W.Frag) : O2 where
  tr := rCatA K
  sem d e φ := match d, e with
    | .tuple ds, .tuple es => ds.length + es.length ≤ 100000 ∧ φ (.tuple (ds ++ es))
    | _, _ => False
  ok T d e φ h := by
    cases d <;> cases e <;> first | exact h.elim | exact rd_is (r_catT h.1) h.2
/-- an int in a list, a tuple of ints -/
def seqI : PyData → Option (List PyData)
  | .list ds => some ds
  | .tuple ds => some ds
  | _ => none
def oIn (K : PySem.W.Frag) (neg : Bool) : O2 where
  tr := rIn K neg
  sem d e φ := match d, seqI e with
    | .int i, some ds => ∃ ns : List Int, ds = ns.map .int ∧ φ (.bool (if neg = true then !decide (i ∈ ns) else decide (i ∈ ns)))
    | _, _ => False
  ok T d e φ h := by
    cases d <;> cases e <;> first | exact h.elim | skip
    · obtain ⟨ns, rfl, h⟩ := h; exact rd_is (r_in (.inl rfl)) (by cases neg <;> exact h)
    · obtain ⟨ns, rfl, h⟩ := h; exact rd_is (r_in (.inr rfl)) (by cases neg <;> exact h)
/-! ### built-ins -/
def oLen (K : PySem.W.Frag) : OA where
  tr := rLen K
  sem ds φ := match ds with
    | [d] => (match seqI d with | some es => φ (.int es.length) | none => False)
    | _ => False
  ok T ds φ h := by
    match ds, h with
    | [d], h =>
      cases d <;> first | exact h.elim | exact rc_is (c_len (.inl rfl)) h | exact rc_is (c_len (.inr rfl)) h
def oTup (K : PySem.W.Frag) : OA where
  tr := fun xs H Q => ∃ p ys, xs = [.ref p] ∧ ((SqL K H p ys ∧ ∀ l, H l = none → Q (.ref l) (upd H l (.tup ys))) ∨ (SqT K H p ys ∧ Q (.ref p) H))
  sem ds φ := match ds with
    | [.list es] => φ (.tuple es)
    | [.tuple es] => φ (.tuple es)
    | _ => False
  ok T ds φ h := by
    match ds, h with
    | [.list es], h => exact rc_is c_tupL h
    | [.tuple es], h =>
      intro xs G H hx p Q q
      obtain ⟨v, ws, rfl, h1, k⟩ := hx.consV
      cases k.nilV
      obtain ⟨a, ys, rfl, ga, kk⟩ := h1.tupV
      exact ⟨a, ys, rfl, .inr ⟨.inl (Evl.ex_rd p.1 ga), q _ _ G H (Stp.refl p) (.tup ga kk) h⟩⟩
def oAll (K : PySem.W.Frag) : OA where
  tr := rAll K
  sem ds φ := ∃ bs : List Bool, ds = [.list (bs.map .bool)] ∧ φ (.bool (bs.all id))
  ok T ds φ h := by
    obtain ⟨bs, rfl, h⟩ := h
    exact rc_is c_all h
def oInt : OA where
  tr := fun xs H Q => (∃ i, xs = [.int i] ∧ Q (.int i) H) ∨ ∃ k, xs = [.bl k] ∧ Q (.int (if k then 1 else 0)) H
  sem ds φ := match ds with
    | [.int i] => φ (.int i)
    | _ => False
  ok T ds φ h := by
    match ds, h with
    | [.int i], h => exact rc_is c_int h
/-- list(xs) -/
def oList (K : PySem.W.Frag) : OF where
  tr := fun xs H Q => ∃ p ys, xs = [.ref p] ∧ (SqL K H p ys ∨ SqT K H p ys) ∧ ∀ l, H l = none → Q (.ref l) (upd H l (.lst ys))
  sem ds φ := match ds with
    | [d] => (match seqI d with | some es => φ es | none => False)
    | _ => False
  ok T ds φ h xs G H hx p Q q := by
    match ds, h with
    | [d], h =>
      obtain ⟨v, ws, rfl, h1, k⟩ := hx.consV
      cases k.nilV
      cases d <;> first | exact h.elim | skip
      · obtain ⟨a, ys, rfl, ga, kk⟩ := h1.lstV
        exact ⟨a, ys, rfl, .inl (.inl (.inl (p.1 _ _ ga))), fun l hl => q l ys _ hl kk h⟩
      · obtain ⟨a, ys, rfl, ga, kk⟩ := h1.tupV
        exact ⟨a, ys, rfl, .inr (.inl (Evl.ex_rd p.1 ga)), fun l hl => q l ys _ hl kk h⟩
/-- list + list -/
def oCatL : OF2 where
  tr := rCat
  sem d e φ := match d, e with
    | .list ds, .list es => ds.length + es.length ≤ 100000 ∧ φ (ds ++ es)
    | _, _ => False
  ok T d e φ h x y G H hx hy p Q q := by
    cases d <;> cases e <;> first | exact h.elim | skip
    obtain ⟨a, xs, rfl, ga, k⟩ := hx.lstV
    obtain ⟨b, ys, rfl, gb, k2⟩ := hy.lstV
    exact ⟨a, b, xs, ys, rfl, rfl, p.1 _ _ ga, p.1 _ _ gb, Evl.sz_of (by rw [k.length, k2.length]; exact h.1), fun l hl => q l _ _ hl (k.app k2) h.2⟩
/-- [e] * n -/
def oRep1 : OF2 where
  tr := rRep
  sem d e φ := match d, e with
    | .list [x], .int n => (0 ≤ n ∧ n ≤ 1000) ∧ φ (List.replicate n.toNat x)
    | _, _ => False
  ok T d e φ h x y G H hx hy p Q q := by
    match d, e, h with
    | .list [z], .int n, h =>
      obtain ⟨a, xs, rfl, ga, k⟩ := hx.lstV
      cases hy.intV
      obtain ⟨v, ws, rfl, kv, k⟩ := k.consV
      cases k.nilV
      refine ⟨a, n, [v], rfl, rfl, p.1 _ _ ga, by omega, by omega, Evl.sz_of (by simp only [List.length_cons, List.length_nil]; omega), fun l hl => ?_⟩
      have e1 : ∀ m : Nat, (List.replicate m [v]).flatten = List.replicate m v := fun m => by
        induction m with
        | zero => rfl
        | succ m ih => rw [List.replicate_succ, List.flatten_cons, ih]; rfl
      have e2 : ∀ m : Nat, DaA G (List.replicate m v) (List.replicate m z) := fun m => by
        induction m with
        | zero => exact .nil
        | succ m ih => exact .cons kv ih
      first
        | (rw [e1]; exact q l _ _ hl (e2 _) h.2)
        | exact q l _ _ hl (by simpa [e1] using e2 n.toNat) h.2
/-- xs[: n] -/
def oSlTo (K : PySem.W.Frag) : OS where
  tr := rSlL K
  sem d lo hi φ := match d, lo, hi with
    | .list ds, none, some m => 0 ≤ m ∧ φ (ds.take m.toNat)
    | _, _, _ => False
  ok T d lo hi φ h x G H hx p Q q := by
    match d, lo, hi, h with
    | .list ds, none, some m, h =>
      obtain ⟨a, xs, rfl, ga, kk⟩ := hx.lstV
      refine ⟨a, xs, rfl, .inl (.inl (p.1 _ _ ga)), fun l hl => ?_⟩
      have ec : cutV xs none (some m) = xs.take m.toNat := by
        unfold cutV
        rw [HT.sIx_none, show m = ((m.toNat : Nat) : Int) by omega, HT.sIx_nat, List.drop_zero, Nat.sub_zero]
        by_cases e : m.toNat ≤ xs.length
        · rw [Nat.min_eq_left e, Int.toNat_natCast]
        · rw [Nat.min_eq_right (by omega), List.take_of_length_le (Nat.le_refl _), List.take_of_length_le (by omega)]
      rw [ec]
      exact q l _ _ hl (daa_take _ kk) h.2
/-! ### sources of loops -/
theorem walkD_list {a : Addr} {xs : List V} {ds : List PyData} (p : Pre T G H) (ga : G a = some (.lst xs)) (k : DaA G xs ds) : WalkD T (Itl K a) G ds := by
  refine ⟨fun H => SqL K H a xs, YAt xs, by rw [← k.length]; exact walk_list, fun G3 H e1 e2 => .inl (.inl (e2 _ _ (e1 _ _ ga))), fun i H x H' G3 hi e p y => ?_⟩
  obtain ⟨rfl, hx⟩ := y
  obtain ⟨d, hd, kd⟩ := k.getV hx
  exact ⟨d, G3, hd, Stp.refl p, kd.mono e⟩
theorem walkD_tup {a : Addr} {xs : List V} {ds : List PyData} (p : Pre T G H) (ga : Rd G a (.tup xs)) (k : DaA G xs ds) : WalkD T (Itt K a) G ds := by
  refine ⟨fun H => SqT K H a xs, YAt xs, by rw [← k.length]; exact walk_tup, fun G3 H e1 e2 => .inl (Evl.ex_rd e2 (Evl.ex_rd e1 ga)), fun i H x H' G3 hi e p y => ?_⟩
  obtain ⟨rfl, hx⟩ := y
  obtain ⟨d, hd, kd⟩ := k.getV hx
  exact ⟨d, G3, hd, Stp.refl p, kd.mono e⟩
def itL (K : PySem.W.Frag) : OIt where
  k := fun x H1 R => ∃ a, x = .ref a ∧ (∃ xs, SqL K H1 a xs) ∧ R (Itl K a) H1
  sem d := match d with
    | .list ds => some ds
    | _ => none
  ok T x d items G H hx p h R hR := by
    cases d <;> cases h
    obtain ⟨a, xs, rfl, ga, k⟩ := hx.lstV
    exact ⟨a, rfl, ⟨xs, .inl (.inl (p.1 _ _ ga))⟩, hR _ (walkD_list p ga k)⟩
def itT (K : PySem.W.Frag) : OIt where
  k := fun x H1 R => ∃ a, x = .ref a ∧ (∃ xs, SqT K H1 a xs) ∧ R (Itt K a) H1
  sem d := match d with
    | .tuple ds => some ds
    | _ => none
  ok T x d items G H hx p h R hR := by
    cases d <;> cases h
    obtain ⟨a, xs, rfl, ga, k⟩ := hx.tupV
    exact ⟨a, rfl, ⟨xs, .inl (Evl.ex_rd p.1 ga)⟩, hR _ (walkD_tup p ga k)⟩
def itR : OItA where
  k := fun vs H1 R => ∃ j : Int, vs = [.int j] ∧ -(2 ^ 62) ≤ j ∧ j < 2 ^ 62 ∧ R (Itr 0 j.toNat) H1
  sem ds := match ds with
    | [.int n] => if n ≤ 100000 ∧ -100000 ≤ n then some ((List.range n.toNat).map fun i => .int (i : Nat)) else none
    | _ => none
  ok T xs ds items G H hx p h R hR := by
    match ds, h with
    | [.int n], h =>
      obtain ⟨v, ws, rfl, kv, k⟩ := hx.consV
      cases k.nilV
      cases kv.intV
      by_cases hn : n ≤ 100000 ∧ -100000 ≤ n
      · replace h : (if n ≤ 100000 ∧ -100000 ≤ n then some ((List.range n.toNat).map fun i : Nat => PyData.int (i : Nat)) else none) = some items := h
        rw [if_pos hn] at h
        cases h
        refine ⟨n, rfl, by omega, by omega, hR _ ⟨fun _ => True, _, by rw [List.length_map, List.length_range]; exact walk_range, fun _ _ _ _ => trivial, fun i H x H' G3 hi e p y => ?_⟩⟩
        obtain ⟨rfl, rfl⟩ := y
        rw [List.length_map, List.length_range] at hi
        refine ⟨.int (i : Nat), G3, ?_, Stp.refl p, by simp only [Int.zero_add]; exact .int _⟩
        rw [List.getElem?_map, List.getElem?_range hi]
        rfl
      · replace h : (if n ≤ 100000 ∧ -100000 ≤ n then some ((List.range n.toNat).map fun i : Nat => PyData.int (i : Nat)) else none) = some items := h
        rw [if_neg hn] at h
        cases h
/-! ### defs -/
/-- how a def's arguments come: data, data with a fact, the source -/
def SlA (T : Tw) (G : Hp) (v : V) : Sl → Prop
  | .sh d => Da G v d
  | .sp d P => Da G v d ∧ P.holds G v
  | .src => ∃ S C, T = some (S, C) ∧ v = .ref S
  | _ => False
inductive Ins (T : Tw) (G : Hp) : List V → List Sl → Prop
  | nil : Ins T G [] []
  | cons {v : V} {s : Sl} {vs : List V} {ss : List Sl} : SlA T G v s → Ins T G vs ss → Ins T G (v :: vs) (s :: ss)
theorem Ins.length : ∀ {vs : List V} {ss : List Sl}, Ins T G vs ss → vs.length = ss.length
  | _, _, .nil => rfl
  | _, _, .cons _ k => congrArg (· + 1) k.length
theorem Ins.get : ∀ {vs : List V} {ss : List Sl}, Ins T G vs ss → ∀ {i : Nat} {s : Sl}, ss[i]? = some s → ∃ v, vs[i]? = some v ∧ SlA T G v s
  | _, _, .cons h _, 0, _, e => ⟨_, rfl, by cases e; exact h⟩
  | _, _, .cons _ k, i + 1, _, e => k.get (i := i) e
theorem Ins.of : ∀ {vs : List V} {ds : List PyData}, DaA G vs ds → Ins T G vs (ds.map .sh)
  | _, _, .nil => .nil
  | _, _, .cons h k => .cons h (Ins.of k)
theorem sta0 {vs : List V} {ss : List Sl} {n : Nat} (p : Pre T G H) (k : Ins T G vs ss) : Sta T G H (vs.map some ++ List.replicate n none) (ss ++ List.replicate n .no) G H := by
  have no : ∀ (i : Nat) (c : Ct), (ss ++ List.replicate n Sl.no)[i]? = some (Sl.ol c) → False := fun i c e => by
    rcases List.mem_append.mp (List.mem_of_getElem? e) with h | h
    · obtain ⟨j, hj⟩ := List.getElem?_of_mem h
      obtain ⟨v, _, q⟩ := k.get hj
      exact q
    · cases (List.mem_replicate.mp h).2
  refine ⟨Go.refl p, ⟨by simp [k.length], fun i s e => ?_, fun i j a ds es e => (no i ds e).elim⟩, fun a ⟨i, c, e, _⟩ => (no i c e).elim⟩
  by_cases hi : i < ss.length
  · rw [List.getElem?_append_left hi] at e
    obtain ⟨v, hv, q⟩ := k.get e
    rw [List.getElem?_append_left (by rw [List.length_map, k.length]; exact hi), List.getElem?_map, hv]
    cases s with
    | no => trivial
    | sh d => exact ⟨v, rfl, q⟩
    | sp d P => exact ⟨v, rfl, q.1, q.2⟩
    | src => obtain ⟨S, C, e1, rfl⟩ := q; exact ⟨S, C, e1, rfl⟩
    | ol c => exact q.elim
  · rw [List.getElem?_append_right (by omega)] at e
    have := (List.mem_replicate.mp (List.mem_of_getElem? e)).2
    subst this
    trivial
/-- a def's body, read -/
theorem S.run {s : S} {vs : List V} {ss : List Sl} {n : Nat} {φ : PyData → Prop} (p : Pre T G H) (k : Ins T G vs ss) (hw : s.wp (ss ++ List.replicate n .no) { nx := fun _ => φ .none, rt := φ }) {Q : VK}
    (q : ∀ v d G' H', Stp T G H G' H' → Da G' v d → φ d → Q v H') : s.tr K { nx := fun _ H' => Q .non H', rt := Q } (vs.map some ++ List.replicate n none) H :=
  S.ok s _ _ hw G H _ G H (sta0 p k) _ ⟨fun σ' δ' G' H' _ st h => q .non .none G' H' (Go.stp p st.go) .non h, fun v d G' H' go k h => q v d G' H' (Go.stp p go) k h, fun _ _ _ _ _ _ h => h.elim, fun _ _ _ _ _ _ h => h.elim⟩
end
end Rx

namespace K0
open PySem PySem.Spec PyProof.Rows L2
open Evl (Ex)
def topS (i : Nat) : Stmt := PySem.Challenge.pw_soonestsaid_k01_typical_rows_one_for_eac.main.body.getD i (.Pass ⟨0, 0, 0, 0⟩)
abbrev s_sorted_things : Stmt := topS 1
abbrev p_sorted_things : List Str := ["things"]
abbrev n_sorted_things : List Str := ["things", "found", "thing"]
theorem sc_sorted_things : FnScope n_sorted_things p_sorted_things (defScope s_sorted_things) := ⟨rfl, rfl, rfl, by decide +kernel, rfl, by decide +kernel, by decide +kernel⟩
abbrev s_worths_of : Stmt := topS 2
abbrev p_worths_of : List Str := ["rows"]
abbrev n_worths_of : List Str := ["rows", "_", "cells", "cell"]
theorem sc_worths_of : FnScope n_worths_of p_worths_of (defScope s_worths_of) := ⟨rfl, rfl, rfl, by decide +kernel, rfl, by decide +kernel, by decide +kernel⟩
abbrev s_new_worth : Stmt := topS 5
abbrev p_new_worth : List Str := ["known", "rest", "modulus"]
abbrev n_new_worth : List Str := ["known", "rest", "modulus", "least"]
theorem sc_new_worth : FnScope n_new_worth p_new_worth (defScope s_new_worth) := ⟨rfl, rfl, rfl, by decide +kernel, rfl, by decide +kernel, by decide +kernel⟩
abbrev s_typical_rows : Stmt := topS 6
abbrev p_typical_rows : List Str := ["pattern", "worths", "modulus"]
abbrev n_typical_rows : List Str := ["pattern", "worths", "modulus", "table", "cells", "known", "found", "choice", "left", "cell"]
theorem sc_typical_rows : FnScope n_typical_rows p_typical_rows (defScope s_typical_rows) := ⟨rfl, rfl, rfl, by decide +kernel, rfl, by decide +kernel, by decide +kernel⟩
abbrev s_typical_choices : Stmt := topS 7
abbrev p_typical_choices : List Str := ["many", "known", "modulus"]
abbrev n_typical_choices : List Str := ["many", "known", "modulus", "firsts", "rest", "begun", "_", "worths", "worth"]
theorem sc_typical_choices : FnScope n_typical_choices p_typical_choices (defScope s_typical_choices) := ⟨rfl, rfl, rfl, by decide +kernel, rfl, by decide +kernel, by decide +kernel⟩
abbrev s_next_choices : Stmt := topS 8
abbrev p_next_choices : List Str := ["worths", "known", "firsts"]
abbrev n_next_choices : List Str := ["worths", "known", "firsts", "choices", "first", "worth"]
theorem sc_next_choices : FnScope n_next_choices p_next_choices (defScope s_next_choices) := ⟨rfl, rfl, rfl, by decide +kernel, rfl, by decide +kernel, by decide +kernel⟩
abbrev s__law_source : Stmt := topS 10
abbrev p__law_source : List Str := ["_law_script"]
abbrev n__law_source : List Str := ["_law_script"]
theorem sc__law_source : FnScope n__law_source p__law_source (defScope s__law_source) := ⟨rfl, rfl, rfl, by decide +kernel, rfl, by decide +kernel, by decide +kernel⟩
abbrev s__law_take : Stmt := topS 11
abbrev p__law_take : List Str := ["_law_source_here", "_law_many"]
abbrev n__law_take : List Str := ["_law_source_here", "_law_many", "_law_cell", "_law_mixed_here", "_law_told"]
theorem sc__law_take : FnScope n__law_take p__law_take (defScope s__law_take) := ⟨rfl, rfl, rfl, by decide +kernel, rfl, by decide +kernel, by decide +kernel⟩
abbrev s__law_pick : Stmt := topS 12
abbrev p__law_pick : List Str := ["_law_source_here", "_law_things"]
abbrev n__law_pick : List Str := ["_law_source_here", "_law_things"]
theorem sc__law_pick : FnScope n__law_pick p__law_pick (defScope s__law_pick) := ⟨rfl, rfl, rfl, by decide +kernel, rfl, by decide +kernel, by decide +kernel⟩
abbrev s__law_mixed : Stmt := topS 13
abbrev p__law_mixed : List Str := ["_law_source_here", "_law_things"]
abbrev n__law_mixed : List Str := ["_law_source_here", "_law_things", "_law_rest", "_law_told", "_law_k"]
theorem sc__law_mixed : FnScope n__law_mixed p__law_mixed (defScope s__law_mixed) := ⟨rfl, rfl, rfl, by decide +kernel, rfl, by decide +kernel, by decide +kernel⟩
abbrev s__law_pool : Stmt := topS 14
abbrev p__law_pool : List Str := ["_law_source_here", "_law_many"]
abbrev n__law_pool : List Str := ["_law_source_here", "_law_many", "_law_told", "_law_k"]
theorem sc__law_pool : FnScope n__law_pool p__law_pool (defScope s__law_pool) := ⟨rfl, rfl, rfl, by decide +kernel, rfl, by decide +kernel, by decide +kernel⟩
abbrev s__law_longer : Stmt := topS 15
abbrev p__law_longer : List Str := ["_law_told", "_law_worths"]
abbrev n__law_longer : List Str := ["_law_told", "_law_worths", "_law_longer_here", "_law_left", "_law_worth"]
theorem sc__law_longer : FnScope n__law_longer p__law_longer (defScope s__law_longer) := ⟨rfl, rfl, rfl, by decide +kernel, rfl, by decide +kernel, by decide +kernel⟩
abbrev s__law_unlike : Stmt := topS 16
abbrev p__law_unlike : List Str := ["_law_things"]
abbrev n__law_unlike : List Str := ["_law_things", "_law_told", "_law_k"]
theorem sc__law_unlike : FnScope n__law_unlike p__law_unlike (defScope s__law_unlike) := ⟨rfl, rfl, rfl, by decide +kernel, rfl, by decide +kernel, by decide +kernel⟩
abbrev s__law_least_above : Stmt := topS 17
abbrev p__law_least_above : List Str := ["_law_known", "_law_rest", "_law_modulus"]
abbrev n__law_least_above : List Str := ["_law_known", "_law_rest", "_law_modulus", "_law_low", "_law_k"]
theorem sc__law_least_above : FnScope n__law_least_above p__law_least_above (defScope s__law_least_above) := ⟨rfl, rfl, rfl, by decide +kernel, rfl, by decide +kernel, by decide +kernel⟩
abbrev s__law_kind : Stmt := topS 18
abbrev p__law_kind : List Str := ["_law_pattern", "_law_filling", "_law_known", "_law_modulus"]
abbrev n__law_kind : List Str := ["_law_pattern", "_law_filling", "_law_known", "_law_modulus", "_law_seen", "_law_cells", "_law_many", "_law_k", "_law_worth", "_law_rest"]
theorem sc__law_kind : FnScope n__law_kind p__law_kind (defScope s__law_kind) := ⟨rfl, rfl, rfl, by decide +kernel, rfl, by decide +kernel, by decide +kernel⟩
abbrev s_law : Stmt := topS 19
abbrev p_law : List Str := ["_law_script"]
abbrev n_law : List Str := ["_law_script", "_law_source_here", "_law_pool_here", "_law_width", "_law_place", "_law_pattern", "_law_k", "_law_stars", "_law_modulus", "_law_given", "_law_known", "_law_cell", "_law_rest", "_law_top", "_law_fresh", "_law_fillings", "_law_kinds", "_law_filling", "_law_handed", "_law_told"]
theorem sc_law : FnScope n_law p_law (defScope s_law) := ⟨rfl, rfl, rfl, by decide +kernel, rfl, by decide +kernel, by decide +kernel⟩

/-! what a def is worth to its callers -/
section
variable (P : Program) (w : World) (K : PySem.W.Frag) (mg : Str → Option Value) (base : Heap)
def Ca (x : Str) (k : Nat) (ps : List Str) (sp : Sp) : Prop := ∃ f fd, mg x = some (.ref f) ∧ PySem.W.keepIn K (.ref f) = true ∧ Binds K fd ps [] ∧ FnOk P w K mg base CX0 k f fd ps sp
/-- a def of the text -/
def Txt (x : Str) (st : Stmt) (ps : List Str) : Prop := ∃ f fd, mg x = some (.ref f) ∧ Fun K x x st f fd ∧ Binds K fd ps []
variable {P w K mg base}
theorem Txt.ca {x : Str} {st : Stmt} {k : Nat} {ps : List Str} {sp : Sp} (t : Txt K mg x st ps) (h : ∀ f fd, Fun K x x st f fd → FnOk P w K mg base CX0 k f fd ps sp) : Ca P w K mg base x k ps sp := by
  obtain ⟨f, fd, m, F, b⟩ := t
  exact ⟨f, fd, m, F.kp, b, h f fd F⟩
end
end K0

namespace Rx
open PySem PySem.Spec PyProof.Rows L2 Dv K0
open Evl (Ex)
abbrev eI (n : Int) : E := .con (.int n) (.int n) fun _ => .int n
abbrev eB (b : Bool) : E := .con (.bl b) (.bool b) fun _ => .bl b
abbrev eN : E := .con .non .none fun _ => .non
section
variable {P : Program} {w : World} {K : PySem.W.Frag} {mg : Str → Option Value} {base : Heap}
theorem ok_def {b : S} {k : Nat} {x : Str} {st : Stmt} {N ps : List Str} {R : Rr} (t : Txt K mg x st ps) (sc : FnScope N ps (defScope st))
    (op : ∀ (f : Addr) (cdv : Value) (A : Around) (outer : List PySem.Env) (s : Shared) (H : Hp) (E : XK), Room k (A.deeper (envOfC x (defScope st) s.heap.objs.size f cdv)) → PSs (cxOf CX0 P w K mg base N x (defScope st) f cdv A outer s H E).nox (defBody st) (b.tr K))
    (hR : ∀ ds φ, R ds φ → ds.length = ps.length ∧ b.wp (ds.map .sh ++ List.replicate (N.length - ps.length) .no) { nx := fun _ => φ .none, rt := φ }) : Ca P w K mg base x (k + 1) ps (spP R) := by
  refine t.ca fun f fd F => F.ok sc (fun vs H Q E h => ?_) (fun cdv A outer s H vs Q E hr h => ?_)
  · obtain ⟨G, ds, φ, _, k, h, _⟩ := h
    rw [k.length]; exact (hR ds φ h).1
  · obtain ⟨G, ds, φ, p0, k, h, q⟩ := h
    obtain ⟨h1, h2⟩ := hR ds φ h
    refine ⟨_, op f cdv A outer s H E hr, ?_⟩
    unfold L2.start
    rw [k.length, h1]
    exact Rx.S.run p0 (Ins.of k) h2 q
/-- .. of the drawn source -/
theorem ok_defG {b : S} {k : Nat} {x : Str} {st : Stmt} {N ps : List Str} {R : Rr} (t : Txt K mg x st ps) (sc : FnScope N ps (defScope st))
    (op : ∀ (f : Addr) (cdv : Value) (A : Around) (outer : List PySem.Env) (s : Shared) (H : Hp) (E : XK), Room k (A.deeper (envOfC x (defScope st) s.heap.objs.size f cdv)) → PSs (cxOf CX0 P w K mg base N x (defScope st) f cdv A outer s H E).nox (defBody st) (b.tr K))
    (hR : ∀ ds φ, R ds φ → ds.length + 1 = ps.length ∧ b.wp ((Sl.src :: ds.map .sh) ++ List.replicate (N.length - ps.length) .no) { nx := fun _ => φ .none, rt := φ }) : Ca P w K mg base x (k + 1) ps (spG R) := by
  refine t.ca fun f fd F => F.ok sc (fun vs H Q E h => ?_) (fun cdv A outer s H vs Q E hr h => ?_)
  · obtain ⟨S, C, ws, G, ds, φ, rfl, _, k, h, _⟩ := h
    rw [List.length_cons, k.length]; exact (hR ds φ h).1
  · obtain ⟨S, C, ws, G, ds, φ, rfl, p0, k, h, q⟩ := h
    obtain ⟨h1, h2⟩ := hR ds φ h
    refine ⟨_, op f cdv A outer s H E hr, ?_⟩
    unfold L2.start
    rw [List.length_cons, k.length, h1]
    exact Rx.S.run (ss := Sl.src :: ds.map Sl.sh) p0 (.cons (show SlA (some (S, C)) G (.ref S) .src from ⟨S, C, rfl, rfl⟩) (Ins.of k)) h2 q
end
end Rx

namespace K0
open PySem L2
/-! strictly ascending lists -/
def Asc (l : List Int) : Prop := l.Pairwise (· < ·)
theorem asc_eq : ∀ {l m : List Int}, Asc l → Asc m → (∀ x, x ∈ l ↔ x ∈ m) → l = m
  | [], [], _, _, _ => rfl
  | [], b :: m, _, _, h => by have := (h b).2 (by simp); simp at this
  | a :: l, [], _, _, h => by have := (h a).1 (by simp); simp at this
  | a :: l, b :: m, h1, h2, h => by
    have p1 := List.pairwise_cons.mp h1
    have p2 := List.pairwise_cons.mp h2
    have e : a = b := by
      have x1 := (h a).1 (by simp)
      have x2 := (h b).2 (by simp)
      rw [List.mem_cons] at x1 x2
      rcases x1 with x1 | x1
      · exact x1
      · rcases x2 with x2 | x2
        · exact x2.symm
        · have := p1.1 b x2
          have := p2.1 a x1
          omega
    subst e
    refine congrArg (a :: ·) (asc_eq p1.2 p2.2 fun x => ⟨fun hx => ?_, fun hx => ?_⟩)
    · have := (h x).1 (by simp [hx])
      rw [List.mem_cons] at this
      rcases this with rfl | y
      · have := p1.1 x hx; omega
      · exact y
    · have := (h x).2 (by simp [hx])
      rw [List.mem_cons] at this
      rcases this with rfl | y
      · have := p2.1 x hx; omega
      · exact y
/-- one turn of taking the ascending ones, each once -/
theorem asc_snoc {F ms : List Int} {i : Nat} {x : Int} (hs : ms.Pairwise (· ≤ ·)) (hx : ms[i]? = some x) (h : Asc F ∧ ∀ y, y ∈ F ↔ y ∈ ms.take i) :
    ((F = [] ∨ F.getLast? ≠ some x) → Asc (F ++ [x]) ∧ ∀ y, y ∈ F ++ [x] ↔ y ∈ ms.take (i + 1)) ∧ (¬ (F = [] ∨ F.getLast? ≠ some x) → Asc F ∧ ∀ y, y ∈ F ↔ y ∈ ms.take (i + 1)) := by
  obtain ⟨h1, h2⟩ := h
  have et : ms.take (i + 1) = ms.take i ++ [x] := by rw [List.take_add_one, hx]; rfl
  obtain ⟨hi, ex⟩ := List.getElem?_eq_some_iff.mp hx
  have le : ∀ y ∈ ms.take i, y ≤ x := fun y hy => by
    obtain ⟨j, hj, ej⟩ := List.mem_iff_getElem.mp hy
    rw [List.length_take] at hj
    rw [List.getElem_take] at ej
    rw [← ej, ← ex]
    exact List.pairwise_iff_getElem.mp hs j i (by omega) hi (by omega)
  refine ⟨fun hc => ⟨?_, fun y => by rw [et, List.mem_append, List.mem_append, h2]⟩, fun hc => ⟨h1, fun y => ?_⟩⟩
  · refine List.pairwise_append.mpr ⟨h1, by simp, fun a ha b hb => ?_⟩
    rw [List.mem_singleton] at hb
    subst hb
    have l1 := le a ((h2 a).1 ha)
    rcases hc with rfl | hc
    · simp at ha
    · by_cases e : a = b
      · subst e
        exfalso
        have hne : F ≠ [] := fun z => by rw [z] at ha; simp at ha
        have hl := List.getLast?_eq_some_getLast hne
        have m := (h2 _).1 (List.getLast_mem hne)
        have l2 := le _ m
        have l3 : a ≤ F.getLast hne := by
          obtain ⟨j, hj, ej⟩ := List.mem_iff_getElem.mp ha
          rw [List.getLast_eq_getElem, ← ej]
          by_cases q : j = F.length - 1
          · subst q; exact Int.le_refl _
          · exact Int.le_of_lt (List.pairwise_iff_getElem.mp h1 j (F.length - 1) hj (by omega) (by omega))
        exact hc (by rw [hl, show F.getLast hne = a by omega])
      · omega
  · rw [et, List.mem_append, ← h2]
    refine ⟨Or.inl, fun z => ?_⟩
    rcases z with z | z
    · exact z
    · rw [List.mem_singleton] at z
      subst z
      have hne : F ≠ [] := fun z => hc (Or.inl z)
      have hl : F.getLast? = some y := by
        by_cases q : F.getLast? = some y
        · exact q
        · exact absurd (Or.inr q) hc
      rw [List.getLast?_eq_some_getLast hne] at hl
      rw [← Option.some.inj hl]
      exact List.getLast_mem hne
end K0

set_option maxHeartbeats 1000000
namespace SrtR
open PySem PySem.Spec PyProof.Rows L2 SrtO
/-! ### sorted of rows: (int, tuple of ints) -/
def rowB (p q : Int × List Int) : Bool := if p.1 = q.1 then HT.lexLt p.2 q.2 else decide (p.1 < q.1)
theorem lex_asym : ∀ {a b : List Int}, HT.lexLt a b = true → HT.lexLt b a = false
  | [], [], h => by cases h
  | [], _ :: _, _ => rfl
  | _ :: _, [], h => by cases h
  | x :: a, y :: b, h => by
    unfold HT.lexLt at h ⊢
    by_cases e : x = y
    · rw [if_pos e] at h
      rw [if_pos e.symm]
      exact lex_asym h
    · rw [if_neg e] at h
      rw [if_neg fun z => e z.symm]
      have := of_decide_eq_true h
      exact decide_eq_false (by omega)
theorem lex_tr : ∀ {a b c : List Int}, HT.lexLt a b = false → HT.lexLt b c = false → HT.lexLt a c = false
  | [], [], _, _, h => h
  | _ :: _, [], [], _, _ => rfl
  | [], _ :: _, _, h, _ => by cases h
  | _ :: _, [], _ :: _, _, h => by cases h
  | _ :: _, _ :: _, [], _, _ => rfl
  | x :: a, y :: b, z :: c, h1, h2 => by
    unfold HT.lexLt at h1 h2 ⊢
    by_cases e1 : x = y
    · subst e1
      rw [if_pos rfl] at h1
      by_cases e2 : x = z
      · subst e2
        rw [if_pos rfl] at h2 ⊢
        exact lex_tr h1 h2
      · rw [if_neg e2] at h2 ⊢
        exact h2
    · rw [if_neg e1] at h1
      have := of_decide_eq_false h1
      by_cases e2 : y = z
      · subst e2
        rw [if_neg e1]
        exact h1
      · rw [if_neg e2] at h2
        have := of_decide_eq_false h2
        rw [if_neg (by omega)]
        exact decide_eq_false (by omega)
theorem rowB_asym {p q : Int × List Int} (h : rowB p q = true) : rowB q p = false := by
  unfold rowB at h ⊢
  by_cases e : p.1 = q.1
  · rw [if_pos e] at h
    rw [if_pos e.symm]
    exact lex_asym h
  · rw [if_neg e] at h
    rw [if_neg fun z => e z.symm]
    have := of_decide_eq_true h
    exact decide_eq_false (by omega)
theorem rowB_tr {p q r : Int × List Int} (h1 : rowB p q = false) (h2 : rowB q r = false) : rowB p r = false := by
  unfold rowB at h1 h2 ⊢
  by_cases e1 : p.1 = q.1
  · rw [if_pos e1] at h1
    by_cases e2 : q.1 = r.1
    · rw [if_pos e2] at h2
      rw [if_pos (e1.trans e2)]
      exact lex_tr h1 h2
    · rw [if_neg e2] at h2
      rw [if_neg (by omega)]
      have := of_decide_eq_false h2
      exact decide_eq_false (by omega)
  · rw [if_neg e1] at h1
    have := of_decide_eq_false h1
    by_cases e2 : q.1 = r.1
    · rw [if_neg (by omega)]
      exact decide_eq_false (by omega)
    · rw [if_neg e2] at h2
      have := of_decide_eq_false h2
      rw [if_neg (by omega)]
      exact decide_eq_false (by omega)
theorem rowB_swo {α : Type} (k : α → Int × List Int) : Swo fun v u => rowB (k v) (k u) := ⟨fun _ _ h => rowB_asym h, fun _ _ _ h1 h2 => rowB_tr h2 h1⟩
theorem eqv_cells : ∀ l m : List Int, PyData.eqvAll (l.map .int) (m.map .int) = decide (l = m)
  | [], [] => by simp [PyData.eqvAll]
  | [], _ :: _ => by simp [PyData.eqvAll]
  | _ :: _, [] => by simp [PyData.eqvAll]
  | x :: l, y :: m => by
    have := eqv_cells l m
    simp only [List.map_cons, PyData.eqvAll, PyData.eqv]
    rw [this]
    by_cases h1 : x = y <;> by_cases h2 : l = m <;> simp [h1, h2]
theorem lay_cells : ∀ l : List Int, PyData.canLayAll0 (l.map PyData.int) = true
  | [] => by simp [PyData.canLayAll0]
  | z :: l => by
    have := lay_cells l
    simp only [List.map_cons, PyData.canLayAll0, PyData.canLay0, Bool.true_and]; exact this
theorem dep_cells : ∀ l : List Int, PyData.depthAll (l.map PyData.int) = 0
  | [] => by simp [PyData.depthAll]
  | z :: l => by
    have := dep_cells l
    rw [List.map_cons, PyData.depthAll, this]; rfl
theorem reads_ints {h : Heap} : ∀ {vs : List Value} {ns : List Int}, IntsAre vs ns → ∃ as, ReadsAll h vs (ns.map PyData.int) as
  | [], [], _ => ⟨[], .nil⟩
  | _ :: _, _ :: _, .cons n t r => by
    obtain ⟨as, q⟩ := reads_ints r
    exact ⟨_, .cons (.int n t) q⟩
def IsRowV (h : Heap) (v : Value) (r : Int × List Int) : Prop := ∃ a o t c n o' vs n', v = .ref a ∧ h.get? a = some o ∧ o.cls = .type "tuple" ∧ o.data = .seq #[.int r.1 t, .ref c] n ∧ h.get? c = some o' ∧ o'.cls = .type "tuple" ∧ o'.data = .seq vs n' ∧ IntsAre vs.toList r.2
theorem IsRowV.keeps {h h' : Heap} {v : Value} {r : Int × List Int} (p : IsRowV h v r) (k : ∀ b o, h.get? b = some o → o.cls = .type "tuple" → h'.get? b = some o) : IsRowV h' v r := by
  obtain ⟨a, o, t, c, n, o', vs, n', e, ho, hc, hd, ho', hc', hd', hi⟩ := p
  exact ⟨a, o, t, c, n, o', vs, n', e, k _ _ ho hc, hc, hd, k _ _ ho' hc', hc', hd', hi⟩
section
variable {prog : Program} {w : World} {A : Around} {E : Value → Shared → Prop} {s : Shared}
theorem row_cmp (hu : A.units + 8 < cLine) {vs : List Value} {k : Value → Int × List Int} (hp : ∀ v ∈ vs, IsRowV s.heap v (k v)) : Cmp prog w A s (tuples' true) (fun p => p.1 ∈ vs) (lt2 fun v u => rowB (k v) (k u)) := by
  intro p q hm hm'
  have h1 := hp _ hm
  have h2 := hp _ hm'
  show wpAny (model prog w) A (keyLt' (tuples' true) p.1 q.1) (fun r s' => s' = s ∧ r = rowB (k p.1) (k q.1)) (fun _ _ => False) s
  generalize k p.1 = r1 at h1 ⊢
  generalize k q.1 = r2 at h2 ⊢
  obtain ⟨a, o, t, c, n, o1, us, n1, e, ho, hc, hd, ho1, hc1, hd1, hi1⟩ := h1
  obtain ⟨a', o', t', c', n', o2, ws, n2, e', ho', hc', hd', ho2, hc2, hd2, hi2⟩ := h2
  rw [e, e']
  refine PySem.W.kat_lt ho hd ho' hd' ?_
  show PySem.W.KatLex prog w A true (decide (2 < 2)) _ [(.int r1.1 t, .int r2.1 t'), (.ref c, .ref c')] 0 s
  refine PySem.W.kat_cons (SeqAt.EqAt.int_int r1.1 t r2.1 t' prog w _ _ ?_)
  obtain ⟨as1, ra1⟩ := reads_ints (h := s.heap) hi1
  obtain ⟨as2, ra2⟩ := reads_ints (h := s.heap) hi2
  refine PySem.W.kat_go (fun e1 => ?_) (fun e1 => ?_)
  · have ex : r1.1 = r2.1 := by simpa using e1
    have eq := SeqAt.eqAt_reads (.tuple (r1.2.map .int)) (.tuple (r2.2.map .int)) A s (.ref c) (.ref c') _ _ (.tuple ho1 hc1 hd1 ra1) (.tuple ho2 hc2 hd2 ra2) (by simp only [PyData.canLay0]; exact lay_cells _) (by simp only [PyData.canLay0]; exact lay_cells _) (by
      rw [PyData.depth, PyData.depth, dep_cells, dep_cells]; omega)
    rw [show PyData.eqv (.tuple (r1.2.map .int)) (.tuple (r2.2.map .int)) = decide (r1.2 = r2.2) by simp only [PyData.eqv]; exact eqv_cells _ _] at eq
    refine PySem.W.kat_yes (PySem.W.kat_cons (eq prog w _ _ ?_))
    have e3 : rowB r1 r2 = HT.lexLt r1.2 r2.2 := if_pos ex
    refine PySem.W.kat_go (fun e2 => ?_) (fun e2 => ?_)
    · have ec : r1.2 = r2.2 := of_decide_eq_true e2
      have : HT.lexLt r1.2 r2.2 = false := by
        rw [ec]
        cases z : HT.lexLt r2.2 r2.2 with
        | false => rfl
        | true =>
          have := lex_asym z
          rw [z] at this
          cases this
      exact PySem.W.kat_yes (PySem.W.kat_nil ⟨rfl, by rw [e3, this]; rfl⟩)
    · refine PySem.W.kat_no (PySem.W.kat_one _ _ (HT.lt_tupInts ⟨o1, ho1, hc1, n1, hd1⟩ ⟨o2, ho2, hc2, n2, hd2⟩ hi1 hi2 (by omega) ?_))
      exact (show s = s ∧ HT.lexLt r1.2 r2.2 = rowB r1 r2 from ⟨rfl, e3.symm⟩)
  · have ex : ¬ r1.1 = r2.1 := by simpa using e1
    have e3 : rowB r1 r2 = decide (r1.1 < r2.1) := if_neg ex
    exact PySem.W.kat_no (oneLt_int ⟨rfl, e3.symm⟩)
theorem row_firsts {h : Heap} : ∀ {vs : List Value}, (∀ v ∈ vs, ∃ r, IsRowV h v r) → ∃ fs : List Value, PySem.W.KatTups h vs fs ∧ fs.length = vs.length ∧ ∀ f ∈ fs, ∃ x t, f = Value.int x t
  | [], _ => ⟨[], PySem.W.KatTups.nil, rfl, fun _ hm => by simp at hm⟩
  | v :: vs, hp => by
    obtain ⟨fs, h1, h2, h3⟩ := row_firsts (vs := vs) fun v' hm => hp v' (List.mem_cons_of_mem _ hm)
    obtain ⟨r, a, o, t, c, n, o', us, n', e, ho, hc, hd, _⟩ := hp v (List.mem_cons_self ..)
    subst e
    refine ⟨.int r.1 t :: fs, PySem.W.KatTups.cons ho hc hd rfl h1, by rw [List.length_cons, List.length_cons, h2], fun f hm => ?_⟩
    rcases List.mem_cons.mp hm with rfl | hm
    · exact ⟨r.1, t, rfl⟩
    · exact h3 f hm
theorem rows_sortable (hu : A.units + 8 < cLine) {a : Addr} {vs : List Value} {k : Value → Int × List Int} (h0 : 0 < vs.length) (hp : ∀ v ∈ vs, IsRowV s.heap v (k v)) (ha : ∀ o, s.heap.get? a = some o → o.cls ≠ .type "tuple") : SortableO prog w A s a vs fun v u => rowB (k v) (k u) := by
  intro h' keep
  have hp' : ∀ v ∈ vs, IsRowV h' v (k v) := fun v hm => (hp v hm).keeps fun b o e c => keep b o (fun z => by subst z; exact ha o e c) e
  obtain ⟨fs, h1, h2, h3⟩ := row_firsts fun v hm => ⟨_, hp' v hm⟩
  refine ⟨tuples' true, fun Q E hq => ?_, row_cmp hu hp'⟩
  refine PySem.W.kat_kind (T := .type "int") h1 (by omega) (fun f hm => ?_) (by rfl) ?_
  · obtain ⟨x, t, rfl⟩ := h3 f hm
    exact PySem.W.Looks.now
  · have e : (Value.type "int" != Value.type "tuple") = true := by first | decide +kernel | rfl | decide
    rw [e]
    exact hq
/-- sorted of rows, any number of them -/
theorem sorted_rowsV (hu : A.in1.in1.units + 8 < cLine) {l : Addr} {vs : List Value} {k : Value → Int × List Int} {Q : Value → Shared → Prop} (hl : s.heap.IsList l vs.toArray) (hz : vs.length ≤ sizeLine) (hp : ∀ v ∈ vs, IsRowV s.heap v (k v))
    (h : ∀ (h' : Heap) (d : Addr) (out : List Value), Srtd (fun v u => rowB (k v) (k u)) out → Stb (fun v u => rowB (k v) (k u)) out vs → (∀ b o, s.heap.get? b = some o → h'.get? b = some o) → s.heap.objs.size ≤ d → (∃ n, h'.get? d = some (seqObj "list" out.toArray n)) → Q (.ref d) { s with heap := h' }) :
    wpAny (model prog w) A (call (.builtin "sorted") [.ref l]) Q E s := by
  refine sorted_ord (rowB_swo k) hl hz (fun h2 h₁ a ha kk => ?_) fun out hs hb => ?_
  · refine rows_sortable (s := { s with heap := h₁ }) hu (by omega) (fun v hm => (hp v hm).keeps fun b o e _ => (kk b o e).2) fun o e => ?_
    have e' : some o = some (seqObj "list" vs.toArray 0) := e.symm.trans ha
    cases e'
    intro c
    exact absurd (Value.type.inj c) (by decide)
  · exact h _ _ out hs hb (fun b o e => sortedAll_old e) (Nat.le_succ _) (sortedAll_at s.heap vs out.toArray)
end
/-! as a rule of the layer -/
abbrev ltR (k : V → Int × List Int) (x y : V) : Bool := rowB (k x) (k y)
def rSortedR (K : PySem.W.Frag) : List V → Hp → VK → Prop := fun vs H Q => ∃ (a : Addr) (xs : List V) (k : V → Int × List Int), vs = [V.ref a] ∧ SqL K H a xs ∧ (∀ x ∈ xs, ∃ t c, x = V.ref t ∧ Rd H t (.tup [.int (k x).1, .ref c]) ∧ Rd H c (.tup ((k x).2.map V.int))) ∧
  ∀ ys p, Srtd (ltR k) ys → ys.Perm xs → H p = none → Q (.ref p) (upd H p (.lst ys))
section
variable {X : Cx}
theorem ints_vals : ∀ {ns : List Int} {us : List Value}, Vals (ns.map V.int) us → IntsAre us ns
  | [], _, .nil => .nil
  | n :: ns, _, .cons r t => by
    obtain ⟨k, rfl⟩ := r
    exact .cons n k (ints_vals t)
theorem cr_sortedR (hu : X.A.units + 64 < cLine) : CallR X (.builtin "sorted") (rSortedR X.K) := by
  intro pins s σ H vs us Q I r h
  obtain ⟨a, xs, k, rfl, hs, hx, q⟩ := h
  obtain ⟨its, rv, hl, hz⟩ := I.list hs
  obtain ⟨u, rfl, ru⟩ := vals1 r
  obtain rfl : u = Value.ref a := ru
  obtain ⟨e1, e2⟩ := refs_back rv fun x m => by
    obtain ⟨t, _, e, _⟩ := hx x m
    exact ⟨t, e⟩
  refine sorted_rowsV (k := fun u => k (backV u)) ?_ hl.isList (by rw [← rv.length]; exact hz) (fun v hv => ?_) fun h' d out h1 h2 kp hd hn => ?_
  · show X.A.in1.in1.units + 8 < cLine
    have : X.A.in1.in1.units ≤ X.A.units + 2 := Nat.le_refl _
    omega
  · obtain ⟨t, rfl⟩ := e2 v hv
    have hm : V.ref t ∈ xs := by rw [e1]; exact List.mem_map.mpr ⟨_, hv, rfl⟩
    obtain ⟨t', c, e, ht, hc⟩ := hx _ hm
    cases e
    obtain ⟨_, its2, r2, o, ho, hcl, n, hd⟩ := ht.ok I.hok
    obtain ⟨u1, u2, rfl, ri, rj⟩ := vals2 r2
    obtain ⟨t1, rfl⟩ := ri
    obtain rfl : u2 = Value.ref c := rj
    obtain ⟨_, its3, r3, o3, ho3, hcl3, n3, hd3⟩ := hc.ok I.hok
    exact ⟨t, o, t1, c, n, o3, its3.toArray, n3, rfl, ho, hcl, hd, ho3, hcl3, hd3, by rw [show its3.toArray.toList = its3 by simp]; exact ints_vals r3⟩
  · have h3 : ∀ u ∈ out, ∃ a, u = Value.ref a := fun u hu => e2 u (h2.perm.mem_iff.mp hu)
    obtain ⟨n, hn⟩ := hn
    have hb : (out.map backV).Perm xs := by
      rw [e1]
      exact h2.perm.map backV
    refine ⟨.ref d, upd H d (.lst (out.map backV)), I.laid (t' := s.toks) kp hd ⟨?_, out, n, vals_back h3, hn⟩, rfl, q _ d (srtd_map h1) hb (I.hok.fresh hd)⟩
    rw [hb.length_eq]
    exact hz
end
end SrtR

namespace Dv
open PySem PySem.Spec PyProof.Rows L2
open Evl (Ex)
section
variable {K : PySem.W.Frag} {T : Tw} {σ : L2.St} {G G' H H' : Hp} {ta tb te tx tl : TE} {t u : TT} {v : V} {d : PyData}
theorem Stp.back {G1 G2 H2 : Hp} (p : Pre T G H) (e : Ex G G1) (s : Stp T G1 H G2 H2) : Stp T G H G H2 :=
  ⟨Ex.refl _, fun a o x y => (by rw [x] at y; cases y), s.fm, (e.trans s.ex).trans s.pre.1, fun S C z => ⟨(p.2 S C z).1, (s.pre.2 S C z).2⟩⟩
/-- a list kept apart, told for a while -/
theorem Ap.seen {l : Addr} {es : List PyData} {G0 H0 : Hp} (p0 : Pre T G0 H0) (hl : H0 l = none) (p : Pre T G H) (a : Ap l es G H) : ∃ G1, Ex G G1 ∧ Pre T G1 H ∧ Da G1 (.ref l) (.list es) := by
  obtain ⟨g, xs, e, k⟩ := a
  refine ⟨upd G l (.lst xs), Ex.new g, ⟨fun a u x => ?_, fun S C z => ?_⟩, .lst upd_same (k.mono (Ex.new g))⟩
  · by_cases q : a = l
    · rw [q, upd_same] at x; rw [q, ← x]; exact e
    · rw [upd_ne q] at x; exact p.1 a u x
  · refine ⟨?_, (p.2 S C z).2⟩
    have q : S ≠ l := fun q => p0.freshS hl C (by rw [z, q])
    rw [upd_ne q]
    exact (p.2 S C z).1
/-- a test while a list is seen -/
theorem b_seen {l : Addr} {es : List PyData} {α : Bool → Prop} {G0 H0 : Hp} (p0 : Pre T G0 H0) (hl : H0 l = none) (p : Pre T G H) (a : Ap l es G H) (h : ∀ G1, Ex G G1 → Da G1 (.ref l) (.list es) → EvB T t σ G1 α) {Q : Bool → Hp → Prop} (q : ∀ b H2, α b → Stp T G H G H2 → Q b H2) : t σ H Q := by
  obtain ⟨G1, e, p1, d⟩ := a.seen p0 hl p
  exact h G1 e d G1 H (Ex.refl _) p1 Q fun b G2 H2 s f => q b H2 f (s.back p e)
theorem s_whenA {l : Addr} {es : List PyData} {α : Bool → Prop} {G0 H0 : Hp} {D : Ends} {tu : TS} (p0 : Pre T G0 H0) (hl : H0 l = none) (p : Pre T G H) (a : Ap l es G H) (h : ∀ G1, Ex G G1 → Da G1 (.ref l) (.list es) → EvB T t σ G1 α)
    (h1 : α true → ∀ H2, Stp T G H G H2 → tu D σ H2) (h2 : α false → ∀ H2, Stp T G H G H2 → D.nx σ H2) : tIfS t tu tNext D σ H :=
  b_seen p0 hl p a h fun b H2 f s => by
    cases b with
    | true => exact h1 f H2 s
    | false => exact h2 f H2 s
/-- truth of a list -/
theorem b_truL {es : List PyData} (h : EvP T te σ G (· = .list es)) : EvB T (fun σ H Q => te σ H fun x H' => ∃ k, TruV K x H' k ∧ Q k H') σ G (· = !es.isEmpty) := fun G1 H x p Q q => h G1 H x p _ fun v d G2 H2 s2 k f => by
  subst f
  obtain ⟨a, xs, rfl, ga, kk⟩ := k.lstV
  refine ⟨!es.isEmpty, .inl ⟨xs, .inl (.inl (s2.pre.1 _ _ ga)), ?_⟩, q _ G2 H2 s2 rfl⟩
  have := kk.length
  cases xs <;> cases es <;> simp_all
theorem r_neg {i : Int} : RU1 T (rU fun i => V.int (-i)) (.int i) (· = .int (-i)) := fun x G H hx p Q q => by
  cases hx.intV
  exact ⟨i, rfl, q _ _ G H (Stp.refl p) (.int _) rfl⟩
theorem r_ixLast {ds : List PyData} {e : PyData} (h : ds.getLast? = some e) : RD T (rIxL K) (.list ds) (.int (-1)) (· = e) := fun x y G H hx hy p Q q => by
  cases hy.intV
  obtain ⟨a, xs, rfl, ga, k⟩ := hx.lstV
  rw [List.getLast?_eq_getElem?] at h
  obtain ⟨v, hv, kv⟩ := k.get h
  rw [← k.length] at hv
  have hn : xs ≠ [] := fun z => by subst z; simp at hv
  have hv2 : xs.getLast hn = v := by
    rw [List.getLast_eq_getElem]
    exact (List.getElem?_eq_some_iff.mp hv).2
  have ha : atI xs (-1) = some v := by
    rw [← List.dropLast_concat_getLast hn, hv2]
    exact atI_last _ _
  exact ⟨a, xs, -1, v, rfl, rfl, .inl (.inl (p.1 _ _ ga)), ha, q v e G H (Stp.refl p) kv rfl⟩
end

mutual
theorem Da.uniq {G : Hp} : ∀ {v : V} {d e : PyData}, Da G v d → Da G v e → d = e
  | _, _, _, .non, k => by cases k; rfl
  | _, _, _, .bl b, k => by cases k; rfl
  | _, _, _, .int b, k => by cases k; rfl
  | _, _, _, .lst h k, q => by
    cases q with
    | lst h2 k2 =>
      obtain rfl : _ = _ := HO.lst.inj (Option.some.inj (h.symm.trans h2))
      rw [DaA.uniq k k2]
    | tup h2 k2 => rcases h2 with h2 | ⟨o, h2⟩ <;> (rw [h] at h2; cases h2)
  | _, _, _, .tup (xs := xs) h k, q => by
    cases q with
    | lst h2 k2 => rcases h with h | ⟨o, h⟩ <;> (rw [h] at h2; cases h2)
    | @tup _ ys _ h2 k2 =>
      have e : xs = ys := by
        rcases h with h | ⟨o, h⟩ <;> rcases h2 with h2 | ⟨o2, h2⟩ <;> (rw [h] at h2; cases h2) <;> rfl
      subst e
      rw [DaA.uniq k k2]
theorem DaA.uniq {G : Hp} : ∀ {vs : List V} {ds es : List PyData}, DaA G vs ds → DaA G vs es → ds = es
  | _, _, _, .nil, k => by cases k; rfl
  | _, _, _, .cons h t, k => by
    cases k with
    | cons h2 t2 => rw [Da.uniq h h2, DaA.uniq t t2]
end
end Dv
namespace K0
open PySem PySem.Spec PyProof.Rows L2 Dv
open Evl (Ex)
abbrev Row := Int × List Int
abbrev encI (ns : List Int) : List PyData := ns.map .int
abbrev encC (cs : List Int) : PyData := .tuple (encI cs)
abbrev encR (r : Int × List Int) : PyData := .tuple [.int r.1, encC r.2]
/-! ### == of rows and lists of rows -/
theorem ints_lay : ∀ l : List Int, PyData.canLayAll0 (encI l) = true
  | [] => by simp [PyData.canLayAll0]
  | z :: l => by
    have := ints_lay l
    simp only [List.map_cons, PyData.canLayAll0, PyData.canLay0, Bool.true_and]; exact this
theorem ints_depth : ∀ l : List Int, PyData.depthAll (l.map PyData.int) = 0
  | [] => by simp [PyData.depthAll]
  | z :: l => by
    have := ints_depth l
    rw [List.map_cons, PyData.depthAll, this]; rfl
theorem encC_lay (l : List Int) : (encC l).canLay0 = true := by simp only [PyData.canLay0]; exact ints_lay l
theorem encC_depth (l : List Int) : (encC l).depth ≤ 1 := by
  show PyData.depth (.tuple (l.map PyData.int)) ≤ 1
  rw [PyData.depth, ints_depth]; omega
theorem encR_lay (r : Row) : (encR r).canLay0 = true := by simp only [PyData.canLay0, PyData.canLayAll0, ints_lay]; rfl
theorem encR_depth (r : Row) : (encR r).depth ≤ 2 := by
  show PyData.depth (.tuple [.int r.1, encC r.2]) ≤ 2
  have := encC_depth r.2
  have h0 : PyData.depth (.int r.1) = 0 := by rw [PyData.depth]
  rw [PyData.depth, PyData.depthAll, PyData.depthAll, PyData.depthAll, h0]; omega
theorem encRs_lay : ∀ l : List Row, PyData.canLayAll0 (l.map encR) = true
  | [] => by simp [PyData.canLayAll0]
  | z :: l => by
    have := encRs_lay l
    simp only [List.map_cons, PyData.canLayAll0, encR_lay, Bool.true_and]; exact this
theorem encRs_depth : ∀ l : List Row, PyData.depthAll (l.map encR) ≤ 2
  | [] => by simp [PyData.depthAll]
  | z :: l => by
    have := encRs_depth l
    have := encR_depth z
    rw [List.map_cons, PyData.depthAll]; omega
theorem shaped_of {d : PyData} (h1 : d.canLay0 = true) (h2 : d.depth ≤ 64) : SeqAt.shaped d = true := by
  show (d.canLay0 && decide (d.depth ≤ 64)) = true
  rw [h1, decide_eq_true h2]; rfl
theorem encR_shaped (r : Row) : SeqAt.shaped (encR r) = true := shaped_of (encR_lay r) (by have := encR_depth r; omega)
theorem encRs_shaped (l : List Row) : SeqAt.shaped (.list (l.map encR)) = true := shaped_of (by simp only [PyData.canLay0]; exact encRs_lay l) (by have := encRs_depth l; simp only [PyData.depth]; omega)
theorem encRt_shaped (l : List Row) : SeqAt.shaped (.tuple (l.map encR)) = true := shaped_of (by simp only [PyData.canLay0]; exact encRs_lay l) (by have := encRs_depth l; simp only [PyData.depth]; omega)
theorem encIs_shaped (l : List Int) : SeqAt.shaped (.list (encI l)) = true := shaped_of (by simp only [PyData.canLay0]; exact ints_lay l) (by
  show PyData.depth (.list (l.map PyData.int)) ≤ 64
  rw [PyData.depth, ints_depth]; omega)
theorem eqv_ints : ∀ l m : List Int, PyData.eqvAll (encI l) (encI m) = decide (l = m)
  | [], [] => by simp [PyData.eqvAll]
  | [], _ :: _ => by simp [PyData.eqvAll]
  | _ :: _, [] => by simp [PyData.eqvAll]
  | x :: l, y :: m => by
    have := eqv_ints l m
    simp only [List.map_cons, PyData.eqvAll, PyData.eqv]
    rw [this]
    by_cases h1 : x = y <;> by_cases h2 : l = m <;> simp [h1, h2]
theorem eqv_row (a b : Row) : PyData.eqv (encR a) (encR b) = decide (a = b) := by
  obtain ⟨a1, a2⟩ := a
  obtain ⟨b1, b2⟩ := b
  simp only [PyData.eqv, PyData.eqvAll, eqv_ints]
  by_cases h1 : a1 = b1 <;> by_cases h2 : a2 = b2 <;> simp [h1, h2]
theorem eqv_rows : ∀ l m : List Row, PyData.eqvAll (l.map encR) (m.map encR) = decide (l = m)
  | [], [] => by simp [PyData.eqvAll]
  | [], _ :: _ => by simp [PyData.eqvAll]
  | _ :: _, [] => by simp [PyData.eqvAll]
  | x :: l, y :: m => by
    have := eqv_rows l m
    rw [List.map_cons, List.map_cons, PyData.eqvAll, eqv_row, this]
    by_cases h1 : x = y <;> by_cases h2 : l = m <;> simp [h1, h2]
theorem eqv_listR (l m : List Row) : PyData.eqv (.list (l.map encR)) (.list (m.map encR)) = decide (l = m) := by simp only [PyData.eqv]; exact eqv_rows l m
theorem eqv_tupR (l m : List Row) : PyData.eqv (.tuple (l.map encR)) (.tuple (m.map encR)) = decide (l = m) := by simp only [PyData.eqv]; exact eqv_rows l m
theorem eqv_listI (l m : List Int) : PyData.eqv (.list (encI l)) (.list (encI m)) = decide (l = m) := by simp only [PyData.eqv]; exact eqv_ints l m

/-- things that sorted puts in order -/
structure So (α : Type) [DecidableEq α] where
  enc : α → PyData
  lt : α → α → Bool
  asym : ∀ a b, lt a b = true → lt b a = false
  tot : ∀ a b, lt a b = false → lt b a = false → a = b
  tr : ∀ a b c, lt b a = false → lt c b = false → lt c a = false
  inj : ∀ a b, enc a = enc b → a = b
  sh : ∀ a, SeqAt.shaped (enc a) = true
  eqv : ∀ a b, PyData.eqv (enc a) (enc b) = decide (a = b)
section
variable {α : Type} [DecidableEq α] (S : So α)
def AscL (l : List α) : Prop := l.Pairwise fun a b => S.lt a b = true
theorem So.irr (a : α) : S.lt a a = false := by
  cases h : S.lt a a with
  | false => rfl
  | true => have := S.asym a a h; rw [h] at this; cases this
theorem So.tr2 {a b c : α} (h1 : S.lt a b = true) (h2 : S.lt b c = true) : S.lt a c = true := by
  cases h : S.lt a c with
  | true => rfl
  | false =>
    have := S.tr b c a (S.asym _ _ h2) h
    rw [h1] at this; cases this
theorem ascL_eq : ∀ {l m : List α}, AscL S l → AscL S m → (∀ x, x ∈ l ↔ x ∈ m) → l = m
  | [], [], _, _, _ => rfl
  | [], b :: m, _, _, h => by have := (h b).2 (by simp); simp at this
  | a :: l, [], _, _, h => by have := (h a).1 (by simp); simp at this
  | a :: l, b :: m, h1, h2, h => by
    have p1 := List.pairwise_cons.mp h1
    have p2 := List.pairwise_cons.mp h2
    have e : a = b := by
      have x1 := (h a).1 (by simp)
      have x2 := (h b).2 (by simp)
      rw [List.mem_cons] at x1 x2
      rcases x1 with x1 | x1
      · exact x1
      · rcases x2 with x2 | x2
        · exact x2.symm
        · have y1 := p1.1 b x2
          have y2 := S.asym _ _ (p2.1 a x1)
          rw [y1] at y2; cases y2
    subst e
    refine congrArg (a :: ·) (ascL_eq p1.2 p2.2 fun x => ⟨fun hx => ?_, fun hx => ?_⟩)
    · have := (h x).1 (by simp [hx])
      rw [List.mem_cons] at this
      rcases this with rfl | y
      · have := p1.1 x hx; rw [S.irr] at this; cases this
      · exact y
    · have := (h x).2 (by simp [hx])
      rw [List.mem_cons] at this
      rcases this with rfl | y
      · have := p2.1 x hx; rw [S.irr] at this; cases this
      · exact y
theorem ascL_snoc {F ms : List α} {i : Nat} {x : α} (hs : ms.Pairwise fun a b => S.lt b a = false) (hx : ms[i]? = some x) (h : AscL S F ∧ ∀ y, y ∈ F ↔ y ∈ ms.take i) :
    ((F = [] ∨ F.getLast? ≠ some x) → AscL S (F ++ [x]) ∧ ∀ y, y ∈ F ++ [x] ↔ y ∈ ms.take (i + 1)) ∧ (¬ (F = [] ∨ F.getLast? ≠ some x) → AscL S F ∧ ∀ y, y ∈ F ↔ y ∈ ms.take (i + 1)) := by
  obtain ⟨h1, h2⟩ := h
  have et : ms.take (i + 1) = ms.take i ++ [x] := by rw [List.take_add_one, hx]; rfl
  obtain ⟨hi, ex⟩ := List.getElem?_eq_some_iff.mp hx
  have le : ∀ y ∈ ms.take i, S.lt x y = false := fun y hy => by
    obtain ⟨j, hj, ej⟩ := List.mem_iff_getElem.mp hy
    rw [List.length_take] at hj
    rw [List.getElem_take] at ej
    rw [← ej, ← ex]
    exact List.pairwise_iff_getElem.mp hs j i (by omega) hi (by omega)
  refine ⟨fun hc => ⟨?_, fun y => by rw [et, List.mem_append, List.mem_append, h2]⟩, fun hc => ⟨h1, fun y => ?_⟩⟩
  · refine List.pairwise_append.mpr ⟨h1, by simp, fun a ha b hb => ?_⟩
    rw [List.mem_singleton] at hb
    subst hb
    have l1 := le a ((h2 a).1 ha)
    rcases hc with rfl | hc
    · simp at ha
    · cases q : S.lt a b with
      | true => rfl
      | false =>
        exfalso
        have e := S.tot _ _ q l1
        subst e
        have hne : F ≠ [] := fun z => by rw [z] at ha; simp at ha
        have hl := List.getLast?_eq_some_getLast hne
        have m := (h2 _).1 (List.getLast_mem hne)
        have l2 := le _ m
        have l3 : S.lt (F.getLast hne) a = false := by
          obtain ⟨j, hj, ej⟩ := List.mem_iff_getElem.mp ha
          rw [List.getLast_eq_getElem]
          by_cases q : j = F.length - 1
          · subst q; rw [ej]; exact S.irr _
          · have := List.pairwise_iff_getElem.mp h1 j (F.length - 1) hj (by omega) (by omega)
            rw [ej] at this
            exact S.asym _ _ this
        exact hc (by rw [hl, S.tot _ _ l3 l2])
  · rw [et, List.mem_append, ← h2]
    refine ⟨Or.inl, fun z => ?_⟩
    rcases z with z | z
    · exact z
    · rw [List.mem_singleton] at z
      subst z
      have hne : F ≠ [] := fun z => hc (Or.inl z)
      have hl : F.getLast? = some y := by
        by_cases q : F.getLast? = some y
        · exact q
        · exact absurd (Or.inr q) hc
      rw [List.getLast?_eq_some_getLast hne] at hl
      rw [← Option.some.inj hl]
      exact List.getLast_mem hne
end
def soI : So Int where
  enc := .int
  lt a b := decide (a < b)
  asym a b h := by have := of_decide_eq_true h; exact decide_eq_false (by omega)
  tot a b h1 h2 := by have := of_decide_eq_false h1; have := of_decide_eq_false h2; omega
  tr a b c h1 h2 := by have := of_decide_eq_false h1; have := of_decide_eq_false h2; exact decide_eq_false (by omega)
  inj a b h := by cases h; rfl
  sh a := shaped_of (by simp [PyData.canLay0]) (by rw [PyData.depth]; omega)
  eqv a b := by
    simp only [PyData.eqv]
    by_cases h : a = b <;> simp [h]
theorem lex_tot : ∀ {a b : List Int}, HT.lexLt a b = false → HT.lexLt b a = false → a = b
  | [], [], _, _ => rfl
  | [], _ :: _, h, _ => by cases h
  | _ :: _, [], _, h => by cases h
  | x :: a, y :: b, h1, h2 => by
    unfold HT.lexLt at h1 h2
    by_cases e : x = y
    · subst e
      rw [if_pos rfl] at h1 h2
      rw [lex_tot h1 h2]
    · rw [if_neg e] at h1
      rw [if_neg fun z => e z.symm] at h2
      have := of_decide_eq_false h1
      have := of_decide_eq_false h2
      omega
def soR : So Row where
  enc := encR
  lt := SrtR.rowB
  asym a b h := SrtR.rowB_asym h
  tot a b h1 h2 := by
    obtain ⟨a1, a2⟩ := a
    obtain ⟨b1, b2⟩ := b
    unfold SrtR.rowB at h1 h2
    simp only at h1 h2
    by_cases e : a1 = b1
    · subst e
      rw [if_pos rfl] at h1 h2
      rw [lex_tot h1 h2]
    · rw [if_neg e] at h1
      rw [if_neg fun z => e z.symm] at h2
      have := of_decide_eq_false h1
      have := of_decide_eq_false h2
      omega
  tr a b c h1 h2 := SrtR.rowB_tr h2 h1
  inj a b h := by
    obtain ⟨a1, a2⟩ := a
    obtain ⟨b1, b2⟩ := b
    injection h with h
    injection h with h1 h2
    injection h1 with h1
    injection h2 with h2 _
    injection h2 with h2
    have h3 : a2 = b2 := (List.map_inj_right (fun a b h => by cases h; rfl)).mp h2
    have h4 : a1 = b1 := h1
    rw [h3, h4]
  sh := encR_shaped
  eqv := eqv_row
/-! the rule of sorted, for both -/
def rSortB (K : PySem.W.Frag) : List V → Hp → VK → Prop := fun vs H Q => rSorted K vs H Q ∨ SrtR.rSortedR K vs H Q
theorem cr_sortB {X : Cx} (hu : X.A.units + 64 < cLine) : CallR X (.builtin "sorted") (rSortB X.K) := fun pins s σ H vs us Q I r h => by
  rcases h with h | h
  · exact cr_sorted pins s σ H vs us Q I r h
  · exact SrtR.cr_sortedR hu pins s σ H vs us Q I r h
/-- what the rule asks of a kind of things -/
def Sortable {α : Type} [DecidableEq α] (S : So α) (K : PySem.W.Frag) (B : Nat) : Prop := ∀ (T : Tw) (ns : List α) (χ : PyData → Prop), ns.length < B → (∀ ms : List α, ms.Perm ns → (ms.Pairwise fun a b => S.lt b a = false) → χ (.list (ms.map S.enc))) → RCD T (rSortB K) [.list (ns.map S.enc)] χ
theorem sort_I {K : PySem.W.Frag} : Sortable soI K 64 := fun T ns χ hz hq xs G H hx p Q q =>
  .inl (c_sorted (K := K) (T := T) hz (fun ms h1 h2 => hq ms h1 (h2.imp fun {a b} z => decide_eq_false (by omega))) xs G H hx p Q q)
open Classical in
theorem sort_R {K : PySem.W.Frag} : Sortable soR K 100000 := fun T ns χ hz hq xs G H hx p Q q => by
  obtain ⟨v, ws, rfl, h, k⟩ := hx.consV
  cases k.nilV
  obtain ⟨a, ys, rfl, ga, kk⟩ := h.lstV
  let kf : V → Row := fun x => if h : ∃ r, Da G x (encR r) then choose h else (0, [])
  have hk : ∀ x r, Da G x (encR r) → kf x = r := fun x r hr => by
    have ex : ∃ r, Da G x (encR r) := ⟨r, hr⟩
    show (if h : ∃ r, Da G x (encR r) then choose h else (0, [])) = r
    rw [dif_pos ex]
    exact soR.inj _ _ (Da.uniq (choose_spec ex) hr)
  have hall : ∀ (ys : List V) (ns : List Row), DaA G ys (ns.map encR) → ys.map kf = ns ∧ ∀ x ∈ ys, Da G x (encR (kf x)) := by
    intro ys
    induction ys with
    | nil =>
      intro ns h
      cases ns with
      | nil => exact ⟨rfl, fun _ h => by cases h⟩
      | cons _ _ => cases h
    | cons y ys ih =>
      intro ns h
      cases ns with
      | nil => cases h
      | cons n ns =>
        cases h with
        | cons h1 h2 =>
          obtain ⟨e, f⟩ := ih ns h2
          have e1 := hk y n h1
          refine ⟨by rw [List.map_cons, e, e1], fun x hx => ?_⟩
          rcases List.mem_cons.mp hx with rfl | hx
          · rw [e1]; exact h1
          · exact f x hx
  obtain ⟨e0, f0⟩ := hall ys ns kk
  refine .inr ⟨a, ys, kf, rfl, .inl (.inl (p.1 _ _ ga)), fun x hx => ?_, fun zs l h1 h2 hl => ?_⟩
  · obtain ⟨t, us, rfl, gt, kt⟩ := (f0 x hx).tupV
    obtain ⟨u1, us, rfl, k1, kt⟩ := kt.consV
    obtain ⟨u2, us, rfl, k2, kt⟩ := kt.consV
    cases kt.nilV
    cases k1.intV
    obtain ⟨c, us, rfl, gc, kc⟩ := k2.tupV
    rw [kc.intsV] at gc
    exact ⟨t, c, rfl, Evl.ex_rd p.1 gt, Evl.ex_rd p.1 gc⟩
  · have s := Stp.new p (.lst zs) hl
    have hz : DaA G zs ((zs.map kf).map encR) := by
      have : ∀ zs : List V, (∀ x ∈ zs, x ∈ ys) → DaA G zs ((zs.map kf).map encR) := by
        intro zs
        induction zs with
        | nil => intro _; exact .nil
        | cons z zs ih => intro h; exact .cons (f0 z (h z (by simp))) (ih fun x hx => h x (by simp [hx]))
      exact this zs fun x hx => h2.mem_iff.mp hx
    refine q _ _ _ _ s (.lst upd_same (hz.mono s.ex)) (hq (zs.map kf) (by rw [← e0]; exact h2.map kf) ?_)
    exact List.pairwise_map.mpr h1
section
variable {P : Program} {w : World} {K : PySem.W.Frag} {mg : Str → Option Value} {base : Heap}
/-! sorted_things -/
def RSo {α : Type} [DecidableEq α] (S : So α) (B : Nat) (ds : List PyData) (d : PyData) : Prop := ∃ ns ms : List α, ds = [.list (ns.map S.enc)] ∧ ns.length < B ∧ AscL S ms ∧ (∀ x, x ∈ ms ↔ x ∈ ns) ∧ d = .tuple (ms.map S.enc)
def RSorted (ds : List PyData) (d : PyData) : Prop := RSo soI 64 ds d ∨ RSo soR 40000 ds d
theorem sorted_body {α : Type} [DecidableEq α] (S : So α) {B : Nat} (hB : B ≤ 40000) (so : Sortable S K B) {G H : Hp} {v : V} {ns ms : List α} {Q : VK} (p0 : Pre none G H) (kv : Da G v (.list (ns.map S.enc))) (hz : ns.length < B) (ha : AscL S ms) (hm : ∀ x, x ∈ ms ↔ x ∈ ns)
    (q : ∀ (v : V) (G' H' : Hp), Stp none G H G' H' → Da G' v (.tuple (ms.map S.enc)) → Q v H') :
    tSeq (tAsg (tLst tNil) (gName 1)) (tSeq (tFor (iList K (tCB (rSortB K) (tCons (tVar 0) tNil))) (gName 2) (tIfS (tOr (tNot (fun σ H Q => (tVar 1) σ H fun x H' => ∃ k, TruV K x H' k ∧ Q k H')) (tTest (tOp (rNeD K) (tOp (rIxL K) (tVar 1) (tUn (rU fun i => V.int (-i)) (tC (.int 1)))) (tVar 2)))) (tDrop (tBM K "list" rAppend (tVar 1) (tCons (tVar 2) tNil))) tNext))
      (tRet (tCB (fun xs H Q => ∃ p ys, xs = [.ref p] ∧ ((SqL K H p ys ∧ ∀ l, H l = none → Q (.ref l) (upd H l (.tup ys))) ∨ (SqT K H p ys ∧ Q (.ref p) H))) (tCons (tVar 1) tNil)))) { nx := fun _ H' => Q .non H', rt := Q } [some v, none, none] H := by
  refine q_new p0 (Stp.refl p0) fun l H1 hl s1 _ _ a1 => ?_
  refine q_forXN (b := true) (φ := fun d => ∃ ys : List α, d = .list (ys.map S.enc) ∧ ys.Perm ns ∧ ys.Pairwise fun a b => S.lt b a = false) (ξ := fun ds => ∃ ys : List α, ds = ys.map S.enc ∧ ys.Perm ns ∧ ys.Pairwise fun a b => S.lt b a = false) s1.pre
    (e_cb (a_cons (e_var rfl kv) a_nil (ζ := (· = [.list (ns.map S.enc)])) fun d ds e1 e2 => by rw [e1, e2]) fun ds e => by
      subst e
      exact so _ _ _ hz fun ms h1 h2 => ⟨ms, rfl, h1, h2⟩)
    (fun d ⟨ys, e, z⟩ => ⟨ys.map S.enc, e, ys, rfl, z⟩) (fun G1 H1 => Stp none G H G1 H1)
    (fun ds i σ G1 H1 => ∃ (ys F : List α) (x2 : Option V), ds = ys.map S.enc ∧ σ = [some v, some (.ref l), x2] ∧ Ap l (F.map S.enc) G1 H1 ∧ (AscL S F ∧ ∀ y, y ∈ F ↔ y ∈ ys.take i) ∧ F.length ≤ i)
    (fun ds G2 H2 ⟨ys, e, _⟩ s2 => ⟨s1.trans s2, ys, [], none, e, rfl, a1.stp p0 hl s2, ⟨.nil, by simp⟩, Nat.le_refl _⟩) (fun G1 H1 s => s.pre.1) ?_ ?_
  · rintro ds i d x σ' G1 H1 ⟨ys, rfl, hp, hs⟩ e1 sb hd kd ⟨ys', F, x2, e, rfl, ap, hF, hFl⟩
    have ey : ys' = ys := (List.map_inj_right (fun a b h => S.inj _ _ h)).mp e.symm
    subst ey
    obtain ⟨y, hy, rfl⟩ : ∃ y, ys'[i]? = some y ∧ d = S.enc y := by
      rw [List.getElem?_map] at hd
      cases q : ys'[i]? with
      | none => rw [q] at hd; cases hd
      | some y => rw [q] at hd; cases hd; exact ⟨y, rfl, rfl⟩
    have hi64 : i < B := by
      have := (List.getElem?_eq_some_iff.mp hy).1
      have := hp.length_eq
      omega
    have step := ascL_snoc S hs hy hF
    have hgl : ∀ z, F.getLast? = some z → (F.map S.enc).getLast? = some (S.enc z) := fun z hz => by rw [List.getLast?_map, hz]; rfl
    refine s_whenA p0 hl sb.pre ap (α := (· = (F.isEmpty || !decide (F.getLast?.getD y = y)))) (fun G2 e2 dl => ?_) (fun hb H2 s2 => ?_) (fun hb H2 s2 => ?_)
    · refine b_is (b_or (b_not (b_truL (e_var rfl dl))) fun hne => b_test (φ := (· = .bool (!decide (F.getLast?.getD y = y)))) (e_op (φ := (· = S.enc (F.getLast?.getD y))) (ψ := (· = S.enc y)) (e_op (φ := (· = .list (F.map S.enc))) (ψ := (· = .int (-1))) (e_var rfl dl) (e_un (φ := (· = .int 1)) e_int fun d e => ?_) fun d e hd he => ?_) (e_var rfl (kd.mono e2)) fun d e hd he => ?_) fun d hd => ⟨_, hd, rfl⟩) (by cases F <;> rfl)
      · subst e
        exact r_neg
      · subst hd; subst he
        have hF' : F ≠ [] := fun z => by subst z; simp at hne
        refine r_ixLast ?_
        rw [hgl _ (List.getLast?_eq_some_getLast hF'), List.getLast?_eq_some_getLast hF']
        rfl
      · subst hd; subst he
        exact r_neD (S.sh _) (S.sh _) (S.eqv _ _)
    · refine s_app p0 (sb.trans s2) rfl hl (ap.stp p0 hl s2) (by rw [List.length_map]; omega) (e_var rfl kd) fun d' G3 H3 e3 s3 a3 hd' => ⟨G3, e3, s3, ys', F ++ [y], _, rfl, rfl, ?_, ?_, by rw [List.length_append]; simp; omega⟩
      · subst hd'
        rw [List.map_append]
        exact a3
      · refine step.1 ?_
        cases F with
        | nil => exact .inl rfl
        | cons z F =>
          refine .inr fun q => ?_
          rw [q] at hb
          simp at hb
    · refine ⟨G1, Ex.refl _, sb.trans s2, ys', F, _, rfl, rfl, ap.stp p0 hl s2, step.2 ?_, by omega⟩
      cases F with
      | nil => simp at hb
      | cons z F =>
        intro q
        rcases q with q | q
        · cases q
        · rw [List.getLast?_eq_some_getLast (by simp)] at hb q
          simp at hb q
          exact q hb
  · rintro ds σ' G1 H1 ⟨ys, rfl, hp, hs⟩ e1 sb ⟨ys', F, x2, e, rfl, ap, hF, hFl⟩
    have ey : ys' = ys := (List.map_inj_right (fun a b h => S.inj _ _ h)).mp e.symm
    subst ey
    rw [List.length_map, List.take_length] at hF
    have eF : F = ms := ascL_eq S hF.1 ha fun x => by rw [hF.2, hm, hp.mem_iff]
    subst eF
    obtain ⟨G2, e2, s2, dl⟩ := ap.tell p0 sb hl
    exact s_ret s2.pre (e_cb (a_cons (e_var rfl dl) a_nil (ζ := (· = [.list (F.map S.enc)])) fun d ds e1 e2 => by rw [e1, e2]) fun ds e => by
      subst e
      exact c_tupL) fun v' d' G3 H3 s3 k3 f => q v' G3 H3 (s2.trans s3) (by subst f; exact k3)
theorem ok_sorted (t : Txt K mg "sorted_things" s_sorted_things p_sorted_things) (mS : mg "sorted" = none) (mT : mg "tuple" = none) : Ca P w K mg base "sorted_things" 1 p_sorted_things (spF RSorted) := by
  refine t.ca fun f fd F => F.ok sc_sorted_things (fun vs H Q E h => ?_) (fun cdv A outer s H vs Q E hr h => ?_)
  · obtain ⟨G, ds, d, _, k, h, _⟩ := h
    rcases h with ⟨ns, ms, rfl, _⟩ | ⟨ns, ms, rfl, _⟩ <;> exact k.length
  · obtain ⟨G, ds, d, p0, k, h, q⟩ := h
    refine ⟨_, pss_cons (ps_set (i := 1) sc_sorted_things.nd rfl (.inl rfl) (pe_lst pa_nil))
      (pss_cons (ps_for PassesOwn.never rfl (pi_list (pe_callB (cr_sortB hr.units) (by rfl) mS (by decide +kernel) (pa_cons (pv 0) pa_nil))) (pg_name (i := 2) sc_sorted_things.nd rfl (.inl rfl))
        (pss_one (ps_if (PW.pt (pw_or (pt_not (pt_truth (pv 1) (by intro _; rfl))) (pw_or1 (pt_cmpR (op_neD hr.units) (pe_ix ix_list (pv 1) (pe_un un_neg pe_int) (fun _ _ => rfl)) (pv 2) (nomark _)))))
          (pss_one (ps_expr (pe_bm PySem.F.plainAttrs_list PySem.F.slot_list_append PySem.F.type_list_append mt_append (pv 1) (pa_cons (pv 2) pa_nil)))) pss_nil)))
      (pss_one (ps_ret (pe_callTy call_tuple_of (by rfl) mT (by decide +kernel) (pa_cons (pv 1) pa_nil))))), ?_⟩
    rcases h with ⟨ns, ms, rfl, hz, ha, hm, rfl⟩ | ⟨ns, ms, rfl, hz, ha, hm, rfl⟩
    · obtain ⟨v, ws, rfl, kv, k0⟩ := k.consV
      cases k0.nilV
      exact sorted_body soI (by decide) sort_I p0 kv hz ha hm q
    · obtain ⟨v, ws, rfl, kv, k0⟩ := k.consV
      cases k0.nilV
      exact sorted_body soR (Nat.le_refl _) (fun T ns χ h => sort_R T ns χ (by omega)) p0 kv hz ha hm q
end
end K0

namespace Dv
open PySem PySem.Spec PyProof.Rows L2
open Evl (Ex)
section
variable {K : PySem.W.Frag} {T : Tw} {σ : L2.St} {G G' H H' G0 H0 : Hp} {ta : TA} {tb te tx tl : TE} {t u : TT} {v : V} {d : PyData} {D : Ends} {tu tw tz : TS}
theorem Stp.junk (s : Stp T G0 H0 G H) (p0 : Pre T G0 H0) {a : Addr} (o : HO) (h : H a = none) : Stp T G0 H0 G (upd H a o) := s.mut p0 o (s.free p0 h) (Evl.fresh_back s.pre.1 h)
theorem Ap.junk {l a : Addr} {es : List PyData} {o : HO} (p : Ap l es G H) (h : H a = none) : Ap l es G (upd H a o) := by
  obtain ⟨g, xs, e, k⟩ := p
  exact ⟨g, xs, by rw [upd_ne (ne_of_none e h)]; exact e, k⟩
/-- a, b = e -/
theorem q_unp2 {j1 j2 : Nat} {d1 d2 : PyData} (p : Pre T G H) (h : EvP T te σ G (· = .tuple [d1, d2])) (k : ∀ v1 v2 G1 H1, Stp T G H G1 H1 → Da G1 v1 d1 → Da G1 v2 d2 → tz D ((σ.set j1 (some v1)).set j2 (some v2)) H1) :
    tSeq (tAsg te (gTup K 2 (gCons (gName j1) (gCons (gName j2) gNil)))) tz D σ H := h G H (Ex.refl _) p _ fun v d G1 H1 s kd f => by
  subst f
  obtain ⟨a, xs, rfl, ga, kk⟩ := kd.tupV
  obtain ⟨v1, ws, rfl, k1, kk⟩ := kk.consV
  obtain ⟨v2, ws, rfl, k2, kk⟩ := kk.consV
  cases kk.nilV
  exact ⟨a, _, rfl, .inl (Evl.ex_rd s.pre.1 ga), rfl, v1, [v2], rfl, v2, [], rfl, rfl, k v1 v2 G1 H1 s k1 k2⟩
/-- for a, b in zip(two tuples) -/
theorem q_zip {j1 j2 : Nat} {ds es : List PyData} (p : Pre T G H) (h : EvA T ta σ G (· = [.tuple ds, .tuple es])) (hl : ds.length = es.length) (p0 : Pre T G0 H0) (s0 : Stp T G0 H0 G H) (I : Nat → L2.St → Hp → Hp → Prop) (h0 : ∀ G2 H2, Stp T G H G2 H2 → I 0 σ G2 H2)
    (hU : ∀ i σ' G1 H1 a o, I i σ' G1 H1 → H1 a = none → I i σ' G1 (upd H1 a o))
    (hs : ∀ i d e x y σ' G1 H1, Ex G G1 → Stp T G0 H0 G1 H1 → ds[i]? = some d → es[i]? = some e → Da G1 x d → Da G1 y e → I i σ' G1 H1 → tu { D with nx := fun σ'' H'' => ∃ G'', Ex G1 G'' ∧ Stp T G0 H0 G'' H'' ∧ I (i + 1) σ'' G'' H'', ct := fun σ'' H'' => ∃ G'', Ex G1 G'' ∧ Stp T G0 H0 G'' H'' ∧ I (i + 1) σ'' G'' H'', bk := tz D } ((σ'.set j1 (some x)).set j2 (some y)) H1)
    (hd : ∀ σ' G1 H1, Ex G G1 → Stp T G0 H0 G1 H1 → I ds.length σ' G1 H1 → tz D σ' H1) : tSeq (tFor (RZ.iZipA K ta) (gTup K 2 (gCons (gName j1) (gCons (gName j2) gNil))) tu) tz D σ H := by
  refine h G H (Ex.refl _) p _ fun vs ds' G2 H2 s2 kk f => ?_
  subst f
  obtain ⟨v1, ws, rfl, k1, kk⟩ := kk.consV
  obtain ⟨v2, ws, rfl, k2, kk⟩ := kk.consV
  cases kk.nilV
  obtain ⟨a, xs, rfl, ga, ka⟩ := k1.tupV
  obtain ⟨b, ys, rfl, gb, kb⟩ := k2.tupV
  refine ⟨a, b, xs, ys, rfl, .inr ⟨.inl (Evl.ex_rd s2.pre.1 ga), .inl (Evl.ex_rd s2.pre.1 gb), ?_⟩⟩
  have la := ka.length
  have lb := kb.length
  refine ⟨fun i m σ H => m = xs.length - i ∧ i ≤ xs.length ∧ ∃ G1, Ex G2 G1 ∧ Stp T G0 H0 G1 H ∧ I i σ G1 H, ⟨xs.length, by simp, Nat.zero_le _, G2, Ex.refl _, s0.trans s2, h0 G2 H2 s2⟩, ?_⟩
  rintro i m σ' H' ⟨rfl, hi, G1, e, s, ii⟩
  have sx : SqT K H' a xs := .inl (Evl.ex_rd s.pre.1 (Evl.ex_rd e ga))
  have sy : SqT K H' b ys := .inl (Evl.ex_rd s.pre.1 (Evl.ex_rd e gb))
  by_cases hlt : i < xs.length
  · have hlt2 : i < ys.length := lb ▸ hl ▸ la ▸ hlt
    refine .inr ⟨⟨xs, ys, _, _, sx, sy, List.getElem?_eq_getElem hlt, List.getElem?_eq_getElem hlt2⟩, fun σ'' H'' => ∃ G'', Ex G1 G'' ∧ Stp T G0 H0 G'' H'' ∧ I (i + 1) σ'' G'' H'', fun σ'' H'' ⟨G'', e'', p''⟩ => ⟨xs.length - (i + 1), by omega, rfl, hlt, G'', e.trans e'', p''⟩, fun vv H'' yy => ?_⟩
    obtain ⟨Tn, x, y, rfl, hT, rfl, f1, f2⟩ := yy
    obtain ⟨d, hd', kd⟩ := ka.getV (f1 _ sx)
    obtain ⟨e', he', ke⟩ := kb.getV (f2 _ sy)
    refine ⟨Tn, [x, y], rfl, .inl (.inl upd_same), rfl, x, [y], rfl, y, [], rfl, rfl, ?_⟩
    exact hs i d e' x y σ' G1 _ (s2.ex.trans e) (s.junk p0 _ hT) hd' he' (kd.mono e) (ke.mono e) (hU i σ' G1 H' Tn _ ii hT)
  · have q : i = xs.length := by omega
    subst q
    exact .inl ⟨⟨xs, ys, sx, sy, .inl (Nat.le_refl _)⟩, hd σ' G1 H' (s2.ex.trans e) s (by rw [← la]; exact ii)⟩
end
end Dv

namespace K0
open PySem L2
/-! products, column by column -/
def ext (acc : List (List Int)) (col : List Int) : List (List Int) := acc.flatMap fun b => col.map fun c => b ++ [c]
def prod (cols : List (List Int)) : List (List Int) := cols.foldl ext [[]]
theorem ext_length (acc : List (List Int)) (col : List Int) : (ext acc col).length = acc.length * col.length := by
  induction acc with
  | nil => simp [ext]
  | cons b acc ih =>
    show (List.length ((col.map fun c => b ++ [c]) ++ ext acc col)) = _
    rw [List.length_append, List.length_map, ih, List.length_cons, Nat.add_mul]; omega
theorem ext_take_le (acc : List (List Int)) (col : List Int) (i : Nat) : (ext (acc.take i) col).length ≤ acc.length * col.length := by
  rw [ext_length, List.length_take]
  exact Nat.mul_le_mul_right _ (Nat.min_le_right _ _)
theorem ext_take_succ {acc : List (List Int)} {col : List Int} {i : Nat} {b : List Int} (h : acc[i]? = some b) : ext (acc.take (i + 1)) col = ext (acc.take i) col ++ col.map fun c => b ++ [c] := by
  rw [List.take_add_one, h]
  simp [ext]
theorem prod_snoc (cols : List (List Int)) (col : List Int) : prod (cols ++ [col]) = ext (prod cols) col := by simp [prod]
theorem prod_length_le : ∀ (n : Nat) (cols : List (List Int)) (acc : List (List Int)), (∀ c ∈ cols, c.length ≤ n) → (cols.foldl ext acc).length ≤ acc.length * n ^ cols.length
  | n, [], acc, _ => by simp
  | n, c :: cols, acc, h => by
    have h1 := prod_length_le n cols (ext acc c) fun x hx => h x (by simp [hx])
    rw [ext_length] at h1
    refine Nat.le_trans h1 ?_
    rw [List.length_cons, Nat.pow_succ, Nat.mul_comm (n ^ cols.length) n, ← Nat.mul_assoc]
    exact Nat.mul_le_mul_right _ (Nat.mul_le_mul_left _ (h c (by simp)))
theorem ext_len {acc : List (List Int)} {col : List Int} {n : Nat} (h : ∀ b ∈ acc, b.length = n) : ∀ b ∈ ext acc col, b.length = n + 1 := fun b hb => by
  obtain ⟨b', h1, h2⟩ := List.mem_flatMap.mp hb
  obtain ⟨c, _, rfl⟩ := List.mem_map.mp h2
  rw [List.length_append, h b' h1]; rfl
theorem foldl_len : ∀ (cols : List (List Int)) (acc : List (List Int)) (n : Nat), (∀ b ∈ acc, b.length = n) → ∀ b ∈ cols.foldl ext acc, b.length = n + cols.length
  | [], _, n, h, b, hb => h b hb
  | c :: cols, acc, n, h, b, hb => by
    rw [foldl_len cols (ext acc c) (n + 1) (ext_len h) b hb, List.length_cons]; omega
theorem prod_len {cols : List (List Int)} {b : List Int} (h : b ∈ prod cols) : b.length = cols.length := by
  rw [foldl_len cols [[]] 0 (by simp) b h]; omega
end K0

namespace K0
open PySem PySem.Spec PyProof.Rows L2 Dv
theorem enc_get {α : Type} {f : α → PyData} {l : List α} {i : Nat} {d : PyData} (h : (l.map f)[i]? = some d) : ∃ z, l[i]? = some z ∧ d = f z := by
  rw [List.getElem?_map] at h
  cases q : l[i]? with
  | none => rw [q] at h; cases h
  | some z => rw [q] at h; cases h; exact ⟨z, rfl, rfl⟩
def RPicks (ds : List PyData) (d : PyData) : Prop := ∃ cols : List (List Int), ds = [.list (cols.map encC)] ∧ cols.length ≤ 3 ∧ (∀ c ∈ cols, c.length ≤ 12) ∧ d = .list ((prod cols).map encC)
end K0
namespace Dv
open PySem PySem.Spec PyProof.Rows L2
open Evl (Ex)
section
variable {K : PySem.W.Frag} {T : Tw} {σ : L2.St} {G G' H H' G0 H0 : Hp} {ta : TA} {tb te tx tl : TE} {t u : TT} {v : V} {d : PyData} {D : Ends} {tu tw tz : TS} {φ : PyData → Prop} {χ : PyData → Prop}
/-- tuple of a list -/
theorem e_tupL {ds : List PyData} {tn : TA} (h : EvP T te σ G (· = .list ds)) (hn : tn = tNil) : EvP T (tCB (fun xs H Q => ∃ p ys, xs = [.ref p] ∧ ((SqL K H p ys ∧ ∀ l, H l = none → Q (.ref l) (upd H l (.tup ys))) ∨ (SqT K H p ys ∧ Q (.ref p) H))) (tCons te tn)) σ G (· = .tuple ds) := by
  subst hn
  refine e_cb (a_cons h a_nil (ζ := (· = [.list ds])) ?_) ?_
  · rintro _ _ rfl rfl; rfl
  · rintro _ rfl; exact c_tupL
theorem a_one {ta : TE} {d : PyData} (h : EvP T ta σ G (· = d)) : EvA T (tCons ta tNil) σ G (· = [d]) := a_cons h a_nil fun _ _ e1 e2 => by rw [e1, e2]
theorem a_two {ta tb : TE} {d e : PyData} (h : EvP T ta σ G (· = d)) (h2 : EvP T tb σ G (· = e)) : EvA T (tCons ta (tCons tb tNil)) σ G (· = [d, e]) := a_cons h (a_one h2) fun _ _ e1 e2 => by rw [e1, e2]
theorem e_pair {ta tb : TE} {d e : PyData} (h : EvP T ta σ G (· = d)) (h2 : EvP T tb σ G (· = e)) : EvP T (tTup (tCons ta (tCons tb tNil))) σ G (· = .tuple [d, e]) := e_tup (a_two h h2) fun _ e => by subst e; exact ⟨by simp, rfl⟩
/-- a test of two ints -/
theorem b_eqI {ta tb : TE} {i j : Int} (h : EvP T ta σ G (· = .int i)) (h2 : EvP T tb σ G (· = .int j)) : EvB T (tTest (tOp rEq ta tb)) σ G (· = decide (i = j)) := b_test (φ := (· = .bool (decide (i = j)))) (e_op h h2 fun _ _ e1 e2 => by subst e1; subst e2; exact r_eqI) fun d e => ⟨_, e, rfl⟩
theorem b_neI {ta tb : TE} {i j : Int} (h : EvP T ta σ G (· = .int i)) (h2 : EvP T tb σ G (· = .int j)) : EvB T (tTest (tOp rNe ta tb)) σ G (· = !decide (i = j)) := b_test (φ := (· = .bool (!decide (i = j)))) (e_op h h2 fun _ _ e1 e2 => by subst e1; subst e2; exact r_neI) fun d e => ⟨_, e, rfl⟩
/-- the i-th of a tuple, a list -/
theorem e_ixT {ds : List PyData} {tb : TE} {i : Int} {j : Nat} {e : PyData} (h : EvP T te σ G (· = .tuple ds)) (hb : EvP T tb σ G (· = .int i)) (hi : i = (j : Int)) (hj : ds[j]? = some e) : EvP T (tOp (rIxT K) te tb) σ G (· = e) := e_op h hb fun _ _ e1 e2 => by subst e1; subst e2; exact r_ixT hi hj
theorem e_ixL {ds : List PyData} {tb : TE} {i : Int} {j : Nat} {e : PyData} (h : EvP T te σ G (· = .list ds)) (hb : EvP T tb σ G (· = .int i)) (hi : i = (j : Int)) (hj : ds[j]? = some e) : EvP T (tOp (rIxL K) te tb) σ G (· = e) := e_op h hb fun _ _ e1 e2 => by subst e1; subst e2; exact r_ixL hi hj
/-- a comprehension that keeps all: a map -/
theorem e_lcMap {b : Bool} {ds : List PyData} {j : Nat} {vs : List Nat} (f : PyData → PyData) (h : EvP T tl σ G (· = IsSq b ds)) (hz : ds.length ≤ 40000) (hw : ∀ x, wipe ((wipe σ vs).set j (some x)) vs = wipe σ vs)
    (he : ∀ d x G1, Ex G G1 → d ∈ ds → Da G1 x d → EvP T te ((wipe σ vs).set j (some x)) G1 (· = f d)) : EvP T (tLc (iSq K b tl) (gName j) tYes te vs) σ G (· = .list (ds.map f)) :=
  e_lc (fun i es => es = (ds.take i).map f) (α := fun _ b => b = true) (φ := fun i e => ∃ d, ds[i]? = some d ∧ e = f d) h rfl (fun i es e => by rw [e, List.length_map, List.length_take]; omega) hw (fun i d x G1 e1 hd kd G2 H2 e2 p Q q => q true G2 H2 (Stp.refl p) rfl)
    (fun i d x G1 e1 hd kd _ => (he d x G1 e1 (List.mem_of_getElem? hd) kd).imp fun e h => ⟨d, hd, h⟩) (fun i es e hi h1 _ ⟨d, hd, h2⟩ => by rw [h1, h2, List.take_add_one, hd, List.map_append]; rfl) (fun i es hi h1 h2 => by cases h2) (fun es e => by rw [e, List.take_length])
/-- .. that keeps some -/
theorem e_lcFil {b : Bool} {ds : List PyData} {j : Nat} {vs : List Nat} (g : PyData → Bool) (f : PyData → PyData) (h : EvP T tl σ G (· = IsSq b ds)) (hz : ds.length ≤ 40000) (hw : ∀ x, wipe ((wipe σ vs).set j (some x)) vs = wipe σ vs)
    (ht : ∀ d x G1, Ex G G1 → d ∈ ds → Da G1 x d → EvB T t ((wipe σ vs).set j (some x)) G1 (· = g d))
    (he : ∀ d x G1, Ex G G1 → d ∈ ds → Da G1 x d → EvP T te ((wipe σ vs).set j (some x)) G1 (· = f d)) : EvP T (tLc (iSq K b tl) (gName j) t te vs) σ G (· = .list ((ds.filter g).map f)) :=
  e_lc (fun i es => es = ((ds.take i).filter g).map f) (α := fun i b => ∃ d, ds[i]? = some d ∧ b = g d) (φ := fun i e => ∃ d, ds[i]? = some d ∧ e = f d) h rfl (fun i es e => by rw [e, List.length_map]; have := List.length_filter_le g (ds.take i); rw [List.length_take] at this; omega) hw
    (fun i d x G1 e1 hd kd => (ht d x G1 e1 (List.mem_of_getElem? hd) kd).imp fun e h => ⟨d, hd, h⟩)
    (fun i d x G1 e1 hd kd _ => (he d x G1 e1 (List.mem_of_getElem? hd) kd).imp fun e h => ⟨d, hd, h⟩) (fun i es e hi h1 ⟨d', hd', h3⟩ ⟨d, hd, h2⟩ => by
      have e0 := Option.some.inj (hd.symm.trans hd')
      subst e0
      rw [h1, h2, List.take_add_one, hd, List.filter_append, List.map_append]
      show _ = _ ++ List.map f (List.filter g [d])
      rw [List.filter_cons, if_pos h3.symm]; rfl) (fun i es hi h1 ⟨d, hd, h3⟩ => by
      rw [h1, List.take_add_one, hd, List.filter_append, List.map_append]
      show _ = _ ++ List.map f (List.filter g [d])
      rw [List.filter_cons, if_neg (by rw [← h3]; exact Bool.false_ne_true)]; simp) (fun es e => by rw [e, List.take_length])
end
end Dv
namespace Dv
open PySem PySem.Spec PyProof.Rows L2
open Evl (Ex)
section
variable {K : PySem.W.Frag} {T : Tw} {σ : L2.St} {G G' H H' G0 H0 : Hp} {ta : TA} {tb te tx tl : TE} {t u : TT} {v : V} {d : PyData} {D : Ends} {tu tw tz : TS} {φ : PyData → Prop} {χ : PyData → Prop}
theorem e_lcEnum {ds : List PyData} {j1 j2 : Nat} {vs : List Nat} (f : Nat → PyData → PyData) (h : EvA T ta σ G (· = [.list ds])) (hz : ds.length ≤ 40000) (hw : ∀ x y, wipe (((wipe σ vs).set j1 (some x)).set j2 (some y)) vs = wipe σ vs)
    (he : ∀ (i : Nat) d x G1, Ex G G1 → ds[i]? = some d → Da G1 x d → EvP T te (((wipe σ vs).set j1 (some (.int (i : Nat)))).set j2 (some x)) G1 (· = f i d)) :
    EvP T (tLc (iEnum K ta) (gTup K 2 (gCons (gName j1) (gCons (gName j2) gNil))) tYes te vs) σ G (· = .list (ds.mapIdx f)) := fun G1 H1 x p Q q => by
  refine h G1 H1 x p _ fun ws ds' G2 H2 s2 kk e => ?_
  subst e
  obtain ⟨v1, ws, rfl, k1, kk⟩ := kk.consV
  cases kk.nilV
  obtain ⟨a, xs, rfl, ga, ka⟩ := k1.lstV
  have la := ka.length
  have p2 := s2.pre
  refine ⟨a, xs, rfl, .inl (.inl (s2.pre.1 _ _ ga)), fun D hD => ?_⟩
  have gD : G2 D = none := Evl.fresh_back p2.1 hD
  refine lc_it (walk_enum (K := K) (a := a) (xs := xs)) (fun i H => ∃ G', Ex G2 G' ∧ Stp T G2 H2 G' H ∧ Ap D ((ds.take i).mapIdx f) G' H) ⟨G2, Ex.refl _, (Stp.refl p2).mut p2 _ hD gD, ⟨gD, [], upd_same, by simp; exact .nil⟩⟩ (fun i H _ ⟨G', e, s, _⟩ => .inl (.inl (s.pre.1 _ _ (e _ _ ga)))) (fun i v H H' hi ⟨G', e, s, a3⟩ y => ?_) (fun H ⟨G', e, s, ⟨g, ys, ex, k⟩⟩ => ?_)
  · obtain ⟨Tn, x1, x2, rfl, hT, rfl, e1, e2⟩ := y
    cases e1
    obtain ⟨d, hd, kd⟩ := ka.getV e2
    refine ⟨Tn, [.int (i : Nat), x2], rfl, .inl (.inl upd_same), rfl, _, [x2], rfl, x2, [], rfl, rfl, hw _ _, ?_⟩
    show te _ _ _
    have s' := s.junk p2 (.tup [.int (i : Nat), x2]) hT
    have a' : Ap D ((ds.take i).mapIdx f) G' (upd H Tn (.tup [.int (i : Nat), x2])) := a3.junk hT
    refine he i d x2 G' ((x.trans s2.ex).trans e) hd (kd.mono e) G' _ (Ex.refl _) s'.pre _ fun y e' G4 H4 s4 k4 f4 => ?_
    obtain ⟨g4, zs, e4, kz⟩ := a'.stp p2 hD s4
    refine ⟨zs, e4, Evl.sz_lt (by rw [kz.length, List.length_mapIdx, List.length_take]; omega), G4, e.trans s4.ex, (s'.trans s4).mut p2 _ hD g4, ⟨g4, _, upd_same, ?_⟩⟩
    rw [List.take_add_one, hd]
    show DaA G4 _ (List.mapIdx f (ds.take i ++ [d]))
    have hil : i < ds.length := by omega
    rw [List.mapIdx_append, List.length_take, Nat.min_eq_left (by omega)]
    subst f4
    have := kz.snoc k4
    simpa using this
  · rw [List.take_of_length_le (by omega)] at k
    exact q _ _ _ H (s2.trans (s.tell p2 hD g ex)) (.lst upd_same (k.mono (Ex.new g))) rfl
theorem map_get {α : Type} {f : α → PyData} {l : List α} {i : Nat} {d : PyData} (h : (l.map f)[i]? = some d) : ∃ z, l[i]? = some z ∧ d = f z := by
  rw [List.getElem?_map] at h
  cases q : l[i]? with
  | none => rw [q] at h; cases h
  | some z => rw [q] at h; cases h; exact ⟨z, rfl, rfl⟩
/-- two clauses, the inner items as they are -/
theorem e_lc2Flat {α : Type} {b b1 : Bool} (g : α → PyData) (l : List α) (f : α → List PyData) (B : Nat) {tl1 : TE} {j j1 : Nat} {vs vs1 : List Nat} (h : EvP T tl σ G (· = IsSq b (l.map g))) (hB : ∀ d ∈ l, (f d).length ≤ B) (hz : l.length * B + B ≤ 50000)
    (hw : ∀ x, wipe ((wipe σ vs).set j (some x)) vs = wipe σ vs)
    (hw1 : ∀ x y, wipe ((wipe ((wipe σ vs).set j (some x)) vs1).set j1 (some y)) vs1 = wipe ((wipe σ vs).set j (some x)) vs1)
    (hv : ∀ x y : V, ((wipe ((wipe σ vs).set j (some x)) vs1).set j1 (some y))[j1]? = some (some y))
    (hs : ∀ (i : Nat) a x G1, Ex G G1 → l[i]? = some a → Da G1 x (g a) → EvP T tl1 ((wipe σ vs).set j (some x)) G1 (· = IsSq b1 (f a))) :
    EvP T (tLc2 (iSq K b tl) (gName j) tYes (iSq K b1 tl1) (gName j1) tYes (tVar j1) vs vs1) σ G (· = .list (l.flatMap f)) := by
  have hsz : ∀ i, ((l.take i).flatMap f).length ≤ l.length * B := fun i => by
    have : ∀ l : List α, (∀ d ∈ l, (f d).length ≤ B) → (l.flatMap f).length ≤ l.length * B := fun l => by
      induction l with
      | nil => intro _; simp
      | cons a l ih =>
        intro hl
        rw [List.flatMap_cons, List.length_append, List.length_cons, Nat.add_mul]
        have := ih fun d hd => hl d (by simp [hd])
        have := hl a (by simp)
        omega
    refine Nat.le_trans (this _ fun d hd => hB d (List.take_subset i l hd)) ?_
    rw [List.length_take]
    exact Nat.mul_le_mul_right _ (Nat.min_le_right _ _)
  refine e_lc2 (b := b) (b1 := b1) (ds := l.map g) (f := fun i => ((l[i]?).map f).getD []) (fun i k es => es = (l.take i).flatMap f ++ (((l[i]?).map f).getD []).take k) (φ := fun i k e => (((l[i]?).map f).getD [])[k]? = some e) h (by simp) (fun i k es e => ?_) hw hw1 (fun i d x G1 e1 hd kd => ?_) (fun i k d e x y G1 e1 hd kd he ke => ?_) (fun i k es e hi hk h1 h2 => ?_) (fun i es hi h1 => ?_) (fun es h1 => ?_)
  · subst e
    have := hsz i
    rw [List.length_append, List.length_take]
    have h2 : (((l[i]?).map f).getD []).length ≤ B := by
      cases q : l[i]? with
      | none => simp
      | some d => exact hB d (List.mem_of_getElem? q)
    omega
  · obtain ⟨a, ha, rfl⟩ := map_get hd
    rw [ha]; exact hs i a x G1 e1 ha kd
  · refine (e_var (hv x y) ke).imp fun d' e' => ?_
    subst e'
    exact he
  · rw [h1, List.append_assoc, List.take_add_one, h2]; rfl
  · rw [List.length_map] at hi
    rw [h1, List.take_length, List.take_add_one, List.getElem?_eq_getElem hi, List.flatMap_append]
    simp
  · rw [h1, List.length_map, List.take_length]; simp
/-- one clause, typed -/
theorem e_lcT {α : Type} {b : Bool} (g : α → PyData) (l : List α) (p : α → Bool) (f : α → PyData) {j : Nat} {vs : List Nat} (h : EvP T tl σ G (· = IsSq b (l.map g))) (hz : l.length ≤ 40000) (hw : ∀ x, wipe ((wipe σ vs).set j (some x)) vs = wipe σ vs)
    (ht : ∀ a x G1, Ex G G1 → a ∈ l → Da G1 x (g a) → EvB T t ((wipe σ vs).set j (some x)) G1 (· = p a))
    (he : ∀ a x G1, Ex G G1 → a ∈ l → Da G1 x (g a) → p a = true → EvP T te ((wipe σ vs).set j (some x)) G1 (· = f a)) : EvP T (tLc (iSq K b tl) (gName j) t te vs) σ G (· = .list ((l.filter p).map f)) :=
  e_lc (fun i es => es = ((l.take i).filter p).map f) (α := fun i b => ∃ a, l[i]? = some a ∧ b = p a) (φ := fun i e => ∃ a, l[i]? = some a ∧ e = f a) h rfl (fun i es e => by rw [e, List.length_map]; have := List.length_filter_le p (l.take i); rw [List.length_take] at this; omega) hw
    (fun i d x G1 e1 hd kd => by
      obtain ⟨a, ha, rfl⟩ := map_get hd
      exact (ht a x G1 e1 (List.mem_of_getElem? ha) kd).imp fun e h => ⟨a, ha, h⟩)
    (fun i d x G1 e1 hd kd ⟨a', ha', hp⟩ => by
      obtain ⟨a, ha, rfl⟩ := map_get hd
      have e0 := Option.some.inj (ha.symm.trans ha')
      subst e0
      exact (he a x G1 e1 (List.mem_of_getElem? ha) kd hp.symm).imp fun e h => ⟨a, ha, h⟩) (fun i es e hi h1 ⟨d', hd', h3⟩ ⟨d, hd, h2⟩ => by
      have e0 := Option.some.inj (hd.symm.trans hd')
      subst e0
      rw [h1, h2, List.take_add_one, hd, List.filter_append, List.map_append]
      show _ = _ ++ List.map f (List.filter p [d])
      rw [List.filter_cons, if_pos h3.symm]; rfl) (fun i es hi h1 ⟨d, hd, h3⟩ => by
      rw [h1, List.take_add_one, hd, List.filter_append, List.map_append]
      show _ = _ ++ List.map f (List.filter p [d])
      rw [List.filter_cons, if_neg (by rw [← h3]; exact Bool.false_ne_true)]; simp) (fun es e => by rw [e, List.length_map, List.take_length])
theorem b_yes : EvB T tYes σ G (· = true) := fun G1 H x p Q q => q true G1 H (Stp.refl p) rfl
theorem e_lcTM {α : Type} {b : Bool} (g : α → PyData) (l : List α) (f : α → PyData) {j : Nat} {vs : List Nat} (h : EvP T tl σ G (· = IsSq b (l.map g))) (hz : l.length ≤ 40000) (hw : ∀ x, wipe ((wipe σ vs).set j (some x)) vs = wipe σ vs)
    (he : ∀ a x G1, Ex G G1 → a ∈ l → Da G1 x (g a) → EvP T te ((wipe σ vs).set j (some x)) G1 (· = f a)) : EvP T (tLc (iSq K b tl) (gName j) tYes te vs) σ G (· = .list (l.map f)) :=
  e_is (e_lcT g l (fun _ => true) f h hz hw (fun _ _ _ _ _ _ => b_yes) fun a x G1 e1 ha k _ => he a x G1 e1 ha k) (by rw [List.filter_eq_self.mpr fun _ _ => rfl])
end
end Dv
namespace Dv
open PySem PySem.Spec PyProof.Rows L2
open Evl (Ex)
section
variable {K : PySem.W.Frag} {T : Tw} {σ : L2.St} {G G' H H' G0 H0 : Hp} {ta : TA} {tb te tx tl : TE} {t u : TT} {v : V} {d : PyData} {D : Ends} {tu tw tz : TS} {φ χ : PyData → Prop}
/-- all of a list of truths -/
theorem e_all {bs : List Bool} {tn : TA} (hn : tn = tNil) (h : EvP T te σ G (· = .list (bs.map .bool))) : EvP T (tCB (rAll K) (tCons te tn)) σ G (· = .bool (bs.all id)) := by
  subst hn
  exact e_cb (a_one h) fun ds e => by subst e; exact c_all
/-- [e for k in range(n)], n known -/
theorem e_lcRM {n : Nat} (f : Nat → PyData) {j : Nat} {vs : List Nat} (h : EvA T ta σ G (· = [.int (n : Int)])) (hz : n ≤ 40000) (hw : ∀ x, wipe ((wipe σ vs).set j (some x)) vs = wipe σ vs)
    (he : ∀ (i : Nat) G1, i < n → Ex G G1 → EvP T te ((wipe σ vs).set j (some (.int (i : Int)))) G1 (· = f i)) : EvP T (tLc (iRng1 ta) (gName j) tYes te vs) σ G (· = .list ((List.range n).map f)) := by
  refine e_lcR (φn := fun m => m = (n : Int)) (fun i es => i ≤ n ∧ es = (List.range i).map f) (α := fun _ b => b = true) (φ := fun i d => d = f i) (fun G1 H1 x p Q q => h G1 H1 x p Q fun vs ds G2 H2 s k e => q vs ds G2 H2 s k ⟨_, e, rfl⟩) (fun m e => by omega) ⟨Nat.zero_le _, rfl⟩ ?_ hw (fun _ _ _ _ _ _ => b_yes) (fun m i G1 e hi x _ => he i G1 (by omega) x) ?_ ?_ ?_
  · rintro i es ⟨h1, rfl⟩
    rw [List.length_map, List.length_range]; omega
  · rintro m i es e hm hi ⟨h1, rfl⟩ _ rfl
    refine ⟨by omega, ?_⟩
    rw [List.range_succ, List.map_append]; rfl
  · intro m i es _ _ _ h; cases h
  · rintro m es rfl ⟨h1, rfl⟩
    rw [Int.toNat_natCast]
end
end Dv
namespace K0
open PySem PySem.Spec PyProof.Rows L2 Dv
open Evl (Ex)
/-! the law's own rows -/
def lext (acc : List (List Int)) (ws : List Int) : List (List Int) := ext acc ws
section
variable {P : Program} {w : World} {K : PySem.W.Frag} {mg : Str → Option Value} {base : Heap}
def RLonger (ds : List PyData) (d : PyData) : Prop := ∃ (acc : List (List Int)) (ws : List Int), ds = [.list (acc.map encC), .list (encI ws)] ∧ (∀ b ∈ acc, b.length ≤ 3) ∧ acc.length * ws.length ≤ 20000 ∧ ws.length ≤ 1000 ∧ d = .list ((ext acc ws).map encC)
theorem ok_longer (t : Txt K mg "_law_longer" s__law_longer p__law_longer) : Ca P w K mg base "_law_longer" 1 p__law_longer (spF RLonger) := by
  refine t.ca fun f fd F => F.ok sc__law_longer (fun vs H Q E h => ?_) (fun cdv A outer s H vs Q E hr h => ?_)
  · obtain ⟨G, ds, d, _, k, ⟨a, ws, rfl, _⟩, _⟩ := h
    exact k.length
  · obtain ⟨G, ds, d, p0, k, ⟨acc, ws, rfl, hb3, hz, hw1, rfl⟩, q⟩ := h
    obtain ⟨va, us, rfl, ka, k⟩ := k.consV
    obtain ⟨vw, us, rfl, kw, k⟩ := k.consV
    cases k.nilV
    refine ⟨_, pss_cons (ps_set (i := 2) sc__law_longer.nd rfl (.inl rfl) (pe_lst pa_nil))
      (pss_cons (ps_for PassesOwn.never rfl (pi_list (pv 0)) (pg_name (i := 3) sc__law_longer.nd rfl (.inr rfl))
        (pss_one (ps_expr (pe_bm PySem.F.plainAttrs_list PySem.F.slot_list_extend PySem.F.type_list_extend mt_extend (pv 2) (pa_cons (pe_lc (own := [("_law_worth", 4)]) (g := gName 4) (tt := tYes) (te := tOp (rCatA K) (tVar 3) (tTup (tCons (tVar 4) tNil))) (by rfl) sc__law_longer.nd (pi_list (pv 1)) (blkOk_by (N := n__law_longer) (sc := defScope s__law_longer) (by decide +kernel))
          (fun _ _ _ _ _ => pg_name (i := 4) sc__law_longer.nd rfl (.inl rfl)) (fun _ _ _ _ _ => pts_nil) (fun _ _ _ _ _ => pe_op op_catA (pv 3) (pe_tup (pa_cons (pv 4) pa_nil)))) pa_nil)))))
      (pss_one (ps_ret (pv 2)))), ?_⟩
    refine q_new p0 (Stp.refl p0) fun l H1 hl s1 _ _ a1 => ?_
    refine q_forN (b := true) (ds := acc.map encC) s1.pre (e_var rfl ka) (fun G1 H1 => Stp none G H G1 H1) (fun i σ G1 H1 => ∃ x3, σ = [some va, some vw, some (.ref l), x3, none] ∧ Ap l ((ext (acc.take i) ws).map encC) G1 H1)
      (fun G2 H2 s2 => ⟨s1.trans s2, none, rfl, by simpa [ext] using a1.stp p0 hl s2⟩) (fun G1 H1 s => s.pre.1) ?_ ?_
    · rintro i d x σ' G2 H2 e2 s2 hd kx ⟨x3, rfl, b1⟩
      obtain ⟨b, hb, rfl⟩ := enc_get hd
      have hbl := hb3 b (List.mem_of_getElem? hb)
      have htl := ext_take_le acc ws i
      refine s_ext (es := (ext (acc.take i) ws).map encC) (fs := (ws.map fun c => b ++ [c]).map encC) p0 s2 rfl hl b1 (by rw [List.length_map, List.length_map, List.length_map]; omega) (e_is (e_lcTM (b := true) PyData.int ws (fun c => encC (b ++ [c])) (e_var rfl (kw.mono e2)) (by omega) (fun _ => rfl) fun c y G3 e3 hc ky => ?_) (by rw [List.map_map]; rfl)) fun G3 H3 e3 s3 b3 => ⟨G3, e3, s3, _, rfl, ?_⟩
      · refine e_op (e_var rfl (kx.mono e3)) (ψ := (· = encC [c])) (e_tup (a_one (e_var rfl ky)) fun _ e => by subst e; exact ⟨by simp, rfl⟩) fun _ _ e1 e2 => ?_
        subst e1; subst e2
        have := r_catT (K := K) (T := none) (ds := encI b) (es := encI [c]) (by simp only [List.length_map, List.length_cons, List.length_nil]; omega)
        rw [← List.map_append] at this
        exact this
      · rw [ext_take_succ hb, List.map_append]; exact b3
    · rintro σ' G2 H2 e2 s2 ⟨x3, rfl, b1⟩
      rw [List.length_map, List.take_length] at b1
      obtain ⟨G3, e3, s3, d3⟩ := b1.tell p0 s2 hl
      exact s_ret s3.pre (e_var rfl d3) fun v d G4 H4 s4 k4 e => q v G4 H4 (s3.trans s4) (by subst e; exact k4)
end
end K0

/-! max(xs, default=d) of ints -/
namespace Mx
open PySem PySem.Spec PyProof.Rows L2
abbrev kwD (d : Value) : List (Str × Value) := [(Str.ofString "default", d)]
section
variable {P : Program} {w : World} {A : Around} {R : Result → Shared → Prop} {I : Addr} {fp wr : List Addr} {n : Nat} {St : Nat → Heap → Prop} {val : Nat → Int} {d : Value}
/-- best of the first j + 1 -/
def Best (val : Nat → Int) (j : Nat) (v : Value) : Prop := ∃ b t, v = .int b t ∧ (∃ i, i ≤ j ∧ b = val i) ∧ ∀ i, i ≤ j → val i ≤ b
abbrev lst (xs : Array Value) (c : Nat) : Obj := { cls := .type "list", dict := none, data := .seq xs c, slots := #[] }
abbrev IntAt (val : Nat → Int) (i : Nat) (v : Value) : Prop := ∃ t, v = .int (val i) t
theorem loop_rest (W : Walks P w A.in1 I fp wr n (IntAt val) St) {S : Addr} (hS : S ∉ fp) : ∀ (left j : Nat), j + 1 + left = n → ∀ (st : Shared) (best : Value) (c : Nat), St (j + 1) st.heap → Best val j best → st.heap.get? S = some (lst #[best, best] c) →
    (∀ v h' tk, Best val (n - 1) v → (∀ b o, b ∉ wr → b ≠ S → st.heap.get? b = some o → h'.get? b = some o) → R (.ok (.ret v)) { st with heap := h', toks := tk }) →
    codeAny (model P w) A (.builtin "max.loop" ⟨[.ref I, .none, .ref S], kwD d⟩) R st := by
  have nW : S ∉ wr := fun z => hS (W.sub _ z)
  intro left
  induction left with
  | zero =>
    intro j ej st best c at_ bj oS last
    obtain rfl : n = j + 1 := by omega
    refine codeAny_builtin F.entry_max_loop ?_
    rw [Around.under_plainId F.plain_max_loop _]
    refine wpAny_bind (m := seqItems? (.ref S)) (wpAny_seqItems oS rfl ?_)
    refine wpAny_bind (m := tryCatch (pyNext (.ref I)) _) (wpAny_tryCatch (W.done st _ _ at_ fun h1 tk keep => ?_))
    have oS1 := keep S _ nW oS
    refine wpAny_bind (m := updateSeq S (fun _ => #[])) (wpAny_updateSeq oS1 rfl (wpAny_bind (wpAny_letGo (wpAny_pure ?_))))
    exact last best _ tk bj fun b o b1 b2 e => (Heap.get?_update_other _ _ (Ne.symm b2)).trans (keep b o b1 e)
  | succ left ih =>
    intro j ej st best c at_ bj oS last
    refine codeAny_builtin F.entry_max_loop ?_
    rw [Around.under_plainId F.plain_max_loop _]
    refine wpAny_bind (m := seqItems? (.ref S)) (wpAny_seqItems oS rfl ?_)
    refine wpAny_bind (m := tryCatch (pyNext (.ref I)) _) (wpAny_tryCatch (W.item (j + 1) st _ _ (by omega) at_ fun v h1 tk hv at1 keep => ?_))
    have oS1 := keep S _ nW oS
    obtain ⟨t1, rfl⟩ := hv
    obtain ⟨b0, t0, rfl, ⟨i0, hi0, e0⟩, top⟩ := bj
    refine wpAny_bind (m := tryCatch (holding [.int (val (j + 1)) t1, .int (val (j + 1)) t1] _) _) (wpAny_tryCatch (wpAny_holding (wpAny_bind (m := richCompare .Gt (.int (val (j + 1)) t1) (.int b0 t0)) (PyProof.Rows.gt_int ?_))))
    refine wpAny_bind (wpAny_holding (wpAny_truthy_bool ?_))
    refine wpAny_bind (wpAny_letGo (wpAny_pure ?_))
    by_cases gt : b0 < val (j + 1)
    · rw [decide_eq_true gt]
      simp only [if_true]
      refine wpAny_bind (wpAny_updateSeq oS1 rfl (wpAny_bind (wpAny_letGo ?_)))
      refine wpAny_pure ⟨plainId_quiet F.plain_max_loop _, ?_⟩
      refine ih (j + 1) (by omega) _ (.int (val (j + 1)) t1) _ (W.frame _ _ _ at1 fun b inF o e => (Heap.get?_update_other _ _ (fun z : S = b => hS (z ▸ inF))).trans e) ⟨_, t1, rfl, ⟨j + 1, Nat.le_refl _, rfl⟩, fun i hi => ?_⟩ (Heap.get?_update_self _ oS1 rfl) fun v h2 tk2 hv keep2 => ?_
      · by_cases z : i = j + 1
        · subst z; exact Int.le_refl _
        · have := top i (by omega)
          omega
      · exact last v h2 tk2 hv fun b o b1 b2 e => keep2 b o b1 b2 ((Heap.get?_update_other _ _ (Ne.symm b2)).trans (keep b o b1 e))
    · rw [decide_eq_false gt]
      simp only [Bool.false_eq_true, if_false]
      refine wpAny_bind (wpAny_letGo ?_)
      refine wpAny_pure ⟨plainId_quiet F.plain_max_loop _, ?_⟩
      refine ih (j + 1) (by omega) _ (.int b0 t0) c at1 ⟨b0, t0, rfl, ⟨i0, by omega, e0⟩, fun i hi => ?_⟩ oS1 fun v h2 tk2 hv keep2 => ?_
      · by_cases z : i = j + 1
        · subst z; omega
        · exact top i (by omega)
      · exact last v h2 tk2 hv fun b o b1 b2 e => keep2 b o b1 b2 (keep b o b1 e)
/-- from the beginning: the default if there is none -/
theorem loop_all (W : Walks P w A.in1 I fp wr n (IntAt val) St) {S : Addr} (hS : S ∉ fp) {st : Shared} {c : Nat} (at_ : St 0 st.heap) (oS : st.heap.get? S = some (lst #[] c))
    (last : ∀ v h' tk, (n = 0 ∧ v = d ∨ 0 < n ∧ Best val (n - 1) v) → (∀ b o, b ∉ wr → b ≠ S → st.heap.get? b = some o → h'.get? b = some o) → R (.ok (.ret v)) { st with heap := h', toks := tk }) :
    codeAny (model P w) A (.builtin "max.loop" ⟨[.ref I, .none, .ref S], kwD d⟩) R st := by
  have nW : S ∉ wr := fun z => hS (W.sub _ z)
  refine codeAny_builtin F.entry_max_loop ?_
  rw [Around.under_plainId F.plain_max_loop _]
  refine wpAny_bind (m := seqItems? (.ref S)) (wpAny_seqItems oS rfl ?_)
  by_cases n0 : n = 0
  · subst n0
    refine wpAny_bind (m := tryCatch (pyNext (.ref I)) _) (wpAny_tryCatch (W.done st _ _ at_ fun h1 tk keep => ?_))
    show wpAny (model P w) A.in1 (rule (toString "max" ++ toString ".default") >>= fun _ => pure (Fin.done (Flow.ret d))) _ _ _
    refine wpAny_bind (wpAny_rule ?_)
    exact wpAny_pure (last d _ tk (.inl ⟨rfl, rfl⟩) fun b o b1 _ e => keep b o b1 e)
  · refine wpAny_bind (m := tryCatch (pyNext (.ref I)) _) (wpAny_tryCatch (W.item 0 st _ _ (by omega) at_ fun v h1 tk hv at1 keep => ?_))
    have oS1 := keep S _ nW oS
    obtain ⟨t1, rfl⟩ := hv
    refine wpAny_bind (m := updateSeq S (fun _ => #[.int (val 0) t1, .int (val 0) t1])) (wpAny_updateSeq oS1 rfl ?_)
    refine wpAny_pure ⟨plainId_quiet F.plain_max_loop _, ?_⟩
    refine loop_rest W hS (n - 1) 0 (by omega) _ (.int (val 0) t1) _ (W.frame _ _ _ at1 fun b inF o e => (Heap.get?_update_other _ _ (fun z : S = b => hS (z ▸ inF))).trans e) ⟨_, t1, rfl, ⟨0, Nat.le_refl _, rfl⟩, fun i hi => ?_⟩ (Heap.get?_update_self _ oS1 rfl) fun v h2 tk2 hv keep2 => ?_
    · obtain rfl : i = 0 := by omega
      exact Int.le_refl _
    · exact last v h2 tk2 (.inr ⟨by omega, hv⟩) fun b o b1 b2 e => keep2 b o b1 b2 ((Heap.get?_update_other _ _ (Ne.symm b2)).trans (keep b o b1 e))
theorem call_kw {st : Shared} {x : Value} {Q : Value → Shared → Prop} {E : Value → Shared → Prop}
    (hx : wpAny (model P w) A.in1 (pyIter x) (fun it s2 => ∃ I fp wr n St val, it = .ref I ∧ Walks P w A.in1 I fp wr n (IntAt val) St ∧ St 0 s2.heap ∧ (∀ b ∈ fp, b < s2.heap.objs.size) ∧
      ∀ v h' tk, (n = 0 ∧ v = d ∨ 0 < n ∧ Best val (n - 1) v) → (∀ b o, b ∉ wr → s2.heap.get? b = some o → h'.get? b = some o) → Q v { s2 with heap := h', toks := tk }) E st) :
    wpAny (model P w) A (call (.builtin "max") [x] (kwD d)) Q E st := by
  refine wpAny_call (codeAny_call_builtin F.plain_max F.entry_max ?_)
  have ok : checkBuiltinCall "max" ⟨[x], kwD d⟩ = pure () := by
    simp only [checkBuiltinCall, F.kind_max]
    rfl
  rw [ok]
  refine wpAny_pure ?_
  refine wpAny_bind (m := Builtin.Builtins.bindParams "max" ["key", "default"] 0 ⟨[], kwD d⟩) (wpAny_of_eq (show _ = pure [none, some d] from rfl) ?_)
  refine wpAny_bind (m := pure x) (wpAny_pure ?_)
  refine wpAny_bind (m := pyIter x) (wpAny_mono hx (fun it s2 h2 => ?_) fun _ _ e => e)
  obtain ⟨I, fp, wr, n, St, val, rfl, W, at_, low, last⟩ := h2
  refine wpAny_bind (wpAny_newObj_type ?_)
  have out : s2.heap.objs.size ∉ fp := fun z => Nat.lt_irrefl _ (low _ z)
  refine wpAny_pure ⟨plainId_quiet F.plain_max_loop _, ?_⟩
  refine loop_all W out (W.frame _ _ _ at_ fun b _ o e => Heap.get?_push_of_some _ e) (Heap.get?_push_size _ rfl) fun v h' tk hv keep => ?_
  exact last v h' tk hv fun b o nb e => keep b o nb (Nat.ne_of_lt (Heap.lt_size e)) (Heap.get?_push_of_some _ e)
end
end Mx

namespace Mx
open PySem PySem.Spec PyProof.Rows L2
theorem _root_.PySem.Walks.as {P : Program} {w : World} {A : Around} {I : Addr} {fp wr : List Addr} {n : Nat} {p q : Nat → Value → Prop} {St : Nat → Heap → Prop} (W : Walks P w A I fp wr n p St) (h : ∀ i v, p i v → q i v) : Walks P w A I fp wr n q St :=
  ⟨W.sub, W.frame, fun i s Q E hi at_ k => W.item i s Q E hi at_ fun v h' tk hv => k v h' tk (h i v hv), W.done, W.self⟩
theorem ints_at : ∀ {vs : List Value} {ns : List Int}, IntsAre vs ns → ∀ {i : Nat} {v : Value}, vs[i]? = some v → ∃ t, v = .int (ns.getD i 0) t
  | _ :: _, _ :: _, .cons n t r, 0, v, e => by cases e; exact ⟨t, rfl⟩
  | _ :: _, _ :: _, .cons n t r, i + 1, v, e => by
    have := ints_at r (i := i) e
    simpa using this
def rMaxDef (K : PySem.W.Frag) : List V → List V → Hp → VK → Prop := fun vs zs H Q => ∃ (a : Addr) (ns : List Int) (d : Int), vs = [.ref a] ∧ (SqL K H a (ns.map V.int) ∨ SqT K H a (ns.map V.int)) ∧ zs = [.int d] ∧
  (ns = [] → Q (.int d) H) ∧ (ns ≠ [] → ∀ m, m ∈ ns → (∀ y ∈ ns, y ≤ m) → Q (.int m) H)
section
variable {X : Cx}
theorem ck_max (hc : X.calm = true) : CallRK X (.builtin "max") [Str.ofString "default"] (rMaxDef X.K) := by
  intro pins st σ H vs zs us ws Q inv r1 r2 ⟨a, ns, d, e1, at_, e2, q0, q1⟩
  subst e1
  subst e2
  obtain ⟨u, rfl, ru⟩ := vals1 r1
  obtain rfl : u = Value.ref a := ru
  obtain ⟨z, rfl, tz, rfl⟩ := vals1 r2
  have last : ∀ {s2 : Shared} (I2 : Inv X pins σ H s2) (v : Value), (ns.length = 0 ∧ v = .int d tz ∨ 0 < ns.length ∧ Best (fun i => ns.getD i 0) (ns.length - 1) v) → EP X pins σ Q v s2 := fun I2 v hv => by
    rcases hv with ⟨h0, rfl⟩ | ⟨h0, b, t, rfl, ⟨i, hi, rfl⟩, top⟩
    · exact ⟨.int d, H, I2, ⟨_, rfl⟩, q0 (List.eq_nil_of_length_eq_zero h0)⟩
    · have hil : i < ns.length := by omega
      have gi : ns.getD i 0 = ns[i] := by rw [List.getD_eq_getElem?_getD, List.getElem?_eq_getElem hil]; rfl
      refine ⟨.int (ns.getD i 0), H, I2, ⟨_, rfl⟩, q1 (fun z => by subst z; simp at h0) _ (by rw [gi]; exact List.getElem_mem hil) fun y hy => ?_⟩
      obtain ⟨j, hj, rfl⟩ := List.mem_iff_getElem.mp hy
      have this : ns.getD j 0 ≤ ns.getD i 0 := top j (by omega)
      rw [List.getD_eq_getElem?_getD, List.getElem?_eq_getElem hj] at this
      exact this
  rcases at_ with at_ | at_
  · obtain ⟨its, rv, p, _⟩ := inv.list at_
    have is : IntsAre its.toArray.toList ns := SrtR.ints_vals rv
    have hl : its.toArray.size = ns.length := by rw [List.size_toArray, ← rv.length, List.length_map]
    have low : a < st.heap.objs.size := p.lt
    refine call_kw (wpAny_pyIter_list p.isList ⟨st.heap.objs.size, [st.heap.objs.size, a], [st.heap.objs.size], its.toArray.size, _, fun i => ns.getD i 0, rfl, (Walks.list (A := X.A.in1) (inv.ok.hd hc) _ a (Nat.ne_of_lt low) its.toArray).as fun i v e => ints_at is (by simpa using e), ⟨⟨_, Heap.get?_push_size _ rfl, rfl, rfl⟩, p.isList.push _⟩, fun b hb => ?_, fun v h' tk hv keep => ?_⟩)
    · show b < (st.heap.push _).objs.size
      rw [Heap.size_push]
      rcases List.mem_cons.mp hb with z | z
      · rw [z]; exact Nat.lt_succ_self _
      · rw [List.mem_singleton.mp z]; exact Nat.lt_succ_of_lt low
    · rw [hl] at hv
      refine last (inv.kept (t' := tk) fun b o e => keep b o (fun z => ?_) (Heap.get?_push_of_some _ e)) v hv
      have := Heap.lt_size e
      rw [List.mem_singleton.mp z] at this
      exact Nat.lt_irrefl _ this
  · obtain ⟨its, rv, p, _⟩ := inv.tuple at_
    have is : IntsAre its.toArray.toList ns := SrtR.ints_vals rv
    have hl : its.toArray.size = ns.length := by rw [List.size_toArray, ← rv.length, List.length_map]
    obtain ⟨o1, ho1, _⟩ := id p
    have low : a < st.heap.objs.size := Heap.lt_size ho1
    refine call_kw (wpAny_pyIter_tuple (show st.heap.IsTuple a its.toArray from p) ⟨st.heap.objs.size, [st.heap.objs.size, a], [st.heap.objs.size], its.toArray.size, _, fun i => ns.getD i 0, rfl, (Walks.tuple (A := X.A.in1) (inv.ok.hd hc) _ a (Nat.ne_of_lt low) its.toArray).as fun i v e => ints_at is (by simpa using e), ⟨⟨_, Heap.get?_push_size _ rfl, rfl, rfl⟩, p.push _⟩, fun b hb => ?_, fun v h' tk hv keep => ?_⟩)
    · show b < (st.heap.push _).objs.size
      rw [Heap.size_push]
      rcases List.mem_cons.mp hb with z | z
      · rw [z]; exact Nat.lt_succ_self _
      · rw [List.mem_singleton.mp z]; exact Nat.lt_succ_of_lt low
    · rw [hl] at hv
      refine last (inv.kept (t' := tk) fun b o e => keep b o (fun z => ?_) (Heap.get?_push_of_some _ e)) v hv
      have := Heap.lt_size e
      rw [List.mem_singleton.mp z] at this
      exact Nat.lt_irrefl _ this
end
end Mx

namespace Cnt
open PySem PySem.Spec PyProof.Rows L2
section
variable {X : Cx}
/-- tuple(xs), the object told -/
def rTupF (K : PySem.W.Frag) : List V → Hp → VK → Prop := fun xs H Q => ∃ p ys, xs = [.ref p] ∧ SqL K H p ys ∧ ∀ l o, o.dict = none → H l = none → Q (.ref l) (upd H l (.frz o (.tup ys)))
theorem call_tupF : CallR X (.type "tuple") (rTupF X.K) := by
  intro pins s σ H xs us Q I r h
  obtain ⟨p, ys, rfl, hq, q⟩ := h
  obtain ⟨u, rfl, rx⟩ := vals1 r
  cases rx
  obtain ⟨its, r', pl, hz⟩ := I.list hq
  have hlen := r'.length
  refine call_tuple_list pl.isList (fun h' kp => ?_) (by simp only [List.size_toArray] <;> omega)
  have I1 : Inv X pins σ H { s with heap := h' } := I.kept (t' := s.toks) kp
  have I2 : Inv X pins σ (upd H h'.objs.size (.frz { cls := .type "tuple", data := .seq its.toArray } (.tup ys))) { s with heap := h'.push { cls := .type "tuple", data := .seq its.toArray } } :=
    I1.laid (t' := s.toks) (fun b o e => Heap.get?_push_of_some _ e) (Nat.le_refl _) (show ObjOk X.prog X.w _ _ _ (.frz _ (.tup ys)) from ⟨Heap.get?_push_size _ rfl, hz, its, r', IsTup.new _ _⟩)
  exact ⟨.ref h'.objs.size, _, I2, rfl, q _ _ rfl (I1.hok.fresh (Nat.le_refl _))⟩
def rCntT : V → List V → Hp → VK → Prop := fun x xs H Q => ∃ (p : Addr) (o : Obj) (ns : List Int) (k : Int), x = .ref p ∧ xs = [.int k] ∧ H p = some (.frz o (.tup (ns.map V.int))) ∧ o.dict = none ∧ Q (.int (ns.count k : Nat)) H
def tCnt (to : TE) (t : TA) : TE := fun σ H Q => to σ H fun x H1 => (∃ (p : Addr) (o : Obj) (ns : List Int), x = .ref p ∧ H1 p = some (.frz o (.tup (ns.map V.int))) ∧ o.dict = none) ∧ t σ H1 fun xs H2 => rCntT x xs H2 Q
theorem mt_tcount {pins : List (Addr × Obj)} {s : Shared} {σ : L2.St} {H : Hp} {x : V} {xs : List V} {v : Value} {us : List Value} {Q : VK} (I : Inv X pins σ H s) (rx : RelV x v) (rxs : Vals xs us) (h : rCntT x xs H Q) :
    wpAny (model X.prog X.w) X.A (call (.builtin "tuple.count") (v :: us)) (EP X pins σ Q) X.xe s := by
  obtain ⟨p, o, ns, k, rfl, rfl, hs, hd, q⟩ := h
  cases rx
  obtain ⟨u, rfl, ru⟩ := rxs.one
  obtain ⟨t, rfl⟩ := ru
  obtain ⟨ho', hz, its, rv, hT⟩ := (show ObjOk X.prog X.w H s.heap p (.frz o (.tup (ns.map V.int))) from I.hok p _ hs)
  obtain ⟨o2, ho, hc, n, hdn⟩ := hT
  obtain rfl : o2 = o := Option.some.inj (ho.symm.trans ho')
  obtain ⟨cls, dd, data, sl⟩ := o2
  simp only at hc hdn hd
  subst hc hdn hd
  have hi := ints_of_vals rv
  refine call_meets PySem.F.slot_tuple_count ⟨_, ho, rfl⟩ PySem.F.entry_tuple_count (PySem.F.args_tuple_count_2 _ _)
    (SeqAt.tuple_countAt p its.toArray n none sl (.int k t) (eqk k)) ⟨ho, fun y hy => (eqk_gives hi y (by simpa using hy)).at _ _, ?_⟩
  have ec : its.toArray.toList.countP (eqk k) = ns.count k := eqk_count hi
  refine ⟨.int (ns.count k : Nat), H, I.tok _, ⟨s.toks, ?_⟩, q⟩
  show Value.int ((its.toArray.toList.countP (eqk k) : Nat) : Int) s.toks = Value.int ((ns.count k : Nat) : Int) s.toks
  rw [ec]
theorem pe_tcount {o e : Expr} {es : List Expr} {to : TE} {t : TA} {apos cpos : Pos} (ho : PE X o to) (ha : PA X (e :: es) t)
    (hbase : attributeBase o "count" X.env (eval o X.env) = eval o X.env := by rfl)
    (hfew : ((backTo cpos (starEach (e :: es) X.env)).all (fun x => !x.1) && (backToKw cpos (keywordEach [] X.env)).all (fun x => x.1.isSome)
      && decide ((e :: es).length + ([] : List Keyword).length + (if ([] : List Keyword).isEmpty then 0 else 1) < 30)) = true := by rfl)
    (hline : (apos.endLine == cpos.line) = true := by rfl) (hs : starEach (e :: es) X.env = (false, eval e X.env) :: starEach es X.env := by rfl) (hplain : (backTo cpos (starEach es X.env)).any (·.1) = false := by rfl) :
    PE X (.Call (.Attribute o "count" apos) (e :: es) [] cpos) (tCnt to t) := by
  refine ⟨fun pins s σ H Q I h => ?_⟩
  refine wpAny_Call_method_late hbase hfew hline rfl (thn (ho.run pins s σ H _ I h) fun v s1 ⟨x, H1, I1, r1, ty, q1⟩ => ?_)
  obtain ⟨p, oo, ns, rfl, hp, hd⟩ := ty
  cases r1
  obtain ⟨ho', hz, its, rv, hT⟩ := (show ObjOk X.prog X.w H1 s1.heap p (.frz oo (.tup (ns.map V.int))) from I1.hok p _ hp)
  obtain ⟨o2, ho2, hc, n, hdn⟩ := hT
  refine ⟨"tuple", "tuple.count", PySem.F.plainAttrs_tuple, PySem.F.slot_tuple_count, PySem.F.type_tuple_count, ⟨o2, ho2, hc⟩, fun a e => ?_, ?_⟩
  · cases e
    exact ⟨oo, ho', hd⟩
  have hA := ha.run cpos pins s1 σ H1 _ I1 q1
  rw [hs] at hA ⊢
  refine Calls.callWith_builtin (by show (false || (backTo cpos (starEach es X.env)).any (·.1)) = false; rw [hplain] <;> rfl) (Calls.evalArgs_plain ?_)
  exact thn hA fun us s2 ⟨vs, H2, I2, r2, q2⟩ => mt_tcount (x := .ref p) I2 rfl r2 q2
end
end Cnt

namespace Dv
open PySem PySem.Spec PyProof.Rows L2
open Evl (Ex)
/-! ### the drawn source at S -/
structure SrcAt (H : Hp) (S C : Addr) (ns : List Int) (p r z : Int) : Prop where
  hS : H S = some (.lst [.ref C, .int p, .int r, .int z])
  ne : C ≠ S
  hC : H C = some (.lst (ns.map V.int))
abbrev srcD (ns : List Int) (p r z : Int) : PyData := .list [.list (ns.map .int), .int p, .int r, .int z]
theorem SrcAt.ex {H H' : Hp} {S C : Addr} {ns : List Int} {p r z : Int} (h : SrcAt H S C ns p r z) (e : Ex H H') : SrcAt H' S C ns p r z := ⟨e _ _ h.hS, h.ne, e _ _ h.hC⟩
/-- an expression over it -/
def EvS (te : TE) (σ : L2.St) (S : Addr) (ns : List Int) (p r z : Int) (ψ : Int → Prop) : Prop := ∀ G, Da G (.ref S) (srcD ns p r z) → EvP none te σ G (fun d => ∃ x, d = .int x ∧ ψ x)
section
variable {K : PySem.W.Frag} {σ : L2.St} {G G' H H' G0 H0 : Hp} {S C : Addr} {ns : List Int} {p r z : Int} {ta : TA} {ta1 tb te tx tl : TE} {t u : TT} {v : V} {d : PyData} {D : Ends} {tu tw tz : TS} {ψ ψ1 ψ2 : Int → Prop}
theorem SrcAt.known (h : SrcAt H S C ns p r z) : ∃ G, Ex G H ∧ Da G (.ref S) (srcD ns p r z) := by
  refine ⟨fun a => if a = S then H S else if a = C then H C else none, fun a o e => ?_, ?_⟩
  · replace e : (if a = S then H S else if a = C then H C else none) = some o := e
    by_cases q : a = S
    · rw [if_pos q] at e; rw [q]; exact e
    · rw [if_neg q] at e
      by_cases q2 : a = C
      · rw [if_pos q2] at e; rw [q2]; exact e
      · rw [if_neg q2] at e; cases e
  · refine .lst (xs := [.ref C, .int p, .int r, .int z]) (show (if S = S then H S else if S = C then H C else none) = _ by rw [if_pos rfl]; exact h.hS) (.cons (.lst (xs := ns.map V.int) (show (if C = S then H S else if C = C then H C else none) = _ by rw [if_neg h.ne, if_pos rfl]; exact h.hC) (.ints ns)) (.cons (.int p) (.cons (.int r) (.cons (.int z) .nil))))
theorem src_ev (h : SrcAt H S C ns p r z) (he : EvS te σ S ns p r z ψ) {Q : VK} (q : ∀ x H2, Ex H H2 → ψ x → Q (.int x) H2) : te σ H Q := by
  obtain ⟨G, e, k⟩ := h.known
  refine he G k G H (Ex.refl _) ⟨e, fun _ _ z => nomatch z⟩ Q fun v d G2 H2 s kd f => ?_
  obtain ⟨x, rfl, f⟩ := f
  cases kd.intV
  exact q x H2 (fun a o e => s.fm a o (fun _ z => nomatch z) e) f
theorem src_b (h : SrcAt H S C ns p r z) {α : Bool → Prop} (he : ∀ G, Da G (.ref S) (srcD ns p r z) → EvB none t σ G α) {Q : Bool → Hp → Prop} (q : ∀ b H2, Ex H H2 → α b → Q b H2) : t σ H Q := by
  obtain ⟨G, e, k⟩ := h.known
  exact he G k G H (Ex.refl _) ⟨e, fun _ _ z => nomatch z⟩ Q fun b G2 H2 s f => q b H2 (fun a o e => s.fm a o (fun _ z => nomatch z) e) f
/-! expressions -/
theorem v_int {i : Int} (h : ψ i) : EvS (tC (.int i)) σ S ns p r z ψ := fun G k => e_int.imp fun d e => ⟨i, e, h⟩
theorem v_var {j : Nat} {i : Int} (hj : σ[j]? = some (some (.int i))) (h : ψ i) : EvS (tVar j) σ S ns p r z ψ := fun G k => (e_var hj (.int i)).imp fun d e => ⟨i, e.symm ▸ rfl, h⟩
theorem v_I0 {f : Int → Int → Int} (h1 : EvS ta1 σ S ns p r z ψ1) (h2 : EvS tb σ S ns p r z ψ2) (h : ∀ x y, ψ1 x → ψ2 y → ψ (f x y)) : EvS (tOp (rI0 fun i j => .int (f i j)) ta1 tb) σ S ns p r z ψ := fun G k =>
  e_op (h1 G k) (h2 G k) fun d e ⟨x, e1, f1⟩ ⟨y, e2, f2⟩ => by
    subst e1; subst e2
    exact fun x' y' G H hx hy p Q q => r_I0 rfl x' y' G H hx hy p Q fun v d' G2 H2 s kd e => q v d' G2 H2 s kd ⟨_, e, h x y f1 f2⟩
theorem v_I {c : Int → Int → Prop} {f : Int → Int → Int} (h1 : EvS ta1 σ S ns p r z ψ1) (h2 : EvS tb σ S ns p r z ψ2) (hc : ∀ x y, ψ1 x → ψ2 y → c x y) (h : ∀ x y, ψ1 x → ψ2 y → ψ (f x y)) : EvS (tOp (rI c fun i j => .int (f i j)) ta1 tb) σ S ns p r z ψ := fun G k =>
  e_op (h1 G k) (h2 G k) fun d e ⟨x, e1, f1⟩ ⟨y, e2, f2⟩ => by
    subst e1; subst e2
    exact fun x' y' G H hx hy p Q q => r_I (hc x y f1 f2) rfl x' y' G H hx hy p Q fun v d' G2 H2 s kd e => q v d' G2 H2 s kd ⟨_, e, h x y f1 f2⟩
theorem v_toInt {tn : TA} (h1 : EvS ta1 σ S ns p r z ψ) (hn : tn = tNil) : EvS (tCB (fun xs H Q => (∃ i, xs = [.int i] ∧ Q (.int i) H) ∨ ∃ k, xs = [.bl k] ∧ Q (.int (if k then 1 else 0)) H) (tCons ta1 tn)) σ S ns p r z ψ := fun G k => by
  subst hn
  refine e_cb (a_cons (h1 G k) a_nil (ζ := fun ds => ∃ x, ds = [.int x] ∧ ψ x) ?_) ?_
  · rintro _ _ ⟨x, rfl, f⟩ rfl; exact ⟨x, rfl, f⟩
  · rintro _ ⟨x, rfl, f⟩
    exact fun xs G H hx p Q q => c_int xs G H hx p Q fun v d' G2 H2 s kd e => q v d' G2 H2 s kd ⟨x, e, f⟩
theorem v_src {j : Nat} {x : Int} (hi : σ[0]? = some (some (.ref S))) (hj : ([.list (ns.map .int), .int p, .int r, .int z] : List PyData)[j]? = some (.int x)) (h : ψ x) : EvS (tOp (rIxL K) (tVar 0) (tC (.int (j : Int)))) σ S ns p r z ψ := fun G k =>
  (e_ixL (e_var hi k) e_int rfl hj).imp fun d e => ⟨x, e, h⟩
/-! statements -/
theorem qs_asg {i : Nat} (h : SrcAt H S C ns p r z) (he : EvS te σ S ns p r z ψ) (k : ∀ x H2, Ex H H2 → ψ x → tz D (σ.set i (some (.int x))) H2) : tSeq (tAsg te (gName i)) tz D σ H := src_ev h he k
theorem ss_asg {i : Nat} (h : SrcAt H S C ns p r z) (he : EvS te σ S ns p r z ψ) (k : ∀ x H2, Ex H H2 → ψ x → D.nx (σ.set i (some (.int x))) H2) : tAsg te (gName i) D σ H := src_ev h he k
theorem qs_when {α : Bool → Prop} (h : SrcAt H S C ns p r z) (he : ∀ G, Da G (.ref S) (srcD ns p r z) → EvB none t σ G α) (h1 : α true → ∀ H2, Ex H H2 → tu { D with nx := tz D } σ H2) (h2 : α false → ∀ H2, Ex H H2 → tw { D with nx := tz D } σ H2) : tSeq (tIfS t tu tw) tz D σ H :=
  src_b h he fun b H2 e f => by
    cases b with
    | true => exact h1 f H2 e
    | false => exact h2 f H2 e
theorem ss_if {α : Bool → Prop} (h : SrcAt H S C ns p r z) (he : ∀ G, Da G (.ref S) (srcD ns p r z) → EvB none t σ G α) (h1 : α true → ∀ H2, Ex H H2 → tu D σ H2) (h2 : α false → ∀ H2, Ex H H2 → tw D σ H2) : tIfS t tu tw D σ H :=
  src_b h he fun b H2 e f => by
    cases b with
    | true => exact h1 f H2 e
    | false => exact h2 f H2 e
theorem qs_set {j : Nat} (h : SrcAt H S C ns p r z) (hi : σ[0]? = some (some (.ref S))) (hj : j < 4) (he : EvS te σ S ns p r z ψ) (k : ∀ x H2, Ex H H2 → ψ x → tz D σ (upd H2 S (.lst (([.ref C, .int p, .int r, .int z] : List V).set j (.int x))))) : tSeq (tAsg te (gSub (tVar 0) (tC (.int (j : Int))) rSetL)) tz D σ H :=
  src_ev h he fun x H2 e f => ⟨_, hi, S, _, (j : Int), j, rfl, rfl, (h.ex e).hS, Evl.ixN_nat hj, k x H2 e f⟩
theorem ss_set {j : Nat} (h : SrcAt H S C ns p r z) (hi : σ[0]? = some (some (.ref S))) (hj : j < 4) (he : EvS te σ S ns p r z ψ) (k : ∀ x H2, Ex H H2 → ψ x → D.nx σ (upd H2 S (.lst (([.ref C, .int p, .int r, .int z] : List V).set j (.int x))))) : tAsg te (gSub (tVar 0) (tC (.int (j : Int))) rSetL) D σ H :=
  src_ev h he fun x H2 e f => ⟨_, hi, S, _, (j : Int), j, rfl, rfl, (h.ex e).hS, Evl.ixN_nat hj, k x H2 e f⟩
/-- if c: x = e, x an int at any rate -/
theorem qs_cell {i : Nat} {α : Bool → Prop} {c0 : Int} (h : SrcAt H S C ns p r z) (he : ∀ G, Da G (.ref S) (srcD ns p r z) → EvB none t σ G α) (h0 : σ.set i (some (.int c0)) = σ) (h1 : α true → EvS te σ S ns p r z (fun _ => True)) (k : ∀ x H2, Ex H H2 → tz D (σ.set i (some (.int x))) H2) : tSeq (tIfS t (tAsg te (gName i)) tNext) tz D σ H :=
  qs_when h he (fun f H2 e => src_ev (h.ex e) (h1 f) fun x H3 e3 _ => k x H3 (e.trans e3)) (fun _ H2 e => by
    have := k c0 H2 e
    rw [h0] at this
    exact this)
/-- what stays: all but S -/
def But (S : Addr) (H H' : Hp) : Prop := ∀ a o, a ≠ S → H a = some o → H' a = some o
theorem But.refl (S : Addr) (H : Hp) : But S H H := fun _ _ _ h => h
theorem But.ex {H1 H2 : Hp} (b : But S H H1) (e : Ex H1 H2) : But S H H2 := fun a o n h => e a o (b a o n h)
theorem But.set {H1 : Hp} {o : HO} (b : But S H H1) : But S H (upd H1 S o) := fun a u n h => by rw [upd_ne n]; exact b a u n h
theorem SrcAt.set {H1 : Hp} {p' r' z' : Int} (h : SrcAt H1 S C ns p r z) : SrcAt (upd H1 S (.lst [.ref C, .int p', .int r', .int z'])) S C ns p' r' z' := ⟨upd_same, h.ne, by rw [upd_ne h.ne]; exact h.hC⟩
theorem But.stp {p' r' z' : Int} (h : Pre (some (S, C)) G H) (b : But S H H') (s : SrcAt H' S C ns p' r' z') (hl : ns.length ≤ 63) (hp : 0 ≤ p') (hr : 0 ≤ r') (hz : 0 ≤ z') (hz2 : z' < 2147483647) : Stp (some (S, C)) G H G H' :=
  ⟨Ex.refl _, fun a o x y => (by rw [x] at y; cases y), fun a o n e => b a o (fun q => n C (by rw [q])) e, fun a o e => b a o (fun q => by
    have := (h.2 S C rfl).1
    rw [← q, e] at this
    cases this) (h.1 a o e), fun S' C' q => by
    cases q
    exact ⟨(h.2 S C rfl).1, ns, p', r', z', s.hS, s.ne, s.hC, hl, hp, hr, hz, hz2⟩⟩
end
end Dv
namespace K0
open PySem PySem.Spec PyProof.Rows L2 Dv
open Evl (Ex)
section
variable {P : Program} {w : World} {K : PySem.W.Frag} {mg : Str → Option Value} {base : Heap}
def spSource (K : PySem.W.Frag) : Sp := fun vs H Q _ => ∃ (a : Addr) (ns : List Int), vs = [.ref a] ∧ SqL K H a (ns.map V.int) ∧ ∀ S C H', Ex H H' → H S = none → H C = none → SrcAt H' S C ns 0 0 1 → Q (.ref S) H'
theorem ok_source (t : Txt K mg "_law_source" s__law_source p__law_source) (mL : mg "list" = none) : Ca P w K mg base "_law_source" 1 p__law_source (spSource K) := by
  refine t.ca fun f fd F => F.ok sc__law_source (fun vs H Q E h => ?_) (fun cdv A outer s H vs Q E hr h => ?_)
  · obtain ⟨a, ns, rfl, _⟩ := h
    rfl
  · obtain ⟨a, ns, rfl, hq, q⟩ := h
    refine ⟨_, pss_one (ps_ret (pe_lst (pa_cons (pe_callTy call_list_of (by rfl) mL (by decide +kernel) (pa_cons (pv 0) pa_nil)) (pa_cons pe_int (pa_cons pe_int (pa_cons pe_int pa_nil)))))), ?_⟩
    refine ⟨_, rfl, a, _, rfl, .inl hq, fun C hC => ⟨Evl.sz_of (by simp), fun S hS => ?_⟩⟩
    have ne : C ≠ S := fun e => by subst e; rw [upd_same] at hS; cases hS
    have hS0 : H S = none := by
      rw [upd_ne (fun e => ne e.symm)] at hS
      exact hS
    exact q S C _ ((Ex.new hC).trans (Ex.new hS)) hS0 hC ⟨upd_same, ne, by rw [upd_ne ne, upd_same]⟩
def RTake (ds : List PyData) (φ : PyData → Prop) : Prop := ∃ m : Int, ds = [.int m] ∧ 0 < m ∧ m ≤ 10 ^ 30 ∧ φ = fun d => ∃ k, d = .int k ∧ 0 ≤ k ∧ k < m
theorem ok_take (t : Txt K mg "_law_take" s__law_take p__law_take) (mL : mg "len" = none) (mI : mg "int" = none) : Ca P w K mg base "_law_take" 1 p__law_take (spG RTake) := by
  refine t.ca fun f fd F => F.ok sc__law_take (fun vs H Q E h => ?_) (fun cdv A outer s H vs Q E hr h => ?_)
  · obtain ⟨S, C, ws, G, ds, φ, rfl, _, k, ⟨m, rfl, _⟩, _⟩ := h
    exact congrArg (· + 1) k.length
  · obtain ⟨S, C, ws, G, ds, φ, rfl, p0, k, ⟨m, rfl, hm, hm30, rfl⟩, q⟩ := h
    obtain ⟨vm, ws, rfl, km, k⟩ := k.consV
    cases k.nilV
    cases km.intV
    obtain ⟨gS, ns, p, r, z, h1, h2, h3, h4, h5, h6, h7, h8⟩ := p0.2 S C rfl
    have hs : SrcAt H S C ns p r z := ⟨h1, h2, h3⟩
    refine ⟨_, Evl.pss_cut (ps_if (pt_cmpR op_eq (pe_ix ix_list (pv 0) pe_int (fun _ _ => rfl)) pe_int (nomark _))
        (pss_cons (ps_set (i := 2) sc__law_take.nd rfl (.inl rfl) pe_int)
        (pss_cons (ps_if (pt_cmpR op_lt (pe_ix ix_list (pv 0) pe_int (fun _ _ => rfl)) (pe_callB call_len_seq (by rfl) mL PySem.boot_len (pa_cons (pe_ix ix_list (pv 0) pe_int (fun _ _ => rfl)) pa_nil)) (nomark _))
          (pss_one (ps_set (i := 2) sc__law_take.nd rfl (.inl rfl) (pe_ix ix_list (pe_ix ix_list (pv 0) pe_int (fun _ _ => rfl)) (pe_ix ix_list (pv 0) pe_int (fun _ _ => rfl)) (fun _ _ => rfl)))) pss_nil)
        (pss_cons (ps_asg (pe_op op_add (pe_ix ix_list (pv 0) pe_int (fun _ _ => rfl)) pe_int) (pg_sub (pv 0) pe_int set_list))
        (pss_one (ps_if (pt_cmpR op_ge (pv 2) (pe_op op_pow pe_int pe_int) (nomark _))
          (pss_one (ps_asg (pv 2) (pg_sub (pv 0) pe_int set_list)))
          (pss_cons (ps_set (i := 3) sc__law_take.nd rfl (.inl rfl) (pe_op op_mod (pe_callTy call_int1 (by rfl) mI (by decide +kernel) (pa_cons (pe_op op_add (pe_op op_add (pe_op op_add (pe_op op_mul (pe_ix ix_list (pv 0) pe_int (fun _ _ => rfl)) pe_int) (pe_op op_mul (pe_op op_mod (pe_callTy call_int1 (by rfl) mI (by decide +kernel) (pa_cons (pv 2) pa_nil)) pe_int) pe_int)) (pe_op op_mul (pe_ix ix_list (pv 0) pe_int (fun _ _ => rfl)) pe_int)) pe_int) pa_nil)) pe_int))
          (pss_cons (ps_set (i := 3) sc__law_take.nd rfl (.inl rfl) (pe_op op_mod (pe_callTy call_int1 (by rfl) mI (by decide +kernel) (pa_cons (pe_op op_add (pe_op op_add (pe_op op_mul (pv 3) (pv 3)) (pe_op op_mul (pe_ix ix_list (pv 0) pe_int (fun _ _ => rfl)) pe_int)) pe_int) pa_nil)) pe_int))
          (pss_cons (ps_asg (pv 3) (pg_sub (pv 0) pe_int set_list))
          (pss_one (ps_ret (pe_op op_mod (pe_op op_fdivW (pv 3) pe_int) (pv 1)))))))))))) pss_nil)
      (pss_cons (ps_set (i := 4) sc__law_take.nd rfl (.inl rfl) (pe_op op_mod (pe_callTy call_int1 (by rfl) mI (by decide +kernel) (pa_cons (pe_ix ix_list (pv 0) pe_int (fun _ _ => rfl)) pa_nil)) (pv 1)))
      (pss_cons (ps_asg (pe_op op_fdivW (pe_ix ix_list (pv 0) pe_int (fun _ _ => rfl)) (pv 1)) (pg_sub (pv 0) pe_int set_list))
      (pss_one (ps_ret (pv 4))))), ?_⟩
    have at_ : ∀ {σ : L2.St} {G : Hp} {ns : List Int} {p r z x : Int} (j : Nat) (hi : σ[0]? = some (some (.ref S))) (k : Da G (.ref S) (srcD ns p r z)) (hj : ([.list (ns.map .int), .int p, .int r, .int z] : List PyData)[j]? = some (.int x)), EvP none (tOp (rIxL K) (tVar 0) (tC (.int (j : Int)))) σ G (· = .int x) := fun j hi k hj => e_ixL (e_var hi k) e_int rfl hj
    refine ⟨fun σ' H' => ∃ p' r' z' c2 c3, σ' = [some (.ref S), some (.int m), c2, c3, none] ∧ But S H H' ∧ SrcAt H' S C ns p' r' z' ∧ 0 ≤ p' ∧ 0 ≤ r' ∧ 0 ≤ z' ∧ z' < 2147483647, ?_, ?_⟩
    · refine ss_if hs (α := (· = decide (r = 0))) (fun G k => b_eqI (at_ 2 rfl k rfl) e_int) (fun hb H1 e1 => ?_) (fun hb H1 e1 => ⟨p, r, z, none, none, rfl, (But.refl S H).ex e1, hs.ex e1, h5, h6, h7, h8⟩)
      have hr0 : r = 0 := of_decide_eq_true hb.symm
      subst hr0
      refine qs_asg (hs.ex e1) (v_int (ψ := fun _ => True) trivial) fun x0 H2 e2 _ => ?_
      refine qs_cell (c0 := x0) (α := (· = decide (p < (ns.length : Int)))) (hs.ex (e1.trans e2)) (fun G k => b_test (φ := (· = .bool (decide (p < (ns.length : Int))))) (e_op (at_ 1 rfl k rfl) (e_cb (χ := (· = .int (ns.length : Int))) (a_one (e_ixL (j := 0) (e_var rfl k) e_int rfl rfl)) ?_) ?_) fun d e => ⟨_, e, rfl⟩) rfl (fun hp G k => ?_) fun c H3 e3 => ?_
      · rintro _ rfl
        exact fun xs G H hx p Q q => c_len (.inl rfl) xs G H hx p Q fun v d' G2 H2 s kd e => q v d' G2 H2 s kd (by rw [e, List.length_map])
      · rintro _ _ rfl rfl; exact r_I0b rfl
      · have hp' : p < (ns.length : Int) := of_decide_eq_true hp.symm
        refine (e_ixL (ds := ns.map .int) (i := p) (j := p.toNat) (e := .int (ns[p.toNat]?.getD 0)) (e_ixL (j := 0) (e_var rfl k) e_int rfl rfl) (at_ 1 rfl k rfl) (by omega) ?_).imp fun d e => ⟨_, e, trivial⟩
        rw [List.getElem?_map, List.getElem?_eq_getElem (by omega)]
        rfl
      have b3 : But S H H3 := (But.refl S H).ex ((e1.trans e2).trans e3)
      have s3 := hs.ex ((e1.trans e2).trans e3)
      refine qs_set (j := 1) s3 rfl (by decide) (v_I0 (ψ := (0 ≤ ·)) (f := (· + ·)) (v_src (j := 1) (ψ := (· = p)) rfl rfl rfl) (v_int (ψ := (· = 1)) rfl) fun x y hx hy => by omega) fun p' H4 e4 hp' => ?_
      have s4 : SrcAt _ S C ns p' 0 z := (s3.ex e4).set
      have b4 : But S H (upd H4 S (.lst [.ref C, .int p', .int 0, .int z])) := (b3.ex e4).set
      refine ss_if s4 (α := (· = decide (10 ^ 18 ≤ c))) (fun G k => b_test (φ := (· = .bool (decide (10 ^ 18 ≤ c)))) (e_op (φ := (· = .int c)) (ψ := (· = .int (10 ^ 18))) (e_var rfl (.int c)) (e_op (φ := (· = .int 10)) (ψ := (· = .int 18)) e_int e_int ?_) ?_) fun d e => ⟨_, e, rfl⟩) (fun hb H5 e5 => ?_) (fun hb H5 e5 => ?_)
      · rintro _ _ rfl rfl; exact r_I (show CPow 10 18 from ⟨by decide, by decide, by decide⟩) rfl
      · intro d e h1 h2
        subst h1
        rw [h2]
        exact r_I0b rfl
      · have hc : 10 ^ 18 ≤ c := of_decide_eq_true hb.symm
        refine ss_set (j := 2) (s4.ex e5) rfl (by decide) (v_var (ψ := (· = c)) (i := c) rfl rfl) fun x H6 e6 hx => ?_
        subst hx
        exact ⟨p', x, z, _, _, rfl, ((b4.ex e5).ex e6).set, ((s4.ex e5).ex e6).set, hp', by omega, h7, h8⟩
      · refine qs_asg (s4.ex e5) (v_I (ψ := fun x => 0 ≤ x ∧ x < 2147483647) (ψ1 := fun _ => True) (ψ2 := (· = 2147483647)) (f := (· % ·)) (v_toInt (v_I0 (f := (· + ·)) (ψ1 := fun _ => True) (ψ2 := fun _ => True) (v_I0 (f := (· + ·)) (ψ1 := fun _ => True) (ψ2 := fun _ => True) (v_I0 (f := (· + ·)) (ψ1 := fun _ => True) (ψ2 := fun _ => True) (v_I (f := (· * ·)) (ψ1 := fun _ => True) (ψ2 := (· = 69621)) (v_src (j := 3) (x := z) rfl rfl trivial) (v_int rfl) (fun x y _ hy => .inr (by omega)) fun _ _ _ _ => trivial)
            (v_I (f := (· * ·)) (ψ1 := fun _ => True) (ψ2 := (· = 48271)) (v_I (f := (· % ·)) (ψ1 := fun _ => True) (ψ2 := (· = 2147483629)) (v_toInt (v_var (i := c) rfl trivial) rfl) (v_int rfl) (fun x y _ hy => by omega) fun _ _ _ _ => trivial) (v_int rfl) (fun x y _ hy => .inr (by omega)) fun _ _ _ _ => trivial) fun _ _ _ _ => trivial)
            (v_I (f := (· * ·)) (ψ1 := fun _ => True) (ψ2 := (· = 7919)) (v_src (j := 1) (x := p') rfl rfl trivial) (v_int rfl) (fun x y _ hy => .inr (by omega)) fun _ _ _ _ => trivial) fun _ _ _ _ => trivial) (v_int trivial) fun _ _ _ _ => trivial) rfl) (v_int rfl) (fun x y _ hy => by omega) fun x y _ hy => by subst hy; exact ⟨Int.emod_nonneg _ (by decide), Int.emod_lt_of_pos _ (by decide)⟩) fun m1 H6 e6 hm1 => ?_
        refine qs_asg ((s4.ex e5).ex e6) (v_I (ψ := fun x => 0 ≤ x ∧ x < 2147483629) (ψ1 := fun _ => True) (ψ2 := (· = 2147483629)) (f := (· % ·)) (v_toInt (v_I0 (f := (· + ·)) (ψ1 := fun _ => True) (ψ2 := fun _ => True) (v_I0 (f := (· + ·)) (ψ1 := fun _ => True) (ψ2 := fun _ => True) (v_I (f := (· * ·)) (ψ1 := (· = m1)) (ψ2 := (· = m1)) (v_var (i := m1) rfl rfl) (v_var (i := m1) rfl rfl) (fun x y hx hy => .inr (by subst hy; omega)) fun _ _ _ _ => trivial)
            (v_I (f := (· * ·)) (ψ1 := fun _ => True) (ψ2 := (· = 104729)) (v_src (j := 1) (x := p') rfl rfl trivial) (v_int rfl) (fun x y _ hy => .inr (by omega)) fun _ _ _ _ => trivial) fun _ _ _ _ => trivial) (v_int trivial) fun _ _ _ _ => trivial) rfl) (v_int rfl) (fun x y _ hy => by omega) fun x y _ hy => by subst hy; exact ⟨Int.emod_nonneg _ (by decide), Int.emod_lt_of_pos _ (by decide)⟩) fun m2 H7 e7 hm2 => ?_
        refine qs_set (j := 3) (((s4.ex e5).ex e6).ex e7) rfl (by decide) (v_var (ψ := (· = m2)) (i := m2) rfl rfl) fun x H8 e8 hx => ?_
        subst hx
        have s8 : SrcAt _ S C ns p' 0 x := ((((s4.ex e5).ex e6).ex e7).ex e8).set
        have b8 : But S H (upd H8 S (.lst [.ref C, .int p', .int 0, .int x])) := ((((b4.ex e5).ex e6).ex e7).ex e8).set
        refine src_ev s8 (v_I (ψ := fun k => 0 ≤ k ∧ k < m) (ψ1 := fun _ => True) (ψ2 := (· = m)) (f := (· % ·)) (v_I (f := (· / ·)) (ψ1 := fun _ => True) (ψ2 := (· = 7)) (v_var (i := x) rfl trivial) (v_int rfl) (fun x y _ hy => by subst hy; exact ⟨by decide, by decide⟩) fun _ _ _ _ => trivial) (v_var (i := m) rfl rfl) (fun x y _ hy => by omega) fun x y _ hy => by subst hy; exact ⟨Int.emod_nonneg _ (by omega), Int.emod_lt_of_pos _ hm⟩) fun k H9 e9 hk => ?_
        exact q _ (.int k) G H9 ((b8.ex e9).stp p0 (s8.ex e9) h4 hp' (by decide) hm2.1 (by omega)) (.int k) ⟨k, rfl, hk⟩
    · rintro σ' H' ⟨p', r', z', c2, c3, rfl, b1, s1, hp', hr', hz', hz2⟩
      refine qs_asg s1 (v_I (ψ := fun k => 0 ≤ k ∧ k < m) (ψ1 := fun _ => True) (ψ2 := (· = m)) (f := (· % ·)) (v_toInt (v_src (j := 2) (x := r') rfl rfl trivial) rfl) (v_var (i := m) rfl rfl) (fun x y _ hy => by omega) fun x y _ hy => by subst hy; exact ⟨Int.emod_nonneg _ (by omega), Int.emod_lt_of_pos _ hm⟩) fun k H2 e2 hk => ?_
      refine qs_set (j := 2) (s1.ex e2) rfl (by decide) (v_I (ψ := (0 ≤ ·)) (ψ1 := (· = r')) (ψ2 := (· = m)) (f := (· / ·)) (v_src (j := 2) (x := r') rfl rfl rfl) (v_var (i := m) rfl rfl) (fun x y _ hy => by subst hy; exact wide_div (b := 100) hm (by omega) (by decide) (by decide)) fun x y hx hy => by subst hx; subst hy; exact Int.ediv_nonneg hr' (by omega)) fun r2 H3 e3 hr2 => ?_
      have s3 : SrcAt _ S C ns p' r2 z' := ((s1.ex e2).ex e3).set
      have b3 : But S H (upd H3 S (.lst [.ref C, .int p', .int r2, .int z'])) := ((b1.ex e2).ex e3).set
      exact ⟨_, rfl, q _ (.int k) G _ (b3.stp p0 s3 h4 hp' hr2 hz' hz2) (.int k) ⟨k, rfl, hk⟩⟩
end
end K0

namespace Dv
open PySem PySem.Spec PyProof.Rows L2
open Evl (Ex)
section
variable {K : PySem.W.Frag} {T : Tw} {σ : L2.St} {G G' H H' G0 H0 : Hp} {ta : TA} {tb te tx tl : TE} {t u : TT} {v : V} {d : PyData} {D : Ends} {tu tw tz : TS} {φ χ : PyData → Prop}
/-- xs = [e, ..], kept apart -/
theorem q_newA {i : Nat} {ξ : List PyData → Prop} (p0 : Pre T G0 H0) (s : Stp T G0 H0 G H) (h : EvA T ta σ G ξ) (hz : ∀ ds, ξ ds → ds.length ≤ 50000) (k : ∀ l ds G1 H1, H0 l = none → Ex G G1 → Stp T G0 H0 G1 H1 → Ap l ds G1 H1 → ξ ds → tz D (σ.set i (some (.ref l))) H1) : tSeq (tAsg (tLst ta) (gName i)) tz D σ H :=
  h G H (Ex.refl _) s.pre _ fun vs ds G1 H1 s1 kk f => ⟨Evl.sz_of (by rw [kk.length]; have := hz ds f; omega), fun l hl => by
    have s2 := s.trans s1
    have h0 := s2.free p0 hl
    have g := Evl.fresh_back s2.pre.1 hl
    exact k l ds G1 _ h0 s1.ex (s2.mut p0 _ h0 g) ⟨g, vs, upd_same, kk⟩ f⟩
/-- l.append(e), e an int reckoned while l is seen -/
theorem s_appS {i : Nat} {l : Addr} {es : List PyData} {ψ : Int → Prop} (p0 : Pre T G0 H0) (s : Stp T G0 H0 G H) (hi : σ[i]? = some (some (.ref l))) (hl : H0 l = none) (a : Ap l es G H) (hz : es.length ≤ 50000)
    (h : ∀ G1, Ex G G1 → Da G1 (.ref l) (.list es) → EvP T te σ G1 (fun d => ∃ x, d = .int x ∧ ψ x)) (k : ∀ x H1, Stp T G0 H0 G H1 → Ap l (es ++ [.int x]) G H1 → ψ x → D.nx σ H1) : tDrop (tBM K "list" rAppend (tVar i) (tCons te tNil)) D σ H := by
  obtain ⟨g, xs, e, kk⟩ := id a
  obtain ⟨G1, e1, p1, d1⟩ := a.seen p0 hl s.pre
  refine ⟨_, hi, .inl ⟨rfl, xs, .inl (.inl e)⟩, h G1 e1 d1 G1 H (Ex.refl _) p1 _ fun v d G2 H2 s1 kd f => ?_⟩
  obtain ⟨x, rfl, f⟩ := f
  cases kd.intV
  have sb := s1.back s.pre e1
  obtain ⟨g1, ys, e2, k1⟩ := a.stp p0 hl sb
  exact ⟨l, ys, _, rfl, rfl, e2, Evl.sz_lt (by rw [k1.length]; omega), k x _ ((s.trans sb).mut p0 _ hl g1) ⟨g1, _, upd_same, k1.snoc (.int x)⟩ f⟩
theorem a_cons1 {tr : TA} {d : PyData} {ds : List PyData} (h : EvP T te σ G (· = d)) (hr : EvA T tr σ G (· = ds)) : EvA T (tCons te tr) σ G (· = d :: ds) := a_cons h hr fun _ _ e1 e2 => by rw [e1, e2]
end
end Dv
namespace K0
open PySem PySem.Spec PyProof.Rows L2 Dv
open Evl (Ex)
section
variable {P : Program} {w : World} {K : PySem.W.Frag} {mg : Str → Option Value} {base : Heap}
theorem e_take {σ : L2.St} {G : Hp} {S C : Addr} {E : XK} {m : Int} {i : Nat} {te : TE} {tn : TA} (hn : tn = tNil) (hi : σ[i]? = some (some (.ref S))) (h : EvP (some (S, C)) te σ G (· = .int m)) (h0 : 0 < m) (h1 : m ≤ 10 ^ 30) : EvP (some (S, C)) (tCall (spG RTake) [] E (tCons (tVar i) (tCons te tn))) σ G (fun d => ∃ k, d = .int k ∧ 0 ≤ k ∧ k < m) := by
  subst hn
  exact e_callG hi (a_one h) fun ds e => ⟨_, ⟨m, e, h0, h1, rfl⟩, fun d h => h⟩
theorem e_lenL {σ : L2.St} {G : Hp} {T : Tw} {te : TE} {tn : TA} {ds : List PyData} (hn : tn = tNil) (h : EvP T te σ G (· = .list ds)) : EvP T (tCB (fun xs H Q => ∃ p ys, xs = [.ref p] ∧ (SqL K H p ys ∨ SqT K H p ys) ∧ Q (.int ys.length) H) (tCons te tn)) σ G (· = .int (ds.length : Int)) := by
  subst hn
  exact e_cb (a_one h) fun ds e => by subst e; exact c_len (.inl rfl)
theorem e_lenT {σ : L2.St} {G : Hp} {T : Tw} {te : TE} {tn : TA} {ds : List PyData} (hn : tn = tNil) (h : EvP T te σ G (· = .tuple ds)) : EvP T (tCB (fun xs H Q => ∃ p ys, xs = [.ref p] ∧ (SqL K H p ys ∨ SqT K H p ys) ∧ Q (.int ys.length) H) (tCons te tn)) σ G (· = .int (ds.length : Int)) := by
  subst hn
  exact e_cb (a_one h) fun ds e => by subst e; exact c_len (.inr rfl)
def RPick (ds : List PyData) (φ : PyData → Prop) : Prop := ∃ xs : List PyData, ds = [.list xs] ∧ 0 < xs.length ∧ xs.length ≤ 1000 ∧ φ = fun d => d ∈ xs
theorem ok_pick (t : Txt K mg "_law_pick" s__law_pick p__law_pick) (mL : mg "len" = none) (cT : Ca P w K mg base "_law_take" 1 p__law_take (spG RTake)) : Ca P w K mg base "_law_pick" 2 p__law_pick (spG RPick) := by
  obtain ⟨fT, fdT, gT, kpT, bT, FT⟩ := cT
  refine t.ca fun f fd F => F.ok sc__law_pick (fun vs H Q E h => ?_) (fun cdv A outer s H vs Q E hr h => ?_)
  · obtain ⟨S, C, ws, G, ds, φ, rfl, _, k, ⟨xs, rfl, _⟩, _⟩ := h
    exact congrArg (· + 1) k.length
  · obtain ⟨S, C, ws, G, ds, φ, rfl, p0, k, ⟨xs, rfl, h0, h1, rfl⟩, q⟩ := h
    obtain ⟨vx, ws, rfl, kx, k⟩ := k.consV
    cases k.nilV
    refine ⟨_, pss_one (ps_ret (pe_ix ix_list (pv 1) (pe_call FT hr (by rfl) gT kpT bT .nil pass0 (pa_cons (pv 0) (pa_cons (pe_callB call_len_seq (by rfl) mL PySem.boot_len (pa_cons (pv 1) pa_nil)) pa_nil))) (fun _ _ => rfl))), ?_⟩
    refine s_ret p0 (e_op (χ := (· ∈ xs)) (e_var rfl kx) (e_take rfl rfl (e_lenL rfl (e_var rfl kx)) (by omega) (by omega)) ?_) fun v d G1 H1 s1 k1 e => q v d G1 H1 s1 k1 e
    rintro _ _ rfl ⟨j, rfl, j0, j1⟩
    intro x y G H hx hy p Q q
    have hj : j.toNat < xs.length := by omega
    exact r_ixL (j := j.toNat) (e := xs[j.toNat]) (by omega) (List.getElem?_eq_getElem hj) x y G H hx hy p Q fun v d' G2 H2 s kd e => q v d' G2 H2 s kd (by rw [e]; exact List.getElem_mem hj)
theorem e_pick {σ : L2.St} {G : Hp} {S C : Addr} {E : XK} {i : Nat} {te : TE} {tn : TA} {φ χ : PyData → Prop} (hn : tn = tNil) (hi : σ[i]? = some (some (.ref S))) (h : EvP (some (S, C)) te σ G φ) (hφ : ∀ d, φ d → ∃ xs : List PyData, d = .list xs ∧ 0 < xs.length ∧ xs.length ≤ 1000 ∧ ∀ x ∈ xs, χ x) : EvP (some (S, C)) (tCall (spG RPick) [] E (tCons (tVar i) (tCons te tn))) σ G χ := by
  subst hn
  refine e_callG hi (a_cons h a_nil (ζ := fun ds => ∃ d, ds = [d] ∧ φ d) fun d ds f e => ⟨d, by rw [e], f⟩) fun ds ⟨d, e, f⟩ => ?_
  obtain ⟨xs, rfl, h0, h1, h2⟩ := hφ d f
  exact ⟨_, ⟨xs, e, h0, h1, rfl⟩, fun d hd => h2 d hd⟩
end
end K0

namespace K0
open PySem PySem.Spec PyProof.Rows L2 Dv
open Evl (Ex)
section
variable {P : Program} {w : World} {K : PySem.W.Frag} {mg : Str → Option Value} {base : Heap}
theorem seqIx {j n : Nat} (h : j < n) : seqIndex? (j : Int) n = some j := by
  have h0 : ¬ ((j : Int) < 0) := by omega
  simp only [seqIndex?, h0, if_false]
  rw [if_pos (by simp [h])]
  simp
theorem daa_erase {G : Hp} : ∀ {vs : List V} {ds : List PyData} (i : Nat), DaA G vs ds → DaA G (vs.eraseIdx i) (ds.eraseIdx i)
  | _, _, _, .nil => .nil
  | _, _, 0, .cons _ k => k
  | _, _, i + 1, .cons h k => .cons h (daa_erase i k)
def RMixed (ds : List PyData) (φ : PyData → Prop) : Prop := ∃ xs : List PyData, (ds = [.list xs]) ∧ xs.length ≤ 1000 ∧ φ = fun d => ∃ ys : List PyData, d = .list ys ∧ ys.length = xs.length ∧ ∀ y ∈ ys, y ∈ xs
theorem ok_mixed (t : Txt K mg "_law_mixed" s__law_mixed p__law_mixed) (mLi : mg "list" = none) (mL : mg "len" = none) (mR : mg "range" = none) (cT : Ca P w K mg base "_law_take" 1 p__law_take (spG RTake)) : Ca P w K mg base "_law_mixed" 2 p__law_mixed (spG RMixed) := by
  obtain ⟨fT, fdT, gT, kpT, bT, FT⟩ := cT
  refine t.ca fun f fd F => F.ok sc__law_mixed (fun vs H Q E h => ?_) (fun cdv A outer s H vs Q E hr h => ?_)
  · obtain ⟨S, C, ws, G, ds, φ, rfl, _, k, ⟨xs, rfl, _⟩, _⟩ := h
    exact congrArg (· + 1) k.length
  · obtain ⟨S, C, ws, G, ds, φ, rfl, p0, k, ⟨xs, rfl, hz, rfl⟩, q⟩ := h
    obtain ⟨vx, ws, rfl, kx, k⟩ := k.consV
    cases k.nilV
    refine ⟨_, pss_cons (ps_par (i := 2) (j := 3) (by rfl) sc__law_mixed.nd rfl rfl (by decide) rfl rfl (pa_cons (pe_callTy call_list_of (by rfl) mLi (by decide +kernel) (pa_cons (pv 1) pa_nil)) (pa_cons (pe_lst pa_nil) pa_nil)) (by rfl))
      (pss_cons (ps_for PassesOwn.never rfl (pi_range1 (by rfl) mR (pa_cons (pe_callB call_len_seq (by rfl) mL PySem.boot_len (pa_cons (pv 1) pa_nil)) pa_nil)) (pg_name (i := 4) sc__law_mixed.nd rfl (.inl rfl))
        (pss_one (ps_expr (pe_bm PySem.F.plainAttrs_list PySem.F.slot_list_append PySem.F.type_list_append mt_append (pv 3) (pa_cons (pe_bm PySem.F.plainAttrs_list PySem.F.slot_list_pop PySem.F.type_list_pop mt_popAt (pv 2) (pa_cons (pe_call FT hr (by rfl) gT kpT bT .nil pass0 (pa_cons (pv 0) (pa_cons (pe_callB call_len_seq (by rfl) mL PySem.boot_len (pa_cons (pv 2) pa_nil)) pa_nil))) pa_nil)) pa_nil)))))
      (pss_one (ps_ret (pv 3)))), ?_⟩
    obtain ⟨a, vs, rfl, ga, kv⟩ := kx.lstV
    have hp : Ex G H := p0.1
    refine ⟨_, rfl, a, vs, rfl, .inl (.inl (.inl (hp _ _ ga))), fun l1 hl1 => ⟨Evl.sz_of (by simp), fun l2 hl2 => ⟨_, _, rfl, ?_⟩⟩⟩
    have ne : l1 ≠ l2 := fun e => by subst e; rw [upd_same] at hl2; cases hl2
    have hl2' : H l2 = none := by rw [upd_ne (fun e => ne e.symm)] at hl2; exact hl2
    have g1 : G l1 = none := Evl.fresh_back hp hl1
    have g2 : G l2 = none := Evl.fresh_back hp hl2'
    have s1 : Stp (some (S, C)) G H G (upd (upd H l1 (.lst vs)) l2 (.lst [])) := ((Stp.refl p0).mut p0 _ hl1 g1).mut p0 _ hl2' g2
    have a1 : Ap l1 xs G (upd (upd H l1 (.lst vs)) l2 (.lst [])) := ⟨g1, vs, by rw [upd_ne ne, upd_same], kv⟩
    have a2 : Ap l2 [] G (upd (upd H l1 (.lst vs)) l2 (.lst [])) := ⟨g2, [], upd_same, .nil⟩
    refine q_forR (n := (xs.length : Int)) s1.pre (a_one (e_lenL rfl (e_var rfl kx))) (by omega) (fun i σ H1 => ∃ G1 rs ts x4, σ = [some (.ref S), some (.ref a), some (.ref l1), some (.ref l2), x4] ∧ Ex G G1 ∧ Stp (some (S, C)) G H G1 H1 ∧ Ap l1 rs G1 H1 ∧ Ap l2 ts G1 H1 ∧ rs.length + i = xs.length ∧ ts.length = i ∧ (∀ y ∈ rs, y ∈ xs) ∧ ∀ y ∈ ts, y ∈ xs)
      (fun G2 H2 s2 => ⟨G2, xs, [], none, rfl, s2.ex, s1.trans s2, a1.stp p0 hl1 s2, a2.stp p0 hl2' s2, rfl, rfl, fun _ h => h, by simp⟩) ?_ ?_
    · rintro i σ' H1 hi ⟨G1, rs, ts, x4, rfl, e1, s2, b1, b2, h1, h2, h3, h4⟩
      obtain ⟨gg2, zs2, ez2, kz2⟩ := id b2
      refine ⟨_, rfl, .inl ⟨rfl, zs2, .inl (.inl ez2)⟩, ?_⟩
      obtain ⟨gg1, zs1, ez1, kz1⟩ := id b1
      refine ⟨_, rfl, .inl ⟨rfl, zs1, .inl (.inl ez1)⟩, ?_⟩
      -- the draw, while rest is seen
      obtain ⟨G2, e2, p2, d2⟩ := b1.seen p0 hl1 s2.pre
      refine e_take (m := (rs.length : Int)) (σ := [some (.ref S), some (.ref a), some (.ref l1), some (.ref l2), some (.int (i : Int))]) (tn := tNil) rfl rfl (e_lenL rfl (e_var (i := 2) rfl d2)) (by omega) (by omega) G2 H1 (Ex.refl _) p2 _ fun v d G3 H3 s3 kd ⟨j, ej, j0, j1⟩ => ?_
      subst ej
      cases kd.intV
      have sb := s3.back s2.pre e2
      obtain ⟨c1, ys1, ey1, ky1⟩ := b1.stp p0 hl1 sb
      obtain ⟨c2, ys2, ey2, ky2⟩ := b2.stp p0 hl2' sb
      have hj : j.toNat < rs.length := by omega
      obtain ⟨y, hy, ky⟩ := ky1.get (List.getElem?_eq_getElem hj)
      have hne : l2 ≠ l1 := fun e => ne e.symm
      refine ⟨l1, ys1, j, j.toNat, y, rfl, rfl, ey1, by omega, by omega, ?_, hy, l2, ys2, y, rfl, rfl, by rw [upd_ne hne]; exact ey2, Evl.sz_lt (by rw [ky2.length]; omega), ?_⟩
      · rw [ky1.length]
        have := seqIx hj
        rw [show ((j.toNat : Nat) : Int) = j by omega] at this
        exact this
      · refine ⟨G1, rs.eraseIdx j.toNat, ts ++ [rs[j.toNat]], _, rfl, e1, ((s2.trans sb).mut p0 _ hl1 c1).mut p0 _ hl2' c2, ⟨c1, _, by rw [upd_ne ne, upd_same], daa_erase _ ky1⟩, ⟨c2, _, upd_same, ky2.snoc ky⟩, ?_, by simp [h2], ?_, ?_⟩
        · rw [List.length_eraseIdx_of_lt hj]; omega
        · intro z hz; exact h3 z (List.mem_of_mem_eraseIdx hz)
        · intro z hz
          rcases List.mem_append.mp hz with hz | hz
          · exact h4 z hz
          · rw [List.mem_singleton.mp hz]; exact h3 _ (List.getElem_mem hj)
    · rintro σ' H1 ⟨G1, rs, ts, x4, rfl, e1, s2, b1, b2, h1, h2, h3, h4⟩
      obtain ⟨G2, e2, s3, d2⟩ := b2.tell p0 s2 hl2'
      exact s_ret s3.pre (e_var rfl d2) fun v d G3 H3 s4 k4 e => q v d G3 H3 (s3.trans s4) k4 ⟨ts, e, by omega, h4⟩
end
end K0

namespace K0
open PySem PySem.Spec PyProof.Rows L2 Dv
open Evl (Ex)
section
variable {P : Program} {w : World} {K : PySem.W.Frag} {mg : Str → Option Value} {base : Heap}
def RPool (ds : List PyData) (φ : PyData → Prop) : Prop := ∃ m : Int, ds = [.int m] ∧ 1 ≤ m ∧ m ≤ 5 ∧ φ = fun d => ∃ ps : List Int, d = .list (encI ps) ∧ (ps.length : Int) = m ∧ Asc ps ∧ ∀ x ∈ ps, 0 ≤ x
/-- [0, 0, 1, a draw] -/
theorem e_few {σ : L2.St} {G : Hp} {S C : Addr} {i : Nat} {m : Int} {te : TE} (hi : σ[i]? = some (some (.ref S))) (h : EvP (some (S, C)) te σ G (· = .int m)) (h0 : 0 < m) (h1 : m ≤ 10 ^ 30) :
    EvP (some (S, C)) (tCall (spG RPick) [] E0 (tCons (tVar i) (tCons (tLst (tCons (tC (.int 0)) (tCons (tC (.int 0)) (tCons (tC (.int 1)) (tCons (tCall (spG RTake) [] E0 (tCons (tVar i) (tCons te tNil))) tNil))))) tNil))) σ G (fun d => ∃ x, d = .int x ∧ 0 ≤ x) := by
  refine e_pick (φ := fun d => ∃ k : Int, 0 ≤ k ∧ d = .list (encI [0, 0, 1, k])) rfl hi (e_lst (ξ := fun ds => ∃ k : Int, 0 ≤ k ∧ ds = encI [0, 0, 1, k]) (a_cons (ξ := fun ds => ∃ k : Int, 0 ≤ k ∧ ds = encI [0, 1, k]) e_int (a_cons (ξ := fun ds => ∃ k : Int, 0 ≤ k ∧ ds = encI [1, k]) e_int (a_cons (ξ := fun ds => ∃ k : Int, 0 ≤ k ∧ ds = encI [k]) e_int (a_cons (e_take rfl hi h h0 h1) a_nil ?_) ?_) ?_) ?_) ?_) ?_
  · rintro _ _ ⟨k, rfl, k0, _⟩ rfl; exact ⟨k, k0, rfl⟩
  · rintro _ _ rfl ⟨k, k0, rfl⟩; exact ⟨k, k0, rfl⟩
  · rintro _ _ rfl ⟨k, k0, rfl⟩; exact ⟨k, k0, rfl⟩
  · rintro _ _ rfl ⟨k, k0, rfl⟩; exact ⟨k, k0, rfl⟩
  · rintro _ ⟨k, k0, rfl⟩; exact ⟨by simp, k, k0, rfl⟩
  · rintro _ ⟨k, k0, rfl⟩
    refine ⟨_, rfl, by simp, by simp, fun x hx => ?_⟩
    simp at hx
    rcases hx with rfl | rfl | rfl
    · exact ⟨0, rfl, by decide⟩
    · exact ⟨1, rfl, by decide⟩
    · exact ⟨k, rfl, k0⟩
theorem ok_pool (t : Txt K mg "_law_pool" s__law_pool p__law_pool) (mR : mg "range" = none) (cT : Ca P w K mg base "_law_take" 1 p__law_take (spG RTake)) (cP : Ca P w K mg base "_law_pick" 2 p__law_pick (spG RPick)) : Ca P w K mg base "_law_pool" 3 p__law_pool (spG RPool) := by
  obtain ⟨fT, fdT, gT, kpT, bT, FT⟩ := cT
  obtain ⟨fP, fdP, gP, kpP, bP, FP⟩ := cP
  refine t.ca fun f fd F => F.ok sc__law_pool (fun vs H Q E h => ?_) (fun cdv A outer s H vs Q E hr h => ?_)
  · obtain ⟨S, C, ws, G, ds, φ, rfl, _, k, ⟨m, rfl, _⟩, _⟩ := h
    exact congrArg (· + 1) k.length
  · obtain ⟨S, C, ws, G, ds, φ, rfl, p0, k, ⟨m, rfl, h1, h5, rfl⟩, q⟩ := h
    obtain ⟨vm, ws, rfl, km, k⟩ := k.consV
    cases k.nilV
    cases km.intV
    refine ⟨_, pss_cons (ps_set (i := 2) sc__law_pool.nd rfl (.inl rfl) (pe_lst (pa_cons (pe_call FP hr (by rfl) gP kpP bP .nil pass0 (pa_cons (pv 0) (pa_cons (pe_lst (pa_cons pe_int (pa_cons pe_int (pa_cons pe_int (pa_cons (pe_call FT (hr.mono (by decide)) (by rfl) gT kpT bT .nil pass0 (pa_cons (pv 0) (pa_cons (pe_op op_pow pe_int pe_int) pa_nil))) pa_nil))))) pa_nil))) pa_nil)))
      (pss_cons (ps_for PassesOwn.never rfl (pi_range1 (by rfl) mR (pa_cons (pe_op op_sub (pv 1) pe_int) pa_nil)) (pg_name (i := 3) sc__law_pool.nd rfl (.inl rfl))
        (pss_one (ps_expr (pe_bm PySem.F.plainAttrs_list PySem.F.slot_list_append PySem.F.type_list_append mt_append (pv 2) (pa_cons (pe_op op_add (pe_op op_add (pe_ix ix_list (pv 2) (pv 3) (fun _ _ => rfl)) pe_int) (pe_call FP hr (by rfl) gP kpP bP .nil pass0 (pa_cons (pv 0) (pa_cons (pe_lst (pa_cons pe_int (pa_cons pe_int (pa_cons pe_int (pa_cons (pe_call FT (hr.mono (by decide)) (by rfl) gT kpT bT .nil pass0 (pa_cons (pv 0) (pa_cons (pe_op op_pow pe_int pe_int) pa_nil))) pa_nil))))) pa_nil)))) pa_nil)))))
      (pss_one (ps_ret (pv 2)))), ?_⟩
    have pw : ∀ {σ : L2.St} {G : Hp} (a b : Int), CPow a b → EvP (some (S, C)) (tOp (rI CPow fun i j => .int (i ^ j.toNat)) (tC (.int a)) (tC (.int b))) σ G (· = .int (a ^ b.toNat)) := fun a b hc => e_op (φ := (· = .int a)) (ψ := (· = .int b)) e_int e_int fun d e h1 h2 => by
      rw [h1, h2]; exact r_I hc rfl
    refine q_newA (ξ := fun ds => ∃ x : Int, ds = encI [x] ∧ 0 ≤ x) p0 (Stp.refl p0) (a_cons (e_few rfl (pw 10 30 ⟨by decide, by decide, by decide⟩) (by decide) (by decide)) a_nil ?_) ?_ fun l ds G1 H1 hl e1 s1 a1 ⟨x, ex, hx⟩ => ?_
    · rintro _ _ ⟨x, rfl, h⟩ rfl; exact ⟨x, rfl, h⟩
    · rintro _ ⟨x, rfl, _⟩; simp
    subst ex
    refine q_forR (n := m - 1) s1.pre (a_one (e_op (φ := (· = .int m)) (ψ := (· = .int 1)) (e_var rfl (.int m)) e_int fun d e h1 h2 => by rw [h1, h2]; exact r_I0 rfl)) (by omega) (fun i σ H1 => ∃ (G1 : Hp) (ps : List Int) (x3 : Option V), σ = [some (.ref S), some (.int m), some (.ref l), x3] ∧ Ex G G1 ∧ Stp (some (S, C)) G H G1 H1 ∧ Ap l (encI ps) G1 H1 ∧ ps.length = i + 1 ∧ Asc ps ∧ ∀ x ∈ ps, 0 ≤ x)
      (fun G2 H2 s2 => ⟨G2, [x], none, rfl, e1.trans s2.ex, s1.trans s2, a1.stp p0 hl s2, rfl, List.pairwise_singleton _ _, by simpa using hx⟩) ?_ ?_
    · rintro i σ' H1 hi ⟨G1, ps, x3, rfl, e1, s2, b1, h2, h3, h4⟩
      have hi2 : i < ps.length := by omega
      refine s_appS (ψ := fun y => ∃ z, 0 ≤ z ∧ y = ps[i] + 1 + z) p0 s2 rfl hl b1 (by rw [List.length_map]; omega) (fun G2 e2 d2 => ?_) fun y H2 s3 b3 ⟨z, z0, ey⟩ => ⟨G1, ps ++ [y], _, rfl, e1, s3, ?_, by simp [h2], ?_, ?_⟩
      · refine e_op (φ := (· = .int (ps[i] + 1))) (ψ := fun d => ∃ x, d = .int x ∧ 0 ≤ x) (e_op (φ := (· = .int ps[i])) (ψ := (· = .int 1)) (e_ixL (j := i) (i := (i : Int)) (e_var rfl d2) (e_var rfl (.int _)) rfl (by rw [List.getElem?_map, List.getElem?_eq_getElem hi2]; rfl)) e_int fun d e h1 h2 => by rw [h1, h2]; exact r_I0 rfl)
          (e_few rfl (pw 10 9 ⟨by decide, by decide, by decide⟩) (by decide) (by decide)) ?_
        rintro _ _ rfl ⟨z, rfl, z0⟩
        intro x y G H hx hy p Q q
        exact r_I0 rfl x y G H hx hy p Q fun v d' G2 H2 s kd e => q v d' G2 H2 s kd ⟨_, e, z, z0, rfl⟩
      · rw [encI, List.map_append]; exact b3
      · refine List.pairwise_append.mpr ⟨h3, by simp, fun a ha b hb => ?_⟩
        rw [List.mem_singleton.mp hb, ey]
        obtain ⟨j, hj, rfl⟩ := List.mem_iff_getElem.mp ha
        by_cases e : j = i
        · subst e; omega
        · have := List.pairwise_iff_getElem.mp h3 j i hj hi2 (by omega)
          omega
      · intro a ha
        rcases List.mem_append.mp ha with ha | ha
        · exact h4 a ha
        · rw [List.mem_singleton.mp ha, ey]
          have := h4 _ (List.getElem_mem hi2)
          omega
    · rintro σ' H1 ⟨G1, ps, x3, rfl, e1, s2, b1, h2, h3, h4⟩
      obtain ⟨G2, e2, s3, d2⟩ := b1.tell p0 s2 hl
      exact s_ret s3.pre (e_var rfl d2) fun v d G3 H3 s4 k4 e => q v d G3 H3 (s3.trans s4) k4 ⟨ps, e, by omega, h3, h4⟩
end
end K0

namespace K0
open PySem L2
/-! the new worths -/
def topI (ks : List Int) : Int := ks.foldl max (-1)
theorem foldl_max : ∀ (ks : List Int) (a : Int), a ≤ ks.foldl max a ∧ (∀ y ∈ ks, y ≤ ks.foldl max a) ∧ (ks.foldl max a = a ∨ ks.foldl max a ∈ ks)
  | [], a => ⟨Int.le_refl _, fun _ h => (by cases h), .inl rfl⟩
  | k :: ks, a => by
    obtain ⟨h1, h2, h3⟩ := foldl_max ks (max a k)
    rw [List.foldl_cons]
    refine ⟨by omega, fun y hy => ?_, ?_⟩
    · rcases List.mem_cons.mp hy with rfl | hy
      · omega
      · exact h2 y hy
    · rcases h3 with h3 | h3
      · by_cases e : a ≤ k
        · exact .inr (by rw [h3, Int.max_eq_right e]; exact List.mem_cons_self ..)
        · exact .inl (by rw [h3, Int.max_eq_left (by omega)])
      · exact .inr (List.mem_cons_of_mem _ h3)
theorem topI_of {ks : List Int} (h0 : ∀ k ∈ ks, 0 ≤ k) {m : Int} (hm : m ∈ ks) (h : ∀ y ∈ ks, y ≤ m) : m = topI ks := by
  obtain ⟨h1, h2, h3⟩ := foldl_max ks (-1)
  have a1 := h2 m hm
  have := h0 m hm
  unfold topI
  rcases h3 with h3 | h3
  · omega
  · have := h _ h3
    omega
theorem le_topI {ks : List Int} {y : Int} (h : y ∈ ks) : y ≤ topI ks := (foldl_max ks (-1)).2.1 y h
theorem topI_ge (ks : List Int) : -1 ≤ topI ks := (foldl_max ks (-1)).1
theorem topI_congr {ks ls : List Int} (h : ∀ x, x ∈ ks ↔ x ∈ ls) : topI ks = topI ls := by
  obtain ⟨h1, h2, h3⟩ := foldl_max ks (-1)
  obtain ⟨k1, k2, k3⟩ := foldl_max ls (-1)
  unfold topI
  rcases h3 with h3 | h3 <;> rcases k3 with k3 | k3
  · omega
  · have := h2 _ ((h _).2 k3); omega
  · have := k2 _ ((h _).1 h3); omega
  · have := h2 _ ((h _).2 k3)
    have := k2 _ ((h _).1 h3)
    omega
/-- the least worth above all known ones with its rest -/
def newW (ks : List Int) (r m : Int) : Int := topI ks + 1 + (r - (topI ks + 1)) % m
/-- the further ones: w is there, k ≥ how many of ws are not below it -/
def chainT (ws : List Int) (m : Int) : Nat → Int → List Int
  | 0, _ => []
  | k + 1, w => if w ∈ ws then (w + m) :: chainT ws m k (w + m) else []
def nextC (ws ks fs : List Int) : List Int := ks ++ fs.flatMap fun f => f :: chainT ws fs.length ws.length f
theorem chainT_len (ws : List Int) (m : Int) : ∀ (k : Nat) (w : Int), (chainT ws m k w).length ≤ k
  | 0, _ => Nat.le_refl _
  | k + 1, w => by
    unfold chainT
    by_cases h : w ∈ ws
    · rw [if_pos h, List.length_cons]
      have := chainT_len ws m k (w + m)
      omega
    · rw [if_neg h]; exact Nat.zero_le _
theorem cnt_drop {ws : List Int} {m w : Int} (hm : 1 ≤ m) (h : w ∈ ws) : ws.countP (fun y => decide (w + m ≤ y)) + 1 ≤ ws.countP fun y => decide (w ≤ y) := by
  induction ws with
  | nil => cases h
  | cons a ws ih =>
    rw [List.countP_cons, List.countP_cons]
    have mono : ws.countP (fun y => decide (w + m ≤ y)) ≤ ws.countP fun y => decide (w ≤ y) := List.countP_mono_left fun x _ hx => decide_eq_true (by have := of_decide_eq_true hx; omega)
    rcases List.mem_cons.mp h with rfl | h
    · rw [if_neg (by simp; omega), if_pos (by simp)]
      omega
    · have := ih h
      by_cases e : w + m ≤ a
      · rw [if_pos (decide_eq_true e), if_pos (decide_eq_true (by omega))]; omega
      · rw [if_neg (by simp; omega)]
        by_cases e2 : w ≤ a
        · rw [if_pos (decide_eq_true e2)]; omega
        · rw [if_neg (by simp; omega)]; omega
theorem chainT_zero {ws : List Int} {m w : Int} {k : Nat} (h : ws.countP (fun y => decide (w ≤ y)) ≤ k) (hw : w ∉ ws) : chainT ws m k w = [] := by
  cases k with
  | zero => rfl
  | succ k => unfold chainT; rw [if_neg hw]
theorem chainT_step {ws : List Int} {m w : Int} {k : Nat} (hm : 1 ≤ m) (h : ws.countP (fun y => decide (w ≤ y)) ≤ k) (hw : w ∈ ws) : ∃ j, k = j + 1 ∧ ws.countP (fun y => decide (w + m ≤ y)) ≤ j ∧ chainT ws m k w = (w + m) :: chainT ws m j (w + m) := by
  have := cnt_drop hm hw
  cases k with
  | zero => omega
  | succ j => exact ⟨j, rfl, by omega, by rw [chainT, if_pos hw]⟩
theorem chainT_mem {ws : List Int} {m : Int} (hm : 1 ≤ m) : ∀ {k : Nat} {w : Int}, ws.countP (fun y => decide (w ≤ y)) ≤ k → ∀ x, (x ∈ chainT ws m k w ↔ ∃ j : Nat, x = w + m * ((j : Int) + 1) ∧ ∀ i : Nat, i ≤ j → w + m * (i : Int) ∈ ws)
  | k, w, h, x => by
    by_cases hw : w ∈ ws
    · obtain ⟨j, rfl, hj, e⟩ := chainT_step hm h hw
      rw [e, List.mem_cons, chainT_mem hm hj]
      refine ⟨fun q => ?_, fun ⟨i, e, hi⟩ => ?_⟩
      · rcases q with rfl | ⟨i, e, hi⟩
        · exact ⟨0, by simp, fun i hi => by obtain rfl : i = 0 := by omega
                                            simpa using hw⟩
        · refine ⟨i + 1, ?_, fun n hn => ?_⟩
          · rw [e, Int.add_assoc]; congr 1; rw [show ((i + 1 : Nat) : Int) = (i : Int) + 1 from rfl, Int.mul_add, Int.mul_add, Int.mul_add]; omega
          · cases n with
            | zero => simpa using hw
            | succ n =>
              have := hi n (by omega)
              rw [Int.add_assoc] at this
              rw [show ((n + 1 : Nat) : Int) = (n : Int) + 1 from rfl, Int.mul_add, Int.mul_one, Int.add_comm (m * n)]
              exact this
      · cases i with
        | zero => exact .inl (by rw [e]; simp)
        | succ i =>
          refine .inr ⟨i, ?_, fun n hn => ?_⟩
          · rw [e, Int.add_assoc]; congr 1; rw [show ((i + 1 : Nat) : Int) = (i : Int) + 1 from rfl, Int.mul_add, Int.mul_add]; omega
          · have := hi (n + 1) (by omega)
            rw [show ((n + 1 : Nat) : Int) = (n : Int) + 1 from rfl, Int.mul_add, Int.mul_one, Int.add_comm (m * n), ← Int.add_assoc] at this
            exact this
    · rw [chainT_zero h hw]
      refine ⟨fun q => (by cases q), fun ⟨i, e, hi⟩ => ?_⟩
      have := hi 0 (by omega)
      rw [show w + m * ((0 : Nat) : Int) = w by simp] at this
      exact absurd this hw
termination_by k => k
/-- what next_choices holds -/
theorem nextC_mem {ws ks fs : List Int} (hf : fs ≠ []) (x : Int) : x ∈ nextC ws ks fs ↔ x ∈ ks ∨ ∃ f ∈ fs, ∃ j : Nat, x = f + fs.length * (j : Int) ∧ ∀ i : Nat, i < j → f + fs.length * (i : Int) ∈ ws := by
  have h1 : (1 : Int) ≤ fs.length := by
    cases fs with
    | nil => exact absurd rfl hf
    | cons a l => rw [List.length_cons]; omega
  unfold nextC
  rw [List.mem_append, List.mem_flatMap]
  refine or_congr_right (exists_congr fun f => and_congr_right fun _ => ?_)
  rw [List.mem_cons, chainT_mem h1 List.countP_le_length]
  refine ⟨fun q => ?_, fun ⟨j, e, hj⟩ => ?_⟩
  · rcases q with rfl | ⟨j, e, hj⟩
    · exact ⟨0, by simp, fun i hi => by omega⟩
    · exact ⟨j + 1, e, fun i hi => hj i (by omega)⟩
  · cases j with
    | zero => exact .inl (by rw [e]; simp)
    | succ j => exact .inr ⟨j, e, fun i hi => hj i (by omega)⟩
theorem nextC_len {ws ks fs : List Int} : (nextC ws ks fs).length ≤ ks.length + fs.length * (ws.length + 1) := by
  unfold nextC
  rw [List.length_append]
  have : ∀ (n : Nat) (l : List Int), (l.flatMap fun f => f :: chainT ws n ws.length f).length ≤ l.length * (ws.length + 1) := fun n l => by
    induction l with
    | nil => simp
    | cons a l ih =>
      rw [List.flatMap_cons, List.length_append, List.length_cons, List.length_cons, Nat.add_mul]
      have := chainT_len ws n ws.length a
      omega
  have := this fs.length fs
  omega
end K0

namespace Rx
open PySem PySem.Spec PyProof.Rows L2 Dv K0
open Evl (Ex)
section
variable {P : Program} {w : World} {K : PySem.W.Frag} {mg : Str → Option Value} {base : Heap}
/-! ### tuples whose object is known -/
def Frz : Fact where
  holds G v := ∃ (p : Addr) (o : Obj) (ns : List Int), v = .ref p ∧ G p = some (.frz o (.tup (ns.map V.int))) ∧ o.dict = none
  up e h := by
    obtain ⟨p, o, ns, rfl, g, d⟩ := h
    exact ⟨p, o, ns, rfl, e _ _ g, d⟩
def RowF : Fact where
  holds G v := ∃ (a : Addr) (v1 v2 : V), v = .ref a ∧ Rd G a (.tup [v1, v2]) ∧ Frz.holds G v2
  up e h := by
    obtain ⟨a, v1, v2, rfl, g, f⟩ := h
    exact ⟨a, v1, v2, rfl, Evl.ex_rd e g, Frz.up e f⟩
theorem frz_is {G : Hp} {v : V} {ns : List Int} (f : Frz.holds G v) (k : Da G v (encC ns)) : ∃ (p : Addr) (o : Obj), v = .ref p ∧ G p = some (.frz o (.tup (ns.map V.int))) ∧ o.dict = none := by
  obtain ⟨p, o, ms, rfl, g, d⟩ := f
  obtain ⟨a, xs, e, ga, kk⟩ := k.tupV
  cases e
  rw [kk.intsV] at ga
  rcases ga with z | ⟨o', z⟩
  · rw [g] at z; cases z
  · rw [g] at z
    have e := HO.tup.inj (HO.frz.inj (Option.some.inj z)).2
    rw [e] at g
    exact ⟨p, _, rfl, g, d⟩
/-- slot i: a row; its second entry -/
theorem rowF_2 {G : Hp} {v : V} {d1 d2 : PyData} (f : RowF.holds G v) (k : Da G v (.tuple [d1, d2])) : ∃ (a : Addr) (v1 v2 : V), v = .ref a ∧ Rd G a (.tup [v1, v2]) ∧ Da G v1 d1 ∧ Da G v2 d2 ∧ Frz.holds G v2 := by
  obtain ⟨a, v1, v2, rfl, g, f2⟩ := f
  obtain ⟨b, xs, e, ga, kk⟩ := k.tupV
  cases e
  have ex : xs = [v1, v2] := by
    rcases g with g | ⟨o, g⟩ <;> rcases ga with z | ⟨o', z⟩ <;> rw [g] at z <;> cases z <;> rfl
  subst ex
  obtain ⟨u1, ws, e1, k1, kk⟩ := kk.consV
  obtain ⟨u2, ws, e2, k2, kk⟩ := kk.consV
  cases e1; cases e2
  exact ⟨a, v1, v2, rfl, g, k1, k2, f2⟩
def cntR (e : E) (K : PySem.W.Frag) (ns : List Int) (φ : PyData → Env → Prop) (δ : Env) : Prop := e.wp δ fun d δ1 => match d with
  | .int k => φ (.int (ns.count k : Nat)) δ1
  | _ => False
theorem cnt_run {T : Tw} {G H : Hp} {σ : L2.St} {δ : Env} {v : V} {ns : List Int} {e : E} {φ : PyData → Env → Prop} (p : Pre T G H) (r : Rel T σ δ G H) (f : Frz.holds G v) (k : Da G v (encC ns)) (h : cntR e K ns φ δ) {Q : VK} (q : ∀ v d δ2 G2 H2, Mv T σ δ G H δ2 G2 H2 → Da G2 v d → φ d δ2 → Q v H2) :
    (∃ (p : Addr) (o : Obj) (ns : List Int), v = .ref p ∧ H p = some (.frz o (.tup (ns.map V.int))) ∧ o.dict = none) ∧ tCons (e.tr K) tNil σ H fun xs H2 => Cnt.rCntT v xs H2 Q := by
  obtain ⟨a, o, rfl, g, hd⟩ := frz_is f k
  refine ⟨⟨a, o, ns, rfl, p.1 _ _ g, hd⟩, E.ok e σ δ _ h G H p r _ fun y d δ1 G1 H1 m1 k1 h1 => ?_⟩
  cases d with
  | int i =>
    cases k1.intV
    exact ⟨a, o, ns, i, rfl, rfl, m1.pre.1 _ _ (m1.ex _ _ g), hd, q _ _ δ1 G1 H1 m1 (.int _) h1⟩
  | _ => exact h1.elim
/-- cells.count(e) of a slot -/
def eCnt (K : PySem.W.Frag) (i : Nat) (e : E) : E := .xt {
  tr := Cnt.tCnt (tVar i) (tCons (e.tr K) tNil)
  wp := fun δ φ => ∃ ns, δ[i]? = some (.sp (encC ns) Frz) ∧ cntR e K ns φ δ
  ok := fun T σ δ φ h G H p r Q q => by
    obtain ⟨ns, e0, h⟩ := h
    obtain ⟨v, ev, k, f⟩ := r.sl i _ e0
    exact ⟨v, ev, cnt_run p r f k h q⟩ }
/-- row[1].count(e) of a slot -/
def eCntR (K : PySem.W.Frag) (i : Nat) (e : E) : E := .xt {
  tr := Cnt.tCnt (tOp (rIxT K) (tVar i) (tC (.int 1))) (tCons (e.tr K) tNil)
  wp := fun δ φ => ∃ d1 ns, δ[i]? = some (.sp (.tuple [d1, encC ns]) RowF) ∧ cntR e K ns φ δ
  ok := fun T σ δ φ h G H p r Q q => by
    obtain ⟨d1, ns, e0, h⟩ := h
    obtain ⟨v, ev, k, f⟩ := r.sl i _ e0
    obtain ⟨a, v1, v2, rfl, g, k1, k2, f2⟩ := rowF_2 f k
    exact ⟨_, ev, a, [v1, v2], 1, v2, rfl, rfl, .inl (Evl.ex_rd p.1 g), rfl, cnt_run p r f2 k2 h q⟩ }
/-- j1, j2 = the row at slot i -/
def sUnp (K : PySem.W.Frag) (i j1 j2 : Nat) : S := .xt {
  tr := tAsg (tVar i) (gTup K 2 (gCons (gName j1) (gCons (gName j2) gNil)))
  wp := fun δ P => ∃ d1 ns, δ[i]? = some (.sp (.tuple [d1, encC ns]) RowF) ∧ P.nx ((δ.set j1 (.sh d1)).set j2 (.sp (encC ns) Frz))
  ok := fun T δ P h G0 H0 σ G H st D e => by
    obtain ⟨d1, ns, e0, h⟩ := h
    obtain ⟨v, ev, k, f⟩ := st.rel.sl i _ e0
    obtain ⟨a, v1, v2, rfl, g, k1, k2, f2⟩ := rowF_2 f k
    have s1 := st.sh j1 k1
    have s2 : Sta T G0 H0 ((σ.set j1 (some v1)).set j2 (some v2)) ((δ.set j1 (.sh d1)).set j2 (.sp (encC ns) Frz)) G H := ⟨s1.go, s1.rel.sp j2 k2 f2, fun a z => by
      rcases own_set z s1.rel.len with ⟨ds, e, _⟩ | z
      · cases e
      · exact s1.own a z⟩
    exact ⟨_, ev, a, [v1, v2], rfl, .inl (Evl.ex_rd st.pre.1 g), rfl, v1, [v2], rfl, v2, [], rfl, rfl, e.nx _ _ G H (Ex.refl _) s2 h⟩ }
/-- slot i = (e, tuple(f)), the cells' object known -/
def sRow (K : PySem.W.Frag) (i : Nat) (e : E) (f : F) : S := .xt {
  tr := tAsg (tTup (tCons (e.tr K) (tCons (tCB (Cnt.rTupF K) (tCons (f.tr K) tNil)) tNil))) (gName i)
  wp := fun δ P => e.wp δ fun d1 δ1 => f.wp δ1 fun ds δ2 => ∃ ns : List Int, ds = encI ns ∧ P.nx (δ2.set i (.sp (.tuple [d1, encC ns]) RowF))
  ok := fun T δ P h G0 H0 σ G H st D en => by
    refine E.ok e σ δ _ h G H st.pre st.rel _ fun v1 d1 δ1 G1 H1 m1 k1 h1 => F.ok f σ δ1 _ h1 G1 H1 m1.pre m1.rel _ fun l xs ds δ2 G2 H2 m2 g2 e2 k2 n2 hl2 h2 => ?_
    obtain ⟨ns, rfl, h2⟩ := h2
    cases k2.intsV
    refine ⟨l, _, rfl, .inl (.inl e2), fun c o hd hc => ⟨Evl.sz_of (by simp), fun r hr => ?_⟩⟩
    have m12 := m1.trans m2
    have s3 := Stp.new m2.pre (.frz o (.tup (ns.map V.int))) hc
    have s4 := Stp.new s3.pre (.tup [v1, .ref c]) hr
    have m4 : Mv T σ δ G H δ2 _ _ := (m12.trans (Mv.stp m2.pre m2.rel s3)).trans (Mv.stp s3.pre (m2.rel.stp m2.pre s3) s4)
    have gc : (upd (upd G2 c (.frz o (.tup (ns.map V.int)))) r (.tup [v1, .ref c])) c = some (.frz o (.tup (ns.map V.int))) := s4.ex _ _ upd_same
    have kd : Da (upd (upd G2 c (.frz o (.tup (ns.map V.int)))) r (.tup [v1, .ref c])) (.ref r) (.tuple [d1, encC ns]) := .tup (.inl upd_same) (.cons (k1.mono ((m2.ex.trans s3.ex).trans s4.ex)) (.cons (.tup (.inr ⟨o, gc⟩) (.ints ns)) .nil))
    have st4 := st.mv m4
    refine en.nx _ _ _ _ m4.ex ⟨st4.go, st4.rel.sp (P := RowF) i kd ⟨r, v1, .ref c, rfl, .inl upd_same, c, o, ns, rfl, gc, hd⟩, fun a z => ?_⟩ h2
    rcases own_set z st4.rel.len with ⟨ds, e, _⟩ | z
    · cases e
    · exact st4.own a z }
/-! ### sorted, of ints or rows -/
open Classical in
def oSort (K : PySem.W.Frag) : OF where
  tr := rSortB K
  sem ds φ := (∃ ns : List Int, ds = [.list (encI ns)] ∧ ns.length < 64 ∧ ∀ ms : List Int, ms.Perm ns → (ms.Pairwise fun a b => soI.lt b a = false) → φ (encI ms)) ∨
    ∃ ns : List K0.Row, ds = [.list (ns.map encR)] ∧ ns.length < 100000 ∧ ∀ ms : List K0.Row, ms.Perm ns → (ms.Pairwise fun a b => soR.lt b a = false) → φ (ms.map encR)
  ok T ds φ h xs G H hx p Q q := by
    rcases h with ⟨ns, rfl, hz, hq⟩ | ⟨ns, rfl, hz, hq⟩
    · obtain ⟨v, ws, rfl, h, k⟩ := hx.consV
      cases k.nilV
      obtain ⟨a, ys, rfl, ga, kk⟩ := h.lstV
      cases kk.intsV
      refine .inl ⟨a, ns, rfl, .inl (.inl (p.1 _ _ ga)), hz, fun ms l h1 h2 hl => q l _ _ hl (.ints ms) (hq ms h1 (h2.imp fun {a b} z => decide_eq_false (by omega)))⟩
    · obtain ⟨v, ws, rfl, h, k⟩ := hx.consV
      cases k.nilV
      obtain ⟨a, ys, rfl, ga, kk⟩ := h.lstV
      let kf : V → K0.Row := fun x => if h : ∃ r, Da G x (encR r) then choose h else (0, [])
      have hk : ∀ x r, Da G x (encR r) → kf x = r := fun x r hr => by
        have ex : ∃ r, Da G x (encR r) := ⟨r, hr⟩
        show (if h : ∃ r, Da G x (encR r) then choose h else (0, [])) = r
        rw [dif_pos ex]
        exact soR.inj _ _ (Da.uniq (choose_spec ex) hr)
      have hall : ∀ (ys : List V) (ns : List K0.Row), DaA G ys (ns.map encR) → ys.map kf = ns ∧ ∀ x ∈ ys, Da G x (encR (kf x)) := by
        intro ys
        induction ys with
        | nil =>
          intro ns h
          cases ns with
          | nil => exact ⟨rfl, fun _ h => by cases h⟩
          | cons _ _ => cases h
        | cons y ys ih =>
          intro ns h
          cases ns with
          | nil => cases h
          | cons n ns =>
            cases h with
            | cons h1 h2 =>
              obtain ⟨e, f⟩ := ih ns h2
              have e1 := hk y n h1
              refine ⟨by rw [List.map_cons, e, e1], fun x hx => ?_⟩
              rcases List.mem_cons.mp hx with rfl | hx
              · rw [e1]; exact h1
              · exact f x hx
      obtain ⟨e0, f0⟩ := hall ys ns kk
      refine .inr ⟨a, ys, kf, rfl, .inl (.inl (p.1 _ _ ga)), fun x hx => ?_, fun zs l h1 h2 hl => ?_⟩
      · obtain ⟨t, us, rfl, gt, kt⟩ := (f0 x hx).tupV
        obtain ⟨u1, us, rfl, k1, kt⟩ := kt.consV
        obtain ⟨u2, us, rfl, k2, kt⟩ := kt.consV
        cases kt.nilV
        cases k1.intV
        obtain ⟨c, us, rfl, gc, kc⟩ := k2.tupV
        rw [kc.intsV] at gc
        exact ⟨t, c, rfl, Evl.ex_rd p.1 gt, Evl.ex_rd p.1 gc⟩
      · have hz : DaA G zs ((zs.map kf).map encR) := by
          have : ∀ zs : List V, (∀ x ∈ zs, x ∈ ys) → DaA G zs ((zs.map kf).map encR) := by
            intro zs
            induction zs with
            | nil => intro _; exact .nil
            | cons z zs ih => intro h; exact .cons (f0 z (h z (by simp))) (ih fun x hx => h x (by simp [hx]))
          exact this zs fun x hx => h2.mem_iff.mp hx
        exact q l _ _ hl hz (hq (zs.map kf) (by rw [← e0]; exact h2.map kf) (List.pairwise_map.mpr h1))
/-- max of a list of ints -/
def oMax (K : PySem.W.Frag) : OA where
  tr := rMax K
  sem ds φ := ∃ ns : List Int, ds = [.list (encI ns)] ∧ 0 < ns.length ∧ ∀ m, m ∈ ns → (∀ y, y ∈ ns → y ≤ m) → φ (.int m)
  ok T ds φ h := by
    obtain ⟨ns, rfl, h0, hq⟩ := h
    intro xs G H hx p Q q
    obtain ⟨v, ws, rfl, h, k⟩ := hx.consV
    cases k.nilV
    obtain ⟨a, ys, rfl, ga, kk⟩ := h.lstV
    cases kk.intsV
    exact ⟨a, ns, rfl, .inl (.inl (p.1 _ _ ga)), h0, fun m h1 h2 => q _ _ G H (Stp.refl p) (.int m) (hq m h1 h2)⟩
/-- a def whose first argument bears a fact -/
theorem ok_defS {b : S} {k : Nat} {x : Str} {st : Stmt} {N ps : List Str} {R : Rr} {Pf : Fact} (t : Txt K mg x st ps) (sc : FnScope N ps (defScope st))
    (op : ∀ (f : Addr) (cdv : Value) (A : Around) (outer : List PySem.Env) (s : Shared) (H : Hp) (E : XK), Room k (A.deeper (envOfC x (defScope st) s.heap.objs.size f cdv)) → PSs (cxOf CX0 P w K mg base N x (defScope st) f cdv A outer s H E).nox (defBody st) (b.tr K))
    (hR : ∀ ds φ, R ds φ → ds.length = ps.length ∧ ∃ d0 es, ds = d0 :: es ∧ b.wp ((Sl.sp d0 Pf :: es.map .sh) ++ List.replicate (N.length - ps.length) .no) { nx := fun _ => φ .none, rt := φ }) : Ca P w K mg base x (k + 1) ps (spS R Pf) := by
  refine t.ca fun f fd F => F.ok sc (fun vs H Q E h => ?_) (fun cdv A outer s H vs Q E hr h => ?_)
  · obtain ⟨G, ds, φ, _, k, _, h, _⟩ := h
    rw [k.length]; exact (hR ds φ h).1
  · obtain ⟨G, ds, φ, p0, k, hf, h, q⟩ := h
    obtain ⟨h1, d0, es, rfl, h2⟩ := hR ds φ h
    obtain ⟨v, vs, rfl, kv, k⟩ := k.consV
    refine ⟨_, op f cdv A outer s H E hr, ?_⟩
    unfold L2.start
    rw [show (v :: vs).length = ps.length by rw [← h1, List.length_cons, List.length_cons, k.length]]
    exact Rx.S.run (ss := Sl.sp d0 Pf :: es.map Sl.sh) p0 (.cons (show SlA none G v (.sp d0 Pf) from ⟨kv, hf v rfl⟩) (Ins.of k)) h2 q
end
end Rx

namespace Rx
open PySem PySem.Spec PyProof.Rows L2 Dv K0
open Evl (Ex)
/-! what the defs of the text are to return -/
def RNewW (ds : List PyData) (d : PyData) : Prop := ∃ (ks : List Int) (dk : PyData) (r m : Int), ds = [dk, .int r, .int m] ∧ (dk = .list (encI ks) ∨ dk = encC ks) ∧ (∀ k ∈ ks, 0 ≤ k) ∧ 1 ≤ m ∧ d = .int (newW ks r m)
abbrev R_sorted_things := RSorted
abbrev R_new_worth := RNewW
abbrev R__law_take := RTake
abbrev R__law_pick := RPick
abbrev R__law_mixed := RMixed
abbrev R__law_pool := RPool
abbrev R__law_longer := RLonger
def R_next_choices : Rr := fun ds φ => ∃ ws ks fs : List Int, ds = [encC ws, encC ks, .list (encI fs)] ∧ fs ≠ [] ∧ ks.length ≤ 1000 ∧ fs.length ≤ 10 ∧ ws.length ≤ 10 ∧ φ = (· = .list (encI (nextC ws ks fs)))
def R_worths_of : Rr := fun ds φ => ∃ (l : List K0.Row) (ms : List Int), ds = [.list (l.map encR)] ∧ (l.flatMap (·.2)).length < 64 ∧ AscL soI ms ∧ (∀ x, x ∈ ms ↔ x ∈ l.flatMap (·.2) ∧ 0 ≤ x) ∧ φ = (· = encC ms)
def firstsOf (ks : List Int) (m : Int) : List Int := (List.range m.toNat).map fun r => newW ks (r : Nat) m
def stepC (ks fs : List Int) (acc : List (List Int)) : List (List Int) := acc.flatMap fun b => (nextC b ks fs).map fun w => b ++ [w]
def choicesN (ks fs : List Int) : Nat → List (List Int)
  | 0 => [[]]
  | n + 1 => stepC ks fs (choicesN ks fs n)
def R_typical_choices : Rr := fun ds φ => ∃ (n : Nat) (ks : List Int) (m : Int), ds = [.int (n : Nat), encC ks, .int m] ∧ n ≤ 3 ∧ 1 ≤ m ∧ m ≤ 3 ∧ ks.length ≤ 10 ∧ (∀ k ∈ ks, 0 ≤ k) ∧ φ = (· = .list ((choicesN ks (firstsOf ks m) n).map encC))
def fill : List Int → List Int → List Int
  | [], _ => []
  | c :: cs, ws => if c = -1 then (match ws with
    | w :: us => w :: fill cs us
    | [] => c :: fill cs []) else c :: fill cs ws
def R_typical_rows : Rr := fun ds φ => ∃ (t : Int) (cells ws ks : List Int) (wd : PyData) (m : Int) (rows : List K0.Row), ds = [.tuple [.int t, encC cells], wd, .int m] ∧ (wd = .list (encI ws) ∨ wd = encC ws) ∧ cells.length ≤ 3 ∧ ws.length ≤ 7 ∧ (∀ c ∈ cells, -1 ≤ c) ∧ (∀ x ∈ ws, 0 ≤ x) ∧ 1 ≤ m ∧ m ≤ 3 ∧ AscL soI ks ∧ ks.length ≤ 10 ∧ (∀ x, x ∈ ks ↔ x ∈ ws ∨ (x ∈ cells ∧ 0 ≤ x)) ∧
  AscL soR rows ∧ (∀ r, r ∈ rows ↔ ∃ c ∈ choicesN ks (firstsOf ks m) (cells.count (-1)), r = (t, fill cells c)) ∧ φ = (· = .tuple (rows.map encR))
def RUnl {α : Type} [DecidableEq α] (S : So α) (B : Nat) : Rr := fun ds φ => ∃ ns ms : List α, ds = [.list (ns.map S.enc)] ∧ ns.length < B ∧ AscL S ms ∧ (∀ x, x ∈ ms ↔ x ∈ ns) ∧ φ = (· = .list (ms.map S.enc))
def R__law_unlike : Rr := fun ds φ => RUnl soI 64 ds φ ∨ RUnl soR 40000 ds φ
def R__law_least_above : Rr := fun ds φ => ∃ (ks : List Int) (r m : Int), ds = [.list (encI ks), .int r, .int m] ∧ (∀ k ∈ ks, 0 ≤ k) ∧ 0 ≤ r ∧ r < m ∧ m ≤ 3 ∧ φ = (· = .int (newW ks r m))
def lookS (seen : List (Int × Int)) (w : Int) : Option Int := (seen.find? fun p => decide (p.1 = w)).map (·.2)
def kindL (known : List Int) (m : Int) : List Int → List Int → List (Int × Int) → List Int → List Int
  | c :: cs, w :: ws, seen, many => if 0 ≤ c ∨ w ∈ known then w :: kindL known m cs ws seen many else match lookS seen w with
    | some v => v :: kindL known m cs ws seen many
    | none => (newW known (w % m) m + m * many[(w % m).toNat]?.getD 0) :: kindL known m cs ws (seen ++ [(w, newW known (w % m) m + m * many[(w % m).toNat]?.getD 0)]) (many.set (w % m).toNat (many[(w % m).toNat]?.getD 0 + 1))
  | _, _, _, _ => []
def R__law_kind : Rr := fun ds φ => ∃ (t : Int) (cells filling known : List Int) (m : Int), ds = [.tuple [.int t, encC cells], encC filling, .list (encI known), .int m] ∧ filling.length = cells.length ∧ cells.length ≤ 3 ∧ (∀ x ∈ filling, 0 ≤ x) ∧ (∀ x ∈ known, 0 ≤ x) ∧ known.length ≤ 10 ∧ 1 ≤ m ∧ m ≤ 3 ∧ φ = (· = encR (t, kindL known m cells filling [] (List.replicate m.toNat 0)))
end Rx

namespace Rx
open PySem PySem.Spec PyProof.Rows L2 Dv K0
open Evl (Ex)
section
variable {P : Program} {w : World} {K : PySem.W.Frag} {mg : Str → Option Value} {base : Heap}
/-! next_choices -/
def L_next_choices_1 (K : PySem.W.Frag) : S :=
    (.seq (.aug 5 oAdd (.cb (oLen K) (.cons (.var 2) .nil)))
    (.app 3 (.var 5)))
def L_next_choices_2 (K : PySem.W.Frag) : S :=
    (.seq (.asg (.nm 5) (.var 4))
    (.seq (.app 3 (.var 5))
    (.while (.tst (.op (oIn K false) (.var 5) (.var 0))) (L_next_choices_1 K))))
def b_next_choices (K : PySem.W.Frag) : S :=
    (.seq (.own 3 (.cb (oList K) (.cons (.var 1) .nil)))
    (.seq (.for (.it (itL K) (.var 2)) (.nm 4) (L_next_choices_2 K))
    (.tell 3 (.ret (.var 3)))))
theorem op_next_choices (m_list : mg "list" = none) (m_len : mg "len" = none) (f : Addr) (cdv : Value) (A : Around) (outer : List PySem.Env) (s : Shared) (H : Hp) (E : XK) (hr : Room 0 (A.deeper (envOfC "next_choices" (defScope s_next_choices) s.heap.objs.size f cdv))) : PSs (cxOf CX0 P w K mg base n_next_choices "next_choices" (defScope s_next_choices) f cdv A outer s H E).nox (defBody s_next_choices) ((b_next_choices K).tr K) := by
  exact (pss_cons (ps_set (i := 3) sc_next_choices.nd rfl (.inl rfl) (pe_callTy call_list_of (by rfl) m_list (by decide +kernel) (pa_cons (pv 1) pa_nil)))
    (pss_cons (ps_for PassesOwn.never rfl (pi_list (pv 2)) (pg_name (i := 4) sc_next_choices.nd rfl (.inl rfl)) (pss_cons (ps_set (i := 5) sc_next_choices.nd rfl (.inl rfl) (pv 4))
    (pss_cons (ps_expr (pe_bm PySem.F.plainAttrs_list PySem.F.slot_list_append PySem.F.type_list_append mt_append (pv 3) (pa_cons (pv 5) pa_nil)))
    (pss_one (ps_while PassesOwn.never (pt_cmpR op_in_seq (pv 5) (pv 0) (by rfl)) (pss_cons (ps_aug (i := 5) sc_next_choices.nd rfl (.inl rfl) (pe_callB call_len_seq (by rfl) m_len PySem.boot_len (pa_cons (pv 2) pa_nil)) iop_add)
    (pss_one (ps_expr (pe_bm PySem.F.plainAttrs_list PySem.F.slot_list_append PySem.F.type_list_append mt_append (pv 3) (pa_cons (pv 5) pa_nil))))))))))
    (pss_one (ps_ret (pv 3)))))
/-! worths_of -/
def b_worths_of (K : PySem.W.Frag) : S :=
    (.ret (.callF R_sorted_things E0 (.cons (.fr (.lc2 (.it (itL K) (.var 0)) (.tp 2 [1, 2]) .yes (.it (itT K) (.var 2)) (.nm 3) (.tst (.op oGe (.var 3) (eI 0))) (.var 3) [1, 2, 3] [3])) .nil)))
theorem op_worths_of (c_sorted_things : Ca P w K mg base "sorted_things" 1 p_sorted_things (spF R_sorted_things)) (f : Addr) (cdv : Value) (A : Around) (outer : List PySem.Env) (s : Shared) (H : Hp) (E : XK) (hr : Room 1 (A.deeper (envOfC "worths_of" (defScope s_worths_of) s.heap.objs.size f cdv))) : PSs (cxOf CX0 P w K mg base n_worths_of "worths_of" (defScope s_worths_of) f cdv A outer s H E).nox (defBody s_worths_of) ((b_worths_of K).tr K) := by
  obtain ⟨f_sorted_things, fd_sorted_things, g_sorted_things, k_sorted_things, b_sorted_things, F_sorted_things⟩ := c_sorted_things
  exact (pss_one (ps_ret (pe_call F_sorted_things (hr.mono (by decide)) (by rfl) g_sorted_things k_sorted_things b_sorted_things .nil pass0 (pa_cons (pe_lc2 (own := [("_", 1), ("cells", 2), ("cell", 3)]) (vs1 := [3]) (by rfl) sc_worths_of.nd (pi_list (pv 0)) (blkOk_by (N := n_worths_of) (sc := defScope s_worths_of) (by decide +kernel)) (by decide) (fun _ _ _ _ _ => (pg_tup rfl (pgs_cons (pg_name (i := 1) sc_worths_of.nd rfl (.inl rfl)) (pgs_cons (pg_name (i := 2) sc_worths_of.nd rfl (.inl rfl)) pgs_nil)))) (fun _ _ _ _ _ => pts_nil) (fun _ _ _ _ _ => (pi_tup (pv 2))) (fun _ _ _ _ _ => (pg_name (i := 3) sc_worths_of.nd rfl (.inl rfl))) (fun _ _ _ _ _ => (pts_one (pt_cmpR op_ge (pv 3) pe_int (nomark _)))) (fun _ _ _ _ _ => (pv 3))) pa_nil))))
/-! typical_choices -/
def L_typical_choices_1 (K : PySem.W.Frag) : S :=
    (.asg (.nm 5) (.fr (.lc2 (.it (itL K) (.var 5)) (.nm 7) .yes (.it (itL K) (.call R_next_choices E0 (.cons (.var 7) (.cons (.var 1) (.cons (.var 3) .nil))))) (.nm 8) .yes (.tup (.star (.var 7) (.cons (.var 8) .nil))) [7, 8] [8])))
def b_typical_choices (K : PySem.W.Frag) : S :=
    (.seq (.asg (.nm 3) (.fr (.lc (.ita itR (.cons (.var 2) .nil)) (.nm 4) .yes (.callF R_new_worth E0 (.cons (.var 1) (.cons (.var 4) (.cons (.var 2) .nil)))) [4])))
    (.seq (.asg (.nm 5) (.fr (.lst (.cons (.tup .nil) .nil))))
    (.seq (.for (.ita itR (.cons (.var 0) .nil)) (.nm 6) (L_typical_choices_1 K))
    (.ret (.var 5)))))
theorem op_typical_choices (m_range : mg "range" = none) (c_new_worth : Ca P w K mg base "new_worth" 1 p_new_worth (spF R_new_worth)) (c_next_choices : Ca P w K mg base "next_choices" 1 p_next_choices (spP R_next_choices)) (f : Addr) (cdv : Value) (A : Around) (outer : List PySem.Env) (s : Shared) (H : Hp) (E : XK) (hr : Room 1 (A.deeper (envOfC "typical_choices" (defScope s_typical_choices) s.heap.objs.size f cdv))) : PSs (cxOf CX0 P w K mg base n_typical_choices "typical_choices" (defScope s_typical_choices) f cdv A outer s H E).nox (defBody s_typical_choices) ((b_typical_choices K).tr K) := by
  obtain ⟨f_new_worth, fd_new_worth, g_new_worth, k_new_worth, b_new_worth, F_new_worth⟩ := c_new_worth
  obtain ⟨f_next_choices, fd_next_choices, g_next_choices, k_next_choices, b_next_choices, F_next_choices⟩ := c_next_choices
  exact (pss_cons (ps_set (i := 3) sc_typical_choices.nd rfl (.inr rfl) (pe_lc (own := [("rest", 4)]) (by rfl) sc_typical_choices.nd (pi_range1 (by rfl) m_range (pa_cons (pv 2) pa_nil)) (blkOk_by (N := n_typical_choices) (sc := defScope s_typical_choices) (by decide +kernel)) (fun _ _ _ _ _ => (pg_name (i := 4) sc_typical_choices.nd rfl (.inl rfl))) (fun _ _ _ _ _ => pts_nil) (fun _ _ _ _ _ => (pe_call F_new_worth (hr.mono (by decide)) (by rfl) g_new_worth k_new_worth b_new_worth .nil pass0 (pa_cons (pv 1) (pa_cons (pv 4) (pa_cons (pv 2) pa_nil)))))))
    (pss_cons (ps_set (i := 5) sc_typical_choices.nd rfl (.inl rfl) (pe_lst (pa_cons (pe_tup pa_nil) pa_nil)))
    (pss_cons (ps_for PassesOwn.never rfl (pi_range1 (by rfl) m_range (pa_cons (pv 0) pa_nil)) (pg_name (i := 6) sc_typical_choices.nd rfl (.inl rfl)) (pss_one (ps_setLc2 (i := 5) (own := [("worths", 7), ("worth", 8)]) (vs1 := [8]) (by rfl) sc_typical_choices.nd rfl rfl (sw_true rfl rfl rfl (by decide +kernel)) (pi_list (pv 5)) (blkOk_by (N := n_typical_choices) (sc := defScope s_typical_choices) (by decide +kernel)) (by decide) (fun _ _ _ _ _ => (pg_name (i := 7) sc_typical_choices.nd rfl (.inl rfl))) (fun _ _ _ _ _ => pts_nil) (fun _ _ _ _ _ => (pi_list (pe_call F_next_choices (hr.mono (by decide)) (by rfl) g_next_choices k_next_choices b_next_choices .nil pass0 (pa_cons (pv 7) (pa_cons (pv 1) (pa_cons (pv 3) pa_nil)))))) (fun _ _ _ _ _ => (pg_name (i := 8) sc_typical_choices.nd rfl (.inl rfl))) (fun _ _ _ _ _ => pts_nil) (fun _ _ _ _ _ => (pe_tup (StX.pa_star (pv 7) (pa_cons (pv 8) pa_nil)))))))
    (pss_one (ps_ret (pv 5))))))
/-! typical_rows -/
def L_typical_rows_1 (K : PySem.W.Frag) : S :=
    (.seq (.own 8 (.cb (oList K) (.cons (.var 7) .nil)))
    (.app 6 (.tup (.cons (.var 3) (.cons (.cb (oTup K) (.cons (.fr (.lc (.it (itT K) (.var 4)) (.nm 9) .yes (.ife (.tst (.op oEqI (.var 9) (eI (-1)))) (.popO 8 (eI 0)) (.var 9)) [9])) .nil)) .nil)))))
def b_typical_rows (K : PySem.W.Frag) : S :=
    (.seq (sUnp K 0 3 4)
    (.seq (.asg (.nm 5) (.callF R_sorted_things E0 (.cons (.fr (.lst (.star (.var 1) (.star (.call R_worths_of E0 (.cons (.fr (.lst (.cons (.var 0) .nil))) .nil)) .nil)))) .nil)))
    (.seq (.own 6 (.lst .nil))
    (.seq (.for (.it (itL K) (.call R_typical_choices E0 (.cons (eCnt K 4 (eI (-1))) (.cons (.var 5) (.cons (.var 2) .nil))))) (.nm 7) (L_typical_rows_1 K))
    (.tell 6 (.ret (.callF R_sorted_things E0 (.cons (.var 6) .nil))))))))
theorem op_typical_rows (m_list : mg "list" = none) (m_tuple : mg "tuple" = none) {tk_STAR : Tok} (m_STAR : mg "STAR" = some (.int (-1) tk_STAR)) (c_sorted_things : Ca P w K mg base "sorted_things" 1 p_sorted_things (spF R_sorted_things)) (c_worths_of : Ca P w K mg base "worths_of" 2 p_worths_of (spP R_worths_of)) (c_typical_choices : Ca P w K mg base "typical_choices" 2 p_typical_choices (spP R_typical_choices)) (f : Addr) (cdv : Value) (A : Around) (outer : List PySem.Env) (s : Shared) (H : Hp) (E : XK) (hr : Room 2 (A.deeper (envOfC "typical_rows" (defScope s_typical_rows) s.heap.objs.size f cdv))) : PSs (cxOf CX0 P w K mg base n_typical_rows "typical_rows" (defScope s_typical_rows) f cdv A outer s H E).nox (defBody s_typical_rows) ((b_typical_rows K).tr K) := by
  obtain ⟨f_sorted_things, fd_sorted_things, g_sorted_things, k_sorted_things, b_sorted_things, F_sorted_things⟩ := c_sorted_things
  obtain ⟨f_worths_of, fd_worths_of, g_worths_of, k_worths_of, b_worths_of, F_worths_of⟩ := c_worths_of
  obtain ⟨f_typical_choices, fd_typical_choices, g_typical_choices, k_typical_choices, b_typical_choices, F_typical_choices⟩ := c_typical_choices
  exact (pss_cons (ps_asg (pv 0) (pg_tup rfl (pgs_cons (pg_name (i := 3) sc_typical_rows.nd rfl (.inl rfl)) (pgs_cons (pg_name (i := 4) sc_typical_rows.nd rfl (.inl rfl)) pgs_nil))))
    (pss_cons (ps_set (i := 5) sc_typical_rows.nd rfl (.inl rfl) (pe_call F_sorted_things (hr.mono (by decide)) (by rfl) g_sorted_things k_sorted_things b_sorted_things .nil pass0 (pa_cons (pe_lst (StX.pa_star (pv 1) (StX.pa_star (pe_call F_worths_of (hr.mono (by decide)) (by rfl) g_worths_of k_worths_of b_worths_of .nil pass0 (pa_cons (pe_lst (pa_cons (pv 0) pa_nil)) pa_nil)) pa_nil))) pa_nil)))
    (pss_cons (ps_set (i := 6) sc_typical_rows.nd rfl (.inl rfl) (pe_lst pa_nil))
    (pss_cons (ps_for PassesOwn.never rfl (pi_list (pe_call F_typical_choices (hr.mono (by decide)) (by rfl) g_typical_choices k_typical_choices b_typical_choices .nil pass0 (pa_cons (Cnt.pe_tcount (pv 4) (pa_cons (pe_glob (v := .int (-1)) (by rfl) m_STAR ⟨_, rfl⟩) pa_nil)) (pa_cons (pv 5) (pa_cons (pv 2) pa_nil))))) (pg_name (i := 7) sc_typical_rows.nd rfl (.inl rfl)) (pss_cons (ps_set (i := 8) sc_typical_rows.nd rfl (.inr rfl) (pe_callTy call_list_of (by rfl) m_list (by decide +kernel) (pa_cons (pv 7) pa_nil)))
    (pss_one (ps_expr (pe_bm PySem.F.plainAttrs_list PySem.F.slot_list_append PySem.F.type_list_append mt_append (pv 6) (pa_cons (pe_tup (pa_cons (pv 3) (pa_cons (pe_callTy call_tuple_of (by rfl) m_tuple (by decide +kernel) (pa_cons (pe_lc (own := [("cell", 9)]) (by rfl) sc_typical_rows.nd (pi_tup (pv 4)) (blkOk_by (N := n_typical_rows) (sc := defScope s_typical_rows) (by decide +kernel)) (fun _ _ _ _ _ => (pg_name (i := 9) sc_typical_rows.nd rfl (.inl rfl))) (fun _ _ _ _ _ => pts_nil) (fun _ _ _ _ _ => (pe_ifExp (pt_cmpR op_eq (pv 9) (pe_glob (v := .int (-1)) (by rfl) m_STAR ⟨_, rfl⟩) (nomark _)) (pe_bm PySem.F.plainAttrs_list PySem.F.slot_list_pop PySem.F.type_list_pop mt_popAt (pv 8) (pa_cons pe_int pa_nil)) (pv 9)))) pa_nil)) pa_nil))) pa_nil))))))
    (pss_one (ps_ret (pe_call F_sorted_things (hr.mono (by decide)) (by rfl) g_sorted_things k_sorted_things b_sorted_things .nil pass0 (pa_cons (pv 6) pa_nil))))))))
/-! _law_unlike -/
def b__law_unlike (K : PySem.W.Frag) : S :=
    (.seq (.asg (.nm 1) (.fr (.cb (oSort K) (.cons (.var 0) .nil))))
    (.ret (.fr (.lc (.ita itR (.cons (.cb (oLen K) (.cons (.var 1) .nil)) .nil)) (.nm 2) (.or (.tst (.op oEqI (.var 2) (eI 0))) (.tst (.op (oNeD K) (.op (oIxL K) (.var 1) (.var 2)) (.op (oIxL K) (.var 1) (.op oSub (.var 2) (eI 1)))))) (.op (oIxL K) (.var 1) (.var 2)) [2]))))
theorem op__law_unlike (m_sorted : mg "sorted" = none) (m_len : mg "len" = none) (m_range : mg "range" = none) (f : Addr) (cdv : Value) (A : Around) (outer : List PySem.Env) (s : Shared) (H : Hp) (E : XK) (hr : Room 0 (A.deeper (envOfC "_law_unlike" (defScope s__law_unlike) s.heap.objs.size f cdv))) : PSs (cxOf CX0 P w K mg base n__law_unlike "_law_unlike" (defScope s__law_unlike) f cdv A outer s H E).nox (defBody s__law_unlike) ((b__law_unlike K).tr K) := by
  exact (pss_cons (ps_set (i := 1) sc__law_unlike.nd rfl (.inr rfl) (pe_callB (cr_sortB hr.units) (by rfl) m_sorted (by decide +kernel) (pa_cons (pv 0) pa_nil)))
    (pss_one (ps_ret (pe_lc (own := [("_law_k", 2)]) (by rfl) sc__law_unlike.nd (pi_range1 (by rfl) m_range (pa_cons (pe_callB call_len_seq (by rfl) m_len PySem.boot_len (pa_cons (pv 1) pa_nil)) pa_nil)) (blkOk_by (N := n__law_unlike) (sc := defScope s__law_unlike) (by decide +kernel)) (fun _ _ _ _ _ => (pg_name (i := 2) sc__law_unlike.nd rfl (.inl rfl))) (fun _ _ _ _ _ => (pts_one (PW.pt (pw_or (pt_cmpR op_eq (pv 2) pe_int (nomark _)) (pw_or1 (pt_cmpR (op_neD hr.units) (pe_ix ix_list (pv 1) (pv 2) (fun _ _ => rfl)) (pe_ix ix_list (pv 1) (pe_op op_sub (pv 2) pe_int) (fun _ _ => rfl)) (nomark _))))))) (fun _ _ _ _ _ => (pe_ix ix_list (pv 1) (pv 2) (fun _ _ => rfl)))))))
/-! _law_least_above -/
def L__law_least_above_1 (K : PySem.W.Frag) : S :=
    (.ifS (.tst (.op oEqI (.op oMod (.cb oInt (.cons (.op oAdd (.var 3) (.var 4)) .nil)) (.var 2)) (.var 1))) (.ret (.op oAdd (.var 3) (.var 4))) .next)
def b__law_least_above (K : PySem.W.Frag) : S :=
    (.seq (.asg (.nm 3) (.ife (.tst (.op (oNeD K) (.var 0) (.fr (.lst .nil)))) (.op oAdd (.cb (oMax K) (.cons (.var 0) .nil)) (eI 1)) (eI 0)))
    (.seq (.for (.ita itR (.cons (.var 2) .nil)) (.nm 4) (L__law_least_above_1 K))
    (.ret (.un oNeg (eI 1)))))
theorem op__law_least_above (m_max : mg "max" = none) (m_range : mg "range" = none) (m_int : mg "int" = none) (f : Addr) (cdv : Value) (A : Around) (outer : List PySem.Env) (s : Shared) (H : Hp) (E : XK) (hr : Room 0 (A.deeper (envOfC "_law_least_above" (defScope s__law_least_above) s.heap.objs.size f cdv))) : PSs (cxOf CX0 P w K mg base n__law_least_above "_law_least_above" (defScope s__law_least_above) f cdv A outer s H E).nox (defBody s__law_least_above) ((b__law_least_above K).tr K) := by
  exact (pss_cons (ps_set (i := 3) sc__law_least_above.nd rfl (.inl rfl) (pe_ifExp (pt_cmpR (op_neD hr.units) (pv 0) (pe_lst pa_nil) (nomark _)) (pe_op op_add (pe_callB (cr_max (by rfl)) (by rfl) m_max (by decide +kernel) (pa_cons (pv 0) pa_nil)) pe_int) pe_int))
    (pss_cons (ps_for PassesOwn.never rfl (pi_range1 (by rfl) m_range (pa_cons (pv 2) pa_nil)) (pg_name (i := 4) sc__law_least_above.nd rfl (.inl rfl)) (pss_one (ps_if (pt_cmpR op_eq (pe_op op_mod (pe_callTy call_int1 (by rfl) m_int (by decide +kernel) (pa_cons (pe_op op_add (pv 3) (pv 4)) pa_nil)) (pv 2)) (pv 1) (nomark _)) (pss_one (ps_ret (pe_op op_add (pv 3) (pv 4)))) pss_nil)))
    (pss_one (ps_ret (pe_un un_neg pe_int)))))
/-! _law_kind -/
def L__law_kind_1 (K : PySem.W.Frag) : S :=
    (.seq (.asg (.nm 8) (.op (oIxT K) (.var 1) (.var 7)))
    (.seq (.ifS (.or (.tst (.op oGe (.op (oIxT K) (.op (oIxT K) (.var 0) (eI 1)) (.var 7)) (eI 0))) (.tst (.op (oIn K false) (.var 8) (.var 2)))) (.seq (.app 5 (.var 8))
    .cnt) .next)
    (.seq (.ifS (.tb (.din true (.var 8) 4)) (.seq (.asg (.nm 9) (.op oMod (.cb oInt (.cons (.var 8) .nil)) (.var 3)))
    (.seq (.putO 4 (.var 8) (.op oAdd (.call R__law_least_above E0 (.cons (.var 2) (.cons (.var 9) (.cons (.var 3) .nil)))) (.op oMul (.var 3) (.ixO 6 (.var 9)))))
    (.setO 6 (.var 9) (.op oAdd (.ixO 6 (.var 9)) (eI 1))))) .next)
    (.app 5 (.dget 4 (.var 8))))))
def b__law_kind (K : PySem.W.Frag) : S :=
    (.seq (.par3 4 5 6 .nd (.fr (.lst .nil)) (.fr (.op oRep1 (.fr (.lst (.cons (eI 0) .nil))) (.var 3))))
    (.seq (.for (.ita itR (.cons (.cb (oLen K) (.cons (.var 1) .nil)) .nil)) (.nm 7) (L__law_kind_1 K))
    (.tell 5 (.ret (.tup (.cons (.op (oIxT K) (.var 0) (eI 0)) (.cons (.cb (oTup K) (.cons (.var 5) .nil)) .nil)))))))
theorem op__law_kind (m_range : mg "range" = none) (m_len : mg "len" = none) (m_int : mg "int" = none) (m_tuple : mg "tuple" = none) (c__law_least_above : Ca P w K mg base "_law_least_above" 1 p__law_least_above (spP R__law_least_above)) (f : Addr) (cdv : Value) (A : Around) (outer : List PySem.Env) (s : Shared) (H : Hp) (E : XK) (hr : Room 1 (A.deeper (envOfC "_law_kind" (defScope s__law_kind) s.heap.objs.size f cdv))) : PSs (cxOf CX0 P w K mg base n__law_kind "_law_kind" (defScope s__law_kind) f cdv A outer s H E).nox (defBody s__law_kind) ((b__law_kind K).tr K) := by
  obtain ⟨f__law_least_above, fd__law_least_above, g__law_least_above, k__law_least_above, b__law_least_above, F__law_least_above⟩ := c__law_least_above
  exact (pss_cons (ps_par3 (i := 4) (j := 5) (l := 6) (by rfl) sc__law_kind.nd rfl rfl rfl (by decide) (by decide) (by decide) rfl rfl rfl (pa_cons pe_dnewK (pa_cons (pe_lst pa_nil) (pa_cons (pe_op op_rep (pe_lst (pa_cons pe_int pa_nil)) (pv 3)) pa_nil))) (by rfl))
    (pss_cons (ps_for PassesOwn.never rfl (pi_range1 (by rfl) m_range (pa_cons (pe_callB call_len_seq (by rfl) m_len PySem.boot_len (pa_cons (pv 1) pa_nil)) pa_nil)) (pg_name (i := 7) sc__law_kind.nd rfl (.inl rfl)) (pss_cons (ps_set (i := 8) sc__law_kind.nd rfl (.inl rfl) (pe_ix ix_tup (pv 1) (pv 7) (fun _ _ => rfl)))
    (pss_cons (ps_if (PW.pt (pw_or (pt_cmpR op_ge (pe_ix ix_tup (pe_ix ix_tup (pv 0) pe_int (fun _ _ => rfl)) (pv 7) (fun _ _ => rfl)) pe_int (nomark _)) (pw_or1 (pt_cmpR op_in_seq (pv 8) (pv 2) (by rfl))))) (pss_cons (ps_expr (pe_bm PySem.F.plainAttrs_list PySem.F.slot_list_append PySem.F.type_list_append mt_append (pv 5) (pa_cons (pv 8) pa_nil)))
    (pss_one ps_continue)) pss_nil)
    (pss_cons (ps_if (pt_cmp (pc_dnotin (hu_of hr) (pv 8) (pv 4))) (pss_cons (ps_set (i := 9) sc__law_kind.nd rfl (.inl rfl) (pe_op op_mod (pe_callTy call_int1 (by rfl) m_int (by decide +kernel) (pa_cons (pv 8) pa_nil)) (pv 3)))
    (pss_cons (ps_dput (hu_of hr) (pv 4) (pv 8) (pe_op op_add (pe_call F__law_least_above (hr.mono (by decide)) (by rfl) g__law_least_above k__law_least_above b__law_least_above .nil pass0 (pa_cons (pv 2) (pa_cons (pv 9) (pa_cons (pv 3) pa_nil)))) (pe_op op_mul (pv 3) (pe_ix ix_list (pv 6) (pv 9) (fun _ _ => rfl)))) rfl)
    (pss_one (ps_asg (pe_op op_add (pe_ix ix_list (pv 6) (pv 9) (fun _ _ => rfl)) pe_int) (pg_sub (pv 6) (pv 9) set_list))))) pss_nil)
    (pss_one (ps_expr (pe_bm PySem.F.plainAttrs_list PySem.F.slot_list_append PySem.F.type_list_append mt_append (pv 5) (pa_cons (pe_dget (hu_of hr) (pv 4) (pv 8) (fun _ _ => rfl)) pa_nil))))))))
    (pss_one (ps_ret (pe_tup (pa_cons (pe_ix ix_tup (pv 0) pe_int (fun _ _ => rfl)) (pa_cons (pe_callTy call_tuple_of (by rfl) m_tuple (by decide +kernel) (pa_cons (pv 5) pa_nil)) pa_nil)))))))
def L_law_1 (K : PySem.W.Frag) : S :=
    (.ifS (.tst (.op oNeI (.callF R_new_worth E0 (.cons (.fr (.cb (oList K) (.cons (.var 9) .nil))) (.cons (.var 12) (.cons (.var 8) .nil)))) (.call R__law_least_above E0 (.cons (.var 9) (.cons (.var 12) (.cons (.var 8) .nil)))))) (.ret (eB false)) .next)
def L_law_2 (K : PySem.W.Frag) : S :=
    (.asg (.nm 15) (.callF R__law_longer E0 (.cons (.var 15) (.cons (.ife (.tst (.op oGe (.var 11) (eI 0))) (.fr (.lst (.cons (.var 11) .nil))) (.fr (.op oCatL (.call R__law_unlike E0 (.cons (.var 10) .nil)) (.var 14)))) .nil))))
def L_law_3 (K : PySem.W.Frag) : S :=
    (.app 16 (.call R__law_kind E0 (.cons (.var 5) (.cons (.var 17) (.cons (.var 10) (.cons (.var 8) .nil))))))
def b_law (K : PySem.W.Frag) : S :=
    (.seq (.asg (.nm 2) (.callG R__law_pool E0 1 (.cons (eI 5) .nil)))
    (.seq (.asg (.nm 3) (.op oAdd (eI 1) (.callG R__law_take E0 1 (.cons (eI 3) .nil))))
    (.seq (.asg (.nm 4) (.callG R__law_take E0 1 (.cons (eI 3) .nil)))
    (.seq (sRow K 5 (.var 4) (.lc (.ita itR (.cons (.var 3) .nil)) (.nm 6) .yes (.callG R__law_pick E0 1 (.cons (.fr (.lst (.cons (.un oNeg (eI 1)) (.cons (.un oNeg (eI 1)) (.cons (.un oNeg (eI 1)) (.cons (.op (oIxL K) (.var 2) (.var 6)) .nil)))))) .nil)) [6]))
    (.seq (.asg (.nm 7) (eCntR K 5 (.un oNeg (eI 1))))
    (.seq (.asg (.nm 8) (.op oAdd (eI 1) (.callG R__law_take E0 1 (.cons (.ife (.tst (.op oLt (.var 7) (eI 3))) (eI 3) (eI 2)) .nil))))
    (.seq (.asg (.nm 9) (.fr (.sl (oSlTo K) (.callG R__law_mixed E0 1 (.cons (.var 2) .nil)) .no (.at (.callG R__law_take E0 1 (.cons (.ife (.tst (.op oLt (.var 7) (eI 3))) (eI 4) (eI 3)) .nil))))))
    (.seq (.asg (.nm 10) (.fr (.op oCatL (.var 9) (.fr (.lc (.it (itT K) (.op (oIxT K) (.var 5) (eI 1))) (.nm 11) (.and (.tst (.op oGe (.var 11) (eI 0))) (.tst (.op (oIn K true) (.var 11) (.var 9)))) (.var 11) [11])))))
    (.seq (.for (.ita itR (.cons (.var 8) .nil)) (.nm 12) (L_law_1 K))
    (.seq (.asg (.nm 13) (.ife (.tst (.op (oNeD K) (.var 10) (.fr (.lst .nil)))) (.cb (oMax K) (.cons (.var 10) .nil)) (.un oNeg (eI 1))))
    (.seq (.asg (.nm 14) (.fr (.lc (.ita itR (.cons (.op oMul (.var 8) (.var 7)) .nil)) (.nm 6) .yes (.op oAdd (.op oAdd (.var 13) (eI 1)) (.var 6)) [6])))
    (.seq (.asg (.nm 15) (.fr (.lst (.cons (.tup .nil) .nil))))
    (.seq (.for (.it (itT K) (.op (oIxT K) (.var 5) (eI 1))) (.nm 11) (L_law_2 K))
    (.seq (.own 16 (.lst .nil))
    (.seq (.for (.it (itL K) (.var 15)) (.nm 17) (L_law_3 K))
    (.seq (.asg (.nm 18) (.fr (.op oCatL (.fr (.cb (oList K) (.cons (.var 9) .nil))) (.fr (.sl (oSlTo K) (.var 9) .no (.at (eI 1)))))))
    (.seq (.asg (.nm 19) (.callS R_typical_rows RowF E0 5 (.cons (.var 18) (.cons (.var 8) .nil))))
    (.seq (.tell 16 (.ifS (.or (.tst (.op (oNeD K) (.var 19) (.cb (oTup K) (.cons (.call R__law_unlike E0 (.cons (.var 16) .nil)) .nil)))) (.tst (.op (oNeD K) (.var 18) (.fr (.op oCatL (.var 9) (.fr (.sl (oSlTo K) (.var 9) .no (.at (eI 1))))))))) (.ret (eB false)) .next))
    (.ret (.op (oEqD K) (.var 19) (.callS R_typical_rows RowF E0 5 (.cons (.cb (oTup K) (.cons (.var 10) .nil)) (.cons (.var 8) .nil)))))))))))))))))))))))
theorem op_law (m_range : mg "range" = none) (m_len : mg "len" = none) (m_list : mg "list" = none) (m_tuple : mg "tuple" = none) (m_max : mg "max" = none) (c__law_source : Ca P w K mg base "_law_source" 1 p__law_source (spSource K)) (c__law_take : Ca P w K mg base "_law_take" 1 p__law_take (spG R__law_take)) (c__law_pick : Ca P w K mg base "_law_pick" 2 p__law_pick (spG R__law_pick)) (c__law_mixed : Ca P w K mg base "_law_mixed" 2 p__law_mixed (spG R__law_mixed)) (c__law_pool : Ca P w K mg base "_law_pool" 3 p__law_pool (spG R__law_pool)) (c__law_longer : Ca P w K mg base "_law_longer" 1 p__law_longer (spF R__law_longer)) (c_new_worth : Ca P w K mg base "new_worth" 1 p_new_worth (spF R_new_worth)) (c__law_least_above : Ca P w K mg base "_law_least_above" 1 p__law_least_above (spP R__law_least_above)) (c__law_unlike : Ca P w K mg base "_law_unlike" 1 p__law_unlike (spP R__law_unlike)) (c__law_kind : Ca P w K mg base "_law_kind" 2 p__law_kind (spP R__law_kind)) (c_typical_rows : Ca P w K mg base "typical_rows" 3 p_typical_rows (spS R_typical_rows RowF)) (f : Addr) (cdv : Value) (A : Around) (outer : List PySem.Env) (s : Shared) (H : Hp) (E : XK) (hr : Room 3 (A.deeper (envOfC "law" (defScope s_law) s.heap.objs.size f cdv))) : PSs (cxOf CX0 P w K mg base n_law "law" (defScope s_law) f cdv A outer s H E).nox (defBody s_law) (tSeq (tAsg (tCall (spSource K) [] E0 (tCons (tVar 0) tNil)) (gName 1)) ((b_law K).tr K)) := by
  obtain ⟨f__law_source, fd__law_source, g__law_source, k__law_source, b__law_source, F__law_source⟩ := c__law_source
  obtain ⟨f__law_take, fd__law_take, g__law_take, k__law_take, b__law_take, F__law_take⟩ := c__law_take
  obtain ⟨f__law_pick, fd__law_pick, g__law_pick, k__law_pick, b__law_pick, F__law_pick⟩ := c__law_pick
  obtain ⟨f__law_mixed, fd__law_mixed, g__law_mixed, k__law_mixed, b__law_mixed, F__law_mixed⟩ := c__law_mixed
  obtain ⟨f__law_pool, fd__law_pool, g__law_pool, k__law_pool, b__law_pool, F__law_pool⟩ := c__law_pool
  obtain ⟨f__law_longer, fd__law_longer, g__law_longer, k__law_longer, b__law_longer, F__law_longer⟩ := c__law_longer
  obtain ⟨f_new_worth, fd_new_worth, g_new_worth, k_new_worth, b_new_worth, F_new_worth⟩ := c_new_worth
  obtain ⟨f__law_least_above, fd__law_least_above, g__law_least_above, k__law_least_above, b__law_least_above, F__law_least_above⟩ := c__law_least_above
  obtain ⟨f__law_unlike, fd__law_unlike, g__law_unlike, k__law_unlike, b__law_unlike, F__law_unlike⟩ := c__law_unlike
  obtain ⟨f__law_kind, fd__law_kind, g__law_kind, k__law_kind, b__law_kind, F__law_kind⟩ := c__law_kind
  obtain ⟨f_typical_rows, fd_typical_rows, g_typical_rows, k_typical_rows, b_typical_rows, F_typical_rows⟩ := c_typical_rows
  exact (pss_cons (ps_set (i := 1) sc_law.nd rfl (.inr rfl) (pe_call F__law_source (hr.mono (by decide)) (by rfl) g__law_source k__law_source b__law_source .nil pass0 (pa_cons (pv 0) pa_nil)))
    (pss_cons (ps_set (i := 2) sc_law.nd rfl (.inr rfl) (pe_call F__law_pool (hr.mono (by decide)) (by rfl) g__law_pool k__law_pool b__law_pool .nil pass0 (pa_cons (pv 1) (pa_cons pe_int pa_nil))))
    (pss_cons (ps_set (i := 3) sc_law.nd rfl (.inl rfl) (pe_op op_add pe_int (pe_call F__law_take (hr.mono (by decide)) (by rfl) g__law_take k__law_take b__law_take .nil pass0 (pa_cons (pv 1) (pa_cons pe_int pa_nil)))))
    (pss_cons (ps_set (i := 4) sc_law.nd rfl (.inl rfl) (pe_call F__law_take (hr.mono (by decide)) (by rfl) g__law_take k__law_take b__law_take .nil pass0 (pa_cons (pv 1) (pa_cons pe_int pa_nil))))
    (pss_cons (ps_set (i := 5) sc_law.nd rfl (.inl rfl) (pe_tup (pa_cons (pv 4) (pa_cons (pe_callTy Cnt.call_tupF (by rfl) m_tuple (by decide +kernel) (pa_cons (pe_lc (own := [("_law_k", 6)]) (by rfl) sc_law.nd (pi_range1 (by rfl) m_range (pa_cons (pv 3) pa_nil)) (blkOk_by (N := n_law) (sc := defScope s_law) (by decide +kernel)) (fun _ _ _ _ _ => (pg_name (i := 6) sc_law.nd rfl (.inl rfl))) (fun _ _ _ _ _ => pts_nil) (fun _ _ _ _ _ => (pe_call F__law_pick (hr.mono (by decide)) (by rfl) g__law_pick k__law_pick b__law_pick .nil pass0 (pa_cons (pv 1) (pa_cons (pe_lst (pa_cons (pe_un un_neg pe_int) (pa_cons (pe_un un_neg pe_int) (pa_cons (pe_un un_neg pe_int) (pa_cons (pe_ix ix_list (pv 2) (pv 6) (fun _ _ => rfl)) pa_nil))))) pa_nil))))) pa_nil)) pa_nil))))
    (pss_cons (ps_set (i := 7) sc_law.nd rfl (.inl rfl) (Cnt.pe_tcount (pe_ix ix_tup (pv 5) pe_int (fun _ _ => rfl)) (pa_cons (pe_un un_neg pe_int) pa_nil)))
    (pss_cons (ps_set (i := 8) sc_law.nd rfl (.inl rfl) (pe_op op_add pe_int (pe_call F__law_take (hr.mono (by decide)) (by rfl) g__law_take k__law_take b__law_take .nil pass0 (pa_cons (pv 1) (pa_cons (pe_ifExp (pt_cmpR op_lt (pv 7) pe_int (nomark _)) pe_int pe_int) pa_nil)))))
    (pss_cons (ps_set (i := 9) sc_law.nd rfl (.inr rfl) (pe_slice sl_list (pe_call F__law_mixed (hr.mono (by decide)) (by rfl) g__law_mixed k__law_mixed b__law_mixed .nil pass0 (pa_cons (pv 1) (pa_cons (pv 2) pa_nil))) po_none (po_some (pe_call F__law_take (hr.mono (by decide)) (by rfl) g__law_take k__law_take b__law_take .nil pass0 (pa_cons (pv 1) (pa_cons (pe_ifExp (pt_cmpR op_lt (pv 7) pe_int (nomark _)) pe_int pe_int) pa_nil))))))
    (pss_cons (ps_set (i := 10) sc_law.nd rfl (.inl rfl) (pe_op op_cat (pv 9) (pe_lc (own := [("_law_cell", 11)]) (by rfl) sc_law.nd (pi_tup (pe_ix ix_tup (pv 5) pe_int (fun _ _ => rfl))) (blkOk_by (N := n_law) (sc := defScope s_law) (by decide +kernel)) (fun _ _ _ _ _ => (pg_name (i := 11) sc_law.nd rfl (.inl rfl))) (fun _ _ _ _ _ => (pts_one (PW.pt (pw_and (pt_cmpR op_ge (pv 11) pe_int (nomark _)) (pw_and1 (pt_cmpR op_notIn_seq (pv 11) (pv 9) (by rfl))))))) (fun _ _ _ _ _ => (pv 11)))))
    (pss_cons (ps_for PassesOwn.never rfl (pi_range1 (by rfl) m_range (pa_cons (pv 8) pa_nil)) (pg_name (i := 12) sc_law.nd rfl (.inl rfl)) (pss_one (ps_if (pt_cmpR op_ne (pe_call F_new_worth (hr.mono (by decide)) (by rfl) g_new_worth k_new_worth b_new_worth .nil pass0 (pa_cons (pe_callTy call_list_of (by rfl) m_list (by decide +kernel) (pa_cons (pv 9) pa_nil)) (pa_cons (pv 12) (pa_cons (pv 8) pa_nil)))) (pe_call F__law_least_above (hr.mono (by decide)) (by rfl) g__law_least_above k__law_least_above b__law_least_above .nil pass0 (pa_cons (pv 9) (pa_cons (pv 12) (pa_cons (pv 8) pa_nil)))) (nomark _)) (pss_one (ps_ret pe_bl)) pss_nil)))
    (pss_cons (ps_set (i := 13) sc_law.nd rfl (.inr rfl) (pe_ifExp (pt_cmpR (op_neD hr.units) (pv 10) (pe_lst pa_nil) (nomark _)) (pe_callB (cr_max (by rfl)) (by rfl) m_max (by decide +kernel) (pa_cons (pv 10) pa_nil)) (pe_un un_neg pe_int)))
    (pss_cons (ps_setLc (i := 14) (own := [("_law_k", 6)]) (by rfl) sc_law.nd rfl rfl (sw_true rfl rfl rfl (by decide +kernel)) (pi_range1 (by rfl) m_range (pa_cons (pe_op op_mul (pv 8) (pv 7)) pa_nil)) (blkOk_by (N := n_law) (sc := defScope s_law) (by decide +kernel)) (fun _ _ _ _ _ => (pg_name (i := 6) sc_law.nd rfl (.inl rfl))) (fun _ _ _ _ _ => pts_nil) (fun _ _ _ _ _ => (pe_op op_add (pe_op op_add (pv 13) pe_int) (pv 6))))
    (pss_cons (ps_set (i := 15) sc_law.nd rfl (.inl rfl) (pe_lst (pa_cons (pe_tup pa_nil) pa_nil)))
    (pss_cons (ps_for PassesOwn.never rfl (pi_tup (pe_ix ix_tup (pv 5) pe_int (fun _ _ => rfl))) (pg_name (i := 11) sc_law.nd rfl (.inl rfl)) (pss_one (ps_set (i := 15) sc_law.nd rfl (.inl rfl) (pe_call F__law_longer (hr.mono (by decide)) (by rfl) g__law_longer k__law_longer b__law_longer .nil pass0 (pa_cons (pv 15) (pa_cons (pe_ifExp (pt_cmpR op_ge (pv 11) pe_int (nomark _)) (pe_lst (pa_cons (pv 11) pa_nil)) (pe_op op_cat (pe_call F__law_unlike (hr.mono (by decide)) (by rfl) g__law_unlike k__law_unlike b__law_unlike .nil pass0 (pa_cons (pv 10) pa_nil)) (pv 14))) pa_nil))))))
    (pss_cons (ps_set (i := 16) sc_law.nd rfl (.inl rfl) (pe_lst pa_nil))
    (pss_cons (ps_for PassesOwn.never rfl (pi_list (pv 15)) (pg_name (i := 17) sc_law.nd rfl (.inl rfl)) (pss_one (ps_expr (pe_bm PySem.F.plainAttrs_list PySem.F.slot_list_append PySem.F.type_list_append mt_append (pv 16) (pa_cons (pe_call F__law_kind (hr.mono (by decide)) (by rfl) g__law_kind k__law_kind b__law_kind .nil pass0 (pa_cons (pv 5) (pa_cons (pv 17) (pa_cons (pv 10) (pa_cons (pv 8) pa_nil))))) pa_nil)))))
    (pss_cons (ps_set (i := 18) sc_law.nd rfl (.inl rfl) (pe_op op_cat (pe_callTy call_list_of (by rfl) m_list (by decide +kernel) (pa_cons (pv 9) pa_nil)) (pe_slice sl_list (pv 9) po_none (po_some pe_int))))
    (pss_cons (ps_set (i := 19) sc_law.nd rfl (.inl rfl) (pe_call F_typical_rows (hr.mono (by decide)) (by rfl) g_typical_rows k_typical_rows b_typical_rows .nil pass0 (pa_cons (pv 5) (pa_cons (pv 18) (pa_cons (pv 8) pa_nil)))))
    (pss_cons (ps_if (PW.pt (pw_or (pt_cmpR (op_neD hr.units) (pv 19) (pe_callTy call_tuple_of (by rfl) m_tuple (by decide +kernel) (pa_cons (pe_call F__law_unlike (hr.mono (by decide)) (by rfl) g__law_unlike k__law_unlike b__law_unlike .nil pass0 (pa_cons (pv 16) pa_nil)) pa_nil)) (nomark _)) (pw_or1 (pt_cmpR (op_neD hr.units) (pv 18) (pe_op op_cat (pv 9) (pe_slice sl_list (pv 9) po_none (po_some pe_int))) (nomark _))))) (pss_one (ps_ret pe_bl)) pss_nil)
    (pss_one (ps_ret (pe_cmpR (op_eqD hr.units) (pv 19) (pe_call F_typical_rows (hr.mono (by decide)) (by rfl) g_typical_rows k_typical_rows b_typical_rows .nil pass0 (pa_cons (pv 5) (pa_cons (pe_callTy call_tuple_of (by rfl) m_tuple (by decide +kernel) (pa_cons (pv 10) pa_nil)) (pa_cons (pv 8) pa_nil)))) (nomark _)))))))))))))))))))))))
end
end Rx

namespace Rx
open PySem PySem.Spec PyProof.Rows L2 Dv
open Evl (Ex)
/-! comprehensions whose slots come back as they were -/
section
variable {g g1 : PyData → Env → (Env → Prop) → Prop} {t t1 : Env → (Bool → Env → Prop) → Prop} {e : Env → (PyData → Env → Prop) → Prop} {i1 : Env → (List PyData → Env → Prop) → Prop} {vs vs1 : List Nat} {Kf : List PyData → Env → Prop} {δ0 : Env}
theorem lcW_typ {α : Type} (enc : α → PyData) (f : α → Option PyData) : ∀ (ds : List α) (acc : List PyData)
    (hs : ∀ a ∈ ds, ∀ (C : Env → List PyData → Prop) (acc : List PyData), (match f a with | some x => acc.length ≤ 50000 ∧ C δ0 (acc ++ [x]) | none => C δ0 acc) → g (enc a) δ0 fun δ1 => t δ1 fun b δ2 => if b = true then e δ2 fun x δ3 => acc.length ≤ 50000 ∧ C (wipeD δ3 vs) (acc ++ [x]) else C (wipeD δ2 vs) acc)
    (hz : acc.length + (ds.filterMap f).length ≤ 50000) (h : Kf (acc ++ ds.filterMap f) δ0), lcW g t e vs Kf (ds.map enc) δ0 acc
  | [], acc, _, _, h => by
    rw [List.filterMap_nil, List.append_nil] at h
    exact h
  | d :: ds, acc, hs, hz, h => by
    refine hs d List.mem_cons_self (fun δ acc => lcW g t e vs Kf (ds.map enc) δ acc) acc ?_
    cases q : f d with
    | none =>
      rw [List.filterMap_cons, q] at h hz
      exact lcW_typ enc f ds acc (fun d hd => hs d (List.mem_cons_of_mem _ hd)) hz h
    | some x =>
      rw [List.filterMap_cons, q] at h hz
      replace hz : acc.length + ((ds.filterMap f).length + 1) ≤ 50000 := hz
      refine ⟨by omega, lcW_typ enc f ds _ (fun d hd => hs d (List.mem_cons_of_mem _ hd)) (by rw [List.length_append, List.length_singleton]; omega) ?_⟩
      rw [List.append_assoc]
      exact h
/-- .. an entry for each -/
theorem lcW_map {α : Type} (enc f : α → PyData) (ds : List α) (acc : List PyData)
    (hs : ∀ a ∈ ds, ∀ (C : Env → List PyData → Prop) (acc : List PyData), (acc.length ≤ 50000 ∧ C δ0 (acc ++ [f a])) → g (enc a) δ0 fun δ1 => t δ1 fun b δ2 => if b = true then e δ2 fun x δ3 => acc.length ≤ 50000 ∧ C (wipeD δ3 vs) (acc ++ [x]) else C (wipeD δ2 vs) acc)
    (hz : acc.length + ds.length ≤ 50000) (h : Kf (acc ++ ds.map f) δ0) : lcW g t e vs Kf (ds.map enc) δ0 acc := by
  have e1 : ds.filterMap (fun d => some (f d)) = ds.map f := by rw [show (fun d => some (f d)) = some ∘ f from rfl, List.filterMap_eq_map]
  exact lcW_typ enc (fun d => some (f d)) ds acc hs (by rw [e1, List.length_map]; exact hz) (by rw [e1]; exact h)
/-- .. those that pass -/
theorem lcW_flt {α : Type} (enc f : α → PyData) (p : α → Bool) (ds : List α) (acc : List PyData)
    (hs : ∀ a ∈ ds, ∀ (C : Env → List PyData → Prop) (acc : List PyData), (if p a = true then acc.length ≤ 50000 ∧ C δ0 (acc ++ [f a]) else C δ0 acc) → g (enc a) δ0 fun δ1 => t δ1 fun b δ2 => if b = true then e δ2 fun x δ3 => acc.length ≤ 50000 ∧ C (wipeD δ3 vs) (acc ++ [x]) else C (wipeD δ2 vs) acc)
    (hz : acc.length + (ds.filter p).length ≤ 50000) (h : Kf (acc ++ (ds.filter p).map f) δ0) : lcW g t e vs Kf (ds.map enc) δ0 acc := by
  have e1 : ds.filterMap (fun d => if p d = true then some (f d) else none) = (ds.filter p).map f := by
    clear hs hz h
    induction ds with
    | nil => rfl
    | cons a ds ih =>
      by_cases q : p a = true
      · rw [List.filterMap_cons, if_pos q, List.filter_cons, if_pos q, List.map_cons, ih]
      · rw [List.filterMap_cons, if_neg q, List.filter_cons, if_neg q, ih]
  refine lcW_typ enc (fun d => if p d = true then some (f d) else none) ds acc (fun a ha C acc h => hs a ha C acc ?_) (by rw [e1, List.length_map]; exact hz) (by rw [e1]; exact h)
  by_cases q : p a = true
  · simp only [if_pos q] at h; rw [if_pos q]; exact h
  · simp only [if_neg q] at h; rw [if_neg q]; exact h
theorem lc2W_typ {α : Type} (enc : α → PyData) (f : α → List PyData) : ∀ (ds : List α) (acc : List PyData)
    (hs : ∀ a ∈ ds, ∀ (C : Env → List PyData → Prop) (acc : List PyData), acc.length + (f a).length ≤ 50000 → C δ0 (acc ++ f a) → g (enc a) δ0 fun δ1 => t δ1 fun b δ2 => if b = true then i1 δ2 fun items δ3 => lcW g1 t1 e vs1 (fun acc' δ4 => C (wipeD δ4 vs) acc') items (wipeD δ3 vs1) acc else C (wipeD δ2 vs) acc)
    (hz : acc.length + (ds.flatMap f).length ≤ 50000) (h : Kf (acc ++ ds.flatMap f) δ0), lc2W g t i1 g1 t1 e vs vs1 Kf (ds.map enc) δ0 acc
  | [], acc, _, _, h => by
    rw [List.flatMap_nil, List.append_nil] at h
    exact h
  | d :: ds, acc, hs, hz, h => by
    rw [List.flatMap_cons, List.length_append] at hz
    refine hs d List.mem_cons_self (fun δ acc => lc2W g t i1 g1 t1 e vs vs1 Kf (ds.map enc) δ acc) acc (by omega) ?_
    refine lc2W_typ enc f ds _ (fun d hd => hs d (List.mem_cons_of_mem _ hd)) (by rw [List.length_append]; omega) ?_
    rw [List.flatMap_cons] at h
    rw [List.append_assoc]
    exact h
end
/-- a for whose slots are told by an item's place -/
theorem forW_gen {g : PyData → Env → (Env → Prop) → Prop} {b : Env → Post → Prop} {P : Post} (items : List PyData) (Iv : Nat → Env → Prop)
    (hs : ∀ i d δ (N : Env → Prop), items[i]? = some d → Iv i δ → (∀ δ', Iv (i + 1) δ' → N δ') → g d δ fun δ1 => b δ1 { nx := N, rt := P.rt, bk := P.nx, ct := N }) (hd : ∀ δ, Iv items.length δ → P.nx δ) :
    ∀ (i : Nat) (δ : Env), i ≤ items.length → Iv i δ → forW g b P (items.drop i) δ := by
  have main : ∀ (k i : Nat) (δ : Env), items.length - i = k → i ≤ items.length → Iv i δ → forW g b P (items.drop i) δ := by
    intro k
    induction k with
    | zero =>
      intro i δ e hi h
      obtain rfl : i = items.length := by omega
      rw [List.drop_length]
      exact hd δ h
    | succ k ih =>
      intro i δ e hi h
      have hlt : i < items.length := by omega
      rw [List.drop_eq_getElem_cons hlt]
      exact hs i _ δ _ (List.getElem?_eq_getElem hlt) h fun δ' h' => ih (i + 1) δ' (by omega) hlt h'
  exact fun i δ hi h => main _ i δ rfl hi h
theorem forW_inv {g : PyData → Env → (Env → Prop) → Prop} {b : Env → Post → Prop} {P : Post} {items : List PyData} (Iv : Nat → Env → Prop) {δ : Env} (h0 : Iv 0 δ)
    (hs : ∀ i d δ (N : Env → Prop), items[i]? = some d → Iv i δ → (∀ δ', Iv (i + 1) δ' → N δ') → g d δ fun δ1 => b δ1 { nx := N, rt := P.rt, bk := P.nx, ct := N }) (hd : ∀ δ, Iv items.length δ → P.nx δ) : forW g b P items δ :=
  forW_gen items Iv hs hd 0 δ (Nat.zero_le _) h0
end Rx

namespace Rx
open PySem PySem.Spec PyProof.Rows L2 Dv K0
open Evl (Ex)
section
variable {P : Program} {w : World} {K : PySem.W.Frag} {mg : Str → Option Value} {base : Heap}
theorem encI_snoc (a : List Int) (x : Int) : encI a ++ [.int x] = encI (a ++ [x]) := by simp [encI]
/-! next_choices -/
theorem for_next {ws ks fs : List Int} (hf : fs ≠ []) {P : Post} (h3 : ws.length ≤ 10) : ∀ (gs acc : List Int) (s4 s5 : Sl), acc.length + gs.length * 11 ≤ 10000 →
    (∀ s4 s5, P.nx [.sh (encC ws), .sh (encC ks), .sh (.list (encI fs)), .ol (.l (encI (acc ++ gs.flatMap fun f => f :: chainT ws fs.length ws.length f))), s4, s5]) →
    forW (Tg.nm 4).wp (L_next_choices_2 K).wp P (encI gs) [.sh (encC ws), .sh (encC ks), .sh (.list (encI fs)), .ol (.l (encI acc)), s4, s5]
  | [], acc, s4, s5, _, hP => by
    have := hP s4 s5
    rw [List.flatMap_nil, List.append_nil] at this
    exact this
  | f :: gs, acc, s4, s5, hz, hP => by
    rw [List.length_cons] at hz
    have hm : (1 : Int) ≤ fs.length := by
      cases fs with
      | nil => exact absurd rfl hf
      | cons a l => rw [List.length_cons]; omega
    have hcl := chainT_len ws fs.length ws.length f
    refine ⟨⟨_, rfl⟩, by rw [List.length_map]; omega, ?_⟩
    rw [encI_snoc]
    refine ⟨fun m δ => ∃ (k : Nat) (u : Int) (bs : List Int), m = k ∧ ws.countP (fun y => decide (u ≤ y)) ≤ k ∧ bs ++ chainT ws fs.length k u = acc ++ f :: chainT ws fs.length ws.length f ∧ δ = [.sh (encC ws), .sh (encC ks), .sh (.list (encI fs)), .ol (.l (encI bs)), .sh (.int f), .sh (.int u)], ⟨_, ws.length, f, acc ++ [f], rfl, List.countP_le_length, by rw [List.append_assoc]; rfl, rfl⟩, ?_⟩
    rintro m δ ⟨k, u, bs, rfl, hk, hb, rfl⟩
    refine ⟨ws, rfl, ?_⟩
    have hbl : bs.length + (chainT ws fs.length m u).length = acc.length + ((chainT ws fs.length ws.length f).length + 1) := by
      have := congrArg List.length hb
      rw [List.length_append, List.length_append, List.length_cons] at this
      exact this
    show (if decide (u ∈ ws) = true then _ else _)
    by_cases hu : u ∈ ws
    · rw [if_pos (decide_eq_true hu)]
      obtain ⟨j, rfl, hj, e⟩ := chainT_step hm hk hu
      refine ⟨_, rfl, ⟨_, rfl⟩, by rw [List.length_map]; omega, j, by omega, j, u + fs.length, bs ++ [u + fs.length], rfl, hj, by rw [List.append_assoc, ← hb, e]; rfl, ?_⟩
      rw [encI_snoc]
      show [_, _, _, Sl.ol (Ct.l (encI (bs ++ [u + ((fs.map PyData.int).length : Nat)]))), _, Sl.sh (PyData.int (u + ((fs.map PyData.int).length : Nat)))] = _
      rw [List.length_map]
    · rw [if_neg (by rw [decide_eq_false hu]; exact Bool.false_ne_true)]
      rw [chainT_zero hk hu, List.append_nil] at hb
      subst hb
      refine for_next hf h3 gs _ _ _ (by rw [List.length_append, List.length_cons]; omega) fun s4 s5 => ?_
      have := hP s4 s5
      rw [List.flatMap_cons] at this
      rw [List.append_assoc]
      exact this
theorem w_next_choices (ds : List PyData) (φ : PyData → Prop) (h : R_next_choices ds φ) : ds.length = p_next_choices.length ∧ (b_next_choices K).wp (ds.map .sh ++ List.replicate (n_next_choices.length - p_next_choices.length) .no) { nx := fun _ => φ .none, rt := φ } := by
  obtain ⟨ws, ks, fs, rfl, hf, h1, h2, h3, rfl⟩ := h
  exact ⟨rfl, for_next hf h3 fs ks .no .no (by omega) fun s4 s5 => rfl⟩
theorem ok_next (t : Txt K mg "next_choices" s_next_choices p_next_choices) (m_list : mg "list" = none) (m_len : mg "len" = none) : Ca P w K mg base "next_choices" 1 p_next_choices (spP R_next_choices) :=
  ok_def t sc_next_choices (fun f cdv A outer s H E hr => op_next_choices m_list m_len f cdv A outer s H E hr) w_next_choices
/-! worths_of -/
theorem w_worths_of (ds : List PyData) (φ : PyData → Prop) (h : R_worths_of ds φ) : ds.length = p_worths_of.length ∧ (b_worths_of K).wp (ds.map .sh ++ List.replicate (n_worths_of.length - p_worths_of.length) .no) { nx := fun _ => φ .none, rt := φ } := by
  obtain ⟨l, ms, rfl, hz, ha, hm, rfl⟩ := h
  refine ⟨rfl, ⟨by decide, by decide, by decide⟩, ?_⟩
  have ef : l.flatMap (fun r => encI (r.2.filter fun c => decide (0 ≤ c))) = encI ((l.flatMap (·.2)).filter fun c => decide (0 ≤ c)) := by
    clear hz hm
    induction l with
    | nil => rfl
    | cons r l ih => rw [List.flatMap_cons, ih, List.flatMap_cons, List.filter_append, encI, encI, encI, List.map_append]
  have hz2 := List.length_filter_le (fun c : Int => decide (0 ≤ c)) (l.flatMap (·.2))
  refine lc2W_typ (δ0 := [.sh (.list (l.map encR)), .no, .no, .no]) encR (fun r => encI (r.2.filter fun c => decide (0 ≤ c))) l [] (fun r hr C acc h1 h2 => ⟨rfl, rfl, ?_⟩) ?_ ?_
  · refine lcW_flt (δ0 := [.sh (.list (l.map encR)), .sh (.int r.1), .sh (encC r.2), .no]) PyData.int PyData.int (fun c => decide (0 ≤ c)) r.2 acc (fun c hc C acc h => h) (by rw [List.length_map] at h1; exact h1) h2
  · rw [ef, List.length_map]; show 0 + _ ≤ _; omega
  · rw [ef]
    refine ⟨encC ms, .inl ⟨_, ms, rfl, Nat.lt_of_le_of_lt hz2 hz, ha, fun x => ?_, rfl⟩, rfl⟩
    rw [hm, List.mem_filter, decide_eq_true_eq]
theorem ok_worths (t : Txt K mg "worths_of" s_worths_of p_worths_of) (c : Ca P w K mg base "sorted_things" 1 p_sorted_things (spF R_sorted_things)) : Ca P w K mg base "worths_of" 2 p_worths_of (spP R_worths_of) :=
  ok_def t sc_worths_of (fun f cdv A outer s H E hr => op_worths_of c f cdv A outer s H E hr) w_worths_of
/-! typical_choices -/
theorem stepC_len {ks fs : List Int} {n : Nat} : ∀ {acc : List (List Int)}, (∀ b ∈ acc, b.length = n) → ∀ b ∈ stepC ks fs acc, b.length = n + 1 := fun {acc} h b hb => by
  obtain ⟨a, ha, hb⟩ := List.mem_flatMap.mp hb
  obtain ⟨w, _, rfl⟩ := List.mem_map.mp hb
  rw [List.length_append, h a ha]; rfl
theorem choicesN_len {ks fs : List Int} : ∀ (n : Nat), ∀ b ∈ choicesN ks fs n, b.length = n
  | 0, b, h => by cases List.mem_singleton.mp h; rfl
  | n + 1, b, h => stepC_len (choicesN_len n) b h
theorem flat_le {α β : Type} (f : α → List β) (B : Nat) : ∀ (l : List α), (∀ a ∈ l, (f a).length ≤ B) → (l.flatMap f).length ≤ l.length * B
  | [], _ => by simp
  | a :: l, h => by
    rw [List.flatMap_cons, List.length_append, List.length_cons, Nat.add_mul]
    have := h a (by simp)
    have := flat_le f B l fun b hb => h b (by simp [hb])
    omega
theorem choicesN_many {ks fs : List Int} (h1 : ks.length ≤ 10) (h2 : fs.length ≤ 3) : ∀ (n : Nat), n ≤ 3 → (choicesN ks fs n).length ≤ 20 ^ n
  | 0, _ => Nat.le_refl _
  | n + 1, hn => by
    have ih := choicesN_many h1 h2 n (by omega)
    have := flat_le (fun b => (nextC b ks fs).map fun w => b ++ [w]) 20 (choicesN ks fs n) fun b hb => by
      rw [List.length_map]
      have e1 := choicesN_len n b hb
      have e2 := nextC_len (ws := b) (ks := ks) (fs := fs)
      have : fs.length * (b.length + 1) ≤ 3 * 3 := Nat.mul_le_mul h2 (by omega)
      omega
    refine Nat.le_trans this ?_
    rw [Nat.pow_succ]
    exact Nat.mul_le_mul_right _ ih
theorem firstsOf_len (ks : List Int) (m : Int) : (firstsOf ks m).length = m.toNat := by unfold firstsOf; rw [List.length_map, List.length_range]
theorem w_typical_choices (ds : List PyData) (φ : PyData → Prop) (h : R_typical_choices ds φ) : ds.length = p_typical_choices.length ∧ (b_typical_choices K).wp (ds.map .sh ++ List.replicate (n_typical_choices.length - p_typical_choices.length) .no) { nx := fun _ => φ .none, rt := φ } := by
  obtain ⟨n, ks, m, rfl, hn, hm1, hm3, hk, hk0, rfl⟩ := h
  refine ⟨rfl, by decide, ?_⟩
  show (match itR.sem [.int m] with | some items => _ | none => False)
  rw [show itR.sem [.int m] = some ((List.range m.toNat).map fun i => .int (i : Nat)) from if_pos (by omega)]
  refine lcW_map (δ0 := [.sh (.int (n : Nat)), .sh (encC ks), .sh (.int m), .no, .no, .no, .no, .no, .no]) (fun i : Nat => PyData.int (i : Nat)) (fun r : Nat => .int (newW ks (r : Nat) m)) (List.range m.toNat) [] (fun r hr C acc h => ⟨_, ⟨ks, encC ks, (r : Nat), m, rfl, .inr rfl, hk0, hm1, rfl⟩, h⟩) (by rw [List.length_range]; show 0 + _ ≤ _; omega) ?_
  have ef : (List.range m.toNat).map (fun r : Nat => PyData.int (newW ks (r : Nat) m)) = encI (firstsOf ks m) := by unfold firstsOf; rw [encI, List.map_map]; rfl
  show (_ : Prop)
  refine ⟨by decide, by decide, ?_⟩
  show (match itR.sem [.int ((n : Nat) : Int)] with | some items => _ | none => False)
  rw [show itR.sem [.int ((n : Nat) : Int)] = some ((List.range n).map fun i => .int (i : Nat)) from if_pos (by omega)]
  have hfl := firstsOf_len ks m
  have hf3 : (firstsOf ks m).length ≤ 3 := by omega
  refine forW_inv (fun i δ => ∃ s6, δ = [.sh (.int (n : Nat)), .sh (encC ks), .sh (.int m), .sh (.list (encI (firstsOf ks m))), .no, .sh (.list ((choicesN ks (firstsOf ks m) i).map encC)), s6, .no, .no]) ⟨.no, by rw [← ef]; rfl⟩ ?_ ?_
  · rintro i d δ N hd ⟨s6, rfl⟩ hN
    have hi : i < n := by
      have := (List.getElem?_eq_some_iff.mp hd).1
      rw [List.length_map, List.length_range] at this
      exact this
    refine ⟨⟨by decide, by decide, by decide⟩, ?_⟩
    refine lc2W_typ (δ0 := [.sh (.int (n : Nat)), .sh (encC ks), .sh (.int m), .sh (.list (encI (firstsOf ks m))), .no, .sh (.list ((choicesN ks (firstsOf ks m) i).map encC)), .sh d, .no, .no]) encC (fun b => ((nextC b ks (firstsOf ks m)).map fun w => b ++ [w]).map encC) (choicesN ks (firstsOf ks m) i) [] (fun b hb C acc h1 h2 => ?_) ?_ ?_
    · have hbl := choicesN_len i b hb
      refine ⟨_, ⟨b, ks, firstsOf ks m, rfl, fun z => by rw [z] at hfl; simp at hfl; omega, by omega, by omega, by omega, rfl⟩, ?_⟩
      rintro _ rfl
      refine lcW_map (δ0 := [.sh (.int (n : Nat)), .sh (encC ks), .sh (.int m), .sh (.list (encI (firstsOf ks m))), .no, .sh (.list ((choicesN ks (firstsOf ks m) i).map encC)), .sh d, .sh (encC b), .no]) PyData.int (fun w => encC (b ++ [w])) (nextC b ks (firstsOf ks m)) acc (fun w hw C acc h => ⟨?_, ?_⟩) (by rw [List.length_map, List.length_map] at h1; exact h1) ?_
      · rw [List.length_append, List.length_map]; show b.length + 1 ≤ _; omega
      · rw [encI_snoc]; exact h
      · rw [List.map_map] at h2; exact h2
    · have e1 : ((choicesN ks (firstsOf ks m) i).flatMap fun b => ((nextC b ks (firstsOf ks m)).map fun w => b ++ [w]).map encC) = (choicesN ks (firstsOf ks m) (i + 1)).map encC := by
        show _ = (stepC _ _ _).map encC
        unfold stepC
        rw [List.map_flatMap]
      rw [e1, List.length_map]
      have := choicesN_many hk hf3 (i + 1) (by omega)
      have : 20 ^ (i + 1) ≤ 20 ^ 3 := Nat.pow_le_pow_right (by decide) (by omega)
      show 0 + _ ≤ _
      omega
    · refine hN _ ⟨.sh d, ?_⟩
      have e1 : ((choicesN ks (firstsOf ks m) i).flatMap fun b => ((nextC b ks (firstsOf ks m)).map fun w => b ++ [w]).map encC) = (choicesN ks (firstsOf ks m) (i + 1)).map encC := by
        show _ = (stepC _ _ _).map encC
        unfold stepC
        rw [List.map_flatMap]
      rw [e1]
      rfl
  · rintro δ ⟨s6, rfl⟩
    rw [List.length_map, List.length_range]
    rfl
theorem ok_choices (t : Txt K mg "typical_choices" s_typical_choices p_typical_choices) (c1 : Ca P w K mg base "new_worth" 1 p_new_worth (spF R_new_worth)) (c2 : Ca P w K mg base "next_choices" 1 p_next_choices (spP R_next_choices)) (m_range : mg "range" = none) : Ca P w K mg base "typical_choices" 2 p_typical_choices (spP R_typical_choices) :=
  ok_def t sc_typical_choices (fun f cdv A outer s H E hr => op_typical_choices m_range c1 c2 f cdv A outer s H E hr) w_typical_choices
end
end Rx

namespace Rx
open PySem PySem.Spec PyProof.Rows L2 Dv
open Evl (Ex)
/-! expressions that tell one thing and change nothing -/
def Pu (a : E) (δ : Env) (d : PyData) : Prop := ∀ ψ : PyData → Env → Prop, ψ d δ → a.wp δ ψ
def PuT (t : Ts) (δ : Env) (b : Bool) : Prop := ∀ ψ : Bool → Env → Prop, ψ b δ → t.wp δ ψ
section
variable {K : PySem.W.Frag} {a b : E} {t u : Ts} {δ : Env} {d e x : PyData} {ds es : List PyData} {n m : Int}
theorem pu_var {i : Nat} (h : rdS δ[i]? = some d) : Pu (.var i) δ d := fun ψ q => by
  show (match rdS δ[i]? with | some d => ψ d δ | none => False)
  rw [h]; exact q
theorem pu_I : Pu (eI n) δ (.int n) := fun ψ q => q
theorem pu_lst0 : Pu (.fr (.lst .nil)) δ (.list []) := fun ψ q => ⟨by show 0 ≤ _; decide, q⟩
theorem pu_is (h : Pu a δ d) (q : d = e) : Pu a δ e := by rw [← q]; exact h
theorem pu_ixL (ha : Pu a δ (.list ds)) (hb : Pu b δ (.int n)) (h : atI ds n = some x) : Pu (.op (oIxL K) a b) δ x := fun ψ q => ha _ (hb _ (by
  show (match atI ds n with | some x => ψ x δ | none => False)
  rw [h]; exact q))
theorem pu_ixT (ha : Pu a δ (.tuple ds)) (hb : Pu b δ (.int n)) (h : atI ds n = some x) : Pu (.op (oIxT K) a b) δ x := fun ψ q => ha _ (hb _ (by
  show (match atI ds n with | some x => ψ x δ | none => False)
  rw [h]; exact q))
theorem pu_add (ha : Pu a δ (.int n)) (hb : Pu b δ (.int m)) : Pu (.op oAdd a b) δ (.int (n + m)) := fun ψ q => ha _ (hb _ q)
theorem pu_sub (ha : Pu a δ (.int n)) (hb : Pu b δ (.int m)) : Pu (.op oSub a b) δ (.int (n - m)) := fun ψ q => ha _ (hb _ q)
theorem pu_mod (ha : Pu a δ (.int n)) (hb : Pu b δ (.int m)) (h : 0 < m) : Pu (.op oMod a b) δ (.int (n % m)) := fun ψ q => ha _ (hb _ ⟨h, q⟩)
theorem pu_mul (ha : Pu a δ (.int n)) (hb : Pu b δ (.int m)) (h : CMul n m) : Pu (.op oMul a b) δ (.int (n * m)) := fun ψ q => ha _ (hb _ ⟨h, q⟩)
theorem pu_int (ha : Pu a δ (.int n)) : Pu (.cb oInt (.cons a .nil)) δ (.int n) := fun ψ q => ha _ q
theorem pu_lenL (ha : Pu a δ (.list ds)) : Pu (.cb (oLen K) (.cons a .nil)) δ (.int ds.length) := fun ψ q => ha _ q
theorem pu_lenT (ha : Pu a δ (.tuple ds)) : Pu (.cb (oLen K) (.cons a .nil)) δ (.int ds.length) := fun ψ q => ha _ q
theorem pu_tupL (ha : Pu a δ (.list ds)) : Pu (.cb (oTup K) (.cons a .nil)) δ (.tuple ds) := fun ψ q => ha _ q
theorem pu_pair (ha : Pu a δ d) (hb : Pu b δ e) : Pu (.tup (.cons a (.cons b .nil))) δ (.tuple [d, e]) := fun ψ q => ha _ (hb _ ⟨by show 2 ≤ _; decide, q⟩)
theorem pu_ife {c : Bool} (ht : PuT t δ c) (h1 : c = true → Pu a δ d) (h2 : c = false → Pu b δ d) : Pu (.ife t a b) δ d := fun ψ q => ht _ (by
  cases c with
  | true => exact h1 rfl ψ q
  | false => exact h2 rfl ψ q)
theorem pu_eqD (ha : Pu a δ d) (hb : Pu b δ e) (h1 : SeqAt.shaped d = true) (h2 : SeqAt.shaped e = true) : Pu (.op (oEqD K) a b) δ (.bool (PyData.eqv d e)) := fun ψ q => ha _ (hb _ ⟨h1, h2, q⟩)
theorem pt_eqI (ha : Pu a δ (.int n)) (hb : Pu b δ (.int m)) : PuT (.tst (.op oEqI a b)) δ (decide (n = m)) := fun ψ q => ha _ (hb _ q)
theorem pt_neI (ha : Pu a δ (.int n)) (hb : Pu b δ (.int m)) : PuT (.tst (.op oNeI a b)) δ (!decide (n = m)) := fun ψ q => ha _ (hb _ q)
theorem pt_lt (ha : Pu a δ (.int n)) (hb : Pu b δ (.int m)) : PuT (.tst (.op oLt a b)) δ (decide (n < m)) := fun ψ q => ha _ (hb _ q)
theorem pt_ge (ha : Pu a δ (.int n)) (hb : Pu b δ (.int m)) : PuT (.tst (.op oGe a b)) δ (decide (m ≤ n)) := fun ψ q => ha _ (hb _ q)
theorem pt_neD (ha : Pu a δ d) (hb : Pu b δ e) (h1 : SeqAt.shaped d = true) (h2 : SeqAt.shaped e = true) : PuT (.tst (.op (oNeD K) a b)) δ (!PyData.eqv d e) := fun ψ q => ha _ (hb _ ⟨h1, h2, q⟩)
theorem pt_eqD (ha : Pu a δ d) (hb : Pu b δ e) (h1 : SeqAt.shaped d = true) (h2 : SeqAt.shaped e = true) : PuT (.tst (.op (oEqD K) a b)) δ (PyData.eqv d e) := fun ψ q => ha _ (hb _ ⟨h1, h2, q⟩)
theorem pt_inL {ns : List Int} (ha : Pu a δ (.int n)) (hb : Pu b δ (.list (ns.map .int))) : PuT (.tst (.op (oIn K false) a b)) δ (decide (n ∈ ns)) := fun ψ q => ha _ (hb _ ⟨ns, rfl, q⟩)
theorem pt_ninL {ns : List Int} (ha : Pu a δ (.int n)) (hb : Pu b δ (.list (ns.map .int))) : PuT (.tst (.op (oIn K true) a b)) δ (!decide (n ∈ ns)) := fun ψ q => ha _ (hb _ ⟨ns, rfl, q⟩)
theorem pt_or {c c' : Bool} (ha : PuT t δ c) (hb : c = false → PuT u δ c') : PuT (.or t u) δ (c || c') := fun ψ q => ha _ (by
  cases c with
  | true => exact q
  | false => exact hb rfl ψ q)
theorem pt_and {c c' : Bool} (ha : PuT t δ c) (hb : c = true → PuT u δ c') : PuT (.and t u) δ (c && c') := fun ψ q => ha _ (by
  cases c with
  | true => exact hb rfl ψ q
  | false => exact q)
theorem pt_not {c : Bool} (ha : PuT t δ c) : PuT (.not t) δ (!c) := fun ψ q => ha _ q
theorem pt_is {c c' : Bool} (ha : PuT t δ c) (h : c = c') : PuT t δ c' := by rw [← h]; exact ha
/-- statements -/
theorem w_asg {i : Nat} {P : Post} (h : Pu a δ d) (k : P.nx (δ.set i (.sh d))) : (S.asg (.nm i) a).wp δ P := h _ k
theorem w_if {s1 s2 : S} {P : Post} {c : Bool} (h : PuT t δ c) (h1 : c = true → s1.wp δ P) (h2 : c = false → s2.wp δ P) : (S.ifS t s1 s2).wp δ P := h _ (by
  cases c with
  | true => exact h1 rfl
  | false => exact h2 rfl)
theorem w_ret {P : Post} (h : Pu a δ d) (k : P.rt d) : (S.ret a).wp δ P := h _ k
theorem items_rng {n : Int} (h0 : -100000 ≤ n) (h1 : n ≤ 100000) : itR.sem [.int n] = some ((List.range n.toNat).map fun i : Nat => .int (i : Nat)) := if_pos ⟨h1, h0⟩
/-- for over range -/
theorem w_for_rng {j : Nat} {s : S} {P : Post} (h : Pu a δ (.int n)) (h0 : -100000 ≤ n) (h1 : n ≤ 100000) (k : forW (Tg.nm j).wp s.wp P ((List.range n.toNat).map fun i : Nat => .int (i : Nat)) δ) : (S.for (.ita itR (.cons a .nil)) (.nm j) s).wp δ P := h _ (by
  show (match itR.sem [.int n] with | some items => _ | none => False)
  rw [items_rng h0 h1]; exact k)
theorem i_rng {φ : List PyData → Env → Prop} (h : Pu a δ (.int n)) (h0 : -100000 ≤ n) (h1 : n ≤ 100000) (k : φ ((List.range n.toNat).map fun i : Nat => .int (i : Nat)) δ) : (I.ita itR (.cons a .nil)).wp δ φ := h _ (by
  show (match itR.sem [.int n] with | some items => _ | none => False)
  rw [items_rng h0 h1]; exact k)
end
end Rx

namespace Rx
open PySem PySem.Spec PyProof.Rows L2 Dv K0
open Evl (Ex)
section
variable {P : Program} {w : World} {K : PySem.W.Frag} {mg : Str → Option Value} {base : Heap}
/-! typical_rows -/
theorem fill_len : ∀ (cs ws : List Int), (fill cs ws).length = cs.length
  | [], _ => rfl
  | c :: cs, ws => by
    unfold fill
    by_cases h : c = -1
    · rw [if_pos h]
      cases ws with
      | nil => exact congrArg (· + 1) (fill_len cs [])
      | cons w ws => exact congrArg (· + 1) (fill_len cs ws)
    · rw [if_neg h]; exact congrArg (· + 1) (fill_len cs ws)
/-- the cells of a row, stars popped from left -/
theorem lc_fill {s0 s1 s2 s3 s4 s5 s6 s7 : Sl} {Kf : List PyData → Env → Prop} : ∀ (cs c done : List Int), cs.count (-1) ≤ c.length → done.length + cs.length ≤ 1000 → c.length ≤ 1000 →
    (∀ (rest : List Int), Kf (encI (done ++ fill cs c)) [s0, s1, s2, s3, s4, s5, s6, s7, .ol (.l (encI rest)), .no]) →
    lcW (Tg.nm 9).wp Ts.yes.wp (E.ife (.tst (.op oEqI (.var 9) (eI (-1)))) (.popO 8 (eI 0)) (.var 9)).wp [9] Kf (encI cs) [s0, s1, s2, s3, s4, s5, s6, s7, .ol (.l (encI c)), .no] (encI done)
  | [], c, done, _, _, _, h => by
    have := h c
    rw [show fill [] c = [] from rfl, List.append_nil] at this
    exact this
  | x :: cs, c, done, hc, hd, h100, h => by
    rw [List.length_cons] at hd
    show (if decide (x = -1) = true then _ else _)
    by_cases hx : x = -1
    · rw [if_pos (decide_eq_true hx)]
      cases c with
      | nil => rw [List.count_cons, if_pos (by simpa using hx)] at hc; simp at hc
      | cons w c =>
        refine ⟨⟨_, rfl⟩, ⟨by decide, by rw [List.length_map]; omega⟩, ?_⟩
        refine ⟨by rw [List.length_map]; omega, ?_⟩
        rw [encI_snoc]
        refine lc_fill cs c (done ++ [w]) ?_ (by rw [List.length_append]; simp; omega) (by simp at h100; omega) fun rest => ?_
        · rw [List.count_cons, if_pos (by simpa using hx)] at hc
          simp at hc; omega
        · have := h rest
          rw [show fill (x :: cs) (w :: c) = w :: fill cs c by simp [fill, hx]] at this
          rw [List.append_assoc]; exact this
    · rw [if_neg (by simpa using hx)]
      refine ⟨by rw [List.length_map]; omega, ?_⟩
      rw [encI_snoc]
      refine lc_fill cs c (done ++ [x]) ?_ (by rw [List.length_append]; simp; omega) h100 fun rest => ?_
      · rw [List.count_cons, if_neg (by simpa using hx)] at hc
        exact hc
      · have := h rest
        rw [show fill (x :: cs) c = x :: fill cs c by simp [fill, hx]] at this
        rw [List.append_assoc]; exact this
theorem w_typical_rows (ds : List PyData) (φ : PyData → Prop) (h : R_typical_rows ds φ) : ds.length = p_typical_rows.length ∧ ∃ d0 es, ds = d0 :: es ∧ (b_typical_rows K).wp ((Sl.sp d0 RowF :: es.map .sh) ++ List.replicate (n_typical_rows.length - p_typical_rows.length) .no) { nx := fun _ => φ .none, rt := φ } := by
  obtain ⟨t, cells, ws, ks, wd, m, rows, rfl, hwd, hc3, hw7, hcm, hw0, hm1, hm3, hks, hk10, hkm, hrs, hrm, rfl⟩ := h
  refine ⟨rfl, _, _, rfl, _, _, rfl, ?_⟩
  -- the pattern's own worths
  have hmine : ∃ ms : List Int, AscL soI ms ∧ ∀ x, x ∈ ms ↔ x ∈ cells ∧ 0 ≤ x := by
    refine ⟨ks.filter fun x => decide (x ∈ cells), hks.filter _, fun x => ?_⟩
    rw [List.mem_filter, hkm, decide_eq_true_eq]
    refine ⟨fun ⟨h1, h2⟩ => ⟨h2, ?_⟩, fun ⟨h1, h2⟩ => ⟨.inr ⟨h1, h2⟩, h1⟩⟩
    rcases h1 with h1 | h1
    · exact hw0 x h1
    · exact h1.2
  obtain ⟨ms, hms, hmm⟩ := hmine
  have hml : ms.length ≤ cells.length := by
    have nd : ms.Nodup := hms.imp fun {a b} h e => by
      subst e
      rw [soI.irr] at h; cases h
    exact nd.length_le_of_subset fun x hx => ((hmm x).1 hx).1
  have hk0 : ∀ k ∈ ks, 0 ≤ k := fun k hk => by
    rcases (hkm k).1 hk with h | h
    · exact hw0 k h
    · exact h.2
  have hcnt : cells.count (-1) ≤ 3 := Nat.le_trans List.count_le_length hc3
  have nd_le : ∀ {l : List Int}, AscL soI l → l.Nodup := fun h => h.imp fun {a b} h e => by
    subst e
    rw [soI.irr] at h; cases h
  -- behind the known worths
  have rest : ((S.seq (.own 6 (.lst .nil)) (.seq (.for (.it (itL K) (.call R_typical_choices E0 (.cons (eCnt K 4 (eI (-1))) (.cons (.var 5) (.cons (.var 2) .nil))))) (.nm 7) (L_typical_rows_1 K)) (.tell 6 (.ret (.callF R_sorted_things E0 (.cons (.var 6) .nil)))))).wp
      [.sp (.tuple [.int t, encC cells]) RowF, .sh wd, .sh (.int m), .sh (.int t), .sp (encC cells) Frz, .sh (encC ks), .no, .no, .no, .no] { nx := fun _ => PyData.none = .tuple (rows.map encR), rt := (· = .tuple (rows.map encR)) }) := by
    refine ⟨by decide, cells, rfl, ?_⟩
    refine ⟨_, ⟨cells.count (-1), ks, m, rfl, hcnt, hm1, hm3, hk10, hk0, rfl⟩, ?_⟩
    rintro _ rfl
    have hmany := choicesN_many hk10 (fs := firstsOf ks m) (by rw [firstsOf_len]; omega) (cells.count (-1)) hcnt
    have hmany2 : (20 : Nat) ^ cells.count (-1) ≤ 20 ^ 3 := Nat.pow_le_pow_right (by decide) hcnt
    refine forW_inv (fun i δ => ∃ s7 s8, δ = [.sp (.tuple [.int t, encC cells]) RowF, .sh wd, .sh (.int m), .sh (.int t), .sp (encC cells) Frz, .sh (encC ks), .ol (.l ((((choicesN ks (firstsOf ks m) (cells.count (-1))).take i).map fun c => (t, fill cells c)).map encR)), s7, s8, .no]) ⟨.no, .no, rfl⟩ ?_ ?_
    · rintro i d δ N hd ⟨s7, s8, rfl⟩ hN
      rw [List.getElem?_map] at hd
      cases hc : (choicesN ks (firstsOf ks m) (cells.count (-1)))[i]? with
      | none => rw [hc] at hd; cases hd
      | some c =>
        rw [hc] at hd; cases hd
        have hcl := choicesN_len _ c (List.mem_of_getElem? hc)
        have hi := (List.getElem?_eq_some_iff.mp hc).1
        refine ⟨⟨_, rfl⟩, by decide, ?_⟩
        refine lc_fill cells c [] (by omega) (by show 0 + _ ≤ _; omega) (by omega) fun rs => ?_
        refine ⟨by show 2 ≤ _; decide, ?_⟩
        refine ⟨by rw [List.length_map, List.length_map, List.length_take]; omega, ?_⟩
        refine hN _ ⟨.sh (encC c), .ol (.l (encI rs)), ?_⟩
        rw [List.take_add_one, hc, List.map_append, List.map_append]
        rfl
    · rintro δ ⟨s7, s8, rfl⟩
      rw [List.length_map, List.take_length]
      refine ⟨_, .inr ⟨(choicesN ks (firstsOf ks m) (cells.count (-1))).map fun c => (t, fill cells c), rows, rfl, by rw [List.length_map]; omega, hrs, fun x => ?_, rfl⟩, rfl⟩
      rw [hrm, List.mem_map]
      exact ⟨fun ⟨c, h1, h2⟩ => ⟨c, h1, h2.symm⟩, fun ⟨c, h1, h2⟩ => ⟨c, h1, h2.symm⟩⟩
  have knw : ∀ es : List PyData, es = encI ws ++ (encI ms ++ []) → es.length ≤ 100000 ∧ RSorted [.list es] (encC ks) := fun es e => by
    subst e
    refine ⟨by simp; omega, .inl ⟨ws ++ ms, ks, by simp [encI, soI], by simp; omega, hks, fun x => ?_, rfl⟩⟩
    rw [hkm, List.mem_append, hmm]
  have wor : R_worths_of [.list [.tuple [.int t, encC cells]]] (· = encC ms) := ⟨[(t, cells)], ms, rfl, by simp; omega, hms, fun x => by rw [hmm]; simp, rfl⟩
  rcases hwd with rfl | rfl
  · refine ⟨by simp, _, wor, ?_⟩
    rintro _ rfl
    obtain ⟨k1, k2⟩ := knw _ rfl
    exact ⟨k1, _, k2, rest⟩
  · refine ⟨by simp, _, wor, ?_⟩
    rintro _ rfl
    obtain ⟨k1, k2⟩ := knw _ rfl
    exact ⟨k1, _, k2, rest⟩
theorem ok_rows (t : Txt K mg "typical_rows" s_typical_rows p_typical_rows) (m_list : mg "list" = none) (m_tuple : mg "tuple" = none) {tk : Tok} (mS : mg "STAR" = some (.int (-1) tk)) (c1 : Ca P w K mg base "sorted_things" 1 p_sorted_things (spF R_sorted_things)) (c2 : Ca P w K mg base "worths_of" 2 p_worths_of (spP R_worths_of)) (c3 : Ca P w K mg base "typical_choices" 2 p_typical_choices (spP R_typical_choices)) : Ca P w K mg base "typical_rows" 3 p_typical_rows (spS R_typical_rows RowF) :=
  ok_defS t sc_typical_rows (fun f cdv A outer s H E hr => op_typical_rows m_list m_tuple mS c1 c2 c3 f cdv A outer s H E hr) w_typical_rows
end
end Rx

namespace Rx
open PySem PySem.Spec PyProof.Rows L2 Dv K0
open Evl (Ex)
section
variable {P : Program} {w : World} {K : PySem.W.Frag} {mg : Str → Option Value} {base : Heap}
/-! unlike -/
/-- the first of each run -/
def heads {α : Type} [DecidableEq α] (ms : List α) : List Nat := (List.range ms.length).filter fun k => k == 0 || !decide (ms[k]? = ms[k - 1]?)
theorem heads_asc {α : Type} [DecidableEq α] (S : So α) {ms : List α} (hs : ms.Pairwise fun a b => S.lt b a = false) : ∀ n, n ≤ ms.length →
    ∃ F : List α, AscL S F ∧ (∀ y, y ∈ F ↔ y ∈ ms.take n) ∧ ((List.range n).filter fun k => k == 0 || !decide (ms[k]? = ms[k - 1]?)).map (fun k => ms[k]?) = F.map some ∧ (0 < n → F.getLast? = ms[n - 1]?)
  | 0, _ => ⟨[], .nil, by simp, rfl, by simp⟩
  | n + 1, hn => by
    obtain ⟨F, h1, h2, h3, h4⟩ := heads_asc S hs n (by omega)
    have hx : ms[n]? = some ms[n] := List.getElem?_eq_getElem (by omega)
    have st := ascL_snoc S hs hx ⟨h1, h2⟩
    rw [List.range_succ, List.filter_append, List.map_append, h3]
    by_cases hk : (n == 0 || !decide (ms[n]? = ms[n - 1]?)) = true
    · rw [List.filter_cons, if_pos hk]
      have hc : F = [] ∨ F.getLast? ≠ some ms[n] := by
        cases n with
        | zero =>
          have : F = [] := by
            cases F with
            | nil => rfl
            | cons a F => have := (h2 a).1 (by simp); simp at this
          exact .inl this
        | succ n =>
          refine .inr fun q => ?_
          rw [h4 (by omega)] at q
          simp only [Nat.add_sub_cancel] at q hk
          rw [hx, q] at hk
          simp at hk
      obtain ⟨q1, q2⟩ := st.1 hc
      exact ⟨F ++ [ms[n]], q1, q2, by rw [List.map_append]; simp [hx], fun _ => by rw [List.getLast?_append]; simp [hx]⟩
    · rw [List.filter_cons, if_neg hk]
      have hc : ¬ (F = [] ∨ F.getLast? ≠ some ms[n]) := by
        intro q
        cases n with
        | zero => simp at hk
        | succ n =>
          have l4 := h4 (by omega)
          simp only [Nat.add_sub_cancel] at l4 hk
          have e : ms[n + 1]? = ms[n]? := by
            by_cases z : ms[n + 1]? = ms[n]?
            · exact z
            · simp [z] at hk
          rcases q with q | q
          · subst q
            rw [← e, hx] at l4; cases l4
          · rw [l4, ← e, hx] at q
            exact q rfl
      obtain ⟨q1, q2⟩ := st.2 hc
      refine ⟨F, q1, q2, by simp, fun _ => ?_⟩
      by_cases z : F.getLast? = some ms[n]
      · rw [z, Nat.add_sub_cancel, hx]
      · exact absurd (.inr z) hc
theorem unlike_body {α : Type} [DecidableEq α] (So : K0.So α) {ms : List α} (hs : ms.Pairwise fun a b => So.lt b a = false) {F : List α} (hz : ms.length ≤ 50000) (ha : AscL So F) (hm : ∀ x, x ∈ F ↔ x ∈ ms) {s0 : Sl} {Q : Post} (hQ : Q.rt (.list (F.map So.enc))) :
    (S.ret (.fr (.lc (.ita itR (.cons (.cb (oLen K) (.cons (.var 1) .nil)) .nil)) (.nm 2) (.or (.tst (.op oEqI (.var 2) (eI 0))) (.tst (.op (oNeD K) (.op (oIxL K) (.var 1) (.var 2)) (.op (oIxL K) (.var 1) (.op oSub (.var 2) (eI 1)))))) (.op (oIxL K) (.var 1) (.var 2)) [2]))).wp [s0, .sh (.list (ms.map So.enc)), .no] Q := by
  refine ⟨by decide, i_rng (pu_lenL (ds := ms.map So.enc) (pu_var rfl)) (by omega) (by rw [List.length_map]; omega) ?_⟩
  rw [Int.toNat_natCast, List.length_map]
  obtain ⟨F', h1, h2, h3, _⟩ := heads_asc So hs ms.length (Nat.le_refl _)
  rw [List.take_length] at h2
  have eF : F' = F := ascL_eq So h1 ha fun x => by rw [h2, hm]
  subst eF
  have gt : ∀ k, k < ms.length → ∃ x, ms[k]? = some x ∧ atI (ms.map So.enc) (k : Int) = some (So.enc x) := fun k hk => ⟨ms[k], List.getElem?_eq_getElem hk, atI_nat (by rw [List.getElem?_map, List.getElem?_eq_getElem hk]; rfl)⟩
  have ef : (((List.range ms.length).filter fun k => k == 0 || !decide (ms[k]? = ms[k - 1]?)).map fun k => ((ms[k]?).map So.enc).getD .none) = F'.map So.enc := by
    have := congrArg (List.map fun o : Option α => (o.map So.enc).getD .none) h3
    rw [List.map_map, List.map_map] at this
    exact this
  refine lcW_flt (δ0 := [s0, .sh (.list (ms.map So.enc)), .no]) (fun i : Nat => PyData.int (i : Nat)) (fun k => ((ms[k]?).map So.enc).getD .none) (fun k => k == 0 || !decide (ms[k]? = ms[k - 1]?)) (List.range ms.length) [] (fun k hk C acc h => ?_) ?_ ?_
  · have hk := List.mem_range.mp hk
    obtain ⟨x, hx, ex⟩ := gt k hk
    have px : Pu (.op (oIxL K) (.var 1) (.var 2)) [s0, .sh (.list (ms.map So.enc)), .sh (.int (k : Nat))] (So.enc x) := pu_ixL (pu_var rfl) (pu_var rfl) ex
    have tst : PuT (.or (.tst (.op oEqI (.var 2) (eI 0))) (.tst (.op (oNeD K) (.op (oIxL K) (.var 1) (.var 2)) (.op (oIxL K) (.var 1) (.op oSub (.var 2) (eI 1)))))) [s0, .sh (.list (ms.map So.enc)), .sh (.int (k : Nat))] (k == 0 || !decide (ms[k]? = ms[k - 1]?)) := by
      refine pt_is (pt_or (c' := !decide (ms[k]? = ms[k - 1]?)) (pt_eqI (n := (k : Int)) (m := 0) (pu_var rfl) pu_I) fun hk0 => ?_) (by congr 1; rw [Bool.eq_iff_iff]; simp)
      have hk0 : ¬ (k : Int) = 0 := of_decide_eq_false hk0
      obtain ⟨y, hy, ey⟩ := gt (k - 1) (by omega)
      refine pt_is (pt_neD px (pu_ixL (pu_var rfl) (n := (k : Int) - 1) (pu_sub (n := (k : Int)) (m := 1) (pu_var rfl) pu_I) (by rw [show (k : Int) - 1 = ((k - 1 : Nat) : Int) by omega]; exact ey)) (So.sh _) (So.sh _)) ?_
      rw [So.eqv, hx, hy]
      congr 1
      simp
    refine tst _ ?_
    by_cases hp : (k == 0 || !decide (ms[k]? = ms[k - 1]?)) = true
    · rw [if_pos hp] at h ⊢
      refine px _ ?_
      rw [hx] at h
      exact h
    · rw [if_neg hp] at h ⊢
      exact h
  · have := List.length_filter_le (fun k => k == 0 || !decide (ms[k]? = ms[k - 1]?)) (List.range ms.length)
    rw [List.length_range] at this
    show 0 + _ ≤ _
    omega
  · rw [ef]
    exact hQ
theorem w_unlike (ds : List PyData) (φ : PyData → Prop) (h : R__law_unlike ds φ) : ds.length = p__law_unlike.length ∧ (b__law_unlike K).wp (ds.map .sh ++ List.replicate (n__law_unlike.length - p__law_unlike.length) .no) { nx := fun _ => φ .none, rt := φ } := by
  rcases h with ⟨ns, F, rfl, hz, ha, hm, rfl⟩ | ⟨ns, F, rfl, hz, ha, hm, rfl⟩
  · refine ⟨rfl, .inl ⟨ns, rfl, hz, fun ms h1 h2 => ?_⟩⟩
    exact unlike_body soI h2 (by rw [h1.length_eq]; omega) ha (fun x => by rw [hm, h1.mem_iff]) rfl
  · refine ⟨rfl, .inr ⟨ns, rfl, by omega, fun ms h1 h2 => ?_⟩⟩
    exact unlike_body soR h2 (by rw [h1.length_eq]; omega) ha (fun x => by rw [hm, h1.mem_iff]) rfl
theorem ok_unlike (t : Txt K mg "_law_unlike" s__law_unlike p__law_unlike) (m_sorted : mg "sorted" = none) (m_len : mg "len" = none) (m_range : mg "range" = none) : Ca P w K mg base "_law_unlike" 1 p__law_unlike (spP R__law_unlike) :=
  ok_def t sc__law_unlike (fun f cdv A outer s H E hr => op__law_unlike m_sorted m_len m_range f cdv A outer s H E hr) w_unlike
/-! least_above -/
theorem eqv_listI : ∀ l m : List Int, PyData.eqv (.list (encI l)) (.list (encI m)) = decide (l = m) := fun l m => by
  show PyData.eqvAll (encI l) (encI m) = _
  exact SrtR.eqv_cells l m
theorem shaped_listI (l : List Int) : SeqAt.shaped (.list (encI l)) = true := shaped_of (by
  show PyData.canLayAll0 _ = true
  exact SrtR.lay_cells l) (by
  show PyData.depthAll (l.map PyData.int) + 1 ≤ _
  rw [SrtR.dep_cells]; decide)
theorem topI_max {ks : List Int} (h0 : ∀ k ∈ ks, 0 ≤ k) {m : Int} (hm : m ∈ ks) (h : ∀ y ∈ ks, y ≤ m) : m = topI ks := topI_of h0 hm h
/-- max(ks) if ks != [] else x -/
theorem w_top {i : Nat} {δ : Env} {ks : List Int} {a b : E} {ψ : PyData → Env → Prop} (hk : rdS δ[i]? = some (.list (encI ks))) (h0 : ∀ k ∈ ks, 0 ≤ k)     (h1 : ks ≠ [] → a.wp δ ψ) (h2 : ks = [] → b.wp δ ψ) : (E.ife (.tst (.op (oNeD K) (.var i) (.fr (.lst .nil)))) a b).wp δ ψ := by
  refine pt_neD (d := .list (encI ks)) (e := .list (encI [])) (pu_var hk) pu_lst0 (shaped_listI ks) (shaped_listI []) _ ?_
  rw [eqv_listI]
  by_cases hn : ks = []
  · rw [decide_eq_true hn]; exact h2 hn
  · rw [decide_eq_false hn]; exact h1 hn
theorem pu_max {i : Nat} {δ : Env} {ks : List Int} (hk : rdS δ[i]? = some (.list (encI ks))) (h0 : ∀ k ∈ ks, 0 ≤ k) (hn : ks ≠ []) : Pu (.cb (oMax K) (.cons (.var i) .nil)) δ (.int (topI ks)) := fun ψ q =>
  pu_var hk _ ⟨ks, rfl, List.length_pos_iff.mpr hn, fun m h1 h2 => by rw [topI_max h0 h1 h2]; exact q⟩
theorem w_least (ds : List PyData) (φ : PyData → Prop) (h : R__law_least_above ds φ) : ds.length = p__law_least_above.length ∧ (b__law_least_above K).wp (ds.map .sh ++ List.replicate (n__law_least_above.length - p__law_least_above.length) .no) { nx := fun _ => φ .none, rt := φ } := by
  obtain ⟨ks, r, m, rfl, h0, hr0, hrm, hm3, rfl⟩ := h
  refine ⟨rfl, ?_⟩
  -- behind low
  have rest : ((S.seq (.for (.ita itR (.cons (.var 2) .nil)) (.nm 4) (L__law_least_above_1 K)) (.ret (.un oNeg (eI 1)))).wp [.sh (.list (encI ks)), .sh (.int r), .sh (.int m), .sh (.int (topI ks + 1)), .no] { nx := fun _ => PyData.none = .int (newW ks r m), rt := (· = .int (newW ks r m)) }) := by
    refine w_for_rng (n := m) (pu_var rfl) (by omega) (by omega) ?_
    have key := Int.emod_nonneg (r - (topI ks + 1)) (show m ≠ 0 by omega)
    have key2 := Int.emod_lt_of_pos (r - (topI ks + 1)) (show 0 < m by omega)
    have hq : ∀ k : Int, 0 ≤ k → k < m → ((topI ks + 1 + k) % m = r ↔ k = (r - (topI ks + 1)) % m) := fun k k0 k1 => by
      have hm0 : m ≠ 0 := by omega
      refine ⟨fun h => ?_, fun h => ?_⟩
      · have e := Int.emod_add_mul_ediv (topI ks + 1 + k) m
        rw [h] at e
        rw [show r - (topI ks + 1) = k + m * (-((topI ks + 1 + k) / m)) by rw [Int.mul_neg]; omega, Int.add_mul_emod_self_left, Int.emod_eq_of_lt k0 k1]
      · have e := Int.emod_add_mul_ediv (r - (topI ks + 1)) m
        rw [← h] at e
        rw [show topI ks + 1 + k = r + m * (-((r - (topI ks + 1)) / m)) by rw [Int.mul_neg]; omega, Int.add_mul_emod_self_left, Int.emod_eq_of_lt hr0 hrm]
    refine forW_inv (fun i δ => (i : Int) ≤ (r - (topI ks + 1)) % m ∧ ∃ s4, δ = [.sh (.list (encI ks)), .sh (.int r), .sh (.int m), .sh (.int (topI ks + 1)), s4]) ⟨by omega, .no, rfl⟩ ?_ ?_
    · rintro i d δ N hd ⟨hi, s4, rfl⟩ hN
      rw [List.getElem?_map] at hd
      have hlt : i < m.toNat := by
        by_cases z : i < m.toNat
        · exact z
        · rw [List.getElem?_eq_none (by rw [List.length_range]; omega)] at hd; cases hd
      rw [List.getElem?_range hlt] at hd
      cases hd
      refine w_if (pt_eqI (n := (topI ks + 1 + i) % m) (m := r) (pu_mod (pu_int (pu_add (pu_var rfl) (pu_var rfl))) (pu_var rfl) (by omega)) (pu_var rfl)) (fun h => ?_) fun h => ?_
      · refine w_ret (pu_add (n := topI ks + 1) (m := (i : Int)) (pu_var rfl) (pu_var rfl)) ?_
        show PyData.int _ = PyData.int _
        unfold newW
        rw [(hq i (by omega) (by omega)).1 (of_decide_eq_true h)]
      · refine hN _ ⟨?_, _, rfl⟩
        have := of_decide_eq_false h
        rw [hq i (by omega) (by omega)] at this
        omega
    · rintro δ ⟨hi, _⟩
      rw [List.length_map, List.length_range] at hi
      omega
  refine w_top (ks := ks) (i := 0) (δ := [.sh (.list (encI ks)), .sh (.int r), .sh (.int m), .no, .no]) rfl h0 (fun hn => ?_) fun hn => ?_
  · exact pu_add (pu_max rfl h0 hn) (m := 1) pu_I _ rest
  · have : topI ks + 1 = 0 := by rw [hn]; rfl
    rw [this] at rest
    exact rest
theorem ok_least (t : Txt K mg "_law_least_above" s__law_least_above p__law_least_above) (m_max : mg "max" = none) (m_range : mg "range" = none) (m_int : mg "int" = none) : Ca P w K mg base "_law_least_above" 1 p__law_least_above (spP R__law_least_above) :=
  ok_def t sc__law_least_above (fun f cdv A outer s H E hr => op__law_least_above m_max m_range m_int f cdv A outer s H E hr) w_least
end
end Rx

namespace Rx
open PySem PySem.Spec PyProof.Rows L2 Dv K0
open Evl (Ex)
section
variable {P : Program} {w : World} {K : PySem.W.Frag} {mg : Str → Option Value} {base : Heap}
/-! kind -/
abbrev encS (seen : List (Int × Int)) : List (Key × PyData) := seen.map fun p => (Sum.inl p.1, .int p.2)
theorem valD_S (w : Int) : ∀ seen : List (Int × Int), valD (encS seen) (.inl w) = (lookS seen w).map .int
  | [] => rfl
  | p :: seen => by
    have ih := valD_S w seen
    unfold valD lookS at ih ⊢
    rw [show encS (p :: seen) = (Sum.inl p.1, .int p.2) :: encS seen from rfl]
    by_cases e : p.1 = w
    · rw [List.find?_cons_of_pos (by simp [e]), List.find?_cons_of_pos (by simp [e])]; rfl
    · rw [List.find?_cons_of_neg (by simp [e]), List.find?_cons_of_neg (by simp [e])]; exact ih
theorem putD_S {w v : Int} {seen : List (Int × Int)} (h : lookS seen w = none) : putD (encS seen) (.inl w) (.int v) = encS (seen ++ [(w, v)]) := by
  unfold putD
  rw [if_neg]
  · simp [encS]
  · intro q
    obtain ⟨x, hx, q⟩ := List.any_eq_true.mp q
    obtain ⟨p, hp, rfl⟩ := List.mem_map.mp hx
    have e : p.1 = w := by simpa using q
    unfold lookS at h
    rw [Option.map_eq_none_iff, List.find?_eq_none] at h
    exact h p hp (by simpa using e)
theorem lookS_snoc {w v : Int} {seen : List (Int × Int)} (h : lookS seen w = none) : lookS (seen ++ [(w, v)]) w = some v := by
  unfold lookS at h ⊢
  rw [Option.map_eq_none_iff] at h
  rw [List.find?_append, h]
  simp
/-- what a turn keeps -/
theorem for_kind {t m : Int} {cells filling known : List Int} (hl : filling.length = cells.length) (hc3 : cells.length ≤ 3) (hf0 : ∀ x ∈ filling, 0 ≤ x) (hk0 : ∀ x ∈ known, 0 ≤ x) (hk10 : known.length ≤ 10) (hm1 : 1 ≤ m) (hm3 : m ≤ 3) {P : Post}
    (hP : ∀ seen many s7 s8 s9, P.nx [.sh (.tuple [.int t, encC cells]), .sh (encC filling), .sh (.list (encI known)), .sh (.int m), .ol (.d (encS seen)), .ol (.l (encI (kindL known m cells filling [] (List.replicate m.toNat 0)))), .ol (.l (encI many)), s7, s8, s9]) :
    forW (Tg.nm 7).wp (L__law_kind_1 K).wp P ((List.range filling.length).map fun i : Nat => .int (i : Nat)) [.sh (.tuple [.int t, encC cells]), .sh (encC filling), .sh (.list (encI known)), .sh (.int m), .ol (.d []), .ol (.l []), .ol (.l (encI (List.replicate m.toNat 0))), .no, .no, .no] := by
  refine forW_inv (fun i δ => ∃ seen many out s7 s8 s9, δ = [.sh (.tuple [.int t, encC cells]), .sh (encC filling), .sh (.list (encI known)), .sh (.int m), .ol (.d (encS seen)), .ol (.l (encI out)), .ol (.l (encI many)), s7, s8, s9] ∧
    out ++ kindL known m (cells.drop i) (filling.drop i) seen many = kindL known m cells filling [] (List.replicate m.toNat 0) ∧ seen.length ≤ i ∧ out.length = i ∧ many.length = m.toNat ∧ ∀ x ∈ many, 0 ≤ x ∧ x ≤ i) ⟨[], List.replicate m.toNat 0, [], _, _, _, rfl, rfl, Nat.zero_le _, rfl, List.length_replicate, fun x hx => by rw [(List.mem_replicate.mp hx).2]; omega⟩ ?_ ?_
  · rintro i d δ N hd ⟨seen, many, out, s7, s8, s9, rfl, ho, hs, hol, hml, hmn⟩ hN
    rw [List.getElem?_map] at hd
    have hlt : i < filling.length := by
      by_cases z : i < filling.length
      · exact z
      · rw [List.getElem?_eq_none (by rw [List.length_range]; omega)] at hd; cases hd
    rw [List.getElem?_range hlt] at hd
    cases hd
    obtain ⟨c, hc⟩ : ∃ c, cells[i]? = some c := ⟨cells[i], List.getElem?_eq_getElem (by omega)⟩
    obtain ⟨u, hu⟩ : ∃ u, filling[i]? = some u := ⟨filling[i], List.getElem?_eq_getElem hlt⟩
    have hu0 := hf0 u (List.mem_of_getElem? hu)
    have dc : cells.drop i = c :: cells.drop (i + 1) := by
      obtain ⟨hh, e⟩ := List.getElem?_eq_some_iff.mp hc
      rw [List.drop_eq_getElem_cons hh, e]
    have du : filling.drop i = u :: filling.drop (i + 1) := by
      obtain ⟨hh, e⟩ := List.getElem?_eq_some_iff.mp hu
      rw [List.drop_eq_getElem_cons hh, e]
    rw [dc, du] at ho
    have ix : ∀ {l : List Int} {x : Int}, l[i]? = some x → atI (encI l) (i : Int) = some (.int x) := fun h => atI_nat (by rw [List.getElem?_map, h]; rfl)
    refine w_asg (d := .int u) (pu_ixT (pu_var rfl) (pu_var rfl) (ix hu)) ?_
    refine w_if (c := decide (0 ≤ c) || decide (u ∈ known)) (pt_or (pt_ge (n := c) (m := 0) (pu_ixT (pu_ixT (n := 1) (pu_var rfl) pu_I rfl) (pu_var rfl) (ix hc)) pu_I) fun _ => pt_inL (pu_var rfl) (pu_var rfl)) (fun h => ?_) fun h => ?_
    · -- a cell, a known worth
      have hkn : 0 ≤ c ∨ u ∈ known := by simpa using h
      rw [kindL, if_pos hkn] at ho
      refine ⟨⟨_, rfl⟩, by rw [List.length_map]; omega, hN _ ⟨seen, many, out ++ [u], _, _, _, by rw [← encI_snoc]; rfl, by rw [List.append_assoc]; exact ho, by omega, by rw [List.length_append]; simp [hol], hml, fun x hx => ?_⟩⟩
      have := hmn x hx
      omega
    · have hkn : ¬ (0 ≤ c ∨ u ∈ known) := by simpa using h
      rw [kindL, if_neg hkn] at ho
      show (if (!(valD (encS seen) (.inl u)).isSome) = true then _ else _)
      rw [valD_S]
      cases hlk : lookS seen u with
      | some v =>
        rw [hlk] at ho
        rw [if_neg (by simp)]
        refine ⟨⟨_, rfl⟩, ⟨_, rfl⟩, ?_⟩
        show (match valD (encS seen) (.inl u) with | some x => _ | none => False)
        rw [valD_S, hlk]
        refine ⟨by rw [List.length_map]; omega, hN _ ⟨seen, many, out ++ [v], _, _, _, by rw [← encI_snoc]; rfl, by rw [List.append_assoc]; exact ho, by omega, by rw [List.length_append]; simp [hol], hml, fun x hx => ?_⟩⟩
        have := hmn x hx
        omega
      | none =>
        rw [hlk] at ho
        rw [if_pos (by simp)]
        have r0 := Int.emod_nonneg u (show m ≠ 0 by omega)
        have r1 := Int.emod_lt_of_pos u (show 0 < m by omega)
        obtain ⟨q, hq⟩ : ∃ q, many[(u % m).toNat]? = some q := ⟨many[(u % m).toNat]'(by omega), List.getElem?_eq_getElem (by omega)⟩
        obtain ⟨q0, q1⟩ := hmn q (List.mem_of_getElem? hq)
        rw [hq] at ho
        replace ho : out ++ (newW known (u % m) m + m * q) :: kindL known m (cells.drop (i + 1)) (filling.drop (i + 1)) (seen ++ [(u, newW known (u % m) m + m * q)]) (many.set (u % m).toNat (q + 1)) = kindL known m cells filling [] (List.replicate m.toNat 0) := ho
        refine w_asg (d := .int (u % m)) (pu_mod (pu_int (pu_var rfl)) (pu_var rfl) (by omega)) ?_
        have ixq : atI (encI many) (u % m) = some (.int q) := by
          have : atI (encI many) (((u % m).toNat : Nat) : Int) = some (.int q) := atI_nat (by rw [List.getElem?_map, hq]; rfl)
          rwa [show (((u % m).toNat : Nat) : Int) = u % m by omega] at this
        refine ⟨_, ⟨known, u % m, m, rfl, hk0, r0, r1, hm3, rfl⟩, ?_⟩
        rintro _ rfl
        refine ⟨⟨_, rfl⟩, ?_⟩
        show (match atI (encI many) (u % m) with | some x => _ | none => False)
        rw [ixq]
        refine ⟨.inl ⟨by omega, by omega⟩, ⟨_, rfl⟩, by rw [List.length_map]; omega, ?_⟩
        rw [putD_S hlk]
        refine ⟨⟨_, rfl⟩, ⟨_, rfl⟩, ?_⟩
        show (match atI (encI many) (u % m) with | some x => _ | none => False)
        rw [ixq]
        refine ⟨⟨r0, by rw [List.length_map]; omega⟩, ?_⟩
        refine ⟨⟨_, rfl⟩, ⟨_, rfl⟩, ?_⟩
        show (match valD (encS (seen ++ [(u, newW known (u % m) m + m * q)])) (.inl u) with | some x => _ | none => False)
        rw [valD_S, lookS_snoc hlk]
        refine ⟨by rw [List.length_map]; omega, hN _ ⟨seen ++ [(u, newW known (u % m) m + m * q)], many.set (u % m).toNat (q + 1), out ++ [newW known (u % m) m + m * q], .sh (.int (i : Nat)), .sh (.int u), .sh (.int (u % m)), ?_, by rw [List.append_assoc]; exact ho, by rw [List.length_append]; simp; omega, by rw [List.length_append]; simp [hol], by rw [List.length_set]; exact hml, fun x hx => ?_⟩⟩
        · rw [← encI_snoc, show encI (many.set (u % m).toNat (q + 1)) = (encI many).set (u % m).toNat (.int (q + 1)) from List.map_set]
          rfl
        · rcases List.mem_or_eq_of_mem_set hx with h | h
          · have := hmn x h
            omega
          · subst h; omega
  · rintro δ ⟨seen, many, out, s7, s8, s9, rfl, ho, hs, hol, hml, hmn⟩
    rw [List.length_map, List.length_range] at ho
    rw [List.drop_length, show kindL known m (cells.drop filling.length) [] seen many = [] by cases cells.drop filling.length <;> rfl, List.append_nil] at ho
    rw [ho]
    exact hP seen many s7 s8 s9
theorem w_kind (ds : List PyData) (φ : PyData → Prop) (h : R__law_kind ds φ) : ds.length = p__law_kind.length ∧ (b__law_kind K).wp (ds.map .sh ++ List.replicate (n__law_kind.length - p__law_kind.length) .no) { nx := fun _ => φ .none, rt := φ } := by
  obtain ⟨t, cells, filling, known, m, rfl, hl, hc3, hf0, hk0, hk10, hm1, hm3, rfl⟩ := h
  refine ⟨rfl, by show 0 ≤ _; decide, by show 1 ≤ _; decide, ⟨by omega, by omega⟩, ?_⟩
  refine w_for_rng (n := (filling.length : Int)) (pu_is (pu_lenT (ds := encI filling) (pu_var rfl)) (by rw [List.length_map])) (by omega) (by omega) ?_
  rw [Int.toNat_natCast]
  have er : List.replicate m.toNat (PyData.int 0) = encI (List.replicate m.toNat 0) := by rw [encI, List.map_replicate]
  have := for_kind (K := K) (t := t) (P := { nx := fun δ1 => (S.tell 5 (.ret (.tup (.cons (.op (oIxT K) (.var 0) (eI 0)) (.cons (.cb (oTup K) (.cons (.var 5) .nil)) .nil))))).wp δ1 { nx := fun _ => PyData.none = encR (t, kindL known m cells filling [] (List.replicate m.toNat 0)), rt := (· = encR (t, kindL known m cells filling [] (List.replicate m.toNat 0))) }, rt := (· = encR (t, kindL known m cells filling [] (List.replicate m.toNat 0))) }) hl hc3 hf0 hk0 hk10 hm1 hm3 fun seen many s7 s8 s9 => ⟨by show 2 ≤ _; decide, rfl⟩
  rw [← er] at this
  exact this
theorem ok_kind (t : Txt K mg "_law_kind" s__law_kind p__law_kind) (m_range : mg "range" = none) (m_len : mg "len" = none) (m_int : mg "int" = none) (m_tuple : mg "tuple" = none) (c : Ca P w K mg base "_law_least_above" 1 p__law_least_above (spP R__law_least_above)) : Ca P w K mg base "_law_kind" 2 p__law_kind (spP R__law_kind) :=
  ok_def t sc__law_kind (fun f cdv A outer s H E hr => op__law_kind m_range m_len m_int m_tuple c f cdv A outer s H E hr) w_kind
end
end Rx

namespace Rx
open K0
/-! the typical choices are the kinds of all fillings -/
theorem newW_mod (ks : List Int) {r m : Int} (h0 : 0 ≤ r) (h1 : r < m) : newW ks r m % m = r := by
  unfold newW
  have e := Int.emod_add_mul_ediv (r - (topI ks + 1)) m
  rw [show topI ks + 1 + (r - (topI ks + 1)) % m = r + m * (-((r - (topI ks + 1)) / m)) by rw [Int.mul_neg]; omega, Int.add_mul_emod_self_left, Int.emod_eq_of_lt h0 h1]
theorem newW_gt (ks : List Int) {r m : Int} (h1 : 1 ≤ m) : topI ks < newW ks r m := by
  unfold newW
  have := Int.emod_nonneg (r - (topI ks + 1)) (show m ≠ 0 by omega)
  omega
theorem newW_le (ks : List Int) {r m : Int} (h1 : 1 ≤ m) : newW ks r m ≤ topI ks + m := by
  unfold newW
  have := Int.emod_lt_of_pos (r - (topI ks + 1)) (show 0 < m by omega)
  omega
def cn (many : List Int) (r : Nat) : Int := many[r]?.getD 0
section
variable {ks known : List Int} {m : Int}
theorem bs_inj (hm : 1 ≤ m) {r r' i i' : Nat} (hr : (r : Int) < m) (hr' : (r' : Int) < m) (h : newW ks r m + m * i = newW ks r' m + m * i') : r = r' ∧ i = i' := by
  have e1 : (newW ks r m + m * i) % m = r := by rw [Int.add_mul_emod_self_left, newW_mod ks (by omega) hr]
  have e2 : (newW ks r' m + m * i') % m = r' := by rw [Int.add_mul_emod_self_left, newW_mod ks (by omega) hr']
  rw [h, e2] at e1
  have er : r = r' := by omega
  subst er
  refine ⟨rfl, ?_⟩
  have h3 : m * (i : Int) = m * (i' : Int) := by omega
  have := Int.eq_of_mul_eq_mul_left (show m ≠ 0 by omega) h3
  omega
theorem bs_notin (hm : 1 ≤ m) {r i : Nat} : newW ks r m + m * i ∉ ks := fun h => by
  have h1 := le_topI h
  have h2 := newW_gt ks (r := r) hm
  have h3 : 0 ≤ m * (i : Int) := Int.mul_nonneg (by omega) (by omega)
  omega
theorem mem_firsts {f : Int} : f ∈ firstsOf ks m ↔ ∃ r : Nat, (r : Int) < m ∧ f = newW ks r m := by
  unfold firstsOf
  rw [List.mem_map]
  refine ⟨fun ⟨r, h1, h2⟩ => ⟨r, ?_, h2.symm⟩, fun ⟨r, h1, h2⟩ => ⟨r, List.mem_range.mpr (by omega), h2.symm⟩⟩
  have := List.mem_range.mp h1
  omega
theorem firsts_len (hm : 1 ≤ m) : ((firstsOf ks m).length : Int) = m := by
  unfold firstsOf
  rw [List.length_map, List.length_range]
  omega
theorem nextF_mem (hm : 1 ≤ m) {ws : List Int} {x : Int} : x ∈ nextC ws ks (firstsOf ks m) ↔ x ∈ ks ∨ ∃ r j : Nat, (r : Int) < m ∧ x = newW ks r m + m * j ∧ ∀ i : Nat, i < j → newW ks r m + m * i ∈ ws := by
  have hne : firstsOf ks m ≠ [] := fun e => by
    have := firsts_len (ks := ks) hm
    rw [e] at this; simp at this; omega
  rw [nextC_mem hne, firsts_len hm]
  refine or_congr_right ⟨fun ⟨f, h1, j, h2, h3⟩ => ?_, fun ⟨r, j, h1, h2, h3⟩ => ⟨_, mem_firsts.mpr ⟨r, h1, rfl⟩, j, h2, h3⟩⟩
  obtain ⟨r, h4, rfl⟩ := mem_firsts.mp h1
  exact ⟨r, j, h4, h2, h3⟩
/-- a list of choices, one after the other -/
def Can (ks fs : List Int) : List Int → List Int → Prop
  | _, [] => True
  | pre, x :: xs => x ∈ nextC pre ks fs ∧ Can ks fs (pre ++ [x]) xs
theorem can_snoc {fs : List Int} {w : Int} : ∀ {xs pre : List Int}, Can ks fs pre (xs ++ [w]) ↔ Can ks fs pre xs ∧ w ∈ nextC (pre ++ xs) ks fs
  | [], pre => by
    show (w ∈ nextC pre ks fs ∧ True) ↔ True ∧ w ∈ nextC (pre ++ []) ks fs
    rw [List.append_nil, and_true, true_and]
  | x :: xs, pre => by
    show (x ∈ nextC pre ks fs ∧ Can ks fs (pre ++ [x]) (xs ++ [w])) ↔ (x ∈ nextC pre ks fs ∧ Can ks fs (pre ++ [x]) xs) ∧ w ∈ nextC (pre ++ x :: xs) ks fs
    rw [can_snoc, and_assoc, List.append_assoc]; rfl
theorem choices_mem {fs : List Int} : ∀ {n : Nat} {c : List Int}, c ∈ choicesN ks fs n ↔ c.length = n ∧ Can ks fs [] c
  | 0, c => by
    show c ∈ [[]] ↔ _
    rw [List.mem_singleton]
    refine ⟨fun h => by subst h; exact ⟨rfl, trivial⟩, fun h => List.length_eq_zero_iff.mp h.1⟩
  | n + 1, c => by
    show c ∈ stepC ks fs (choicesN ks fs n) ↔ _
    unfold stepC
    rw [List.mem_flatMap]
    refine ⟨fun ⟨b, hb, hc⟩ => ?_, fun ⟨hl, hc⟩ => ?_⟩
    · obtain ⟨w, hw, rfl⟩ := List.mem_map.mp hc
      obtain ⟨h1, h2⟩ := choices_mem.mp hb
      exact ⟨by rw [List.length_append, h1]; rfl, can_snoc.mpr ⟨h2, by rw [List.nil_append]; exact hw⟩⟩
    · have hne : c ≠ [] := fun e => by subst e; simp at hl
      rw [← List.dropLast_concat_getLast hne] at hc
      obtain ⟨h1, h2⟩ := can_snoc.mp hc
      rw [List.nil_append] at h2
      refine ⟨c.dropLast, choices_mem.mpr ⟨by rw [List.length_dropLast]; omega, h1⟩, List.mem_map.mpr ⟨c.getLast hne, h2, List.dropLast_concat_getLast hne⟩⟩
/-- a filling within the worths of each column -/
def InO (opts : Int → List Int) : List Int → List Int → Prop
  | [], [] => True
  | c :: cs, x :: xs => x ∈ opts c ∧ InO opts cs xs
  | _, _ => False
theorem lookS_app {seen : List (Int × Int)} {x v w u : Int} (h : lookS (seen ++ [(x, v)]) w = some u) : lookS seen w = some u ∨ (lookS seen w = none ∧ w = x ∧ u = v) := by
  unfold lookS at h ⊢
  rw [List.find?_append] at h
  cases q : seen.find? (fun p => decide (p.1 = w)) with
  | some p => rw [q] at h; exact .inl h
  | none =>
    rw [q] at h
    by_cases e : x = w
    · subst e
      simp at h
      exact .inr ⟨rfl, rfl, h.symm⟩
    · simp [e] at h
theorem lookS_keep {seen : List (Int × Int)} {x v w u : Int} (h : lookS seen w = some u) : lookS (seen ++ [(x, v)]) w = some u := by
  unfold lookS at h ⊢
  rw [List.find?_append]
  cases q : seen.find? (fun p => decide (p.1 = w)) with
  | some p => rw [q] at h; exact h
  | none => rw [q] at h; cases h
theorem lookS_new {seen : List (Int × Int)} {x v : Int} (h : lookS seen x = none) : lookS (seen ++ [(x, v)]) x = some v := by
  unfold lookS at h ⊢
  rw [Option.map_eq_none_iff] at h
  rw [List.find?_append, h]
  simp
theorem cn_set {many : List Int} {r r' : Nat} {q : Int} (h : r < many.length) : cn (many.set r q) r' = if r' = r then q else cn many r' := by
  unfold cn
  by_cases e : r' = r
  · subst e; rw [if_pos rfl, List.getElem?_set_self h]; rfl
  · rw [if_neg e, List.getElem?_set_ne (Ne.symm e)]
/-- each kind is a choice -/
theorem kind_can (hm : 1 ≤ m) (hkk : ∀ x, x ∈ known ↔ x ∈ ks) {opts : Int → List Int} (ho : ∀ c, 0 ≤ c → ∀ x ∈ opts c, x = c) : ∀ (cells f pre : List Int) (seen : List (Int × Int)) (many : List Int), (∀ c ∈ cells, -1 ≤ c) → InO opts cells f → many.length = m.toNat → (∀ r, 0 ≤ cn many r) →
    (∀ r i : Nat, (r : Int) < m → (newW ks r m + m * i ∈ pre ↔ (i : Int) < cn many r)) → (∀ w v, lookS seen w = some v → ∃ r i : Nat, (r : Int) < m ∧ v = newW ks r m + m * i ∧ (i : Int) < cn many r) →
    ∃ c, c.length = cells.count (-1) ∧ Can ks (firstsOf ks m) pre c ∧ kindL known m cells f seen many = fill cells c
  | [], [], pre, seen, many, _, _, _, _, _, _ => ⟨[], rfl, trivial, rfl⟩
  | c :: cs, x :: xs, pre, seen, many, hc, hin, hl, h0, h2, h3 => by
    obtain ⟨hx, hin⟩ := hin
    have hc' : ∀ c ∈ cs, -1 ≤ c := fun d hd => hc d (List.mem_cons_of_mem _ hd)
    have etop : topI known = topI ks := topI_congr hkk
    by_cases hc0 : 0 ≤ c
    · obtain rfl := ho c hc0 x hx
      obtain ⟨d, d1, d2, d3⟩ := kind_can hm hkk ho cs xs pre seen many hc' hin hl h0 h2 h3
      refine ⟨d, by rw [List.count_cons, if_neg (by simp; omega)]; exact d1, d2, ?_⟩
      rw [kindL, if_pos (.inl hc0), d3]
      simp [fill, show ¬ x = -1 by omega]
    · have ec : c = -1 := by have := hc c List.mem_cons_self; omega
      subst ec
      have fin : ∀ v d : List Int, True → ∀ y, kindL known m (-1 :: cs) (x :: xs) seen many = y :: fill cs d → d.length = cs.count (-1) → y ∈ nextC pre ks (firstsOf ks m) → Can ks (firstsOf ks m) (pre ++ [y]) d → ∃ c, c.length = List.count (-1) (-1 :: cs) ∧ Can ks (firstsOf ks m) pre c ∧ kindL known m (-1 :: cs) (x :: xs) seen many = fill (-1 :: cs) c := fun _ d _ y e1 e2 e3 e4 =>
        ⟨y :: d, by rw [List.count_cons, if_pos (by simp), List.length_cons, e2], ⟨e3, e4⟩, by rw [e1]; simp [fill]⟩
      by_cases hkn : x ∈ known
      · obtain ⟨d, d1, d2, d3⟩ := kind_can hm hkk ho cs xs (pre ++ [x]) seen many hc' hin hl h0 (fun r i hr => by
          rw [List.mem_append, List.mem_singleton, h2 r i hr]
          refine ⟨fun q => ?_, .inl⟩
          rcases q with q | q
          · exact q
          · exact absurd ((hkk _).1 (q ▸ hkn)) (bs_notin hm)) h3
        exact fin [] d trivial x (by rw [kindL, if_pos (.inr hkn), d3]) d1 ((nextF_mem hm).mpr (.inl ((hkk x).1 hkn))) d2
      · have hcc : ¬ (0 ≤ (-1 : Int) ∨ x ∈ known) := by simp [hkn]
        cases hlk : lookS seen x with
        | some v =>
          obtain ⟨r, i, hr, ev, hi⟩ := h3 x v hlk
          have hv : v ∈ pre := by rw [ev]; exact (h2 r i hr).mpr hi
          obtain ⟨d, d1, d2, d3⟩ := kind_can hm hkk ho cs xs (pre ++ [v]) seen many hc' hin hl h0 (fun r' i' hr' => by
            rw [List.mem_append, List.mem_singleton, h2 r' i' hr']
            refine ⟨fun q => ?_, .inl⟩
            rcases q with q | q
            · exact q
            · exact (h2 r' i' hr').mp (q ▸ hv)) h3
          refine fin [] d trivial v (by rw [kindL, if_neg hcc, hlk, d3]) d1 ((nextF_mem hm).mpr (.inr ⟨r, i, hr, ev, fun i' hi' => (h2 r i' hr).mpr (by omega)⟩)) d2
        | none =>
          have r0 := Int.emod_nonneg x (show m ≠ 0 by omega)
          have r1 := Int.emod_lt_of_pos x (show 0 < m by omega)
          have er : (((x % m).toNat : Nat) : Int) = x % m := by omega
          have hq0 := h0 (x % m).toNat
          have eq1 : ((cn many (x % m).toNat).toNat : Int) = cn many (x % m).toNat := by omega
          have hrl : (x % m).toNat < many.length := by omega
          have ek : newW known (x % m) m = newW ks ((x % m).toNat : Nat) m := by unfold newW; rw [etop, er]
          obtain ⟨d, d1, d2, d3⟩ := kind_can hm hkk ho cs xs (pre ++ [newW known (x % m) m + m * cn many (x % m).toNat]) (seen ++ [(x, newW known (x % m) m + m * cn many (x % m).toNat)]) (many.set (x % m).toNat (cn many (x % m).toNat + 1)) hc' hin (by rw [List.length_set]; exact hl) (fun r => by
            rw [cn_set hrl]
            split
            · omega
            · exact h0 r) (fun r' i' hr' => by
            rw [List.mem_append, List.mem_singleton, h2 r' i' hr', cn_set hrl, ek]
            by_cases e : r' = (x % m).toNat
            · rw [if_pos e]
              subst e
              refine ⟨fun q => ?_, fun q => ?_⟩
              · rcases q with q | q
                · omega
                · rw [← eq1] at q
                  have := (bs_inj hm hr' hr' q).2
                  omega
              · by_cases z : (i' : Int) < cn many (x % m).toNat
                · exact .inl z
                · refine .inr ?_
                  rw [show (i' : Int) = cn many (x % m).toNat by omega]
            · rw [if_neg e]
              refine ⟨fun q => ?_, .inl⟩
              rcases q with q | q
              · exact q
              · rw [← eq1] at q
                exact absurd (bs_inj hm hr' (by omega) q).1 e) (fun w v hv => by
            rcases lookS_app hv with q | ⟨_, _, q⟩
            · obtain ⟨r, i, a1, a2, a3⟩ := h3 w v q
              refine ⟨r, i, a1, a2, ?_⟩
              rw [cn_set hrl]
              split
              · rename_i z; subst z; omega
              · exact a3
            · refine ⟨(x % m).toNat, (cn many (x % m).toNat).toNat, by omega, by rw [q, ek, eq1], ?_⟩
              rw [cn_set hrl, if_pos rfl]; omega)
          refine fin [] d trivial _ (by
            rw [kindL, if_neg hcc, hlk]
            show _ :: kindL known m cs xs _ _ = _
            unfold cn at d3
            rw [d3]
            rfl) d1 ((nextF_mem hm).mpr (.inr ⟨(x % m).toNat, (cn many (x % m).toNat).toNat, by omega, by rw [ek, eq1], fun i' hi' => (h2 _ i' (by omega)).mpr (by omega)⟩)) d2
  | [], _ :: _, _, _, _, _, hin, _, _, _, _ => hin.elim
  | _ :: _, [], _, _, _, _, hin, _, _, _, _ => hin.elim
/-- each choice is its own kind -/
theorem can_kind (hm : 1 ≤ m) (hkk : ∀ x, x ∈ known ↔ x ∈ ks) {opts : Int → List Int} {stars : Nat} (ho1 : ∀ c, 0 ≤ c → c ∈ opts c) (ho2 : ∀ x ∈ ks, x ∈ opts (-1)) (ho3 : ∀ x, topI ks < x → x ≤ topI ks + m * stars → x ∈ opts (-1)) : ∀ (cells c pre : List Int) (seen : List (Int × Int)) (many : List Int) (k : Nat), (∀ c ∈ cells, -1 ≤ c) → c.length = cells.count (-1) → k + cells.count (-1) ≤ stars → Can ks (firstsOf ks m) pre c → many.length = m.toNat → (∀ r, 0 ≤ cn many r ∧ cn many r ≤ k) →
    (∀ r i : Nat, (r : Int) < m → (newW ks r m + m * i ∈ pre → (i : Int) < cn many r)) → (∀ r i : Nat, (r : Int) < m → (i : Int) < cn many r → lookS seen (newW ks r m + m * i) = some (newW ks r m + m * i)) → (∀ w v, lookS seen w = some v → ∃ r i : Nat, (r : Int) < m ∧ w = newW ks r m + m * i ∧ (i : Int) < cn many r) →
    InO opts cells (fill cells c) ∧ kindL known m cells (fill cells c) seen many = fill cells c
  | [], c, pre, seen, many, k, _, _, _, _, _, _, _, _, _ => ⟨trivial, rfl⟩
  | c0 :: cs, c, pre, seen, many, k, hc, hl, hk, hcan, hml, h0, h2, h3, h4 => by
    have hc' : ∀ c ∈ cs, -1 ≤ c := fun d hd => hc d (List.mem_cons_of_mem _ hd)
    have etop : topI known = topI ks := topI_congr hkk
    by_cases hc0 : 0 ≤ c0
    · have hn : ¬ c0 = -1 := by omega
      rw [List.count_cons, if_neg (by simpa using hn)] at hl hk
      obtain ⟨d1, d2⟩ := can_kind hm hkk ho1 ho2 ho3 cs c pre seen many k hc' hl hk hcan hml h0 h2 h3 h4
      have ef : fill (c0 :: cs) c = c0 :: fill cs c := by simp [fill, hn]
      rw [ef]
      exact ⟨⟨ho1 c0 hc0, d1⟩, by rw [kindL, if_pos (.inl hc0), d2]⟩
    · have ec : c0 = -1 := by have := hc c0 List.mem_cons_self; omega
      subst ec
      rw [List.count_cons, if_pos (by simp)] at hl hk
      cases c with
      | nil => simp at hl
      | cons x c =>
        obtain ⟨hx, hcan⟩ := hcan
        have hl' : c.length = cs.count (-1) := by simpa using hl
        have ef : fill (-1 :: cs) (x :: c) = x :: fill cs c := by simp [fill]
        rw [ef]
        rcases (nextF_mem hm).mp hx with hkx | ⟨r, j, hr, ex, hj⟩
        · have hkn := (hkk x).2 hkx
          obtain ⟨d1, d2⟩ := can_kind hm hkk ho1 ho2 ho3 cs c (pre ++ [x]) seen many (k + 1) hc' hl' (by omega) hcan hml (fun r => ⟨(h0 r).1, by have := (h0 r).2; omega⟩) (fun r i hr q => by
            rcases List.mem_append.mp q with q | q
            · exact h2 r i hr q
            · exact absurd (List.mem_singleton.mp q ▸ hkx) (bs_notin hm)) h3 h4
          exact ⟨⟨ho2 x hkx, d1⟩, by rw [kindL, if_pos (.inr hkn), d2]⟩
        · have hxn : x ∉ known := fun z => bs_notin hm (ex ▸ (hkk x).1 z)
          have hcc : ¬ (0 ≤ (-1 : Int) ∨ x ∈ known) := by simp [hxn]
          have hjc : (j : Int) ≤ cn many r := by
            cases j with
            | zero => exact (h0 r).1
            | succ j =>
              have := h2 r j hr (hj j (by omega))
              omega
          have hgt : topI ks < x := by
            have h5 := newW_gt ks (r := r) hm
            have h6 : 0 ≤ m * (j : Int) := Int.mul_nonneg (by omega) (by omega)
            omega
          have hle : x ≤ topI ks + m * stars := by
            have h5 := newW_le ks (r := r) hm
            have h6 : m * ((j : Int) + 1) ≤ m * stars := Int.mul_le_mul_of_nonneg_left (by have := (h0 r).2; omega) (by omega)
            rw [Int.mul_add, Int.mul_one] at h6
            omega
          have hrl : r < many.length := by omega
          have exm : x % m = r := by rw [ex, Int.add_mul_emod_self_left, newW_mod ks (by omega) hr]
          by_cases hjl : (j : Int) < cn many r
          · have hlk := h3 r j hr hjl
            rw [← ex] at hlk
            obtain ⟨d1, d2⟩ := can_kind hm hkk ho1 ho2 ho3 cs c (pre ++ [x]) seen many (k + 1) hc' hl' (by omega) hcan hml (fun r => ⟨(h0 r).1, by have := (h0 r).2; omega⟩) (fun r' i' hr' q => by
              rcases List.mem_append.mp q with q | q
              · exact h2 r' i' hr' q
              · have q := List.mem_singleton.mp q
                rw [ex] at q
                obtain ⟨e1, e2⟩ := bs_inj hm hr' hr q
                subst e1; subst e2; exact hjl) h3 h4
            exact ⟨⟨ho3 x hgt hle, d1⟩, by rw [kindL, if_neg hcc, hlk, d2]⟩
          · have ej : (j : Int) = cn many r := by omega
            have hlk : lookS seen x = none := by
              cases q : lookS seen x with
              | none => rfl
              | some v =>
                obtain ⟨r', i', a1, a2, a3⟩ := h4 x v q
                rw [ex] at a2
                obtain ⟨e1, e2⟩ := bs_inj hm hr a1 a2
                subst e1; subst e2; exact absurd a3 hjl
            have ev : newW known (x % m) m + m * cn many (x % m).toNat = x := by
              have : newW known (x % m) m = newW ks r m := by unfold newW; rw [etop, exm]
              rw [this, exm, Int.toNat_natCast, ← ej, ← ex]
            obtain ⟨d1, d2⟩ := can_kind hm hkk ho1 ho2 ho3 cs c (pre ++ [x]) (seen ++ [(x, x)]) (many.set r (cn many r + 1)) (k + 1) hc' hl' (by omega) hcan (by rw [List.length_set]; exact hml) (fun r' => by
              rw [cn_set hrl]
              have := h0 r'
              have := h0 r
              split <;> omega) (fun r' i' hr' q => by
              rw [cn_set hrl]
              rcases List.mem_append.mp q with q | q
              · have := h2 r' i' hr' q
                split
                · rename_i z; subst z; omega
                · exact this
              · have q := List.mem_singleton.mp q
                rw [ex] at q
                obtain ⟨e1, e2⟩ := bs_inj hm hr' hr q
                rw [if_pos e1, e2]; omega) (fun r' i' hr' q => by
              rw [cn_set hrl] at q
              by_cases e : r' = r
              · rw [if_pos e] at q
                subst e
                by_cases z : (i' : Int) < cn many r'
                · exact lookS_keep (h3 r' i' hr' z)
                · have : i' = j := by omega
                  subst this
                  rw [← ex]
                  exact lookS_new hlk
              · rw [if_neg e] at q
                exact lookS_keep (h3 r' i' hr' q)) (fun w v q => by
              rcases lookS_app q with q | ⟨_, q, _⟩
              · obtain ⟨r', i', a1, a2, a3⟩ := h4 w v q
                refine ⟨r', i', a1, a2, ?_⟩
                rw [cn_set hrl]
                split
                · rename_i z; subst z; omega
                · exact a3
              · refine ⟨r, j, hr, by rw [q, ex], ?_⟩
                rw [cn_set hrl, if_pos rfl]; omega)
            refine ⟨⟨ho3 x hgt hle, d1⟩, ?_⟩
            rw [kindL, if_neg hcc, hlk]
            show (newW known (x % m) m + m * cn many (x % m).toNat) :: kindL known m cs (fill cs c) (seen ++ [(x, newW known (x % m) m + m * cn many (x % m).toNat)]) (many.set (x % m).toNat (cn many (x % m).toNat + 1)) = _
            rw [ev, exm, Int.toNat_natCast, d2]
end
end Rx

namespace Rx
open PySem PySem.Spec PyProof.Rows L2 Dv K0
open Evl (Ex)
section
variable {g : PyData → Env → (Env → Prop) → Prop} {t : Env → (Bool → Env → Prop) → Prop} {e : Env → (PyData → Env → Prop) → Prop} {vs : List Nat} {Kf : List PyData → Env → Prop} {δ0 : Env}
/-- a comprehension whose entries are drawn -/
theorem lcW_draw {α : Type} (enc : α → PyData) (χ : PyData → Prop) : ∀ (ds : List α) (acc : List PyData)
    (hs : ∀ a ∈ ds, ∀ (C : Env → List PyData → Prop) (acc : List PyData), (∀ x, χ x → acc.length ≤ 50000 ∧ C δ0 (acc ++ [x])) → g (enc a) δ0 fun δ1 => t δ1 fun b δ2 => if b = true then e δ2 fun x δ3 => acc.length ≤ 50000 ∧ C (wipeD δ3 vs) (acc ++ [x]) else C (wipeD δ2 vs) acc)
    (hz : acc.length + ds.length ≤ 50000) (h : ∀ xs : List PyData, xs.length = ds.length → (∀ x ∈ xs, χ x) → Kf (acc ++ xs) δ0), lcW g t e vs Kf (ds.map enc) δ0 acc
  | [], acc, _, _, h => by
    have := h [] rfl (by simp)
    rw [List.append_nil] at this
    exact this
  | d :: ds, acc, hs, hz, h => by
    rw [List.length_cons] at hz
    refine hs d List.mem_cons_self (fun δ acc => lcW g t e vs Kf (ds.map enc) δ acc) acc fun x hx => ⟨by omega, ?_⟩
    refine lcW_draw enc χ ds _ (fun d hd => hs d (List.mem_cons_of_mem _ hd)) (by rw [List.length_append, List.length_singleton]; omega) fun xs hl hxs => ?_
    rw [List.append_assoc]
    refine h (x :: xs) (by rw [List.length_cons, hl]; rfl) fun y hy => ?_
    rcases List.mem_cons.mp hy with rfl | hy
    · exact hx
    · exact hxs y hy
end
theorem ints_of {xs : List PyData} {χ : Int → Prop} (h : ∀ x ∈ xs, ∃ c, x = .int c ∧ χ c) : ∃ cs : List Int, xs = encI cs ∧ ∀ c ∈ cs, χ c := by
  induction xs with
  | nil => exact ⟨[], rfl, by simp⟩
  | cons x xs ih =>
    obtain ⟨cs, rfl, hc⟩ := ih fun y hy => h y (List.mem_cons_of_mem _ hy)
    obtain ⟨c, rfl, hx⟩ := h x List.mem_cons_self
    refine ⟨c :: cs, rfl, fun y hy => ?_⟩
    rcases List.mem_cons.mp hy with rfl | hy
    · exact hx
    · exact hc y hy
/-- each list has its ascending set -/
theorem asc_ex {α : Type} [DecidableEq α] (S : So α) (l : List α) : ∃ ms, AscL S ms ∧ (∀ x, x ∈ ms ↔ x ∈ l) ∧ ms.length ≤ l.length := by
  have ins : ∀ (ms : List α) (a : α), AscL S ms → ∃ ns, AscL S ns ∧ (∀ x, x ∈ ns ↔ x = a ∨ x ∈ ms) ∧ ns.length ≤ ms.length + 1 := by
    intro ms a
    induction ms with
    | nil => intro _; exact ⟨[a], List.pairwise_singleton _ _, by simp, by simp⟩
    | cons b ms ih =>
      intro h
      obtain ⟨h1, h2⟩ := List.pairwise_cons.mp h
      by_cases e1 : S.lt a b = true
      · refine ⟨a :: b :: ms, List.pairwise_cons.mpr ⟨fun y hy => ?_, h⟩, by simp, by simp⟩
        rcases List.mem_cons.mp hy with rfl | hy
        · exact e1
        · exact S.tr2 e1 (h1 y hy)
      · by_cases e2 : S.lt b a = true
        · obtain ⟨ns, n1, n2, n3⟩ := ih h2
          refine ⟨b :: ns, List.pairwise_cons.mpr ⟨fun y hy => ?_, n1⟩, fun x => ?_, by simp; omega⟩
          · rcases (n2 y).1 hy with rfl | hy
            · exact e2
            · exact h1 y hy
          · rw [List.mem_cons, n2, List.mem_cons]
            constructor
            · rintro (q | q | q)
              · exact .inr (.inl q)
              · exact .inl q
              · exact .inr (.inr q)
            · rintro (q | q | q)
              · exact .inr (.inl q)
              · exact .inl q
              · exact .inr (.inr q)
        · have e := S.tot a b (by simpa using e1) (by simpa using e2)
          subst e
          exact ⟨a :: ms, h, by simp, by simp⟩
  induction l with
  | nil => exact ⟨[], .nil, by simp, by simp⟩
  | cons a l ih =>
    obtain ⟨ms, h1, h2, h3⟩ := ih
    obtain ⟨ns, n1, n2, n3⟩ := ins ms a h1
    exact ⟨ns, n1, fun x => by rw [n2, h2, List.mem_cons], by simp; omega⟩
/-- the fillings -/
def foldE (opts : Int → List Int) : List Int → List (List Int) → List (List Int)
  | [], acc => acc
  | c :: cs, acc => foldE opts cs (ext acc (opts c))
theorem foldE_mem {opts : Int → List Int} : ∀ {cs : List Int} {acc : List (List Int)} {f : List Int}, f ∈ foldE opts cs acc ↔ ∃ b ∈ acc, ∃ g, InO opts cs g ∧ f = b ++ g
  | [], acc, f => by
    show f ∈ acc ↔ _
    refine ⟨fun h => ⟨f, h, [], trivial, by simp⟩, fun ⟨b, hb, g, hg, e⟩ => ?_⟩
    cases g with
    | nil => rw [e, List.append_nil]; exact hb
    | cons _ _ => exact hg.elim
  | c :: cs, acc, f => by
    show f ∈ foldE opts cs (ext acc (opts c)) ↔ _
    rw [foldE_mem]
    refine ⟨fun ⟨b, hb, g, hg, e⟩ => ?_, fun ⟨b, hb, g, hg, e⟩ => ?_⟩
    · obtain ⟨a, ha, hb⟩ := List.mem_flatMap.mp hb
      obtain ⟨x, hx, rfl⟩ := List.mem_map.mp hb
      exact ⟨a, ha, x :: g, ⟨hx, hg⟩, by rw [e, List.append_assoc]; rfl⟩
    · cases g with
      | nil => exact hg.elim
      | cons x g => exact ⟨b ++ [x], List.mem_flatMap.mpr ⟨b, hb, List.mem_map.mpr ⟨x, hg.1, rfl⟩⟩, g, hg.2, by rw [e, List.append_assoc]; rfl⟩
theorem foldE_snoc (opts : Int → List Int) (c : Int) : ∀ (cs : List Int) (acc : List (List Int)), foldE opts (cs ++ [c]) acc = ext (foldE opts cs acc) (opts c)
  | [], acc => rfl
  | d :: cs, acc => foldE_snoc opts c cs (ext acc (opts d))
theorem InO_len {opts : Int → List Int} : ∀ {cs g : List Int}, InO opts cs g → g.length = cs.length
  | [], [], _ => rfl
  | c :: cs, x :: xs, h => by rw [List.length_cons, List.length_cons, InO_len h.2]
  | [], _ :: _, h => h.elim
  | _ :: _, [], h => h.elim
theorem InO_all {opts : Int → List Int} {χ : Int → Prop} : ∀ {cs g : List Int}, (∀ c ∈ cs, ∀ x ∈ opts c, χ x) → InO opts cs g → ∀ x ∈ g, χ x
  | [], [], _, _, x, hx => by cases hx
  | c :: cs, y :: ys, h, hin, x, hx => by
    rcases List.mem_cons.mp hx with rfl | hx
    · exact h c List.mem_cons_self x hin.1
    · exact InO_all (fun d hd => h d (List.mem_cons_of_mem _ hd)) hin.2 x hx
  | [], _ :: _, _, h, _, _ => h.elim
  | _ :: _, [], _, h, _, _ => h.elim
theorem foldE_len {opts : Int → List Int} {B : Nat} (h : ∀ c, (opts c).length ≤ B) : ∀ (cs : List Int) (acc : List (List Int)), (foldE opts cs acc).length ≤ acc.length * B ^ cs.length
  | [], acc => by simp [foldE]
  | c :: cs, acc => by
    refine Nat.le_trans (foldE_len h cs (ext acc (opts c))) ?_
    rw [ext_length, List.length_cons, Nat.pow_succ, Nat.mul_comm (B ^ cs.length) B, ← Nat.mul_assoc]
    exact Nat.mul_le_mul_right _ (Nat.mul_le_mul_left _ (h c))
theorem eqv_tupR (l m : List K0.Row) : PyData.eqv (.tuple (l.map encR)) (.tuple (m.map encR)) = decide (l = m) := by
  show PyData.eqvAll (l.map encR) (m.map encR) = _
  induction l generalizing m with
  | nil => cases m <;> simp [PyData.eqvAll]
  | cons r l ih =>
    cases m with
    | nil => simp [PyData.eqvAll]
    | cons q m =>
      show (PyData.eqv (encR r) (encR q) && PyData.eqvAll (l.map encR) (m.map encR)) = _
      rw [ih, eqv_row]
      simp
end Rx

namespace K0
open PySem PySem.Spec PyProof.Rows L2 Dv
open Evl (Ex)
section
variable {P : Program} {w : World} {K : PySem.W.Frag} {mg : Str → Option Value} {base : Heap} {T : Tw} {σ : L2.St} {G : Hp} {te : TE}
theorem e_neg {i : Int} (h : EvP T te σ G (· = .int i)) : EvP T (tUn (rU fun i => V.int (-i)) te) σ G (· = .int (-i)) := e_un h fun d e => by subst e; exact r_neg
theorem e_addI {ta tb : TE} {i j : Int} (h : EvP T ta σ G (· = .int i)) (h2 : EvP T tb σ G (· = .int j)) : EvP T (tOp (rI0 fun i j => .int (i + j)) ta tb) σ G (· = .int (i + j)) := e_op h h2 fun _ _ e1 e2 => by subst e1; subst e2; exact r_I0 rfl
theorem e_subI {ta tb : TE} {i j : Int} (h : EvP T ta σ G (· = .int i)) (h2 : EvP T tb σ G (· = .int j)) : EvP T (tOp (rI0 fun i j => .int (i - j)) ta tb) σ G (· = .int (i - j)) := e_op h h2 fun _ _ e1 e2 => by subst e1; subst e2; exact r_I0 rfl
theorem e_modI {ta tb : TE} {i j : Int} (hj : 0 < j) (h : EvP T ta σ G (· = .int i)) (h2 : EvP T tb σ G (· = .int j)) : EvP T (tOp (rI (fun _ j => 0 < j) fun i j => .int (i % j)) ta tb) σ G (· = .int (i % j)) := e_op h h2 fun _ _ e1 e2 => by subst e1; subst e2; exact r_I hj rfl
theorem e_maxD {T : Tw} {σ : L2.St} {G : Hp} {ks : List Int} {d : PyData} {te td : TE} {ta tb : TA} (hd : d = .list (encI ks) ∨ d = encC ks) (h0 : ∀ k ∈ ks, 0 ≤ k) (hn : ta = tCons te tNil) (hm : tb = tCons td tNil) (h : EvP T te σ G (· = d)) (h2 : EvP T td σ G (· = .int (-1))) : EvP T (tCKw (Mx.rMaxDef K) ta tb) σ G (· = .int (topI ks)) := fun G1 H1 x p Q q => by
  subst hn; subst hm
  refine (a_one h) G1 H1 x p _ fun vs ds G2 H2 s2 kk e => (a_one h2) G2 H2 (x.trans s2.ex) s2.pre _ fun zs es G3 H3 s3 k3 e3 => ?_
  subst e; subst e3
  obtain ⟨v, us, rfl, kv, kk⟩ := kk.consV
  cases kk.nilV
  obtain ⟨z, us, rfl, kz, kk⟩ := k3.consV
  cases kk.nilV
  cases kz.intV
  have fin : ∀ a, v = .ref a → (SqL K H3 a (ks.map V.int) ∨ SqT K H3 a (ks.map V.int)) → Mx.rMaxDef K [v] [.int (-1)] H3 Q := fun a ea sq => by
    refine ⟨a, ks, -1, by rw [ea], sq, rfl, fun e => ?_, fun _ m hm hy => ?_⟩
    · subst e
      exact q _ _ G3 H3 (s2.trans s3) (.int (-1)) rfl
    · rw [topI_of h0 hm hy]
      exact q _ _ G3 H3 (s2.trans s3) (.int _) rfl
  rcases hd with rfl | rfl
  · obtain ⟨a, xs, rfl, ga, ka⟩ := kv.lstV
    rw [ka.intsV] at ga
    exact fin a rfl (.inl (.inl (.inl (s3.pre.1 _ _ (s3.ex _ _ ga)))))
  · obtain ⟨a, xs, rfl, ga, ka⟩ := kv.tupV
    rw [ka.intsV] at ga
    exact fin a rfl (.inr (.inl (Evl.ex_rd s3.pre.1 (Evl.ex_rd s3.ex ga))))
theorem ok_new (t : Txt K mg "new_worth" s_new_worth p_new_worth) (mM : mg "max" = none) : Ca P w K mg base "new_worth" 1 p_new_worth (spF Rx.RNewW) := by
  refine t.ca fun f fd F => F.ok sc_new_worth (fun vs H Q E h => ?_) (fun cdv A outer s H vs Q E hr h => ?_)
  · obtain ⟨G, ds, d, _, k, ⟨ks, dk, r, m, rfl, _⟩, _⟩ := h
    exact k.length
  · obtain ⟨G, ds, d, p0, k, ⟨ks, dk, r, m, rfl, hd, h0, hm, rfl⟩, q⟩ := h
    obtain ⟨va, us, rfl, ka, k⟩ := k.consV
    obtain ⟨vr, us, rfl, kr, k⟩ := k.consV
    obtain ⟨vm, us, rfl, km, k⟩ := k.consV
    cases k.nilV
    refine ⟨_, pss_cons (ps_set (i := 3) sc_new_worth.nd rfl (.inl rfl) (pe_op op_add (pe_callBK (Mx.ck_max (by rfl)) (by rfl) mM (by decide +kernel) (pa_cons (pv 0) pa_nil) (pk_cons (pe_un un_neg pe_int) pk_nil)) pe_int))
      (pss_one (ps_ret (pe_op op_add (pv 3) (pe_op op_mod (pe_op op_sub (pv 1) (pv 3)) (pv 2))))), ?_⟩
    refine q_asg p0 (φ := (· = .int (topI ks + 1))) (e_addI (e_maxD hd h0 rfl rfl (e_var rfl ka) (e_neg e_int)) e_int) fun v3 d3 G1 H1 s1 k3 e3 => ?_
    subst e3
    exact s_ret s1.pre (e_addI (e_var rfl k3) (e_modI (by omega) (e_subI (e_var rfl (kr.mono s1.ex)) (e_var rfl k3)) (e_var rfl (km.mono s1.ex)))) fun v d G2 H2 s2 k2 e2 => q v G2 H2 (s1.trans s2) (by subst e2; exact k2)
end
end K0

namespace Rx
open PySem PySem.Spec PyProof.Rows L2 Dv K0
open Evl (Ex)
def ta_law (K : PySem.W.Frag) : S :=
        (.seq (.asg (.nm 10) (.fr (.op oCatL (.var 9) (.fr (.lc (.it (itT K) (.op (oIxT K) (.var 5) (eI 1))) (.nm 11) (.and (.tst (.op oGe (.var 11) (eI 0))) (.tst (.op (oIn K true) (.var 11) (.var 9)))) (.var 11) [11])))))
    (.seq (.for (.ita itR (.cons (.var 8) .nil)) (.nm 12) (L_law_1 K))
    (.seq (.asg (.nm 13) (.ife (.tst (.op (oNeD K) (.var 10) (.fr (.lst .nil)))) (.cb (oMax K) (.cons (.var 10) .nil)) (.un oNeg (eI 1))))
    (.seq (.asg (.nm 14) (.fr (.lc (.ita itR (.cons (.op oMul (.var 8) (.var 7)) .nil)) (.nm 6) .yes (.op oAdd (.op oAdd (.var 13) (eI 1)) (.var 6)) [6])))
    (.seq (.asg (.nm 15) (.fr (.lst (.cons (.tup .nil) .nil))))
    (.seq (.for (.it (itT K) (.op (oIxT K) (.var 5) (eI 1))) (.nm 11) (L_law_2 K))
    (.seq (.own 16 (.lst .nil))
    (.seq (.for (.it (itL K) (.var 15)) (.nm 17) (L_law_3 K))
    (.seq (.asg (.nm 18) (.fr (.op oCatL (.fr (.cb (oList K) (.cons (.var 9) .nil))) (.fr (.sl (oSlTo K) (.var 9) .no (.at (eI 1)))))))
    (.seq (.asg (.nm 19) (.callS R_typical_rows RowF E0 5 (.cons (.var 18) (.cons (.var 8) .nil))))
    (.seq (.tell 16 (.ifS (.or (.tst (.op (oNeD K) (.var 19) (.cb (oTup K) (.cons (.call R__law_unlike E0 (.cons (.var 16) .nil)) .nil)))) (.tst (.op (oNeD K) (.var 18) (.fr (.op oCatL (.var 9) (.fr (.sl (oSlTo K) (.var 9) .no (.at (eI 1))))))))) (.ret (eB false)) .next))
    (.ret (.op (oEqD K) (.var 19) (.callS R_typical_rows RowF E0 5 (.cons (.cb (oTup K) (.cons (.var 10) .nil)) (.cons (.var 8) .nil))))))))))))))))
def tb_law (K : PySem.W.Frag) : S :=
        (.seq (.for (.ita itR (.cons (.var 8) .nil)) (.nm 12) (L_law_1 K))
    (.seq (.asg (.nm 13) (.ife (.tst (.op (oNeD K) (.var 10) (.fr (.lst .nil)))) (.cb (oMax K) (.cons (.var 10) .nil)) (.un oNeg (eI 1))))
    (.seq (.asg (.nm 14) (.fr (.lc (.ita itR (.cons (.op oMul (.var 8) (.var 7)) .nil)) (.nm 6) .yes (.op oAdd (.op oAdd (.var 13) (eI 1)) (.var 6)) [6])))
    (.seq (.asg (.nm 15) (.fr (.lst (.cons (.tup .nil) .nil))))
    (.seq (.for (.it (itT K) (.op (oIxT K) (.var 5) (eI 1))) (.nm 11) (L_law_2 K))
    (.seq (.own 16 (.lst .nil))
    (.seq (.for (.it (itL K) (.var 15)) (.nm 17) (L_law_3 K))
    (.seq (.asg (.nm 18) (.fr (.op oCatL (.fr (.cb (oList K) (.cons (.var 9) .nil))) (.fr (.sl (oSlTo K) (.var 9) .no (.at (eI 1)))))))
    (.seq (.asg (.nm 19) (.callS R_typical_rows RowF E0 5 (.cons (.var 18) (.cons (.var 8) .nil))))
    (.seq (.tell 16 (.ifS (.or (.tst (.op (oNeD K) (.var 19) (.cb (oTup K) (.cons (.call R__law_unlike E0 (.cons (.var 16) .nil)) .nil)))) (.tst (.op (oNeD K) (.var 18) (.fr (.op oCatL (.var 9) (.fr (.sl (oSlTo K) (.var 9) .no (.at (eI 1))))))))) (.ret (eB false)) .next))
    (.ret (.op (oEqD K) (.var 19) (.callS R_typical_rows RowF E0 5 (.cons (.cb (oTup K) (.cons (.var 10) .nil)) (.cons (.var 8) .nil)))))))))))))))
def tc_law (K : PySem.W.Frag) : S :=
        (.seq (.asg (.nm 15) (.fr (.lst (.cons (.tup .nil) .nil))))
    (.seq (.for (.it (itT K) (.op (oIxT K) (.var 5) (eI 1))) (.nm 11) (L_law_2 K))
    (.seq (.own 16 (.lst .nil))
    (.seq (.for (.it (itL K) (.var 15)) (.nm 17) (L_law_3 K))
    (.seq (.asg (.nm 18) (.fr (.op oCatL (.fr (.cb (oList K) (.cons (.var 9) .nil))) (.fr (.sl (oSlTo K) (.var 9) .no (.at (eI 1)))))))
    (.seq (.asg (.nm 19) (.callS R_typical_rows RowF E0 5 (.cons (.var 18) (.cons (.var 8) .nil))))
    (.seq (.tell 16 (.ifS (.or (.tst (.op (oNeD K) (.var 19) (.cb (oTup K) (.cons (.call R__law_unlike E0 (.cons (.var 16) .nil)) .nil)))) (.tst (.op (oNeD K) (.var 18) (.fr (.op oCatL (.var 9) (.fr (.sl (oSlTo K) (.var 9) .no (.at (eI 1))))))))) (.ret (eB false)) .next))
    (.ret (.op (oEqD K) (.var 19) (.callS R_typical_rows RowF E0 5 (.cons (.cb (oTup K) (.cons (.var 10) .nil)) (.cons (.var 8) .nil))))))))))))
def td_law (K : PySem.W.Frag) : S :=
        (.seq (.own 16 (.lst .nil))
    (.seq (.for (.it (itL K) (.var 15)) (.nm 17) (L_law_3 K))
    (.seq (.asg (.nm 18) (.fr (.op oCatL (.fr (.cb (oList K) (.cons (.var 9) .nil))) (.fr (.sl (oSlTo K) (.var 9) .no (.at (eI 1)))))))
    (.seq (.asg (.nm 19) (.callS R_typical_rows RowF E0 5 (.cons (.var 18) (.cons (.var 8) .nil))))
    (.seq (.tell 16 (.ifS (.or (.tst (.op (oNeD K) (.var 19) (.cb (oTup K) (.cons (.call R__law_unlike E0 (.cons (.var 16) .nil)) .nil)))) (.tst (.op (oNeD K) (.var 18) (.fr (.op oCatL (.var 9) (.fr (.sl (oSlTo K) (.var 9) .no (.at (eI 1))))))))) (.ret (eB false)) .next))
    (.ret (.op (oEqD K) (.var 19) (.callS R_typical_rows RowF E0 5 (.cons (.cb (oTup K) (.cons (.var 10) .nil)) (.cons (.var 8) .nil))))))))))
def te_law (K : PySem.W.Frag) : S :=
        (.seq (.asg (.nm 18) (.fr (.op oCatL (.fr (.cb (oList K) (.cons (.var 9) .nil))) (.fr (.sl (oSlTo K) (.var 9) .no (.at (eI 1)))))))
    (.seq (.asg (.nm 19) (.callS R_typical_rows RowF E0 5 (.cons (.var 18) (.cons (.var 8) .nil))))
    (.seq (.tell 16 (.ifS (.or (.tst (.op (oNeD K) (.var 19) (.cb (oTup K) (.cons (.call R__law_unlike E0 (.cons (.var 16) .nil)) .nil)))) (.tst (.op (oNeD K) (.var 18) (.fr (.op oCatL (.var 9) (.fr (.sl (oSlTo K) (.var 9) .no (.at (eI 1))))))))) (.ret (eB false)) .next))
    (.ret (.op (oEqD K) (.var 19) (.callS R_typical_rows RowF E0 5 (.cons (.cb (oTup K) (.cons (.var 10) .nil)) (.cons (.var 8) .nil))))))))
section
variable {K : PySem.W.Frag} {a b c d : E} {δ : Env} {x y z u r d0 : PyData} {xk : XK}
theorem pu_call1 {R : Rr} (ha : Pu a δ x) (h : ∃ φ, R [x] φ ∧ ∀ e, φ e → e = r) : Pu (.call R xk (.cons a .nil)) δ r := fun ψ q => ha _ (by
  obtain ⟨φ, h1, h2⟩ := h
  exact ⟨φ, h1, fun e he => by rw [h2 e he]; exact q⟩)
theorem pu_call3 {R : Rr} (ha : Pu a δ x) (hb : Pu b δ y) (hc : Pu c δ z) (h : ∃ φ, R [x, y, z] φ ∧ ∀ e, φ e → e = r) : Pu (.call R xk (.cons a (.cons b (.cons c .nil)))) δ r := fun ψ q => ha _ (hb _ (hc _ (by
  obtain ⟨φ, h1, h2⟩ := h
  exact ⟨φ, h1, fun e he => by rw [h2 e he]; exact q⟩)))
theorem pu_callF2 {R : List PyData → PyData → Prop} (ha : Pu a δ x) (hb : Pu b δ y) (h : R [x, y] r) : Pu (.callF R xk (.cons a (.cons b .nil))) δ r := fun ψ q => ha _ (hb _ ⟨r, h, q⟩)
theorem pu_callF3 {R : List PyData → PyData → Prop} (ha : Pu a δ x) (hb : Pu b δ y) (hc : Pu c δ z) (h : R [x, y, z] r) : Pu (.callF R xk (.cons a (.cons b (.cons c .nil)))) δ r := fun ψ q => ha _ (hb _ (hc _ ⟨r, h, q⟩))
theorem pu_callS2 {R : Rr} {Pf : Fact} {i : Nat} (h0 : δ[i]? = some (.sp d0 Pf)) (ha : Pu a δ x) (hb : Pu b δ y) (h : ∃ φ, R [d0, x, y] φ ∧ ∀ e, φ e → e = r) : Pu (.callS R Pf xk i (.cons a (.cons b .nil))) δ r := fun ψ q => ⟨d0, h0, ha _ (hb _ (by
  obtain ⟨φ, h1, h2⟩ := h
  exact ⟨φ, h1, fun e he => by rw [h2 e he]; exact q⟩))⟩
theorem pu_neg1 : Pu (.un oNeg (eI 1)) δ (.int (-1)) := fun ψ q => q
theorem pu_lst1 (ha : Pu a δ x) : Pu (.fr (.lst (.cons a .nil))) δ (.list [x]) := fun ψ q => ha _ ⟨by show 1 ≤ _; decide, q⟩
theorem pu_lst4 (ha : Pu a δ x) (hb : Pu b δ y) (hc : Pu c δ z) (hd : Pu d δ u) : Pu (.fr (.lst (.cons a (.cons b (.cons c (.cons d .nil)))))) δ (.list [x, y, z, u]) := fun ψ q => ha _ (hb _ (hc _ (hd _ ⟨by show 4 ≤ _; decide, q⟩)))
theorem pu_listL {ds : List PyData} (ha : Pu a δ (.list ds)) : Pu (.fr (.cb (oList K) (.cons a .nil))) δ (.list ds) := fun ψ q => ha _ q
theorem pu_cat {ds es : List PyData} (ha : Pu a δ (.list ds)) (hb : Pu b δ (.list es)) (h : ds.length + es.length ≤ 100000) : Pu (.fr (.op oCatL a b)) δ (.list (ds ++ es)) := fun ψ q => ha _ (hb _ ⟨h, q⟩)
theorem pu_slTo {ds : List PyData} {n : Int} (ha : Pu a δ (.list ds)) (hb : Pu b δ (.int n)) (h : 0 ≤ n) : Pu (.fr (.sl (oSlTo K) a .no (.at b))) δ (.list (ds.take n.toNat)) := fun ψ q => ha _ (hb _ ⟨h, q⟩)
theorem pu_top {i : Nat} {ks : List Int} (hk : rdS δ[i]? = some (.list (encI ks))) (h0 : ∀ k ∈ ks, 0 ≤ k) : Pu (.ife (.tst (.op (oNeD K) (.var i) (.fr (.lst .nil)))) (.cb (oMax K) (.cons (.var i) .nil)) (.un oNeg (eI 1))) δ (.int (topI ks)) := fun ψ q =>
  w_top hk h0 (fun hn => pu_max hk h0 hn ψ q) fun e => by
    subst e
    exact pu_neg1 ψ q
end
/-! the law's own mathematics -/
def freshL (known : List Int) (m : Int) (stars : Nat) : List Int := (List.range (m * stars).toNat).map fun k => topI known + 1 + (k : Nat)
def optsL (known ks : List Int) (m : Int) (stars : Nat) (c : Int) : List Int := if 0 ≤ c then [c] else ks ++ freshL known m stars
theorem kinds_rows {t m : Int} {cells known ks : List Int} {stars : Nat} (hm : 1 ≤ m) (hc : ∀ c ∈ cells, -1 ≤ c) (hkk : ∀ x, x ∈ known ↔ x ∈ ks) (hs : cells.count (-1) = stars) (r : K0.Row) : r ∈ (foldE (optsL known ks m stars) cells [[]]).map (fun f => (t, kindL known m cells f [] (List.replicate m.toNat 0))) ↔ ∃ c ∈ choicesN ks (firstsOf ks m) stars, r = (t, fill cells c) := by
  have ho : ∀ c, 0 ≤ c → ∀ x ∈ optsL known ks m stars c, x = c := fun c h x hx => by
    unfold optsL at hx
    rw [if_pos h] at hx
    exact List.mem_singleton.mp hx
  have z : ∀ r, cn (List.replicate m.toNat 0) r = 0 := fun r => by
    unfold cn
    rw [List.getElem?_replicate]
    split <;> rfl
  have on : optsL known ks m stars (-1) = ks ++ freshL known m stars := if_neg (by decide)
  rw [List.mem_map]
  constructor
  · rintro ⟨f, hf, rfl⟩
    obtain ⟨b, hb, g, hg, e⟩ := foldE_mem.mp hf
    rw [List.mem_singleton] at hb
    subst hb
    rw [List.nil_append] at e
    subst e
    obtain ⟨c, h1, h2, h3⟩ := kind_can hm hkk ho cells f [] [] (List.replicate m.toNat 0) hc hg List.length_replicate (fun r => by rw [z]; exact Int.le_refl 0) (fun r i hr => by
      rw [z]
      exact ⟨fun h => absurd h (List.not_mem_nil), fun h => by omega⟩) (fun w v h => by cases h)
    exact ⟨c, choices_mem.mpr ⟨h1.trans hs, h2⟩, by rw [h3]⟩
  · rintro ⟨c, hcc, rfl⟩
    obtain ⟨h1, h2⟩ := choices_mem.mp hcc
    obtain ⟨d1, d2⟩ := can_kind (opts := optsL known ks m stars) (stars := stars) hm hkk (fun c h => by unfold optsL; rw [if_pos h]; exact List.mem_singleton.mpr rfl) (fun x hx => by rw [on]; exact List.mem_append_left _ hx) (fun x hx1 hx2 => by
      rw [on]
      refine List.mem_append_right _ (List.mem_map.mpr ⟨(x - topI known - 1).toNat, List.mem_range.mpr ?_, ?_⟩)
      · rw [topI_congr hkk]; omega
      · rw [topI_congr hkk]; omega) cells c [] [] (List.replicate m.toNat 0) 0 hc (h1.trans hs.symm) (by omega) h2 List.length_replicate (fun r => by rw [z]; omega) (fun r i hr h => by cases h) (fun r i hr h => by rw [z] at h; omega) (fun w v h => by cases h)
    exact ⟨fill cells c, foldE_mem.mpr ⟨[], List.mem_singleton.mpr rfl, _, d1, rfl⟩, by rw [d2]⟩
theorem freshL_len (known : List Int) (m : Int) (stars : Nat) : (freshL known m stars).length = (m * stars).toNat := by unfold freshL; rw [List.length_map, List.length_range]
theorem freshL_nn {known : List Int} {m : Int} {stars : Nat} : ∀ x ∈ freshL known m stars, 0 ≤ x := fun x hx => by
  obtain ⟨k, _, rfl⟩ := List.mem_map.mp hx
  have := topI_ge known
  omega
end Rx

namespace Rx
open PySem PySem.Spec PyProof.Rows L2 Dv K0
open Evl (Ex)
section
variable {K : PySem.W.Frag}
theorem w_te {p2 p3 a7 : PyData} {s11 s12 s13 s14 s15 s17 : Sl} {t m : Int} {cells given known ks : List Int} {P : Post} {kinds : List K0.Row} (hm1 : 1 ≤ m) (hm3 : m ≤ 3) (hc3 : cells.length ≤ 3) (hcm : ∀ c ∈ cells, -1 ≤ c) (hg3 : given.length ≤ 3) (hg0 : ∀ x ∈ given, 0 ≤ x) (hk6 : known.length ≤ 6) (hk0 : ∀ x ∈ known, 0 ≤ x)
    (hkn : ∀ x, x ∈ known ↔ x ∈ given ∨ (x ∈ cells ∧ 0 ≤ x)) (hks : AscL soI ks) (hkk : ∀ x, x ∈ ks ↔ x ∈ known) (hk10 : ks.length ≤ 10) (hkl : kinds.length < 40000) (hkd : ∀ r, r ∈ kinds ↔ ∃ c ∈ choicesN ks (firstsOf ks m) (cells.count (-1)), r = (t, fill cells c)) (hP : P.rt (.bool true)) :
    (te_law K).wp [.no, .src, .sh p2, .sh p3, .sh (.int t), .sp (.tuple [.int t, encC cells]) RowF, .no, .sh a7, .sh (.int m), .sh (.list (encI given)), .sh (.list (encI known)), s11, s12, s13, s14, s15, .ol (.l (kinds.map encR)), s17, .no, .no] P := by
  obtain ⟨rows, r1, r2, _⟩ := asc_ex soR kinds
  have rr : ∀ r, r ∈ rows ↔ ∃ c ∈ choicesN ks (firstsOf ks m) (cells.count (-1)), r = (t, fill cells c) := fun r => (r2 r).trans (hkd r)
  have mt : ∀ x, x ∈ given.take 1 → x ∈ given := fun x h => List.mem_of_mem_take h
  have RT : R_typical_rows [.tuple [.int t, encC cells], .list (encI (given ++ given.take 1)), .int m] (· = .tuple (rows.map encR)) :=
    ⟨t, cells, given ++ given.take 1, ks, _, m, rows, rfl, .inl rfl, hc3, by rw [List.length_append, List.length_take]; omega, hcm, fun x hx => (List.mem_append.mp hx).elim (hg0 x) fun h => hg0 x (mt x h), hm1, hm3, hks, hk10, fun x => by
      rw [hkk, hkn, List.mem_append]
      exact ⟨fun h => h.imp .inl id, fun h => h.imp (fun h => h.elim id (mt x)) id⟩, r1, rr, rfl⟩
  have RK : R_typical_rows [.tuple [.int t, encC cells], encC known, .int m] (· = .tuple (rows.map encR)) :=
    ⟨t, cells, known, ks, _, m, rows, rfl, .inr rfl, hc3, by omega, hcm, hk0, hm1, hm3, hks, hk10, fun x => by
      rw [hkk]
      refine ⟨.inl, fun h => h.elim id fun h => (hkn x).mpr (.inr h)⟩, r1, rr, rfl⟩
  have eh : PyData.list (encI given ++ (encI given).take (1 : Int).toNat) = .list (encI (given ++ given.take 1)) := by simp [encI]
  have lh : (encI given).length + ((encI given).take (1 : Int).toNat).length ≤ 100000 := by rw [List.length_take, List.length_map]; omega
  refine w_asg (d := .list (encI (given ++ given.take 1))) (pu_is (pu_cat (pu_listL (pu_var rfl)) (pu_slTo (pu_var rfl) pu_I (by decide)) lh) eh) ?_
  refine w_asg (d := .tuple (rows.map encR)) (pu_callS2 rfl (pu_var rfl) (pu_var rfl) ⟨_, RT, fun e h => h⟩) ?_
  refine w_if (c := false) (pt_is (pt_or (pt_neD (d := .tuple (rows.map encR)) (e := .tuple (rows.map encR)) (pu_var rfl) (pu_tupL (pu_call1 (r := .list (rows.map encR)) (pu_var rfl) ⟨_, .inr ⟨kinds, rows, rfl, hkl, r1, r2, rfl⟩, fun e h => h⟩)) (encRt_shaped rows) (encRt_shaped rows)) fun _ => pt_neD (d := .list (encI (given ++ given.take 1))) (e := .list (encI (given ++ given.take 1))) (pu_var rfl) (pu_is (pu_cat (pu_var rfl) (pu_slTo (pu_var rfl) pu_I (by decide)) lh) eh) (shaped_listI _) (shaped_listI _)) ?_) (fun h => by cases h) fun _ => ?_
  · rw [eqv_tupR, Rx.eqv_listI]; simp
  · refine w_ret (d := .bool true) (pu_is (pu_eqD (d := .tuple (rows.map encR)) (e := .tuple (rows.map encR)) (pu_var rfl) (pu_callS2 rfl (pu_tupL (pu_var rfl)) (pu_var rfl) ⟨_, RK, fun e h => h⟩) (encRt_shaped rows) (encRt_shaped rows)) (by rw [eqv_tupR]; simp)) hP
theorem optsL_len {known ks : List Int} {m : Int} {stars : Nat} (hk : ks.length ≤ 6) (hms : m * stars ≤ 6) (c : Int) : (optsL known ks m stars c).length ≤ 15 := by
  unfold optsL
  split
  · show 1 ≤ 15; decide
  · rw [List.length_append, freshL_len]; omega
theorem optsL_nn {known ks : List Int} {m : Int} {stars : Nat} (hk : ∀ x ∈ ks, 0 ≤ x) (c : Int) : ∀ x ∈ optsL known ks m stars c, 0 ≤ x := fun x hx => by
  unfold optsL at hx
  split at hx
  · rw [List.mem_singleton.mp hx]; assumption
  · rcases List.mem_append.mp hx with h | h
    · exact hk x h
    · exact freshL_nn x h
theorem w_tc {p2 p3 : PyData} {s11 s12 s13 : Sl} {t m : Int} {cells given known : List Int} {stars : Nat} {P : Post} (hm1 : 1 ≤ m) (hm3 : m ≤ 3) (hc3 : cells.length ≤ 3) (hcm : ∀ c ∈ cells, -1 ≤ c) (hg3 : given.length ≤ 3) (hg0 : ∀ x ∈ given, 0 ≤ x) (hk6 : known.length ≤ 6) (hk0 : ∀ x ∈ known, 0 ≤ x)
    (hkn : ∀ x, x ∈ known ↔ x ∈ given ∨ (x ∈ cells ∧ 0 ≤ x)) (hst : cells.count (-1) = stars) (hms : m * stars ≤ 6) (hP : P.rt (.bool true)) :
    (tc_law K).wp [.no, .src, .sh p2, .sh p3, .sh (.int t), .sp (.tuple [.int t, encC cells]) RowF, .no, .sh (.int stars), .sh (.int m), .sh (.list (encI given)), .sh (.list (encI known)), s11, s12, s13, .sh (.list (encI (freshL known m stars))), .no, .no, .no, .no, .no] P := by
  obtain ⟨ks, k1, k2, k3⟩ := asc_ex soI known
  have ol : ∀ c, (optsL known ks m stars c).length ≤ 15 := optsL_len (by omega) hms
  have on : ∀ c, ∀ x ∈ optsL known ks m stars c, 0 ≤ x := optsL_nn fun x hx => hk0 x ((k2 x).1 hx)
  have fl : ∀ i, (foldE (optsL known ks m stars) (cells.take i) [[]]).length ≤ 15 ^ 3 := fun i => by
    have h1 := foldE_len ol (cells.take i) [[]]
    have h2 : (15 : Nat) ^ (cells.take i).length ≤ 15 ^ 3 := Nat.pow_le_pow_right (by decide) (by rw [List.length_take]; omega)
    rw [show ([[]] : List (List Int)).length = 1 from rfl, Nat.one_mul] at h1
    omega
  refine ⟨by show 0 ≤ _; decide, by show 1 ≤ _; decide, ?_⟩
  refine forW_inv (items := encI cells) (fun i δ => ∃ s11, δ = [.no, .src, .sh p2, .sh p3, .sh (.int t), .sp (.tuple [.int t, encC cells]) RowF, .no, .sh (.int stars), .sh (.int m), .sh (.list (encI given)), .sh (.list (encI known)), s11, s12, s13, .sh (.list (encI (freshL known m stars))), .sh (.list ((foldE (optsL known ks m stars) (cells.take i) [[]]).map encC)), .no, .no, .no, .no]) ⟨_, rfl⟩ ?_ ?_
  · rintro i d δ N hd ⟨s11, rfl⟩ hN
    rw [List.getElem?_map] at hd
    cases hc : cells[i]? with
    | none => rw [hc] at hd; cases hd
    | some c =>
      rw [hc] at hd; cases hd
      have hi := (List.getElem?_eq_some_iff.mp hc).1
      have po : Pu (.ife (.tst (.op oGe (.var 11) (eI 0))) (.fr (.lst (.cons (.var 11) .nil))) (.fr (.op oCatL (.call R__law_unlike E0 (.cons (.var 10) .nil)) (.var 14)))) [.no, .src, .sh p2, .sh p3, .sh (.int t), .sp (.tuple [.int t, encC cells]) RowF, .no, .sh (.int stars), .sh (.int m), .sh (.list (encI given)), .sh (.list (encI known)), .sh (.int c), s12, s13, .sh (.list (encI (freshL known m stars))), .sh (.list ((foldE (optsL known ks m stars) (cells.take i) [[]]).map encC)), .no, .no, .no, .no] (.list (encI (optsL known ks m stars c))) :=
        pu_ife (pt_ge (n := c) (m := 0) (pu_var rfl) pu_I) (fun h => pu_is (pu_lst1 (x := .int c) (pu_var rfl)) (by unfold optsL; rw [if_pos (of_decide_eq_true h)]; rfl)) (fun h => pu_is (pu_cat (ds := encI ks) (es := encI (freshL known m stars)) (pu_call1 (x := .list (encI known)) (pu_var rfl) ⟨_, .inl ⟨known, ks, rfl, by omega, k1, k2, rfl⟩, fun e h => h⟩) (pu_var rfl) (by rw [List.length_map, List.length_map, freshL_len]; omega)) (by unfold optsL; rw [if_neg (of_decide_eq_false h), encI, encI, encI, List.map_append]))
      refine w_asg (d := .list ((foldE (optsL known ks m stars) (cells.take (i + 1)) [[]]).map encC)) (pu_callF2 (pu_var rfl) po ⟨foldE (optsL known ks m stars) (cells.take i) [[]], optsL known ks m stars c, rfl, fun b hb => ?_, ?_, ?_, ?_⟩) (hN _ ⟨_, rfl⟩)
      · obtain ⟨b0, hb0, g, hg, e⟩ := foldE_mem.mp hb
        rw [List.mem_singleton] at hb0
        subst hb0
        rw [List.nil_append] at e
        subst e
        rw [InO_len hg, List.length_take]; omega
      · have h1 := foldE_len ol (cells.take i) [[]]
        have h2 : (15 : Nat) ^ (cells.take i).length ≤ 15 ^ 2 := Nat.pow_le_pow_right (by decide) (by rw [List.length_take]; omega)
        rw [show ([[]] : List (List Int)).length = 1 from rfl, Nat.one_mul] at h1
        exact Nat.le_trans (Nat.mul_le_mul (Nat.le_trans h1 h2) (ol c)) (by decide)
      · have := ol c; omega
      · rw [List.take_add_one, hc]
        show PyData.list ((foldE _ (cells.take i ++ [c]) [[]]).map encC) = _
        rw [foldE_snoc]
  · rintro δ ⟨s11, rfl⟩
    rw [List.length_map, List.take_length]
    refine ⟨by show 0 ≤ _; decide, ?_⟩
    have hfl : (foldE (optsL known ks m stars) cells [[]]).length ≤ 15 ^ 3 := by have := fl cells.length; rwa [List.take_length] at this
    refine forW_inv (items := (foldE (optsL known ks m stars) cells [[]]).map encC) (fun i δ => ∃ s17, δ = [.no, .src, .sh p2, .sh p3, .sh (.int t), .sp (.tuple [.int t, encC cells]) RowF, .no, .sh (.int stars), .sh (.int m), .sh (.list (encI given)), .sh (.list (encI known)), s11, s12, s13, .sh (.list (encI (freshL known m stars))), .sh (.list ((foldE (optsL known ks m stars) cells [[]]).map encC)), .ol (.l ((((foldE (optsL known ks m stars) cells [[]]).take i).map fun f => (t, kindL known m cells f [] (List.replicate m.toNat 0))).map encR)), s17, .no, .no]) ⟨_, rfl⟩ ?_ ?_
    · rintro i d δ N hd ⟨s17, rfl⟩ hN
      rw [List.getElem?_map] at hd
      cases hc : (foldE (optsL known ks m stars) cells [[]])[i]? with
      | none => rw [hc] at hd; cases hd
      | some f =>
        rw [hc] at hd; cases hd
        have hi := (List.getElem?_eq_some_iff.mp hc).1
        obtain ⟨b0, hb0, g, hg, e⟩ := foldE_mem.mp (List.mem_of_getElem? hc)
        rw [List.mem_singleton] at hb0
        subst hb0
        rw [List.nil_append] at e
        subst e
        refine ⟨⟨_, rfl⟩, _, ⟨t, cells, f, known, m, rfl, InO_len hg, hc3, InO_all (fun c _ => on c) hg, hk0, by omega, hm1, hm3, rfl⟩, ?_⟩
        rintro _ rfl
        refine ⟨by rw [List.length_map, List.length_map, List.length_take]; omega, hN _ ⟨.sh (encC f), ?_⟩⟩
        rw [List.take_add_one, hc, List.map_append, List.map_append]
        rfl
    · rintro δ ⟨s17, rfl⟩
      rw [List.length_map, List.take_length]
      exact w_te (ks := ks) hm1 hm3 hc3 hcm hg3 hg0 hk6 hk0 hkn k1 k2 (by omega) (by rw [List.length_map]; omega) (fun r => by rw [kinds_rows hm1 hcm (fun x => (k2 x).symm) hst, hst]) hP
end
end Rx

namespace Rx
open PySem PySem.Spec PyProof.Rows L2 Dv K0
open Evl (Ex)
section
variable {K : PySem.W.Frag}
theorem w_tb {p2 p3 : PyData} {s11 : Sl} {t m : Int} {cells given known : List Int} {stars : Nat} {P : Post} (hm1 : 1 ≤ m) (hm3 : m ≤ 3) (hc3 : cells.length ≤ 3) (hcm : ∀ c ∈ cells, -1 ≤ c) (hg3 : given.length ≤ 3) (hg0 : ∀ x ∈ given, 0 ≤ x) (hk6 : known.length ≤ 6) (hk0 : ∀ x ∈ known, 0 ≤ x)
    (hkn : ∀ x, x ∈ known ↔ x ∈ given ∨ (x ∈ cells ∧ 0 ≤ x)) (hst : cells.count (-1) = stars) (hms : m * stars ≤ 6) (hP : P.rt (.bool true)) :
    (tb_law K).wp [.no, .src, .sh p2, .sh p3, .sh (.int t), .sp (.tuple [.int t, encC cells]) RowF, .no, .sh (.int stars), .sh (.int m), .sh (.list (encI given)), .sh (.list (encI known)), s11, .no, .no, .no, .no, .no, .no, .no, .no] P := by
  have hm0 : 0 ≤ m * stars := Int.mul_nonneg (by omega) (by omega)
  refine w_for_rng (n := m) (pu_var rfl) (by omega) (by omega) ?_
  refine forW_inv (fun i δ => ∃ s12, δ = [.no, .src, .sh p2, .sh p3, .sh (.int t), .sp (.tuple [.int t, encC cells]) RowF, .no, .sh (.int stars), .sh (.int m), .sh (.list (encI given)), .sh (.list (encI known)), s11, s12, .no, .no, .no, .no, .no, .no, .no]) ⟨_, rfl⟩ ?_ ?_
  · rintro i d δ N hd ⟨s12, rfl⟩ hN
    have hi := (List.getElem?_eq_some_iff.mp hd).1
    rw [List.length_map, List.length_range] at hi
    rw [List.getElem?_map, List.getElem?_range hi] at hd
    cases hd
    refine w_if (c := false) (pt_is (pt_neI (n := newW given (i : Nat) m) (m := newW given (i : Nat) m) (pu_callF3 (pu_listL (ds := encI given) (pu_var rfl)) (x := .list (encI given)) (y := .int (i : Nat)) (z := .int m) (pu_var rfl) (pu_var rfl) ⟨given, _, (i : Nat), m, rfl, .inl rfl, hg0, hm1, rfl⟩) (pu_call3 (x := .list (encI given)) (y := .int (i : Nat)) (z := .int m) (pu_var rfl) (pu_var rfl) (pu_var rfl) ⟨_, ⟨given, (i : Nat), m, rfl, hg0, by omega, by omega, hm3, rfl⟩, fun e h => h⟩)) (by simp)) (fun h => by cases h) fun _ => hN _ ⟨_, rfl⟩
  · rintro δ ⟨s12, rfl⟩
    refine w_asg (pu_top rfl hk0) ?_
    refine ⟨by decide, i_rng (n := m * stars) (pu_mul (pu_var rfl) (pu_var rfl) (.inl ⟨by omega, by omega⟩)) (by omega) (by omega) ?_⟩
    refine lcW_map (δ0 := [.no, .src, .sh p2, .sh p3, .sh (.int t), .sp (.tuple [.int t, encC cells]) RowF, .no, .sh (.int stars), .sh (.int m), .sh (.list (encI given)), .sh (.list (encI known)), s11, s12, .sh (.int (topI known)), .no, .no, .no, .no, .no, .no]) (fun i : Nat => PyData.int (i : Nat)) (fun k : Nat => .int (topI known + 1 + (k : Nat))) (List.range (m * stars).toNat) [] (fun k hk C acc h => h) (by rw [List.length_range]; show 0 + _ ≤ _; omega) ?_
    have ef : (List.range (m * stars).toNat).map (fun k : Nat => PyData.int (topI known + 1 + (k : Nat))) = encI (freshL known m stars) := by unfold freshL; rw [encI, List.map_map]; rfl
    have := w_tc (K := K) (p2 := p2) (p3 := p3) (s11 := s11) (s12 := s12) (s13 := .sh (.int (topI known))) (t := t) hm1 hm3 hc3 hcm hg3 hg0 hk6 hk0 hkn hst hms hP
    rw [← ef] at this
    exact this
theorem w_ta {p2 p3 : PyData} {t m : Int} {cells given : List Int} {stars : Nat} {P : Post} (hm1 : 1 ≤ m) (hm3 : m ≤ 3) (hc3 : cells.length ≤ 3) (hcm : ∀ c ∈ cells, -1 ≤ c) (hg3 : given.length ≤ 3) (hg0 : ∀ x ∈ given, 0 ≤ x) (hst : cells.count (-1) = stars) (hms : m * stars ≤ 6) (hP : P.rt (.bool true)) :
    (ta_law K).wp [.no, .src, .sh p2, .sh p3, .sh (.int t), .sp (.tuple [.int t, encC cells]) RowF, .no, .sh (.int stars), .sh (.int m), .sh (.list (encI given)), .no, .no, .no, .no, .no, .no, .no, .no, .no, .no] P := by
  have hfl := List.length_filter_le (fun c => decide (0 ≤ c) && !decide (c ∈ given)) cells
  have hmem : ∀ x, x ∈ given ++ cells.filter (fun c => decide (0 ≤ c) && !decide (c ∈ given)) ↔ x ∈ given ∨ (x ∈ cells ∧ 0 ≤ x) := fun x => by
    rw [List.mem_append, List.mem_filter]
    by_cases h : x ∈ given <;> simp [h]
  refine ⟨by decide, ?_⟩
  refine lcW_flt (δ0 := [.no, .src, .sh p2, .sh p3, .sh (.int t), .sp (.tuple [.int t, encC cells]) RowF, .no, .sh (.int stars), .sh (.int m), .sh (.list (encI given)), .no, .no, .no, .no, .no, .no, .no, .no, .no, .no]) PyData.int PyData.int (fun c => decide (0 ≤ c) && !decide (c ∈ given)) cells [] (fun c hc C acc h => ?_) (by show 0 + _ ≤ _; omega) ?_
  · refine pt_and (pt_ge (n := c) (m := 0) (pu_var rfl) pu_I) (fun _ => pt_ninL (n := c) (ns := given) (pu_var rfl) (pu_var rfl)) _ ?_
    show (if (decide (0 ≤ c) && !decide (c ∈ given)) = true then _ else _)
    by_cases q : (decide (0 ≤ c) && !decide (c ∈ given)) = true
    · rw [if_pos q] at h ⊢; exact h
    · rw [if_neg q] at h ⊢; exact h
  · refine ⟨by rw [List.length_append, List.length_map, List.length_map]; show _ + (0 + _) ≤ _; omega, ?_⟩
    have := w_tb (K := K) (p2 := p2) (p3 := p3) (s11 := .no) (t := t) (known := given ++ cells.filter (fun c => decide (0 ≤ c) && !decide (c ∈ given))) hm1 hm3 hc3 hcm hg3 hg0 (by rw [List.length_append]; omega) (fun x hx => ((hmem x).1 hx).elim (hg0 x) (·.2)) hmem hst hms hP
    have e : encI (given ++ cells.filter (fun c => decide (0 ≤ c) && !decide (c ∈ given))) = encI given ++ encI (cells.filter (fun c => decide (0 ≤ c) && !decide (c ∈ given))) := List.map_append
    rw [e] at this
    exact this
theorem pu_band {i : Nat} {δ : Env} {n : Nat} {a b : Int} (h : rdS δ[i]? = some (.int n)) : Pu (.ife (.tst (.op oLt (.var i) (eI 3))) (eI a) (eI b)) δ (.int (if n < 3 then a else b)) :=
  pu_ife (pt_lt (n := n) (m := 3) (pu_var h) pu_I) (fun h => pu_is pu_I (by have := of_decide_eq_true h; rw [if_pos (by omega)])) (fun h => pu_is pu_I (by have := of_decide_eq_false h; rw [if_neg (by omega)]))
theorem w_law {P : Post} (hP : P.rt (.bool true)) : (b_law K).wp [.no, .src, .no, .no, .no, .no, .no, .no, .no, .no, .no, .no, .no, .no, .no, .no, .no, .no, .no, .no] P := by
  refine ⟨trivial, _, ⟨5, rfl, by decide, by decide, rfl⟩, ?_⟩
  rintro _ ⟨pool, rfl, hpl, hpa, hp0⟩
  refine ⟨trivial, _, ⟨3, rfl, by decide, by decide, rfl⟩, ?_⟩
  rintro _ ⟨wd, rfl, hw0, hw3⟩
  refine ⟨trivial, _, ⟨3, rfl, by decide, by decide, rfl⟩, ?_⟩
  rintro _ ⟨t, rfl, ht0, ht3⟩
  refine ⟨by decide, i_rng (n := 1 + wd) (pu_var rfl) (by omega) (by omega) ?_⟩
  refine lcW_draw (δ0 := [.no, .src, .sh (.list (encI pool)), .sh (.int (1 + wd)), .sh (.int t), .no, .no, .no, .no, .no, .no, .no, .no, .no, .no, .no, .no, .no, .no, .no]) (fun i : Nat => PyData.int (i : Nat)) (fun x => ∃ c, x = .int c ∧ -1 ≤ c) (List.range (1 + wd).toNat) [] (fun i hi C acc h => ?_) (by rw [List.length_range]; show 0 + _ ≤ _; omega) fun xs hl hx => ?_
  · have hi := List.mem_range.mp hi
    obtain ⟨x, hx⟩ : ∃ x, pool[i]? = some x := ⟨pool[i]'(by omega), List.getElem?_eq_getElem (by omega)⟩
    have hx0 := hp0 x (List.mem_of_getElem? hx)
    refine ⟨trivial, pu_lst4 pu_neg1 pu_neg1 pu_neg1 (pu_ixL (ds := encI pool) (n := (i : Nat)) (x := .int x) (pu_var rfl) (pu_var rfl) (atI_nat (by rw [List.getElem?_map, hx]; rfl))) _ ⟨_, ⟨_, rfl, by show 0 < 4; decide, by show 4 ≤ 1000; decide, rfl⟩, fun y hy => h y ?_⟩⟩
    rcases List.mem_cons.mp hy with rfl | hy
    · exact ⟨-1, rfl, by decide⟩
    rcases List.mem_cons.mp hy with rfl | hy
    · exact ⟨-1, rfl, by decide⟩
    rcases List.mem_cons.mp hy with rfl | hy
    · exact ⟨-1, rfl, by decide⟩
    rw [List.mem_singleton.mp hy]
    exact ⟨x, rfl, by omega⟩
  obtain ⟨cells, rfl, hcm⟩ := ints_of hx
  rw [List.length_map, List.length_range] at hl
  have hc3 : cells.length ≤ 3 := by omega
  have hct : cells.count (-1) ≤ 3 := Nat.le_trans List.count_le_length hc3
  refine ⟨cells, rfl, ?_⟩
  refine ⟨_, cells, rfl, ?_⟩
  refine ⟨trivial, pu_band (n := cells.count (-1)) (a := 3) (b := 2) rfl _ ⟨_, ⟨_, rfl, by split <;> decide, by split <;> decide, rfl⟩, ?_⟩⟩
  rintro _ ⟨m, rfl, hm0, hm3⟩
  refine ⟨trivial, _, ⟨encI pool, rfl, by rw [List.length_map]; omega, rfl⟩, ?_⟩
  rintro _ ⟨ys, rfl, hyl, hym⟩
  refine ⟨trivial, pu_band (n := cells.count (-1)) (a := 4) (b := 3) rfl _ ⟨_, ⟨_, rfl, by split <;> decide, by split <;> decide, rfl⟩, ?_⟩⟩
  rintro _ ⟨n, rfl, hn0, hn4⟩
  refine ⟨hn0, ?_⟩
  obtain ⟨zs, rfl, hz⟩ := ints_of (xs := ys) (χ := fun c => 0 ≤ c) fun y hy => by
    obtain ⟨c, hc, rfl⟩ := List.mem_map.mp (hym y hy)
    exact ⟨c, rfl, hp0 c hc⟩
  have b1 : 1 + m ≤ 3 := by split at hm3 <;> omega
  have b2 : (1 + m) * ((cells.count (-1) : Nat) : Int) ≤ 6 := by
    by_cases h : cells.count (-1) < 3
    · have : (1 + m) * ((cells.count (-1) : Nat) : Int) ≤ 3 * 2 := Int.mul_le_mul b1 (by omega) (by omega) (by omega)
      omega
    · rw [if_neg h] at hm3
      have : (1 + m) * ((cells.count (-1) : Nat) : Int) ≤ 2 * 3 := Int.mul_le_mul (by omega) (by omega) (by omega) (by omega)
      omega
  have := w_ta (K := K) (p2 := .list (encI pool)) (p3 := .int (1 + wd)) (t := t) (m := 1 + m) (cells := cells) (given := zs.take n.toNat) (by omega) b1 hc3 hcm (by rw [List.length_take]; split at hn4 <;> omega) (fun x hx => hz x (List.mem_of_mem_take hx)) rfl b2 hP
  have e : encI (zs.take n.toNat) = (encI zs).take n.toNat := List.map_take
  rw [e] at this
  exact this
end
end Rx

namespace Rx
open PySem PySem.Spec PyProof.Rows L2 Dv K0
open Evl (Ex)
theorem txt_mk {K : PySem.W.Frag} {h : Heap} {mg : Str → Option Value} {x : Str} {st : Stmt} {ps : List Str} {f : Addr} {oc : Value} {od an : Option Addr} {osl : Array (Option Value)} {kV doc pm cdv ct : Value} (X : K.In h) (G : h.Ns mainGlobals mg)
    (a : PySem.W.nsIn K mainGlobals x = some (some (.ref f))) (l : K.lookup f = some ⟨oc, od, .func (PySem.W.fnOf x x (defArgs st) (defBody st) (defScope st) .none kV doc pm an cdv ct), osl⟩) (c : PySem.W.codeIn K cdv x = true) (k : PySem.W.keepIn K (.ref f) = true)
    (hb : ∀ (kV doc pm : Value) (an : Option Addr) (cdv ct : Value) (us : List Value), us.length = ps.length → bindArgs (PySem.W.fnOf x x (defArgs st) (defBody st) (defScope st) .none kV doc pm an cdv ct) ⟨us, []⟩ = pure (ps.zip us)) : Txt K mg x st ps :=
  ⟨f, _, PySem.W.mg_of X G a, fun_mk l c k, (fun_mk l c k).binds hb⟩
def spLaw (K : PySem.W.Frag) : Sp := fun vs H Q _ => ∃ (a : Addr) (ns : List Int), vs = [.ref a] ∧ SqL K H a (ns.map V.int) ∧ ns.length ≤ 63 ∧ ∀ H', Q (.bl true) H'
/-- behind the drawn source -/
theorem law_run {s : S} {n : Nat} {K : PySem.W.Frag} {S C : Addr} {G H : Hp} {v0 : V} (p : Pre (some (S, C)) G H) (hw : s.wp (.no :: .src :: List.replicate n .no) { nx := fun _ => False, rt := (· = .bool true) }) {Q : VK} (q : ∀ H', Q (.bl true) H') :
    s.tr K { nx := fun _ H' => Q .non H', rt := Q } (some v0 :: some (.ref S) :: List.replicate n none) H := by
  have no : ∀ (i : Nat) (c : Ct), (Sl.no :: Sl.src :: List.replicate n Sl.no)[i]? = some (Sl.ol c) → False := fun i c e => by
    have := List.mem_of_getElem? e
    rcases List.mem_cons.mp this with h | h
    · cases h
    rcases List.mem_cons.mp h with h | h
    · cases h
    · cases (List.mem_replicate.mp h).2
  refine Rx.S.ok s _ _ hw G H _ G H ⟨Go.refl p, ⟨by simp, fun i t e => ?_, fun i j a ds es e => (no i ds e).elim⟩, fun a ⟨i, c, e, _⟩ => (no i c e).elim⟩ _ ⟨fun _ _ _ _ _ _ h => h.elim, fun v d G' H' go k h => ?_, fun _ _ _ _ _ _ h => h.elim, fun _ _ _ _ _ _ h => h.elim⟩
  · match i, e with
    | 0, e => cases e; trivial
    | 1, e => cases e; exact ⟨S, C, rfl, rfl⟩
    | i + 2, e =>
      have e' : (List.replicate n Sl.no)[i]? = some t := e
      have := (List.mem_replicate.mp (List.mem_of_getElem? e')).2
      subst this
      trivial
  · subst h
    rw [k.blV]
    exact q H'
theorem bd_sorted_things (kV doc pm : Value) (an : Option Addr) (cdv ct : Value) (us : List Value) (hl : us.length = (p_sorted_things).length) : bindArgs (PySem.W.fnOf "sorted_things" "sorted_things" (defArgs s_sorted_things) (defBody s_sorted_things) (defScope s_sorted_things) .none kV doc pm an cdv ct) ⟨us, []⟩ = pure ((p_sorted_things).zip us) := match us, hl with | [_], _ => rfl
theorem bd_worths_of (kV doc pm : Value) (an : Option Addr) (cdv ct : Value) (us : List Value) (hl : us.length = (p_worths_of).length) : bindArgs (PySem.W.fnOf "worths_of" "worths_of" (defArgs s_worths_of) (defBody s_worths_of) (defScope s_worths_of) .none kV doc pm an cdv ct) ⟨us, []⟩ = pure ((p_worths_of).zip us) := match us, hl with | [_], _ => rfl
theorem bd_new_worth (kV doc pm : Value) (an : Option Addr) (cdv ct : Value) (us : List Value) (hl : us.length = (p_new_worth).length) : bindArgs (PySem.W.fnOf "new_worth" "new_worth" (defArgs s_new_worth) (defBody s_new_worth) (defScope s_new_worth) .none kV doc pm an cdv ct) ⟨us, []⟩ = pure ((p_new_worth).zip us) := match us, hl with | [_, _, _], _ => rfl
theorem bd_typical_rows (kV doc pm : Value) (an : Option Addr) (cdv ct : Value) (us : List Value) (hl : us.length = (p_typical_rows).length) : bindArgs (PySem.W.fnOf "typical_rows" "typical_rows" (defArgs s_typical_rows) (defBody s_typical_rows) (defScope s_typical_rows) .none kV doc pm an cdv ct) ⟨us, []⟩ = pure ((p_typical_rows).zip us) := match us, hl with | [_, _, _], _ => rfl
theorem bd_typical_choices (kV doc pm : Value) (an : Option Addr) (cdv ct : Value) (us : List Value) (hl : us.length = (p_typical_choices).length) : bindArgs (PySem.W.fnOf "typical_choices" "typical_choices" (defArgs s_typical_choices) (defBody s_typical_choices) (defScope s_typical_choices) .none kV doc pm an cdv ct) ⟨us, []⟩ = pure ((p_typical_choices).zip us) := match us, hl with | [_, _, _], _ => rfl
theorem bd_next_choices (kV doc pm : Value) (an : Option Addr) (cdv ct : Value) (us : List Value) (hl : us.length = (p_next_choices).length) : bindArgs (PySem.W.fnOf "next_choices" "next_choices" (defArgs s_next_choices) (defBody s_next_choices) (defScope s_next_choices) .none kV doc pm an cdv ct) ⟨us, []⟩ = pure ((p_next_choices).zip us) := match us, hl with | [_, _, _], _ => rfl
theorem bd__law_source (kV doc pm : Value) (an : Option Addr) (cdv ct : Value) (us : List Value) (hl : us.length = (p__law_source).length) : bindArgs (PySem.W.fnOf "_law_source" "_law_source" (defArgs s__law_source) (defBody s__law_source) (defScope s__law_source) .none kV doc pm an cdv ct) ⟨us, []⟩ = pure ((p__law_source).zip us) := match us, hl with | [_], _ => rfl
theorem bd__law_take (kV doc pm : Value) (an : Option Addr) (cdv ct : Value) (us : List Value) (hl : us.length = (p__law_take).length) : bindArgs (PySem.W.fnOf "_law_take" "_law_take" (defArgs s__law_take) (defBody s__law_take) (defScope s__law_take) .none kV doc pm an cdv ct) ⟨us, []⟩ = pure ((p__law_take).zip us) := match us, hl with | [_, _], _ => rfl
theorem bd__law_pick (kV doc pm : Value) (an : Option Addr) (cdv ct : Value) (us : List Value) (hl : us.length = (p__law_pick).length) : bindArgs (PySem.W.fnOf "_law_pick" "_law_pick" (defArgs s__law_pick) (defBody s__law_pick) (defScope s__law_pick) .none kV doc pm an cdv ct) ⟨us, []⟩ = pure ((p__law_pick).zip us) := match us, hl with | [_, _], _ => rfl
theorem bd__law_mixed (kV doc pm : Value) (an : Option Addr) (cdv ct : Value) (us : List Value) (hl : us.length = (p__law_mixed).length) : bindArgs (PySem.W.fnOf "_law_mixed" "_law_mixed" (defArgs s__law_mixed) (defBody s__law_mixed) (defScope s__law_mixed) .none kV doc pm an cdv ct) ⟨us, []⟩ = pure ((p__law_mixed).zip us) := match us, hl with | [_, _], _ => rfl
theorem bd__law_pool (kV doc pm : Value) (an : Option Addr) (cdv ct : Value) (us : List Value) (hl : us.length = (p__law_pool).length) : bindArgs (PySem.W.fnOf "_law_pool" "_law_pool" (defArgs s__law_pool) (defBody s__law_pool) (defScope s__law_pool) .none kV doc pm an cdv ct) ⟨us, []⟩ = pure ((p__law_pool).zip us) := match us, hl with | [_, _], _ => rfl
theorem bd__law_longer (kV doc pm : Value) (an : Option Addr) (cdv ct : Value) (us : List Value) (hl : us.length = (p__law_longer).length) : bindArgs (PySem.W.fnOf "_law_longer" "_law_longer" (defArgs s__law_longer) (defBody s__law_longer) (defScope s__law_longer) .none kV doc pm an cdv ct) ⟨us, []⟩ = pure ((p__law_longer).zip us) := match us, hl with | [_, _], _ => rfl
theorem bd__law_unlike (kV doc pm : Value) (an : Option Addr) (cdv ct : Value) (us : List Value) (hl : us.length = (p__law_unlike).length) : bindArgs (PySem.W.fnOf "_law_unlike" "_law_unlike" (defArgs s__law_unlike) (defBody s__law_unlike) (defScope s__law_unlike) .none kV doc pm an cdv ct) ⟨us, []⟩ = pure ((p__law_unlike).zip us) := match us, hl with | [_], _ => rfl
theorem bd__law_least_above (kV doc pm : Value) (an : Option Addr) (cdv ct : Value) (us : List Value) (hl : us.length = (p__law_least_above).length) : bindArgs (PySem.W.fnOf "_law_least_above" "_law_least_above" (defArgs s__law_least_above) (defBody s__law_least_above) (defScope s__law_least_above) .none kV doc pm an cdv ct) ⟨us, []⟩ = pure ((p__law_least_above).zip us) := match us, hl with | [_, _, _], _ => rfl
theorem bd__law_kind (kV doc pm : Value) (an : Option Addr) (cdv ct : Value) (us : List Value) (hl : us.length = (p__law_kind).length) : bindArgs (PySem.W.fnOf "_law_kind" "_law_kind" (defArgs s__law_kind) (defBody s__law_kind) (defScope s__law_kind) .none kV doc pm an cdv ct) ⟨us, []⟩ = pure ((p__law_kind).zip us) := match us, hl with | [_, _, _, _], _ => rfl
theorem bd_law (kV doc pm : Value) (an : Option Addr) (cdv ct : Value) (us : List Value) (hl : us.length = (p_law).length) : bindArgs (PySem.W.fnOf "law" "law" (defArgs s_law) (defBody s_law) (defScope s_law) .none kV doc pm an cdv ct) ⟨us, []⟩ = pure ((p_law).zip us) := match us, hl with | [_], _ => rfl
theorem law_all {l : PySem.W.OpenLaw} {w : World} {K : PySem.W.Frag} {mg : Str → Option Value} {fa : Addr} (hfa : mg "law" = some (.ref fa)) {tk : Tok} (mS : mg "STAR" = some (.int (-1) tk)) (t_sorted_things : Txt K mg "sorted_things" s_sorted_things p_sorted_things) (t_worths_of : Txt K mg "worths_of" s_worths_of p_worths_of) (t_new_worth : Txt K mg "new_worth" s_new_worth p_new_worth) (t_typical_rows : Txt K mg "typical_rows" s_typical_rows p_typical_rows) (t_typical_choices : Txt K mg "typical_choices" s_typical_choices p_typical_choices) (t_next_choices : Txt K mg "next_choices" s_next_choices p_next_choices) (t__law_source : Txt K mg "_law_source" s__law_source p__law_source) (t__law_take : Txt K mg "_law_take" s__law_take p__law_take) (t__law_pick : Txt K mg "_law_pick" s__law_pick p__law_pick) (t__law_mixed : Txt K mg "_law_mixed" s__law_mixed p__law_mixed) (t__law_pool : Txt K mg "_law_pool" s__law_pool p__law_pool) (t__law_longer : Txt K mg "_law_longer" s__law_longer p__law_longer) (t__law_unlike : Txt K mg "_law_unlike" s__law_unlike p__law_unlike) (t__law_least_above : Txt K mg "_law_least_above" s__law_least_above p__law_least_above) (t__law_kind : Txt K mg "_law_kind" s__law_kind p__law_kind) (t_law : Txt K mg "law" s_law p_law) (z_sorted : mg "sorted" = none) (z_tuple : mg "tuple" = none) (z_list : mg "list" = none) (z_len : mg "len" = none) (z_int : mg "int" = none) (z_range : mg "range" = none) (z_max : mg "max" = none) :
    ∃ fd : FuncData, (∀ (s : Shared) (v : Value), BindsTo s fd ⟨[v], []⟩ [("_law_script", v)]) ∧ ∀ base : Heap, K.In base → base.Ns mainGlobals mg → FnOk l.prog w K mg base CX0 4 fa fd ["_law_script"] (spLaw K) := by
  obtain ⟨f, fd, m, F, b⟩ := t_law
  have e := hfa.symm.trans m
  cases e
  obtain ⟨oc, od, kV, doc, pm, an, cdv, ct, osl, rfl, lk, hcd⟩ := id F.ex
  refine ⟨PySem.W.fnOf "law" "law" (defArgs s_law) (defBody s_law) (defScope s_law) .none kV doc pm an cdv ct, fun s v => .of_eq rfl, fun base _ _ => ?_⟩
  have cSo := ok_source (P := l.prog) (w := w) (base := base) t__law_source z_list
  have cTk := ok_take (P := l.prog) (w := w) (base := base) t__law_take z_len z_int
  have cPi := ok_pick (P := l.prog) (w := w) (base := base) t__law_pick z_len cTk
  have cPo := ok_pool (P := l.prog) (w := w) (base := base) t__law_pool z_range cTk cPi
  have cMx := ok_mixed (P := l.prog) (w := w) (base := base) t__law_mixed z_list z_len z_range cTk
  have cLo := ok_longer (P := l.prog) (w := w) (base := base) t__law_longer
  have cS := ok_sorted (P := l.prog) (w := w) (base := base) t_sorted_things z_sorted z_tuple
  have cN := K0.ok_new (P := l.prog) (w := w) (base := base) t_new_worth z_max
  have cW := Rx.ok_worths (P := l.prog) (w := w) (base := base) t_worths_of cS
  have cNx := Rx.ok_next (P := l.prog) (w := w) (base := base) t_next_choices z_list z_len
  have cCh := Rx.ok_choices (P := l.prog) (w := w) (base := base) t_typical_choices cN cNx z_range
  have cR := Rx.ok_rows (P := l.prog) (w := w) (base := base) t_typical_rows z_list z_tuple mS cS cW cCh
  have cL := Rx.ok_least (P := l.prog) (w := w) (base := base) t__law_least_above z_max z_range z_int
  have cU := Rx.ok_unlike (P := l.prog) (w := w) (base := base) t__law_unlike z_sorted z_len z_range
  have cK := Rx.ok_kind (P := l.prog) (w := w) (base := base) t__law_kind z_range z_len z_int z_tuple cL
  refine F.ok sc_law (fun vs H Q E h => ?_) (fun cdv A outer s H vs Q E hr h => ?_)
  · obtain ⟨a, ns, rfl, _⟩ := h
    rfl
  · obtain ⟨sa, ns, rfl, hS, hlen, q⟩ := h
    refine ⟨_, op_law z_range z_len z_list z_tuple z_max cSo cTk cPi cMx cPo cLo cN cL cU cK cR _ cdv A outer s H E hr, ?_⟩
    refine ⟨_, rfl, sa, ns, rfl, hS, fun S C H1 ex1 hS0 hC0 sat => ?_⟩
    have P0 : Pre (some (S, C)) (fun _ => none) H1 := ⟨fun a o e => (nomatch e), fun S' C' e => by
      cases e
      exact ⟨rfl, ns, 0, 0, 1, sat.hS, sat.ne, sat.hC, hlen, by decide, by decide, by decide, by decide⟩⟩
    exact law_run (s := b_law K) (n := 18) P0 (w_law rfl) q
end Rx
open PySem PySem.W PyProof.Rows
set_option maxHeartbeats 0 in
theorem PySem.Challenge.cw_soonestsaid_k01_typical_rows_one_for_eac_holds : PySem.Challenge.rw_soonestsaid_k01_typical_rows_one_for_eac.Holds := by
  w_on; o_law; k_head; (case hw => w_witness2)
  k_fill
  refine L2.walk_of (l := PySem.Challenge.rw_soonestsaid_k01_typical_rows_one_for_eac) (n := 63) (k := 4) (x := "_law_script") (CX := fun _ => L2.CX0) (sp := fun w => Rx.spLaw _) rfl (by decide) rfl ⟨rfl, by decide, by decide⟩ (fun w h Y => PySem.W.kIn_of Y) ?F (fun _ _ a ns hl _ hS => ⟨a, ns, rfl, hS, hl, fun _ => rfl⟩) (fun _ _ _ _ _ h => h)
  case F =>
    intro w mg fa h KX G hmg
    refine' Rx.law_all hmg (PySem.W.mg_of KX G ?star) (Rx.txt_mk KX G ?a0 ?l0 ?c0 ?k0 Rx.bd_sorted_things) (Rx.txt_mk KX G ?a1 ?l1 ?c1 ?k1 Rx.bd_worths_of) (Rx.txt_mk KX G ?a2 ?l2 ?c2 ?k2 Rx.bd_new_worth) (Rx.txt_mk KX G ?a3 ?l3 ?c3 ?k3 Rx.bd_typical_rows) (Rx.txt_mk KX G ?a4 ?l4 ?c4 ?k4 Rx.bd_typical_choices) (Rx.txt_mk KX G ?a5 ?l5 ?c5 ?k5 Rx.bd_next_choices) (Rx.txt_mk KX G ?a6 ?l6 ?c6 ?k6 Rx.bd__law_source) (Rx.txt_mk KX G ?a7 ?l7 ?c7 ?k7 Rx.bd__law_take) (Rx.txt_mk KX G ?a8 ?l8 ?c8 ?k8 Rx.bd__law_pick) (Rx.txt_mk KX G ?a9 ?l9 ?c9 ?k9 Rx.bd__law_mixed) (Rx.txt_mk KX G ?a10 ?l10 ?c10 ?k10 Rx.bd__law_pool) (Rx.txt_mk KX G ?a11 ?l11 ?c11 ?k11 Rx.bd__law_longer) (Rx.txt_mk KX G ?a12 ?l12 ?c12 ?k12 Rx.bd__law_unlike) (Rx.txt_mk KX G ?a13 ?l13 ?c13 ?k13 Rx.bd__law_least_above) (Rx.txt_mk KX G ?a14 ?l14 ?c14 ?k14 Rx.bd__law_kind) (Rx.txt_mk KX G ?a15 ?l15 ?c15 ?k15 Rx.bd_law) (PySem.W.mg_none_of KX G ?z0) (PySem.W.mg_none_of KX G ?z1) (PySem.W.mg_none_of KX G ?z2) (PySem.W.mg_none_of KX G ?z3) (PySem.W.mg_none_of KX G ?z4) (PySem.W.mg_none_of KX G ?z5) (PySem.W.mg_none_of KX G ?z6)
    (case star => k_is)
    (case a0 => k_is); (case l0 => k_is); (case c0 => k_is); (case k0 => k_is)
    (case a1 => k_is); (case l1 => k_is); (case c1 => k_is); (case k1 => k_is)
    (case a2 => k_is); (case l2 => k_is); (case c2 => k_is); (case k2 => k_is)
    (case a3 => k_is); (case l3 => k_is); (case c3 => k_is); (case k3 => k_is)
    (case a4 => k_is); (case l4 => k_is); (case c4 => k_is); (case k4 => k_is)
    (case a5 => k_is); (case l5 => k_is); (case c5 => k_is); (case k5 => k_is)
    (case a6 => k_is); (case l6 => k_is); (case c6 => k_is); (case k6 => k_is)
    (case a7 => k_is); (case l7 => k_is); (case c7 => k_is); (case k7 => k_is)
    (case a8 => k_is); (case l8 => k_is); (case c8 => k_is); (case k8 => k_is)
    (case a9 => k_is); (case l9 => k_is); (case c9 => k_is); (case k9 => k_is)
    (case a10 => k_is); (case l10 => k_is); (case c10 => k_is); (case k10 => k_is)
    (case a11 => k_is); (case l11 => k_is); (case c11 => k_is); (case k11 => k_is)
    (case a12 => k_is); (case l12 => k_is); (case c12 => k_is); (case k12 => k_is)
    (case a13 => k_is); (case l13 => k_is); (case c13 => k_is); (case k13 => k_is)
    (case a14 => k_is); (case l14 => k_is); (case c14 => k_is); (case k14 => k_is)
    (case a15 => k_is); (case l15 => k_is); (case c15 => k_is); (case k15 => k_is)
    (case z0 => k_is)
    (case z1 => k_is)
    (case z2 => k_is)
    (case z3 => k_is)
    (case z4 => k_is)
    (case z5 => k_is)
    (case z6 => k_is)

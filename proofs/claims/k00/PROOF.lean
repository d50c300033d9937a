import PyProof.Rows.All
import Wide.All
import OpenK.AllK
import Wide.FinOn
import PySem.Challenge.RW_soonestsaid_k00_patterns_against_all_row
import HandS.ForMost
import HandS.Evl
import HandS.Walk
import HandS.Zip
import HandS.Conv
import HandS.Star
import HandS.TupAny
import HandS.TupMul
import HandS.IsInst
import HandS.Style
import HandS.Wide
set_option Elab.async false
set_option linter.all false
set_option maxRecDepth 100000
/-! what a program does with plain data: known objects (G) within the heap (H) -/
namespace Dv
open PySem PySem.Spec PyProof.Rows L2
open Evl (Ex)

/-! ### data -/
mutual
inductive Da (G : Hp) : V → PyData → Prop
  | non : Da G .non .none
  | bl (b : Bool) : Da G (.bl b) (.bool b)
  | int (i : Int) : Da G (.int i) (.int i)
  | lst {a : Addr} {xs : List V} {ds : List PyData} : G a = some (.lst xs) → DaA G xs ds → Da G (.ref a) (.list ds)
  | tup {a : Addr} {xs : List V} {ds : List PyData} : G a = some (.tup xs) → DaA G xs ds → Da G (.ref a) (.tuple ds)
inductive DaA (G : Hp) : List V → List PyData → Prop
  | nil : DaA G [] []
  | cons {v : V} {vs : List V} {d : PyData} {ds : List PyData} : Da G v d → DaA G vs ds → DaA G (v :: vs) (d :: ds)
end
mutual
theorem Da.mono {G G' : Hp} (e : Ex G G') : ∀ {v : V} {d : PyData}, Da G v d → Da G' v d
  | _, _, .non => .non
  | _, _, .bl b => .bl b
  | _, _, .int i => .int i
  | _, _, .lst h k => .lst (e _ _ h) (DaA.mono e k)
  | _, _, .tup h k => .tup (e _ _ h) (DaA.mono e k)
theorem DaA.mono {G G' : Hp} (e : Ex G G') : ∀ {vs : List V} {ds : List PyData}, DaA G vs ds → DaA G' vs ds
  | _, _, .nil => .nil
  | _, _, .cons h k => .cons (Da.mono e h) (DaA.mono e k)
end
mutual
theorem Da.dp {K : PySem.W.Frag} {G : Hp} : ∀ {v : V} {d : PyData}, Da G v d → Dp K G v d
  | _, _, .non => .non
  | _, _, .bl b => .bl b
  | _, _, .int i => .int i
  | _, _, .lst h k => .lst (.inl (.inl h)) (DaA.dp k)
  | _, _, .tup h k => .tup (.inl (.inl h)) (DaA.dp k)
theorem DaA.dp {K : PySem.W.Frag} {G : Hp} : ∀ {vs : List V} {ds : List PyData}, DaA G vs ds → DpAll K G vs ds
  | _, _, .nil => .nil
  | _, _, .cons h k => .cons (Da.dp h) (DaA.dp k)
end
theorem DaA.length {G : Hp} : ∀ {vs : List V} {ds : List PyData}, DaA G vs ds → vs.length = ds.length
  | _, _, .nil => rfl
  | _, _, .cons _ k => congrArg (· + 1) k.length
theorem DaA.get {G : Hp} : ∀ {vs : List V} {ds : List PyData}, DaA G vs ds → ∀ {i : Nat} {d : PyData}, ds[i]? = some d → ∃ v, vs[i]? = some v ∧ Da G v d
  | _, _, .cons h _, 0, _, e => ⟨_, rfl, by cases e; exact h⟩
  | _, _, .cons _ k, i + 1, _, e => k.get (i := i) e
theorem DaA.getV {G : Hp} : ∀ {vs : List V} {ds : List PyData}, DaA G vs ds → ∀ {i : Nat} {v : V}, vs[i]? = some v → ∃ d, ds[i]? = some d ∧ Da G v d
  | _, _, .cons h _, 0, _, e => ⟨_, rfl, by cases e; exact h⟩
  | _, _, .cons _ k, i + 1, _, e => k.getV (i := i) e
theorem DaA.app {G : Hp} : ∀ {vs ws : List V} {ds es : List PyData}, DaA G vs ds → DaA G ws es → DaA G (vs ++ ws) (ds ++ es)
  | _, _, _, _, .nil, k => k
  | _, _, _, _, .cons h t, k => .cons h (t.app k)
theorem DaA.snoc {G : Hp} {vs : List V} {ds : List PyData} {v : V} {d : PyData} (h : DaA G vs ds) (k : Da G v d) : DaA G (vs ++ [v]) (ds ++ [d]) := h.app (.cons k .nil)
theorem DaA.ints {G : Hp} : ∀ (ns : List Int), DaA G (ns.map V.int) (ns.map PyData.int)
  | [] => .nil
  | n :: ns => .cons (.int n) (DaA.ints ns)
theorem Da.intV {G : Hp} {v : V} {i : Int} (h : Da G v (.int i)) : v = .int i := by cases h; rfl
theorem Da.blV {G : Hp} {v : V} {i : Bool} (h : Da G v (.bool i)) : v = .bl i := by cases h; rfl
theorem Da.nonV {G : Hp} {v : V} (h : Da G v .none) : v = .non := by cases h; rfl
theorem Da.lstV {G : Hp} {v : V} {ds : List PyData} (h : Da G v (.list ds)) : ∃ a xs, v = .ref a ∧ G a = some (.lst xs) ∧ DaA G xs ds := by
  cases h with
  | lst h k => exact ⟨_, _, rfl, h, k⟩
theorem Da.tupV {G : Hp} {v : V} {ds : List PyData} (h : Da G v (.tuple ds)) : ∃ a xs, v = .ref a ∧ G a = some (.tup xs) ∧ DaA G xs ds := by
  cases h with
  | tup h k => exact ⟨_, _, rfl, h, k⟩
theorem DaA.intsV {G : Hp} : ∀ {vs : List V} {ns : List Int}, DaA G vs (ns.map PyData.int) → vs = ns.map V.int
  | [], [], _ => rfl
  | v :: vs, n :: ns, .cons h k => by
    rw [DaA.intsV k, Da.intV h]; rfl
theorem DaA.blsV {G : Hp} : ∀ {vs : List V} {ns : List Bool}, DaA G vs (ns.map PyData.bool) → vs = ns.map V.bl
  | [], [], _ => rfl
  | v :: vs, n :: ns, .cons h k => by
    rw [DaA.blsV k, Da.blV h]; rfl
theorem DaA.nilV {G : Hp} {vs : List V} (h : DaA G vs []) : vs = [] := by cases h; rfl
theorem DaA.consV {G : Hp} {vs : List V} {d : PyData} {ds : List PyData} (h : DaA G vs (d :: ds)) : ∃ v ws, vs = v :: ws ∧ Da G v d ∧ DaA G ws ds := by
  cases h with
  | cons h k => exact ⟨_, _, rfl, h, k⟩

/-! ### what is known, and what may change: T none: nothing; T = (S, C): the list at S, a drawn source over the cells at C -/
abbrev Tw := Option (Addr × Addr)
def SrcOk (H : Hp) (S C : Addr) : Prop := ∃ (ns : List Int) (p r z : Int), H S = some (.lst [.ref C, .int p, .int r, .int z]) ∧ C ≠ S ∧ H C = some (.lst (ns.map V.int)) ∧ ns.length ≤ 63 ∧ 0 ≤ p ∧ 0 ≤ r ∧ 0 ≤ z ∧ z < 2147483647
def Pre (T : Tw) (G H : Hp) : Prop := Ex G H ∧ ∀ S C, T = some (S, C) → G S = none ∧ SrcOk H S C
structure Stp (T : Tw) (G H G' H' : Hp) : Prop where
  ex : Ex G G'
  fr : ∀ a o, G' a = some o → G a = none → H a = none
  fm : ∀ a o, (∀ C, T ≠ some (a, C)) → H a = some o → H' a = some o
  pre : Pre T G' H'
theorem Stp.refl {T : Tw} {G H : Hp} (h : Pre T G H) : Stp T G H G H := ⟨Ex.refl _, fun a o x y => (by rw [x] at y; cases y), fun _ _ _ h => h, h⟩
theorem Pre.notS {T : Tw} {G H : Hp} (h : Pre T G H) {a : Addr} {o : HO} (e : G a = some o) : ∀ C, T ≠ some (a, C) := fun C z => by
  have := (h.2 a C z).1
  rw [e] at this
  cases this
theorem Pre.freshS {T : Tw} {G H : Hp} (h : Pre T G H) {a : Addr} (e : H a = none) : ∀ C, T ≠ some (a, C) := fun C z => by
  obtain ⟨_, _, _, _, q, _⟩ := (h.2 a C z).2
  rw [e] at q
  cases q
theorem Stp.trans {T : Tw} {G H G1 H1 G2 H2 : Hp} (a : Stp T G H G1 H1) (b : Stp T G1 H1 G2 H2) : Stp T G H G2 H2 := by
  refine ⟨a.ex.trans b.ex, fun x o h2 h0 => ?_, fun x o n h => b.fm x o n (a.fm x o n h), b.pre⟩
  cases h1 : G1 x with
  | some o1 => exact a.fr x o1 h1 h0
  | none =>
    have q := b.fr x o h2 h1
    cases h : H x with
    | none => rfl
    | some o' =>
      have := a.fm x o' (b.pre.notS h2) h
      rw [q] at this
      cases this
theorem Stp.new {T : Tw} {G H : Hp} (h : Pre T G H) {p : Addr} (o : HO) (hp : H p = none) : Stp T G H (upd G p o) (upd H p o) := by
  have gp : G p = none := Evl.fresh_back h.1 hp
  refine ⟨Ex.new gp, fun a u x y => ?_, fun a u n q => ?_, fun a u x => ?_, fun S C e => ?_⟩
  · by_cases e : a = p
    · rw [e]; exact hp
    · rw [upd_ne e, y] at x; cases x
  · rw [upd_ne (ne_of_none q hp)]; exact q
  · by_cases e : a = p
    · rw [e, upd_same] at x ⊢; exact x
    · rw [upd_ne e] at x ⊢; exact h.1 a u x
  · obtain ⟨g, ns, p', r, z, h1, h2, h3, h4⟩ := h.2 S C e
    refine ⟨?_, ns, p', r, z, ?_, h2, ?_, h4⟩
    · rw [upd_ne (ne_of_none h1 hp)]; exact g
    · rw [upd_ne (ne_of_none h1 hp)]; exact h1
    · rw [upd_ne (ne_of_none h3 hp)]; exact h3
/-- a list that was not known at the beginning may change, while it is kept apart from what is known -/
theorem Stp.mut {T : Tw} {G H G1 H1 : Hp} (s : Stp T G H G1 H1) (h : Pre T G H) {l : Addr} (o : HO) (hl : H l = none) (gl : G1 l = none) : Stp T G H G1 (upd H1 l o) := by
  refine ⟨s.ex, s.fr, fun a u n q => ?_, fun a u x => ?_, fun S C e => ?_⟩
  · rw [upd_ne (ne_of_none q hl)]; exact s.fm a u n q
  · by_cases e : a = l
    · rw [e, gl] at x; cases x
    · rw [upd_ne e]; exact s.pre.1 a u x
  · obtain ⟨g, ns, p', r, z, h1, h2, h3, h4⟩ := s.pre.2 S C e
    obtain ⟨g0, ns0, p0, r0, z0, k1, k2, k3, k4⟩ := h.2 S C e
    refine ⟨g, ns, p', r, z, ?_, h2, ?_, h4⟩
    · rw [upd_ne (ne_of_none k1 hl)]; exact h1
    · rw [upd_ne (ne_of_none k3 hl)]; exact h3
/-- .. and is known in the end -/
theorem Stp.tell {T : Tw} {G H G1 H1 : Hp} (s : Stp T G H G1 H1) (h : Pre T G H) {l : Addr} {o : HO} (hl : H l = none) (gl : G1 l = none) (e : H1 l = some o) : Stp T G H (upd G1 l o) H1 := by
  refine ⟨s.ex.trans (Ex.new gl), fun a u x y => ?_, s.fm, fun a u x => ?_, fun S C z => ?_⟩
  · by_cases q : a = l
    · rw [q]; exact hl
    · rw [upd_ne q] at x; exact s.fr a u x y
  · by_cases q : a = l
    · rw [q, upd_same] at x; rw [q, ← x]; exact e
    · rw [upd_ne q] at x; exact s.pre.1 a u x
  · refine ⟨?_, (s.pre.2 S C z).2⟩
    have q : S ≠ l := fun q => h.freshS hl C (by rw [z, q])
    rw [upd_ne q]
    exact (s.pre.2 S C z).1
/-- a list kept apart stays apart and as it is -/
theorem Stp.apart {T : Tw} {G H G1 H1 : Hp} (s : Stp T G H G1 H1) {l : Addr} {o : HO} (gl : G l = none) (e : H l = some o) (n : ∀ C, T ≠ some (l, C)) : G1 l = none ∧ H1 l = some o := by
  refine ⟨?_, s.fm l o n e⟩
  cases q : G1 l with
  | none => rfl
  | some u =>
    have := s.fr l u q gl
    rw [e] at this
    cases this
/-- nothing changes: then nothing but what may change does -/
theorem Stp.any {T : Tw} {G H G1 H1 : Hp} (s : Stp none G H G1 H1) (h : Pre T G H) : Stp T G H G1 H1 := by
  refine ⟨s.ex, s.fr, fun a o _ q => s.fm a o (fun _ z => nomatch z) q, s.pre.1, fun S C e => ?_⟩
  obtain ⟨g, ns, p', r, z, h1, h2, h3, h4⟩ := h.2 S C e
  refine ⟨?_, ns, p', r, z, s.fm S _ (fun _ z => nomatch z) h1, h2, s.fm C _ (fun _ z => nomatch z) h3, h4⟩
  cases q : G1 S with
  | none => rfl
  | some u =>
    have := s.fr S u q g
    rw [h1] at this
    cases this
theorem Pre.none {T : Tw} {G H : Hp} (h : Pre T G H) : Pre none G H := ⟨h.1, fun _ _ z => nomatch z⟩

/-! ### judgements -/
def EvP (T : Tw) (te : TE) (σ : L2.St) (G : Hp) (φ : PyData → Prop) : Prop := ∀ G1 H, Ex G G1 → Pre T G1 H → ∀ Q : VK, (∀ v d G2 H2, Stp T G1 H G2 H2 → Da G2 v d → φ d → Q v H2) → te σ H Q
def EvB (T : Tw) (tt : TT) (σ : L2.St) (G : Hp) (φ : Bool → Prop) : Prop := ∀ G1 H, Ex G G1 → Pre T G1 H → ∀ Q : Bool → Hp → Prop, (∀ b G2 H2, Stp T G1 H G2 H2 → φ b → Q b H2) → tt σ H Q
def EvA (T : Tw) (ta : TA) (σ : L2.St) (G : Hp) (φ : List PyData → Prop) : Prop := ∀ G1 H, Ex G G1 → Pre T G1 H → ∀ Q : List V → Hp → Prop, (∀ vs ds G2 H2, Stp T G1 H G2 H2 → DaA G2 vs ds → φ ds → Q vs H2) → ta σ H Q
def RD (T : Tw) (r : R2) (d e : PyData) (φ : PyData → Prop) : Prop := ∀ x y G H, Da G x d → Da G y e → Pre T G H → ∀ Q : VK, (∀ v d' G2 H2, Stp T G H G2 H2 → Da G2 v d' → φ d' → Q v H2) → r x y H Q
def RU1 (T : Tw) (r : V → Hp → VK → Prop) (d : PyData) (φ : PyData → Prop) : Prop := ∀ x G H, Da G x d → Pre T G H → ∀ Q : VK, (∀ v d' G2 H2, Stp T G H G2 H2 → Da G2 v d' → φ d' → Q v H2) → r x H Q
def RCD (T : Tw) (r : List V → Hp → VK → Prop) (ds : List PyData) (φ : PyData → Prop) : Prop := ∀ xs G H, DaA G xs ds → Pre T G H → ∀ Q : VK, (∀ v d' G2 H2, Stp T G H G2 H2 → Da G2 v d' → φ d' → Q v H2) → r xs H Q
section
variable {K : PySem.W.Frag} {T : Tw} {σ : L2.St} {G G' H H' : Hp} {ta tb te tx : TE} {t u : TT} {v : V} {d : PyData} {r : R2} {φ ψ χ : PyData → Prop} {α β : Bool → Prop}
theorem EvP.up (h : EvP T te σ G φ) (e : Ex G G') : EvP T te σ G' φ := fun G1 H x => h G1 H (e.trans x)
theorem EvB.up (h : EvB T t σ G α) (e : Ex G G') : EvB T t σ G' α := fun G1 H x => h G1 H (e.trans x)
theorem EvP.imp (h : EvP T te σ G φ) (e : ∀ d, φ d → ψ d) : EvP T te σ G ψ := fun G1 H x p Q q => h G1 H x p Q fun v d G2 H2 s k f => q v d G2 H2 s k (e d f)
theorem EvB.imp (h : EvB T t σ G α) (e : ∀ d, α d → β d) : EvB T t σ G β := fun G1 H x p Q q => h G1 H x p Q fun v G2 H2 s f => q v G2 H2 s (e v f)
theorem e_var {i : Nat} (h : σ[i]? = some (some v)) (k : Da G v d) : EvP T (tVar i) σ G (· = d) := fun G1 H x p Q q => ⟨v, h, q v d G1 H (Stp.refl p) (k.mono x) rfl⟩
theorem e_int {i : Int} : EvP T (tC (.int i)) σ G (· = .int i) := fun G1 H x p Q q => q _ _ G1 H (Stp.refl p) (.int i) rfl
theorem e_bl {i : Bool} : EvP T (tC (.bl i)) σ G (· = .bool i) := fun G1 H x p Q q => q _ _ G1 H (Stp.refl p) (.bl i) rfl
theorem e_non : EvP T (tC .non) σ G (· = .none) := fun G1 H x p Q q => q _ _ G1 H (Stp.refl p) .non rfl
theorem e_op (ha : EvP T ta σ G φ) (hb : EvP T tb σ G ψ) (hr : ∀ d e, φ d → ψ e → RD T r d e χ) : EvP T (tOp r ta tb) σ G χ := fun G1 H x p Q q =>
  ha G1 H x p _ fun v d G2 H2 s2 k f => hb G2 H2 (x.trans s2.ex) s2.pre _ fun w e G3 H3 s3 k3 g => hr d e f g v w G3 H3 (k.mono s3.ex) k3 s3.pre Q fun z d' G4 H4 s4 k4 c => q z d' G4 H4 ((s2.trans s3).trans s4) k4 c
theorem e_un {r : V → Hp → VK → Prop} (ha : EvP T ta σ G φ) (hr : ∀ d, φ d → RU1 T r d χ) : EvP T (tUn r ta) σ G χ := fun G1 H x p Q q =>
  ha G1 H x p _ fun v d G2 H2 s2 k f => hr d f v G2 H2 k s2.pre Q fun z d' G4 H4 s4 k4 c => q z d' G4 H4 (s2.trans s4) k4 c
/-- the operators on ints -/
theorem r_I0 {g : Int → Int → V} {i j k : Int} (h : g i j = .int k) : RD T (rI0 g) (.int i) (.int j) (· = .int k) := fun x y G H hx hy p Q q => by
  cases hx.intV; cases hy.intV
  exact ⟨i, j, rfl, rfl, by rw [h]; exact q _ _ G H (Stp.refl p) (.int k) rfl⟩
theorem r_I {C : Int → Int → Prop} {g : Int → Int → V} {i j k : Int} (hc : C i j) (h : g i j = .int k) : RD T (rI C g) (.int i) (.int j) (· = .int k) := fun x y G H hx hy p Q q => by
  cases hx.intV; cases hy.intV
  exact ⟨i, j, rfl, rfl, hc, by rw [h]; exact q _ _ G H (Stp.refl p) (.int k) rfl⟩
theorem r_I0b {g : Int → Int → V} {i j : Int} {k : Bool} (h : g i j = .bl k) : RD T (rI0 g) (.int i) (.int j) (· = .bool k) := fun x y G H hx hy p Q q => by
  cases hx.intV; cases hy.intV
  exact ⟨i, j, rfl, rfl, by rw [h]; exact q _ _ G H (Stp.refl p) (.bl k) rfl⟩
theorem r_eqI {i j : Int} : RD T rEq (.int i) (.int j) (· = .bool (decide (i = j))) := fun x y G H hx hy p Q q => by
  cases hx.intV; cases hy.intV
  refine ⟨rfl, ?_⟩
  rw [show decide (V.int i = V.int j) = decide (i = j) by by_cases e : i = j <;> simp [e]]
  exact q _ _ G H (Stp.refl p) (.bl _) rfl
theorem r_neI {i j : Int} : RD T rNe (.int i) (.int j) (· = .bool (!decide (i = j))) := fun x y G H hx hy p Q q => by
  cases hx.intV; cases hy.intV
  refine ⟨rfl, ?_⟩
  rw [show decide (V.int i = V.int j) = decide (i = j) by by_cases e : i = j <;> simp [e]]
  exact q _ _ G H (Stp.refl p) (.bl _) rfl
theorem r_eqB {i j : Bool} : RD T rEq (.bool i) (.bool j) (· = .bool (decide (i = j))) := fun x y G H hx hy p Q q => by
  cases hx.blV; cases hy.blV
  refine ⟨rfl, ?_⟩
  rw [show decide (V.bl i = V.bl j) = decide (i = j) by by_cases e : i = j <;> simp [e]]
  exact q _ _ G H (Stp.refl p) (.bl _) rfl
theorem r_neB {i j : Bool} : RD T rNe (.bool i) (.bool j) (· = .bool (!decide (i = j))) := fun x y G H hx hy p Q q => by
  cases hx.blV; cases hy.blV
  refine ⟨rfl, ?_⟩
  rw [show decide (V.bl i = V.bl j) = decide (i = j) by by_cases e : i = j <;> simp [e]]
  exact q _ _ G H (Stp.refl p) (.bl _) rfl
theorem r_isB {i j : Bool} : RD T rIsB (.bool i) (.bool j) (· = .bool (decide (i = j))) := fun x y G H hx hy p Q q => by
  cases hx.blV; cases hy.blV
  exact ⟨i, j, rfl, rfl, q _ _ G H (Stp.refl p) (.bl _) rfl⟩
theorem r_eqD {d e : PyData} {b : Bool} (h1 : SeqAt.shaped d = true) (h2 : SeqAt.shaped e = true) (hb : PyData.eqv d e = b) : RD T (rEqD K) d e (· = .bool b) := fun x y G H hx hy p Q q =>
  ⟨d, e, (hx.mono p.1).dp, (hy.mono p.1).dp, h1, h2, by rw [hb]; exact q _ _ G H (Stp.refl p) (.bl _) rfl⟩
theorem r_neD {d e : PyData} {b : Bool} (h1 : SeqAt.shaped d = true) (h2 : SeqAt.shaped e = true) (hb : PyData.eqv d e = b) : RD T (rNeD K) d e (· = .bool (!b)) := fun x y G H hx hy p Q q =>
  ⟨d, e, (hx.mono p.1).dp, (hy.mono p.1).dp, h1, h2, by rw [hb]; exact q _ _ G H (Stp.refl p) (.bl _) rfl⟩
theorem r_ixL {ds : List PyData} {i : Int} {j : Nat} {e : PyData} (hi : i = (j : Int)) (h : ds[j]? = some e) : RD T (rIxL K) (.list ds) (.int i) (· = e) := fun x y G H hx hy p Q q => by
  cases hy.intV
  obtain ⟨a, xs, rfl, ga, k⟩ := hx.lstV
  obtain ⟨v, hv, kv⟩ := k.get h
  exact ⟨a, xs, i, v, rfl, rfl, .inl (.inl (p.1 _ _ ga)), at_of hi hv, q v e G H (Stp.refl p) kv rfl⟩
theorem r_ixT {ds : List PyData} {i : Int} {j : Nat} {e : PyData} (hi : i = (j : Int)) (h : ds[j]? = some e) : RD T (rIxT K) (.tuple ds) (.int i) (· = e) := fun x y G H hx hy p Q q => by
  cases hy.intV
  obtain ⟨a, xs, rfl, ga, k⟩ := hx.tupV
  obtain ⟨v, hv, kv⟩ := k.get h
  exact ⟨a, xs, i, v, rfl, rfl, .inl (.inl (p.1 _ _ ga)), at_of hi hv, q v e G H (Stp.refl p) kv rfl⟩
/-- list + list, tuple + tuple -/
theorem r_catL {ds es : List PyData} (hz : ds.length + es.length ≤ 100000) : RD T rCat (.list ds) (.list es) (· = .list (ds ++ es)) := fun x y G H hx hy p Q q => by
  obtain ⟨a, xs, rfl, ga, k⟩ := hx.lstV
  obtain ⟨b, ys, rfl, gb, k2⟩ := hy.lstV
  refine ⟨a, b, xs, ys, rfl, rfl, p.1 _ _ ga, p.1 _ _ gb, Evl.sz_of (by rw [k.length, k2.length]; exact hz), fun l hl => ?_⟩
  have s := Stp.new p (.lst (xs ++ ys)) hl
  exact q _ _ _ _ s (.lst upd_same ((k.mono s.ex).app (k2.mono s.ex))) rfl
theorem r_catT {ds es : List PyData} (hz : ds.length + es.length ≤ 100000) : RD T (rCatA K) (.tuple ds) (.tuple es) (· = .tuple (ds ++ es)) := fun x y G H hx hy p Q q => by
  obtain ⟨a, xs, rfl, ga, k⟩ := hx.tupV
  obtain ⟨b, ys, rfl, gb, k2⟩ := hy.tupV
  refine ⟨a, b, xs, ys, rfl, rfl, .inl (.inl (p.1 _ _ ga)), .inl (.inl (p.1 _ _ gb)), Evl.sz_of (by rw [k.length, k2.length]; exact hz), fun e => ?_, fun _ e => ?_, fun _ _ l hl => ?_⟩
  · subst e
    have : ds = [] := List.eq_nil_of_length_eq_zero (by rw [← k.length]; rfl)
    subst this
    exact q _ _ G H (Stp.refl p) (.tup gb k2) rfl
  · subst e
    have : es = [] := List.eq_nil_of_length_eq_zero (by rw [← k2.length]; rfl)
    subst this
    rw [List.append_nil] at q
    exact q _ _ G H (Stp.refl p) (.tup ga k) rfl
  · have s := Stp.new p (.tup (xs ++ ys)) hl
    exact q _ _ _ _ s (.tup upd_same ((k.mono s.ex).app (k2.mono s.ex))) rfl
/-- int in a tuple, a list of ints -/
theorem inV_ints {i : Int} : ∀ ns : List Int, inV (.int i) (ns.map V.int) = decide (i ∈ ns)
  | [] => by simp [inV]
  | n :: ns => by
    have ih := inV_ints (i := i) ns
    unfold inV at ih ⊢
    rw [List.map_cons, List.any_cons, ih, show eqV (V.int n) (V.int i) = decide (n = i) from rfl]
    by_cases e : n = i
    · simp [e]
    · have e2 : ¬ i = n := fun z => e z.symm
      simp [e, e2]
theorem flat_ints : ∀ ns : List Int, (ns.map V.int).all flatV = true
  | [] => rfl
  | n :: ns => by
    rw [List.map_cons, List.all_cons, flat_ints ns]; rfl
theorem r_in {neg : Bool} {i : Int} {ns : List Int} {e : PyData} (he : e = .list (ns.map .int) ∨ e = .tuple (ns.map .int)) : RD T (rIn K neg) (.int i) e (· = .bool (if neg then !decide (i ∈ ns) else decide (i ∈ ns))) := fun x y G H hx hy p Q q => by
  cases hx.intV
  rcases he with rfl | rfl
  · obtain ⟨b, ys, rfl, gb, k2⟩ := hy.lstV
    cases k2.intsV
    refine ⟨b, _, rfl, .inl (.inl (.inl (p.1 _ _ gb))), rfl, flat_ints ns, ?_⟩
    rw [inV_ints]
    cases neg <;> exact q _ _ G H (Stp.refl p) (.bl _) rfl
  · obtain ⟨b, ys, rfl, gb, k2⟩ := hy.tupV
    cases k2.intsV
    refine ⟨b, _, rfl, .inr (.inl (.inl (p.1 _ _ gb))), rfl, flat_ints ns, ?_⟩
    rw [inV_ints]
    cases neg <;> exact q _ _ G H (Stp.refl p) (.bl _) rfl
/-! displays, arguments -/
theorem a_nil : EvA T tNil σ G (· = []) := fun G1 H x p Q q => q _ _ G1 H (Stp.refl p) .nil rfl
theorem a_cons {tr : TA} {ξ ζ : List PyData → Prop} (h : EvP T ta σ G φ) (hr : EvA T tr σ G ξ) (hz : ∀ d ds, φ d → ξ ds → ζ (d :: ds)) : EvA T (tCons ta tr) σ G ζ := fun G1 H x p Q q =>
  h G1 H x p _ fun v d G2 H2 s2 k f => hr G2 H2 (x.trans s2.ex) s2.pre _ fun vs ds G3 H3 s3 k3 g => q _ _ G3 H3 (s2.trans s3) (.cons (k.mono s3.ex) k3) (hz d ds f g)
theorem a_star {tr : TA} {ξ ζ : List PyData → Prop} (h : EvP T ta σ G φ) (hr : EvA T tr σ G ξ) (hz : ∀ d, φ d → ∃ es, (d = .tuple es ∨ d = .list es) ∧ ∀ ds, ξ ds → ζ (es ++ ds)) : EvA T (StX.tStar K ta tr) σ G ζ := fun G1 H x p Q q =>
  h G1 H x p _ fun v d G2 H2 s2 k f => by
    obtain ⟨es, he, z⟩ := hz d f
    rcases he with rfl | rfl
    · obtain ⟨a, xs, rfl, ga, kk⟩ := k.tupV
      exact ⟨_, _, rfl, .inl (.inl (.inl (s2.pre.1 _ _ ga))), hr G2 H2 (x.trans s2.ex) s2.pre _ fun vs ds G3 H3 s3 k3 g => q _ _ G3 H3 (s2.trans s3) ((kk.mono s3.ex).app k3) (z ds g)⟩
    · obtain ⟨a, xs, rfl, ga, kk⟩ := k.lstV
      exact ⟨_, _, rfl, .inr (.inl (.inl (s2.pre.1 _ _ ga))), hr G2 H2 (x.trans s2.ex) s2.pre _ fun vs ds G3 H3 s3 k3 g => q _ _ G3 H3 (s2.trans s3) ((kk.mono s3.ex).app k3) (z ds g)⟩
theorem e_tup {ta : TA} {ξ : List PyData → Prop} (h : EvA T ta σ G ξ) (hz : ∀ ds, ξ ds → ds.length ≤ 100000 ∧ χ (.tuple ds)) : EvP T (tTup ta) σ G χ := fun G1 H x p Q q =>
  h G1 H x p _ fun vs ds G2 H2 s2 k f => ⟨Evl.sz_of (by rw [k.length]; exact (hz ds f).1), fun l hl => by
    have s := Stp.new s2.pre (.tup vs) hl
    exact q _ _ _ _ (s2.trans s) (.tup upd_same (k.mono s.ex)) (hz ds f).2⟩
theorem e_lst {ta : TA} {ξ : List PyData → Prop} (h : EvA T ta σ G ξ) (hz : ∀ ds, ξ ds → ds.length ≤ 100000 ∧ χ (.list ds)) : EvP T (tLst ta) σ G χ := fun G1 H x p Q q =>
  h G1 H x p _ fun vs ds G2 H2 s2 k f => ⟨Evl.sz_of (by rw [k.length]; exact (hz ds f).1), fun l hl => by
    have s := Stp.new s2.pre (.lst vs) hl
    exact q _ _ _ _ (s2.trans s) (.lst upd_same (k.mono s.ex)) (hz ds f).2⟩
/-! tests -/
theorem b_test (h : EvP T te σ G φ) (hb : ∀ d, φ d → ∃ b, d = .bool b ∧ α b) : EvB T (tTest te) σ G α := fun G1 H x p Q q => h G1 H x p _ fun v d G2 H2 s2 k f => by
  obtain ⟨b, rfl, a⟩ := hb d f
  cases k.blV
  exact ⟨b, rfl, q b G2 H2 s2 a⟩
theorem b_B (h : EvP T te σ G φ) (hb : ∀ d, φ d → ∃ b, d = .bool b ∧ α b) : EvB T (tB te) σ G α := fun G1 H x p Q q => h G1 H x p _ fun v d G2 H2 s2 k f => by
  obtain ⟨b, rfl, a⟩ := hb d f
  cases k.blV
  exact ⟨b, rfl, q b G2 H2 s2 a⟩
theorem b_and {b c : Bool} (h1 : EvB T t σ G (· = b)) (h2 : b = true → EvB T u σ G (· = c)) : EvB T (tAnd t u) σ G (· = (b && c)) := fun G1 H x p Q q => h1 G1 H x p _ fun b' G2 H2 s2 e => by
  subst e
  cases b' with
  | true =>
    show u σ H2 Q
    exact h2 rfl G2 H2 (x.trans s2.ex) s2.pre Q fun b G3 H3 s3 e => q b G3 H3 (s2.trans s3) e
  | false =>
    show Q false H2
    exact q _ G2 H2 s2 rfl
theorem b_or {b c : Bool} (h1 : EvB T t σ G (· = b)) (h2 : b = false → EvB T u σ G (· = c)) : EvB T (tOr t u) σ G (· = (b || c)) := fun G1 H x p Q q => h1 G1 H x p _ fun b' G2 H2 s2 e => by
  subst e
  cases b' with
  | true =>
    show Q true H2
    exact q _ G2 H2 s2 rfl
  | false =>
    show u σ H2 Q
    exact h2 rfl G2 H2 (x.trans s2.ex) s2.pre Q fun b G3 H3 s3 e => q b G3 H3 (s2.trans s3) e
theorem b_not {b : Bool} (h1 : EvB T t σ G (· = b)) : EvB T (tNot t) σ G (· = !b) := fun G1 H x p Q q => h1 G1 H x p _ fun b' G2 H2 s2 e => q _ G2 H2 s2 (by rw [e])
theorem b_is {b c : Bool} (h : EvB T t σ G (· = b)) (e : b = c) : EvB T t σ G (· = c) := by rw [← e]; exact h
theorem e_is {d e : PyData} (h : EvP T te σ G (· = d)) (z : d = e) : EvP T te σ G (· = e) := by rw [← z]; exact h
theorem e_and {b c : Bool} (h1 : EvP T ta σ G (· = .bool b)) (h2 : b = true → EvP T tb σ G (· = .bool c)) : EvP T (tAndV ta tb) σ G (· = .bool (b && c)) := fun G1 H x p Q q => h1 G1 H x p _ fun v d G2 H2 s2 k e => by
  subst e
  cases k.blV
  refine ⟨b, rfl, ?_⟩
  cases b with
  | true =>
    show tb σ H2 Q
    exact h2 rfl G2 H2 (x.trans s2.ex) s2.pre Q fun v d G3 H3 s3 k e => q v d G3 H3 (s2.trans s3) k e
  | false =>
    show Q (.bl false) H2
    exact q _ _ G2 H2 s2 (.bl _) rfl
theorem e_or {b c : Bool} (h1 : EvP T ta σ G (· = .bool b)) (h2 : b = false → EvP T tb σ G (· = .bool c)) : EvP T (tOrV ta tb) σ G (· = .bool (b || c)) := fun G1 H x p Q q => h1 G1 H x p _ fun v d G2 H2 s2 k e => by
  subst e
  cases k.blV
  refine ⟨b, rfl, ?_⟩
  cases b with
  | true =>
    show Q (.bl true) H2
    exact q _ _ G2 H2 s2 (.bl _) rfl
  | false =>
    show tb σ H2 Q
    exact h2 rfl G2 H2 (x.trans s2.ex) s2.pre Q fun v d G3 H3 s3 k e => q v d G3 H3 (s2.trans s3) k e
theorem e_not {b : Bool} (h1 : EvP T ta σ G (· = .bool b)) : EvP T (tNotV ta) σ G (· = .bool (!b)) := fun G1 H x p Q q => h1 G1 H x p _ fun v d G2 H2 s2 k e => by
  subst e
  cases k.blV
  exact ⟨b, rfl, q _ _ G2 H2 s2 (.bl _) rfl⟩
theorem e_if (h : EvB T t σ G α) (h1 : α true → EvP T ta σ G φ) (h2 : α false → EvP T tb σ G φ) : EvP T (tIf t ta tb) σ G φ := fun G1 H x p Q q => h G1 H x p _ fun b G2 H2 s2 a => by
  cases b with
  | true =>
    show ta σ H2 Q
    exact h1 a G2 H2 (x.trans s2.ex) s2.pre Q fun v d G3 H3 s3 k e => q v d G3 H3 (s2.trans s3) k e
  | false =>
    show tb σ H2 Q
    exact h2 a G2 H2 (x.trans s2.ex) s2.pre Q fun v d G3 H3 s3 k e => q v d G3 H3 (s2.trans s3) k e
theorem e_isN {d : PyData} {b : Bool} (h : EvP T ta σ G (· = d)) (hb : (d = .none ∧ b = true) ∨ (∃ ds, d = .tuple ds ∧ b = false)) : EvP T (tIsN ta) σ G (· = .bool b) := fun G1 H x p Q q => h G1 H x p _ fun v d' G2 H2 s2 k e => by
  subst e
  rcases hb with ⟨rfl, rfl⟩ | ⟨ds, rfl, rfl⟩
  · cases k.nonV
    exact q _ _ G2 H2 s2 (.bl _) rfl
  · obtain ⟨a, xs, rfl, _, _⟩ := k.tupV
    exact q _ _ G2 H2 s2 (.bl _) rfl
/-! calls of built-ins -/
theorem e_cb {r : List V → Hp → VK → Prop} {ta : TA} {ξ : List PyData → Prop} (h : EvA T ta σ G ξ) (hr : ∀ ds, ξ ds → RCD T r ds χ) : EvP T (tCB r ta) σ G χ := fun G1 H x p Q q =>
  h G1 H x p _ fun vs ds G2 H2 s2 k f => hr ds f vs G2 H2 k s2.pre Q fun v d G3 H3 s3 k3 c => q v d G3 H3 (s2.trans s3) k3 c
end
end Dv

namespace Dv
open PySem PySem.Spec PyProof.Rows L2
open Evl (Ex)
section
variable {K : PySem.W.Frag} {T : Tw} {σ : L2.St} {G G' H H' : Hp} {ta tb te tx : TE} {t u : TT} {v : V} {d : PyData} {r : R2} {φ ψ χ : PyData → Prop} {α β : Bool → Prop}
/-! built-ins -/
theorem c_int {i : Int} : RCD T (fun xs H Q => (∃ i, xs = [.int i] ∧ Q (.int i) H) ∨ ∃ k, xs = [.bl k] ∧ Q (.int (if k then 1 else 0)) H) [.int i] (· = .int i) := fun xs G H hx p Q q => by
  obtain ⟨v, ws, rfl, h, k⟩ := hx.consV
  cases k.nilV; cases h.intV
  exact .inl ⟨i, rfl, q _ _ G H (Stp.refl p) (.int i) rfl⟩
theorem c_len {d : PyData} {ds : List PyData} (hd : d = .list ds ∨ d = .tuple ds) : RCD T (fun xs H Q => ∃ p ys, xs = [.ref p] ∧ (SqL K H p ys ∨ SqT K H p ys) ∧ Q (.int ys.length) H) [d] (· = .int ds.length) := fun xs G H hx p Q q => by
  obtain ⟨v, ws, rfl, h, k⟩ := hx.consV
  cases k.nilV
  rcases hd with rfl | rfl
  · obtain ⟨a, ys, rfl, ga, kk⟩ := h.lstV
    exact ⟨a, ys, rfl, .inl (.inl (.inl (p.1 _ _ ga))), by rw [kk.length]; exact q _ _ G H (Stp.refl p) (.int _) rfl⟩
  · obtain ⟨a, ys, rfl, ga, kk⟩ := h.tupV
    exact ⟨a, ys, rfl, .inr (.inl (.inl (p.1 _ _ ga))), by rw [kk.length]; exact q _ _ G H (Stp.refl p) (.int _) rfl⟩
theorem c_list {d : PyData} {ds : List PyData} (hd : d = .list ds ∨ d = .tuple ds) : RCD T (fun xs H Q => ∃ p ys, xs = [.ref p] ∧ (SqL K H p ys ∨ SqT K H p ys) ∧ ∀ l, H l = none → Q (.ref l) (upd H l (.lst ys))) [d] (· = .list ds) := fun xs G H hx p Q q => by
  obtain ⟨v, ws, rfl, h, k⟩ := hx.consV
  cases k.nilV
  rcases hd with rfl | rfl
  · obtain ⟨a, ys, rfl, ga, kk⟩ := h.lstV
    exact ⟨a, ys, rfl, .inl (.inl (.inl (p.1 _ _ ga))), fun l hl => by
      have s := Stp.new p (.lst ys) hl
      exact q _ _ _ _ s (.lst upd_same (kk.mono s.ex)) rfl⟩
  · obtain ⟨a, ys, rfl, ga, kk⟩ := h.tupV
    exact ⟨a, ys, rfl, .inr (.inl (.inl (p.1 _ _ ga))), fun l hl => by
      have s := Stp.new p (.lst ys) hl
      exact q _ _ _ _ s (.lst upd_same (kk.mono s.ex)) rfl⟩
theorem c_tupL {ds : List PyData} : RCD T (fun xs H Q => ∃ p ys, xs = [.ref p] ∧ ((SqL K H p ys ∧ ∀ l, H l = none → Q (.ref l) (upd H l (.tup ys))) ∨ (SqT K H p ys ∧ Q (.ref p) H))) [.list ds] (· = .tuple ds) := fun xs G H hx p Q q => by
  obtain ⟨v, ws, rfl, h, k⟩ := hx.consV
  cases k.nilV
  obtain ⟨a, ys, rfl, ga, kk⟩ := h.lstV
  exact ⟨a, ys, rfl, .inl ⟨.inl (.inl (p.1 _ _ ga)), fun l hl => by
      have s := Stp.new p (.tup ys) hl
      exact q _ _ _ _ s (.tup upd_same (kk.mono s.ex)) rfl⟩⟩
theorem c_all {bs : List Bool} : RCD T (rAll K) [.list (bs.map .bool)] (· = .bool (bs.all id)) := fun xs G H hx p Q q => by
  obtain ⟨v, ws, rfl, h, k⟩ := hx.consV
  cases k.nilV
  obtain ⟨a, ys, rfl, ga, kk⟩ := h.lstV
  cases kk.blsV
  exact ⟨a, bs, rfl, .inl (.inl (p.1 _ _ ga)), q _ _ G H (Stp.refl p) (.bl _) rfl⟩
/-- ascending: one of the lists with the same ints -/
theorem c_sorted {ns : List Int} (hz : ns.length < 64) (hq : ∀ ms : List Int, ms.Perm ns → ms.Pairwise (· ≤ ·) → χ (.list (ms.map .int))) : RCD T (rSorted K) [.list (ns.map .int)] χ := fun xs G H hx p Q q => by
  obtain ⟨v, ws, rfl, h, k⟩ := hx.consV
  cases k.nilV
  obtain ⟨a, ys, rfl, ga, kk⟩ := h.lstV
  cases kk.intsV
  refine ⟨a, ns, rfl, .inl (.inl (p.1 _ _ ga)), hz, fun ms l h1 h2 hl => ?_⟩
  have s := Stp.new p (.lst (ms.map V.int)) hl
  exact q _ _ _ _ s (.lst upd_same (.ints ms)) (hq ms h1 h2)
/-- isinstance of an int, a tuple -/
def IsiOf : PyData → String → String → Prop
  | .int _, T, _ => T = "int"
  | .tuple _, T, _ => T = "tuple"
  | .list _, T, _ => T = "list"
  | _, _, _ => False
theorem e_isi {tc : TE} {c A : String} {b : Bool} {d : PyData} {tn : TA} (h : EvP T te σ G (· = d)) (hn : tn = tNil) (hc : ∀ σ H Q, Q (.ty c) H → tc σ H Q) (ho : IsiOf d A c) (hk : kitB A c = some b) : EvP T (tCB (rIsi K) (tCons te (tCons tc tn))) σ G (· = .bool b) := fun G1 H x p Q q => h G1 H x p _ fun v d' G2 H2 s2 k e => by
  subst e; subst hn
  refine hc σ H2 _ ?_
  refine ⟨v, .ty c, .type A, .type c, b, rfl, .ty c, ?_, kit_ty hk, q _ _ G2 H2 s2 (.bl b) rfl⟩
  cases k with
  | int i => cases (show A = "int" from ho); exact .base (.int i)
  | lst hh kk => cases (show A = "list" from ho); exact .base (.lst (s2.pre.1 _ _ hh))
  | tup hh kk => cases (show A = "tuple" from ho); exact .base (.tup (s2.pre.1 _ _ hh))
  | non => exact ho.elim
  | bl b => exact ho.elim
theorem e_ty {c : String} : ∀ (σ : L2.St) (H : Hp) (Q : VK), Q (.ty c) H → tC (.ty c) σ H Q := fun _ _ _ q => q
/-- a slice -/
def EvO (T : Tw) (to : TO) (σ : L2.St) (G : Hp) (φ : Option Int → Prop) : Prop := ∀ G1 H, Ex G G1 → Pre T G1 H → ∀ Q : Option Int → Hp → Prop, (∀ b G2 H2, Stp T G1 H G2 H2 → φ b → Q b H2) → to σ H Q
theorem o_none : EvO T tNoPart σ G (· = none) := fun G1 H x p Q q => q _ G1 H (Stp.refl p) rfl
theorem o_some {ξ : Option Int → Prop} (h : EvP T te σ G φ) (e : ∀ d, φ d → ∃ i : Int, d = .int i ∧ ξ (some i)) : EvO T (tPart te) σ G ξ := fun G1 H x p Q q => h G1 H x p _ fun v d G2 H2 s2 k f => by
  obtain ⟨i, rfl, z⟩ := e d f
  cases k.intV
  exact ⟨i, rfl, q _ G2 H2 s2 z⟩
theorem daa_drop : ∀ {vs : List V} {ds : List PyData} (n : Nat), DaA G vs ds → DaA G (vs.drop n) (ds.drop n)
  | _, _, 0, h => h
  | _, _, _ + 1, .nil => .nil
  | _, _, n + 1, .cons _ k => daa_drop n k
theorem daa_take : ∀ {vs : List V} {ds : List PyData} (n : Nat), DaA G vs ds → DaA G (vs.take n) (ds.take n)
  | _, _, 0, h => by simp; exact .nil
  | _, _, _ + 1, .nil => .nil
  | _, _, n + 1, .cons h k => .cons h (daa_take n k)
theorem e_slHead {th : TO} {tl : TO} {ds : List PyData} {n : Nat → Prop} (h : EvP T te σ G φ) (h1 : EvO T tl σ G (· = none)) (h2 : EvO T th σ G (fun o => ∃ m : Nat, o = some (m : Int) ∧ n m)) (hq : ∀ d, φ d → ∃ ds, d = .list ds ∧ ∀ m, n m → χ (.list (ds.take m))) : EvP T (tSl (rSlL K) te tl th) σ G χ := fun G1 H x p Q q =>
  h G1 H x p _ fun v d G2 H2 s2 k f => h1 G2 H2 (x.trans s2.ex) s2.pre _ fun o G3 H3 s3 e => h2 G3 H3 ((x.trans s2.ex).trans s3.ex) s3.pre _ fun o' G4 H4 s4 e' => by
    obtain ⟨ds, rfl, z⟩ := hq d f
    obtain ⟨m, rfl, hm⟩ := e'
    subst e
    obtain ⟨a, xs, rfl, ga, kk⟩ := k.lstV
    refine ⟨a, xs, rfl, .inl (.inl (s4.pre.1 _ _ (s4.ex _ _ (s3.ex _ _ ga)))), fun l hl => ?_⟩
    have ec : cutV xs none (some (m : Int)) = xs.take m := by
      unfold cutV
      rw [HT.sIx_none, HT.sIx_nat, List.drop_zero, Nat.sub_zero]
      by_cases e : m ≤ xs.length
      · rw [Nat.min_eq_left e]
      · rw [Nat.min_eq_right (by omega), List.take_of_length_le (Nat.le_refl _), List.take_of_length_le (by omega)]
    rw [ec]
    have s := Stp.new s4.pre (.lst (xs.take m)) hl
    exact q _ _ _ _ (((s2.trans s3).trans s4).trans s) (.lst upd_same (daa_take m (((kk.mono s3.ex).mono s4.ex).mono s.ex))) (z m hm)

/-! ### comprehensions -/
/-- what the new list at l holds so far -/
def Ap (l : Addr) (es : List PyData) (G H : Hp) : Prop := G l = none ∧ ∃ xs, H l = some (.lst xs) ∧ DaA G xs es
theorem Ap.stp {G0 H0 G1 H1 : Hp} {l : Addr} {es : List PyData} (a : Ap l es G H) (p0 : Pre T G0 H0) (hl : H0 l = none) (s : Stp T G H G1 H1) : Ap l es G1 H1 := by
  obtain ⟨gl, xs, e, k⟩ := a
  obtain ⟨g1, e1⟩ := s.apart gl e (p0.freshS hl)
  exact ⟨g1, xs, e1, k.mono s.ex⟩
theorem Stp.free {G0 H0 : Hp} (s : Stp T G0 H0 G H) (p0 : Pre T G0 H0) {l : Addr} (hl : H l = none) : H0 l = none := by
  cases q : H0 l with
  | none => rfl
  | some u =>
    by_cases n : ∃ C, T = some (l, C)
    · obtain ⟨C, e⟩ := n
      obtain ⟨_, _, _, _, z, _⟩ := (s.pre.2 l C e).2
      rw [hl] at z
      cases z
    · have := s.fm l u (fun C e => n ⟨C, e⟩) q
      rw [hl] at this
      cases this
theorem lc_run {J : It} {n : Nat} {Gd : Hp → Prop} {Y : Nat → Hp → V → Hp → Prop} (w : Walk J n Gd Y) {G2 H2 : Hp} (p2 : Pre T G2 H2) (hGd : ∀ G3 H, Ex G2 G3 → Ex G3 H → Gd H) {item : Nat → V → Prop} (hY : ∀ i H x H', i < n → Gd H → Y i H x H' → H' = H ∧ item i x)
    {j : Nat} {vs : List Nat} (I : Nat → List PyData → Prop) {α : Nat → Bool → Prop} {φ : Nat → PyData → Prop} (h0 : I 0 []) (hI : ∀ i es, I i es → es.length ≤ 50000) (hw : ∀ x, wipe ((wipe σ vs).set j (some x)) vs = wipe σ vs)
    (ht : ∀ i x G1, i < n → Ex G2 G1 → item i x → EvB T t ((wipe σ vs).set j (some x)) G1 (α i)) (he : ∀ i x G1, i < n → Ex G2 G1 → item i x → α i true → EvP T te ((wipe σ vs).set j (some x)) G1 (φ i))
    (hy : ∀ i es e, i < n → I i es → α i true → φ i e → I (i + 1) (es ++ [e])) (hn : ∀ i es, i < n → I i es → α i false → I (i + 1) es) {Q : VK} (hd : ∀ v es G3 H3, Stp T G2 H2 G3 H3 → Da G3 v (.list es) → I n es → Q v H3) :
    tLc (fun _ H R => R J H) (gName j) t te vs σ H2 Q := fun D hD => by
  have gD : G2 D = none := Evl.fresh_back p2.1 hD
  refine lc_it w (fun i H => ∃ G' es', Ex G2 G' ∧ Stp T G2 H2 G' H ∧ Ap D es' G' H ∧ I i es') ⟨G2, [], Ex.refl _, (Stp.refl p2).mut p2 _ hD gD, ⟨gD, [], upd_same, .nil⟩, h0⟩ (fun i H _ ⟨G', es, e, s, _, _⟩ => hGd G' H e s.pre.1) (fun i x H H' hi ⟨G', es, e, s, a, i0⟩ y => ?_) (fun H ⟨G', es, e, s, ⟨g, xs, ex, k⟩, i0⟩ => ?_)
  · obtain ⟨rfl, it⟩ := hY i H x H' hi (hGd G' H e s.pre.1) y
    refine ⟨hw x, ?_⟩
    refine ht i x G' hi e it G' H' (Ex.refl _) s.pre _ fun b G3 H3 s3 ab => ?_
    have a3 := a.stp p2 hD s3
    cases b with
    | false => exact ⟨G3, es, e.trans s3.ex, s.trans s3, a3, hn i es hi i0 ab⟩
    | true =>
      refine he i x G' hi e it ab G3 H3 s3.ex s3.pre _ fun y e' G4 H4 s4 k f => ?_
      obtain ⟨g4, xs, e4, kk⟩ := a3.stp p2 hD s4
      exact ⟨xs, e4, Evl.sz_lt (by rw [kk.length]; have := hI i es i0; omega), G4, es ++ [e'], (e.trans s3.ex).trans s4.ex, ((s.trans s3).trans s4).mut p2 _ hD g4, ⟨g4, _, upd_same, kk.snoc k⟩, hy i es e' hi i0 ab f⟩
  · exact hd _ es _ H (s.tell p2 hD g ex) (.lst upd_same (k.mono (Ex.new g))) i0
end
end Dv

namespace Dv
open PySem PySem.Spec PyProof.Rows L2
open Evl (Ex)
section
variable {K : PySem.W.Frag} {T : Tw} {σ : L2.St} {G G' H H' : Hp} {ta tb te tx tl : TE} {t u : TT} {v : V} {d : PyData} {r : R2} {χ ψ : PyData → Prop} {j : Nat} {vs : List Nat}
/-- over a list, a tuple -/
def IsSq : Bool → List PyData → PyData
  | true, ds => .list ds
  | false, ds => .tuple ds
def iSq (K : PySem.W.Frag) : Bool → TE → TI
  | true, tl => iList K tl
  | false, tl => iTup K tl
theorem sq_walk {b : Bool} {ds : List PyData} {G2 H2 : Hp} {x : V} (k : Da G2 x (IsSq b ds)) : ∃ (a : Addr) (xs : List V), x = .ref a ∧ DaA G2 xs ds ∧ (∀ R : It → Hp → Prop, (R (if b then Itl K a else Itt K a) H2) → Ex G2 H2 → (if b then (∃ xs, SqL K H2 a xs) ∧ R (Itl K a) H2 else (∃ xs, SqT K H2 a xs) ∧ R (Itt K a) H2)) ∧
    ∃ Gd : Hp → Prop, (∀ G3 H, Ex G2 G3 → Ex G3 H → Gd H) ∧ Walk (if b then Itl K a else Itt K a) xs.length Gd (YAt xs) := by
  cases b with
  | true =>
    obtain ⟨a, xs, rfl, ga, kk⟩ := Da.lstV (show Da G2 x (.list ds) from k)
    exact ⟨a, xs, rfl, kk, fun R hr e => ⟨⟨xs, .inl (.inl (e _ _ ga))⟩, hr⟩, fun H => SqL K H a xs, fun G3 H e1 e2 => .inl (.inl (e2 _ _ (e1 _ _ ga))), walk_list⟩
  | false =>
    obtain ⟨a, xs, rfl, ga, kk⟩ := Da.tupV (show Da G2 x (.tuple ds) from k)
    exact ⟨a, xs, rfl, kk, fun R hr e => ⟨⟨xs, .inl (.inl (e _ _ ga))⟩, hr⟩, fun H => SqT K H a xs, fun G3 H e1 e2 => .inl (.inl (e2 _ _ (e1 _ _ ga))), walk_tup⟩
theorem iSq_runX {b : Bool} {R : It → Hp → Prop} {φ : PyData → Prop} {ξ : List PyData → Prop} (h : EvP T tl σ G φ) (hφ : ∀ d, φ d → ∃ ds, d = IsSq b ds ∧ ξ ds) {G1 H1 : Hp} (x : Ex G G1) (p : Pre T G1 H1)
    (k : ∀ (J : It) (ds : List PyData) (xs : List V) (Gd : Hp → Prop) G2 H2, ξ ds → Stp T G1 H1 G2 H2 → DaA G2 xs ds → (∀ G3 H, Ex G2 G3 → Ex G3 H → Gd H) → Walk J xs.length Gd (YAt xs) → R J H2) : iSq K b tl σ H1 R := by
  cases b with
  | true =>
    refine h G1 H1 x p _ fun v d G2 H2 s2 kd e => ?_
    obtain ⟨ds, rfl, z⟩ := hφ d e
    obtain ⟨a, xs, rfl, kk, f, Gd, g, w⟩ := sq_walk (K := K) (H2 := H2) kd
    exact ⟨a, rfl, f R (k _ ds xs Gd G2 H2 z s2 kk g w) s2.pre.1⟩
  | false =>
    refine h G1 H1 x p _ fun v d G2 H2 s2 kd e => ?_
    obtain ⟨ds, rfl, z⟩ := hφ d e
    obtain ⟨a, xs, rfl, kk, f, Gd, g, w⟩ := sq_walk (K := K) (H2 := H2) kd
    exact ⟨a, rfl, f R (k _ ds xs Gd G2 H2 z s2 kk g w) s2.pre.1⟩
theorem iSq_run {b : Bool} {R : It → Hp → Prop} {ds : List PyData} (h : EvP T tl σ G (· = IsSq b ds)) {G1 H1 : Hp} (x : Ex G G1) (p : Pre T G1 H1)
    (k : ∀ (J : It) (xs : List V) (Gd : Hp → Prop) G2 H2, Stp T G1 H1 G2 H2 → DaA G2 xs ds → (∀ G3 H, Ex G2 G3 → Ex G3 H → Gd H) → Walk J xs.length Gd (YAt xs) → R J H2) : iSq K b tl σ H1 R :=
  iSq_runX (ξ := (· = ds)) h (fun d e => ⟨ds, e, rfl⟩) x p fun J ds' xs Gd G2 H2 e => by
    subst e
    exact k J xs Gd G2 H2
theorem e_lc {b : Bool} {ds : List PyData} (I : Nat → List PyData → Prop) {α : Nat → Bool → Prop} {φ : Nat → PyData → Prop} (h : EvP T tl σ G (· = IsSq b ds)) (h0 : I 0 []) (hI : ∀ i es, I i es → es.length ≤ 50000) (hw : ∀ x, wipe ((wipe σ vs).set j (some x)) vs = wipe σ vs)
    (ht : ∀ i d x G1, Ex G G1 → ds[i]? = some d → Da G1 x d → EvB T t ((wipe σ vs).set j (some x)) G1 (α i)) (he : ∀ i d x G1, Ex G G1 → ds[i]? = some d → Da G1 x d → α i true → EvP T te ((wipe σ vs).set j (some x)) G1 (φ i))
    (hy : ∀ i es e, i < ds.length → I i es → α i true → φ i e → I (i + 1) (es ++ [e])) (hn : ∀ i es, i < ds.length → I i es → α i false → I (i + 1) es) (hd : ∀ es, I ds.length es → χ (.list es)) :
    EvP T (tLc (iSq K b tl) (gName j) t te vs) σ G χ := fun G1 H1 x p Q q => by
  refine iSq_run h x p fun J xs Gd G2 H2 s2 kk g w D hD => ?_
  have el := kk.length
  refine lc_run (t := t) (te := te) (vs := vs) w s2.pre g (item := fun i x => xs[i]? = some x) (fun i H x H' _ _ y => y) I (α := α) (φ := φ) h0 hI hw (fun i x' G3 hi e it => ?_) (fun i x' G3 hi e it ab => ?_) (fun i es e hi => hy i es e (by omega)) (fun i es hi => hn i es (by omega)) (fun v es G3 H3 s3 k3 i3 => q v _ G3 H3 (s2.trans s3) k3 (hd es (by rw [← el]; exact i3))) D hD
  · obtain ⟨d, hd', kd⟩ := kk.getV it
    exact ht i d x' G3 ((x.trans s2.ex).trans e) hd' (kd.mono e)
  · obtain ⟨d, hd', kd⟩ := kk.getV it
    exact he i d x' G3 ((x.trans s2.ex).trans e) hd' (kd.mono e) ab
/-- over range(n) -/
theorem e_lcR {φn : Int → Prop} {ta : TA} (I : Nat → List PyData → Prop) {α : Nat → Bool → Prop} {φ : Nat → PyData → Prop} (h : EvA T ta σ G (fun ds => ∃ n : Int, ds = [.int n] ∧ φn n)) (hn0 : ∀ n, φn n → 0 ≤ n ∧ n ≤ 40000) (h0 : I 0 []) (hI : ∀ i es, I i es → es.length ≤ 50000) (hw : ∀ x, wipe ((wipe σ vs).set j (some x)) vs = wipe σ vs)
    (ht : ∀ (n : Int) (i : Nat) G1, φn n → (i : Int) < n → Ex G G1 → EvB T t ((wipe σ vs).set j (some (.int (i : Int)))) G1 (α i)) (he : ∀ (n : Int) (i : Nat) G1, φn n → (i : Int) < n → Ex G G1 → α i true → EvP T te ((wipe σ vs).set j (some (.int (i : Int)))) G1 (φ i))
    (hy : ∀ (n : Int) (i : Nat) es e, φn n → (i : Int) < n → I i es → α i true → φ i e → I (i + 1) (es ++ [e])) (hn : ∀ (n : Int) (i : Nat) es, φn n → (i : Int) < n → I i es → α i false → I (i + 1) es) (hd : ∀ (n : Int) es, φn n → I n.toNat es → χ (.list es)) :
    EvP T (tLc (iRng1 ta) (gName j) t te vs) σ G χ := fun G1 H1 x p Q q => by
  refine h G1 H1 x p _ fun ws ds G2 H2 s2 kk f => ?_
  obtain ⟨n, rfl, fn⟩ := f
  obtain ⟨v, ws', rfl, kv, k0⟩ := kk.consV
  cases k0.nilV
  cases kv.intV
  obtain ⟨n0, n1⟩ := hn0 n fn
  refine ⟨n, rfl, by omega, by omega, fun D hD => ?_⟩
  refine lc_run (t := t) (te := te) (walk_range (lo := 0) (n := n.toNat)) s2.pre (fun _ _ _ _ => True.intro) (item := fun i x => x = .int ((0 : Int) + (i : Int))) (fun i H x H' _ _ y => y) I (α := α) (φ := φ) h0 hI hw (fun i x' G3 hi e it => ?_) (fun i x' G3 hi e it ab => ?_) (fun i es e hi => hy n i es e fn (by omega)) (fun i es hi => hn n i es fn (by omega)) (fun v es G3 H3 s3 k3 i3 => q v _ G3 H3 (s2.trans s3) k3 (hd n es fn i3)) D hD
  · subst it
    rw [Int.zero_add]
    exact ht n i G3 fn (by omega) ((x.trans s2.ex).trans e)
  · subst it
    rw [Int.zero_add]
    exact he n i G3 fn (by omega) ((x.trans s2.ex).trans e) ab
/-- two clauses -/
theorem e_lc2 {b b1 : Bool} {ds : List PyData} {f : Nat → List PyData} {tl1 : TE} {j1 : Nat} {vs1 : List Nat} (I : Nat → Nat → List PyData → Prop) {φ : Nat → Nat → PyData → Prop} (h : EvP T tl σ G (· = IsSq b ds)) (h0 : I 0 0 []) (hI : ∀ i k es, I i k es → es.length ≤ 50000)
    (hw : ∀ x, wipe ((wipe σ vs).set j (some x)) vs = wipe σ vs)
    (hw1 : ∀ x y, wipe ((wipe ((wipe σ vs).set j (some x)) vs1).set j1 (some y)) vs1 = wipe ((wipe σ vs).set j (some x)) vs1)
    (hs : ∀ i d x G1, Ex G G1 → ds[i]? = some d → Da G1 x d → EvP T tl1 ((wipe σ vs).set j (some x)) G1 (· = IsSq b1 (f i)))
    (he : ∀ i k d e x y G1, Ex G G1 → ds[i]? = some d → Da G1 x d → (f i)[k]? = some e → Da G1 y e → EvP T te ((wipe ((wipe σ vs).set j (some x)) vs1).set j1 (some y)) G1 (φ i k))
    (hy : ∀ i k es e, i < ds.length → k < (f i).length → I i k es → φ i k e → I i (k + 1) (es ++ [e])) (hn : ∀ i es, i < ds.length → I i (f i).length es → I (i + 1) 0 es) (hd : ∀ es, I ds.length 0 es → χ (.list es)) :
    EvP T (tLc2 (iSq K b tl) (gName j) tYes (iSq K b1 tl1) (gName j1) tYes te vs vs1) σ G χ := fun G1 H1 x p Q q => by
  refine iSq_run h x p fun J xs Gd G2 H2 s2 kk g w D hD => ?_
  have el := kk.length
  have p2 := s2.pre
  have gD : G2 D = none := Evl.fresh_back p2.1 hD
  refine ⟨fun i m H => m = xs.length - i ∧ i ≤ xs.length ∧ ∃ G' es', Ex G2 G' ∧ Stp T G2 H2 G' H ∧ Ap D es' G' H ∧ I i 0 es', ⟨xs.length, by simp, Nat.zero_le _, G2, [], Ex.refl _, (Stp.refl p2).mut p2 _ hD gD, ⟨gD, [], upd_same, .nil⟩, h0⟩, ?_⟩
  rintro i m H ⟨rfl, hi, G3, es, e3, s3, a3, i3⟩
  have gdH := g G3 H e3 s3.pre.1
  by_cases hlt : i < xs.length
  · refine .inr ⟨w.goes i H hlt gdH, fun H' => ∃ G' es', Ex G2 G' ∧ Stp T G2 H2 G' H' ∧ Ap D es' G' H' ∧ I (i + 1) 0 es', fun H' p' => ⟨xs.length - (i + 1), by omega, rfl, hlt, p'⟩, fun xv H' y => ?_⟩
    obtain ⟨rfl, hx⟩ := w.yields i H xv H' hlt gdH y
    obtain ⟨d, hd', kd⟩ := kk.getV hx
    refine ⟨hw xv, ?_⟩
    show iSq K b1 tl1 ((wipe σ vs).set j (some xv)) H' _
    refine iSq_run (hs i d xv G3 ((x.trans s2.ex).trans e3) hd' (kd.mono e3)) (Ex.refl _) s3.pre fun J1 ys Gd1 G4 H4 s4 kk1 g1 w1 => ?_
    have el1 := kk1.length
    have e24 := e3.trans s4.ex
    refine ⟨fun k m Hk => m = ys.length - k ∧ k ≤ ys.length ∧ ∃ G' es', Ex G4 G' ∧ Stp T G2 H2 G' Hk ∧ Ap D es' G' Hk ∧ I i k es', ⟨ys.length, rfl, Nat.zero_le _, G4, es, Ex.refl _, s3.trans s4, a3.stp p2 hD s4, i3⟩, ?_⟩
    rintro k m H6 ⟨rfl, hkl, G5, es5, e5, s5, a5, i5⟩
    have gd6 := g1 G5 H6 e5 s5.pre.1
    by_cases hk : k < ys.length
    · refine .inr ⟨w1.goes k H6 hk gd6, fun Hn => ∃ G' es', Ex G4 G' ∧ Stp T G2 H2 G' Hn ∧ Ap D es' G' Hn ∧ I i (k + 1) es', fun Hn hn' => ⟨ys.length - (k + 1), by omega, rfl, hk, hn'⟩, fun y Hn yy => ?_⟩
      obtain ⟨rfl, hyk⟩ := w1.yields k H6 y Hn hk gd6 yy
      obtain ⟨e, he', ke⟩ := kk1.getV hyk
      refine ⟨hw1 xv y, ?_⟩
      show te ((wipe ((wipe σ vs).set j (some xv)) vs1).set j1 (some y)) Hn _
      refine he i k d e xv y G5 ((x.trans s2.ex).trans (e24.trans e5)) hd' (kd.mono (e24.trans e5)) he' (ke.mono e5) G5 Hn (Ex.refl _) s5.pre _ fun z e' G7 H7 s7 k7 f7 => ?_
      obtain ⟨g7, zs, e7, kz⟩ := a5.stp p2 hD s7
      refine ⟨zs, e7, Evl.sz_lt (by rw [kz.length]; have := hI i k es5 i5; omega), G7, es5 ++ [e'], e5.trans s7.ex, (s5.trans s7).mut p2 _ hD g7, ⟨g7, _, upd_same, kz.snoc k7⟩, hy i k es5 e' (by omega) (by omega) i5 f7⟩
    · obtain rfl : k = ys.length := by omega
      exact .inl ⟨w1.stops H6 gd6, G5, es5, e24.trans e5, s5, a5, hn i es5 (by omega) (by rw [← el1]; exact i5)⟩
  · obtain rfl : i = xs.length := by omega
    refine .inl ⟨w.stops H gdH, ?_⟩
    obtain ⟨g3, zs, e7, kz⟩ := a3
    exact q _ _ _ H (s2.trans (s3.tell p2 hD g3 e7)) (.lst upd_same (kz.mono (Ex.new g3))) (hd es (by rw [← el]; exact i3))

/-! ### defs -/
def spF (R : List PyData → PyData → Prop) : Sp := fun vs H Q _ => ∃ G ds d, Pre none G H ∧ DaA G vs ds ∧ R ds d ∧ ∀ v G' H', Stp none G H G' H' → Da G' v d → Q v H'
theorem e_call {R : List PyData → PyData → Prop} {ta : TA} {ξ : List PyData → Prop} {E : XK} (h : EvA T ta σ G ξ) (hs : ∀ ds, ξ ds → ∃ d, R ds d ∧ χ d) : EvP T (tCall (spF R) [] E ta) σ G χ := fun G1 H1 x p Q q =>
  h G1 H1 x p _ fun ws ds G2 H2 s2 kk f => by
    obtain ⟨d, hr, c⟩ := hs ds f
    exact ⟨G2, ds, d, s2.pre.none, by rw [List.append_nil]; exact kk, hr, fun v G3 H3 s3 k3 => q v d G3 H3 (s2.trans (s3.any s2.pre)) k3 c⟩
/-- .. whose first argument is the drawn source -/
def spG (R : List PyData → (PyData → Prop) → Prop) : Sp := fun vs H Q _ => ∃ S C ws G ds φ, vs = .ref S :: ws ∧ Pre (some (S, C)) G H ∧ DaA G ws ds ∧ R ds φ ∧ ∀ v d G' H', Stp (some (S, C)) G H G' H' → Da G' v d → φ d → Q v H'
theorem e_callG {R : List PyData → (PyData → Prop) → Prop} {S C : Addr} {ta : TA} {ξ : List PyData → Prop} {E : XK} {i : Nat} (hi : σ[i]? = some (some (.ref S))) (h : EvA (some (S, C)) ta σ G ξ) (hs : ∀ ds, ξ ds → ∃ φ, R ds φ ∧ ∀ d, φ d → χ d) :
    EvP (some (S, C)) (tCall (spG R) [] E (tCons (tVar i) ta)) σ G χ := fun G1 H1 x p Q q => ⟨_, hi, h G1 H1 x p _ fun ws ds G2 H2 s2 kk f => by
    obtain ⟨φ, hr, c⟩ := hs ds f
    exact ⟨S, C, ws, G2, ds, φ, by rw [List.append_nil], s2.pre, kk, hr, fun v d G3 H3 s3 k3 f3 => q v d G3 H3 (s2.trans s3) k3 (c d f3)⟩⟩

/-! ### statements -/
variable {D : Ends} {tu tw tz : TS} {φ : PyData → Prop} {α : Bool → Prop} {G0 H0 : Hp}
theorem q_asg {i : Nat} (p : Pre T G H) (h : EvP T te σ G φ) (k : ∀ v d G1 H1, Stp T G H G1 H1 → Da G1 v d → φ d → tz D (σ.set i (some v)) H1) : tSeq (tAsg te (gName i)) tz D σ H :=
  h G H (Ex.refl _) p _ fun v d G1 H1 s kd f => k v d G1 H1 s kd f
theorem s_asg {i : Nat} (p : Pre T G H) (h : EvP T te σ G φ) (k : ∀ v d G1 H1, Stp T G H G1 H1 → Da G1 v d → φ d → D.nx (σ.set i (some v)) H1) : tAsg te (gName i) D σ H :=
  h G H (Ex.refl _) p _ fun v d G1 H1 s kd f => k v d G1 H1 s kd f
theorem s_ret (p : Pre T G H) (h : EvP T te σ G φ) (k : ∀ v d G1 H1, Stp T G H G1 H1 → Da G1 v d → φ d → D.rt v H1) : tRet te D σ H :=
  h G H (Ex.refl _) p _ fun v d G1 H1 s kd f => k v d G1 H1 s kd f
theorem q_when (p : Pre T G H) (h : EvB T t σ G α) (h1 : α true → ∀ G1 H1, Stp T G H G1 H1 → tu { D with nx := tz D } σ H1) (h2 : α false → ∀ G1 H1, Stp T G H G1 H1 → tz D σ H1) : tSeq (tIfS t tu tNext) tz D σ H :=
  h G H (Ex.refl _) p _ fun b G1 H1 s f => by
    cases b with
    | true => exact h1 f G1 H1 s
    | false => exact h2 f G1 H1 s
theorem s_when (p : Pre T G H) (h : EvB T t σ G α) (h1 : α true → ∀ G1 H1, Stp T G H G1 H1 → tu D σ H1) (h2 : α false → ∀ G1 H1, Stp T G H G1 H1 → D.nx σ H1) : tIfS t tu tNext D σ H :=
  h G H (Ex.refl _) p _ fun b G1 H1 s f => by
    cases b with
    | true => exact h1 f G1 H1 s
    | false => exact h2 f G1 H1 s
/-- xs = [], kept apart -/
theorem q_new {i : Nat} (p0 : Pre T G0 H0) (s : Stp T G0 H0 G H) (k : ∀ l H1, H0 l = none → Stp T G0 H0 G H1 → (∀ a o, H a = some o → H1 a = some o) → H l = none → Ap l [] G H1 → tz D (σ.set i (some (.ref l))) H1) : tSeq (tAsg (tLst tNil) (gName i)) tz D σ H :=
  ⟨Evl.sz_of (by decide), fun l hl => by
    have h0 := s.free p0 hl
    have g := Evl.fresh_back s.pre.1 hl
    exact k l _ h0 (s.mut p0 _ h0 g) (fun a o e => by rw [upd_ne (ne_of_none e hl)]; exact e) hl ⟨g, [], upd_same, .nil⟩⟩
/-- l.append(e) -/
theorem s_app {i : Nat} {l : Addr} {es : List PyData} (p0 : Pre T G0 H0) (s : Stp T G0 H0 G H) (hi : σ[i]? = some (some (.ref l))) (hl : H0 l = none) (a : Ap l es G H) (hz : es.length ≤ 50000) (h : EvP T te σ G φ)
    (k : ∀ d G1 H1, Ex G G1 → Stp T G0 H0 G1 H1 → Ap l (es ++ [d]) G1 H1 → φ d → D.nx σ H1) : tDrop (tBM K "list" rAppend (tVar i) (tCons te tNil)) D σ H := by
  obtain ⟨g, xs, e, kk⟩ := id a
  refine ⟨_, hi, .inl ⟨rfl, xs, .inl (.inl e)⟩, h G H (Ex.refl _) s.pre _ fun v d G1 H1 s1 kd f => ?_⟩
  obtain ⟨g1, ys, e1, k1⟩ := a.stp p0 hl s1
  exact ⟨l, ys, v, rfl, rfl, e1, Evl.sz_lt (by rw [k1.length]; omega), k d G1 _ s1.ex ((s.trans s1).mut p0 _ hl g1) ⟨g1, _, upd_same, k1.snoc kd⟩ f⟩
theorem q_app {i : Nat} {l : Addr} {es : List PyData} (p0 : Pre T G0 H0) (s : Stp T G0 H0 G H) (hi : σ[i]? = some (some (.ref l))) (hl : H0 l = none) (a : Ap l es G H) (hz : es.length ≤ 50000) (h : EvP T te σ G φ)
    (k : ∀ d G1 H1, Ex G G1 → Stp T G0 H0 G1 H1 → Ap l (es ++ [d]) G1 H1 → φ d → tz D σ H1) : tSeq (tDrop (tBM K "list" rAppend (tVar i) (tCons te tNil))) tz D σ H :=
  s_app (D := { D with nx := tz D }) p0 s hi hl a hz h k
/-- l.extend(e), e a new list -/
theorem s_ext {i : Nat} {l : Addr} {es fs : List PyData} (p0 : Pre T G0 H0) (s : Stp T G0 H0 G H) (hi : σ[i]? = some (some (.ref l))) (hl : H0 l = none) (a : Ap l es G H) (hz : es.length + fs.length ≤ 50000) (h : EvP T te σ G (· = .list fs))
    (k : ∀ G1 H1, Ex G G1 → Stp T G0 H0 G1 H1 → Ap l (es ++ fs) G1 H1 → D.nx σ H1) : tDrop (tBM K "list" rExtend (tVar i) (tCons te tNil)) D σ H := by
  obtain ⟨g, xs, e, kk⟩ := id a
  refine ⟨_, hi, .inl ⟨rfl, xs, .inl (.inl e)⟩, h G H (Ex.refl _) s.pre _ fun v d G1 H1 s1 kd f => ?_⟩
  subst f
  obtain ⟨b, zs, rfl, gb, kz⟩ := kd.lstV
  obtain ⟨g1, ys, e1, k1⟩ := a.stp p0 hl s1
  exact ⟨l, b, ys, zs, rfl, rfl, e1, s1.pre.1 _ _ gb, Evl.sz_of (by rw [k1.length, kz.length]; omega), k G1 _ s1.ex ((s.trans s1).mut p0 _ hl g1) ⟨g1, _, upd_same, k1.app kz⟩⟩
/-- the list kept apart, told -/
theorem Ap.tell {l : Addr} {es : List PyData} (p0 : Pre T G0 H0) (s : Stp T G0 H0 G H) (hl : H0 l = none) (a : Ap l es G H) : ∃ G1, Ex G G1 ∧ Stp T G0 H0 G1 H ∧ Da G1 (.ref l) (.list es) := by
  obtain ⟨g, xs, e, k⟩ := a
  exact ⟨_, Ex.new g, s.tell p0 hl g e, .lst upd_same (k.mono (Ex.new g))⟩
/-- for x in a list, a tuple -/
theorem q_forX {b : Bool} {φ : PyData → Prop} {ξ : List PyData → Prop} {g : TG} (p : Pre T G H) (h : EvP T tl σ G φ) (hφ : ∀ d, φ d → ∃ ds, d = IsSq b ds ∧ ξ ds) (Bs : Hp → Hp → Prop) (I : List PyData → Nat → L2.St → Hp → Hp → Prop) (h0 : ∀ ds G2 H2, ξ ds → Stp T G H G2 H2 → Bs G2 H2 ∧ I ds 0 σ G2 H2) (hB : ∀ G1 H1, Bs G1 H1 → Ex G1 H1)
    (hs : ∀ ds i d x σ' G1 H1, ξ ds → Ex G G1 → Bs G1 H1 → ds[i]? = some d → Da G1 x d → I ds i σ' G1 H1 → g x σ' H1 fun σ2 H2 => tu { D with nx := fun σ'' H'' => ∃ G'', Ex G1 G'' ∧ Bs G'' H'' ∧ I ds (i + 1) σ'' G'' H'', ct := fun σ'' H'' => ∃ G'', Ex G1 G'' ∧ Bs G'' H'' ∧ I ds (i + 1) σ'' G'' H'', bk := tz D } σ2 H2)
    (hd : ∀ ds σ' G1 H1, ξ ds → Ex G G1 → Bs G1 H1 → I ds ds.length σ' G1 H1 → tz D σ' H1) : tSeq (tFor (iSq K b tl) g tu) tz D σ H := by
  refine iSq_runX h hφ (Ex.refl _) p fun J ds xs Gd G2 H2 z2 s2 kk gg w => ?_
  have el := kk.length
  obtain ⟨b0, i0⟩ := h0 ds G2 H2 z2 s2
  refine ⟨fun i m σ H => m = xs.length - i ∧ i ≤ xs.length ∧ ∃ G1, Ex G2 G1 ∧ Bs G1 H ∧ I ds i σ G1 H, ⟨xs.length, by simp, Nat.zero_le _, G2, Ex.refl _, b0, i0⟩, ?_⟩
  rintro i m σ' H' ⟨rfl, hi, G1, e1, b1, i1⟩
  have gd := gg G1 H' e1 (hB _ _ b1)
  by_cases hlt : i < xs.length
  · refine .inr ⟨w.goes i H' hlt gd, fun σ'' H'' => ∃ G'', Ex G1 G'' ∧ Bs G'' H'' ∧ I ds (i + 1) σ'' G'' H'', fun σ'' H'' ⟨G'', e'', p''⟩ => ⟨xs.length - (i + 1), by omega, rfl, hlt, G'', e1.trans e'', p''⟩, fun xv H'' y => ?_⟩
    obtain ⟨rfl, hx⟩ := w.yields i H' xv H'' hlt gd y
    obtain ⟨d, hd', kd⟩ := kk.getV hx
    exact hs ds i d xv σ' G1 H'' z2 (s2.ex.trans e1) b1 hd' (kd.mono e1) i1
  · obtain rfl : i = xs.length := by omega
    exact .inl ⟨w.stops H' gd, hd ds σ' G1 H' z2 (s2.ex.trans e1) b1 (by rw [← el]; exact i1)⟩
theorem q_for {b : Bool} {ds : List PyData} {g : TG} (p : Pre T G H) (h : EvP T tl σ G (· = IsSq b ds)) (Bs : Hp → Hp → Prop) (I : Nat → L2.St → Hp → Hp → Prop) (h0 : ∀ G2 H2, Stp T G H G2 H2 → Bs G2 H2 ∧ I 0 σ G2 H2) (hB : ∀ G1 H1, Bs G1 H1 → Ex G1 H1)
    (hs : ∀ i d x σ' G1 H1, Ex G G1 → Bs G1 H1 → ds[i]? = some d → Da G1 x d → I i σ' G1 H1 → g x σ' H1 fun σ2 H2 => tu { D with nx := fun σ'' H'' => ∃ G'', Ex G1 G'' ∧ Bs G'' H'' ∧ I (i + 1) σ'' G'' H'', ct := fun σ'' H'' => ∃ G'', Ex G1 G'' ∧ Bs G'' H'' ∧ I (i + 1) σ'' G'' H'', bk := tz D } σ2 H2)
    (hd : ∀ σ' G1 H1, Ex G G1 → Bs G1 H1 → I ds.length σ' G1 H1 → tz D σ' H1) : tSeq (tFor (iSq K b tl) g tu) tz D σ H :=
  q_forX (ξ := (· = ds)) p h (fun d e => ⟨ds, e, rfl⟩) Bs (fun _ => I) (fun ds' G2 H2 e => h0 G2 H2) hB (fun ds' i d x σ' G1 H1 e => by
    subst e
    exact hs i d x σ' G1 H1) (fun ds' σ' G1 H1 e => by
    subst e
    exact hd σ' G1 H1)
/-- .. whose target is a name -/
theorem q_forXN {b : Bool} {φ : PyData → Prop} {ξ : List PyData → Prop} {i0 : Nat} (p : Pre T G H) (h : EvP T tl σ G φ) (hφ : ∀ d, φ d → ∃ ds, d = IsSq b ds ∧ ξ ds) (Bs : Hp → Hp → Prop) (I : List PyData → Nat → L2.St → Hp → Hp → Prop) (h0 : ∀ ds G2 H2, ξ ds → Stp T G H G2 H2 → Bs G2 H2 ∧ I ds 0 σ G2 H2) (hB : ∀ G1 H1, Bs G1 H1 → Ex G1 H1)
    (hs : ∀ ds i d x σ' G1 H1, ξ ds → Ex G G1 → Bs G1 H1 → ds[i]? = some d → Da G1 x d → I ds i σ' G1 H1 → tu { D with nx := fun σ'' H'' => ∃ G'', Ex G1 G'' ∧ Bs G'' H'' ∧ I ds (i + 1) σ'' G'' H'', ct := fun σ'' H'' => ∃ G'', Ex G1 G'' ∧ Bs G'' H'' ∧ I ds (i + 1) σ'' G'' H'', bk := tz D } (σ'.set i0 (some x)) H1)
    (hd : ∀ ds σ' G1 H1, ξ ds → Ex G G1 → Bs G1 H1 → I ds ds.length σ' G1 H1 → tz D σ' H1) : tSeq (tFor (iSq K b tl) (gName i0) tu) tz D σ H :=
  q_forX p h hφ Bs I h0 hB hs hd
theorem q_forN {b : Bool} {ds : List PyData} {i0 : Nat} (p : Pre T G H) (h : EvP T tl σ G (· = IsSq b ds)) (Bs : Hp → Hp → Prop) (I : Nat → L2.St → Hp → Hp → Prop) (h0 : ∀ G2 H2, Stp T G H G2 H2 → Bs G2 H2 ∧ I 0 σ G2 H2) (hB : ∀ G1 H1, Bs G1 H1 → Ex G1 H1)
    (hs : ∀ i d x σ' G1 H1, Ex G G1 → Bs G1 H1 → ds[i]? = some d → Da G1 x d → I i σ' G1 H1 → tu { D with nx := fun σ'' H'' => ∃ G'', Ex G1 G'' ∧ Bs G'' H'' ∧ I (i + 1) σ'' G'' H'', ct := fun σ'' H'' => ∃ G'', Ex G1 G'' ∧ Bs G'' H'' ∧ I (i + 1) σ'' G'' H'', bk := tz D } (σ'.set i0 (some x)) H1)
    (hd : ∀ σ' G1 H1, Ex G G1 → Bs G1 H1 → I ds.length σ' G1 H1 → tz D σ' H1) : tSeq (tFor (iSq K b tl) (gName i0) tu) tz D σ H :=
  q_for p h Bs I h0 hB hs hd
/-- for i in range(n) -/
theorem q_forR {ta : TA} {n : Int} (p : Pre T G H) (h : EvA T ta σ G (· = [.int n])) (hn : 0 ≤ n ∧ n ≤ 100000) (I : Nat → L2.St → Hp → Prop) (h0 : ∀ G2 H2, Stp T G H G2 H2 → I 0 σ H2)
    (hs : ∀ (i : Nat) σ' H1, (i : Int) < n → I i σ' H1 → tu { D with nx := I (i + 1), ct := I (i + 1), bk := tz D } (σ'.set j (some (.int (i : Int)))) H1)
    (hd : ∀ σ' H1, I n.toNat σ' H1 → tz D σ' H1) : tSeq (tFor (iRng1 ta) (gName j) tu) tz D σ H := by
  refine h G H (Ex.refl _) p _ fun ws ds G2 H2 s2 kk f => ?_
  subst f
  obtain ⟨v, ws', rfl, kv, k0⟩ := kk.consV
  cases k0.nilV
  cases kv.intV
  refine ⟨n, rfl, by omega, by omega, for_range (lo := 0) (n := n.toNat) I (h0 G2 H2 s2) (fun i σ' H' hi p => ?_) hd⟩
  have e0 : 0 + (i : Int) = i := Int.zero_add _
  show tu { D with nx := I (i + 1), ct := I (i + 1), bk := tz D } (σ'.set j (some (.int ((0 : Int) + (i : Int))))) H'
  rw [e0]
  exact hs i σ' H' (by omega) p
end
end Dv

namespace K0
open PySem PySem.Spec PyProof.Rows L2
open Evl (Ex)
def topS (i : Nat) : Stmt := PySem.Challenge.pw_soonestsaid_k00_patterns_against_all_row.main.body.getD i (.Pass ⟨0, 0, 0, 0⟩)
abbrev s_sorted_things : Stmt := topS 1
abbrev p_sorted_things : List Str := ["things"]
abbrev n_sorted_things : List Str := ["things", "found", "thing"]
theorem sc_sorted_things : FnScope n_sorted_things p_sorted_things (defScope s_sorted_things) := ⟨rfl, rfl, rfl, by decide +kernel, rfl, by decide +kernel, by decide +kernel⟩
abbrev s_covers : Stmt := topS 4
abbrev p_covers : List Str := ["pattern", "other"]
abbrev n_covers : List Str := ["pattern", "other", "cell", "inner"]
theorem sc_covers : FnScope n_covers p_covers (defScope s_covers) := ⟨rfl, rfl, rfl, by decide +kernel, rfl, by decide +kernel, by decide +kernel⟩
abbrev s_meeting : Stmt := topS 5
abbrev p_meeting : List Str := ["one", "other"]
abbrev n_meeting : List Str := ["one", "other", "cells", "left", "right"]
theorem sc_meeting : FnScope n_meeting p_meeting (defScope s_meeting) := ⟨rfl, rfl, rfl, by decide +kernel, rfl, by decide +kernel, by decide +kernel⟩
abbrev s_picks : Stmt := topS 6
abbrev p_picks : List Str := ["columns"]
abbrev n_picks : List Str := ["columns", "picked", "column", "begun", "cell"]
theorem sc_picks : FnScope n_picks p_picks (defScope s_picks) := ⟨rfl, rfl, rfl, by decide +kernel, rfl, by decide +kernel, by decide +kernel⟩
abbrev s_rows_of : Stmt := topS 7
abbrev p_rows_of : List Str := ["pattern", "worths"]
abbrev n_rows_of : List Str := ["pattern", "worths", "table", "cells", "fillers", "columns", "cell", "picked"]
theorem sc_rows_of : FnScope n_rows_of p_rows_of (defScope s_rows_of) := ⟨rfl, rfl, rfl, by decide +kernel, rfl, by decide +kernel, by decide +kernel⟩
abbrev s_all_rows : Stmt := topS 8
abbrev p_all_rows : List Str := ["tables", "worths"]
abbrev n_all_rows : List Str := ["tables", "worths", "pattern", "row"]
theorem sc_all_rows : FnScope n_all_rows p_all_rows (defScope s_all_rows) := ⟨rfl, rfl, rfl, by decide +kernel, rfl, by decide +kernel, by decide +kernel⟩
abbrev s_star_patterns : Stmt := topS 9
abbrev p_star_patterns : List Str := ["tables"]
abbrev n_star_patterns : List Str := ["tables", "table", "width"]
theorem sc_star_patterns : FnScope n_star_patterns p_star_patterns (defScope s_star_patterns) := ⟨rfl, rfl, rfl, by decide +kernel, rfl, by decide +kernel, by decide +kernel⟩
abbrev s__law_source : Stmt := topS 11
abbrev p__law_source : List Str := ["_law_script"]
abbrev n__law_source : List Str := ["_law_script"]
theorem sc__law_source : FnScope n__law_source p__law_source (defScope s__law_source) := ⟨rfl, rfl, rfl, by decide +kernel, rfl, by decide +kernel, by decide +kernel⟩
abbrev s__law_take : Stmt := topS 12
abbrev p__law_take : List Str := ["_law_source_here", "_law_many"]
abbrev n__law_take : List Str := ["_law_source_here", "_law_many", "_law_cell", "_law_mixed_here", "_law_told"]
theorem sc__law_take : FnScope n__law_take p__law_take (defScope s__law_take) := ⟨rfl, rfl, rfl, by decide +kernel, rfl, by decide +kernel, by decide +kernel⟩
abbrev s__law_pick : Stmt := topS 13
abbrev p__law_pick : List Str := ["_law_source_here", "_law_things"]
abbrev n__law_pick : List Str := ["_law_source_here", "_law_things"]
theorem sc__law_pick : FnScope n__law_pick p__law_pick (defScope s__law_pick) := ⟨rfl, rfl, rfl, by decide +kernel, rfl, by decide +kernel, by decide +kernel⟩
abbrev s__law_mixed : Stmt := topS 14
abbrev p__law_mixed : List Str := ["_law_source_here", "_law_things"]
abbrev n__law_mixed : List Str := ["_law_source_here", "_law_things", "_law_rest", "_law_told", "_law_k"]
theorem sc__law_mixed : FnScope n__law_mixed p__law_mixed (defScope s__law_mixed) := ⟨rfl, rfl, rfl, by decide +kernel, rfl, by decide +kernel, by decide +kernel⟩
abbrev s__law_pool : Stmt := topS 15
abbrev p__law_pool : List Str := ["_law_source_here", "_law_many"]
abbrev n__law_pool : List Str := ["_law_source_here", "_law_many", "_law_told", "_law_k"]
theorem sc__law_pool : FnScope n__law_pool p__law_pool (defScope s__law_pool) := ⟨rfl, rfl, rfl, by decide +kernel, rfl, by decide +kernel, by decide +kernel⟩
abbrev s__law_tables : Stmt := topS 16
abbrev p__law_tables : List Str := ["_law_source_here"]
abbrev n__law_tables : List Str := ["_law_source_here", "_law_k"]
theorem sc__law_tables : FnScope n__law_tables p__law_tables (defScope s__law_tables) := ⟨rfl, rfl, rfl, by decide +kernel, rfl, by decide +kernel, by decide +kernel⟩
abbrev s__law_tuples : Stmt := topS 17
abbrev p__law_tuples : List Str := ["_law_worths", "_law_many"]
abbrev n__law_tuples : List Str := ["_law_worths", "_law_many", "_law_told", "_law_k"]
theorem sc__law_tuples : FnScope n__law_tuples p__law_tuples (defScope s__law_tuples) := ⟨rfl, rfl, rfl, by decide +kernel, rfl, by decide +kernel, by decide +kernel⟩
abbrev s__law_longer : Stmt := topS 18
abbrev p__law_longer : List Str := ["_law_told", "_law_worths"]
abbrev n__law_longer : List Str := ["_law_told", "_law_worths", "_law_longer_here", "_law_left", "_law_worth"]
theorem sc__law_longer : FnScope n__law_longer p__law_longer (defScope s__law_longer) := ⟨rfl, rfl, rfl, by decide +kernel, rfl, by decide +kernel, by decide +kernel⟩
abbrev s__law_covers : Stmt := topS 19
abbrev p__law_covers : List Str := ["_law_pattern", "_law_row"]
abbrev n__law_covers : List Str := ["_law_pattern", "_law_row", "_law_k"]
theorem sc__law_covers : FnScope n__law_covers p__law_covers (defScope s__law_covers) := ⟨rfl, rfl, rfl, by decide +kernel, rfl, by decide +kernel, by decide +kernel⟩
abbrev s__law_rows_over : Stmt := topS 20
abbrev p__law_rows_over : List Str := ["_law_tables_here", "_law_worths"]
abbrev n__law_rows_over : List Str := ["_law_tables_here", "_law_worths", "_law_told", "_law_place", "_law_filling"]
theorem sc__law_rows_over : FnScope n__law_rows_over p__law_rows_over (defScope s__law_rows_over) := ⟨rfl, rfl, rfl, by decide +kernel, rfl, by decide +kernel, by decide +kernel⟩
abbrev s__law_drawn_pattern : Stmt := topS 21
abbrev p__law_drawn_pattern : List Str := ["_law_source_here", "_law_tables_here", "_law_pool_here", "_law_near"]
abbrev n__law_drawn_pattern : List Str := ["_law_source_here", "_law_tables_here", "_law_pool_here", "_law_near", "_law_place", "_law_k"]
theorem sc__law_drawn_pattern : FnScope n__law_drawn_pattern p__law_drawn_pattern (defScope s__law_drawn_pattern) := ⟨rfl, rfl, rfl, by decide +kernel, rfl, by decide +kernel, by decide +kernel⟩
abbrev s__law_is_pattern : Stmt := topS 22
abbrev p__law_is_pattern : List Str := ["_law_thing", "_law_tables_here"]
abbrev n__law_is_pattern : List Str := ["_law_thing", "_law_tables_here", "_law_cell"]
theorem sc__law_is_pattern : FnScope n__law_is_pattern p__law_is_pattern (defScope s__law_is_pattern) := ⟨rfl, rfl, rfl, by decide +kernel, rfl, by decide +kernel, by decide +kernel⟩
abbrev s__law_pair_holds : Stmt := topS 23
abbrev p__law_pair_holds : List Str := ["_law_tables_here", "_law_rows", "_law_one", "_law_other"]
abbrev n__law_pair_holds : List Str := ["_law_tables_here", "_law_rows", "_law_one", "_law_other", "_law_mine", "_law_both", "_law_told", "_law_row"]
theorem sc__law_pair_holds : FnScope n__law_pair_holds p__law_pair_holds (defScope s__law_pair_holds) := ⟨rfl, rfl, rfl, by decide +kernel, rfl, by decide +kernel, by decide +kernel⟩
abbrev s_law : Stmt := topS 24
abbrev p_law : List Str := ["_law_script"]
abbrev n_law : List Str := ["_law_script", "_law_source_here", "_law_tables_here", "_law_pool_here", "_law_one", "_law_other", "_law_rows", "_law_few", "_law_handed", "_law_told", "_law_due", "_law_row", "_law_every", "_law_k", "_law_worth"]
theorem sc_law : FnScope n_law p_law (defScope s_law) := ⟨rfl, rfl, rfl, by decide +kernel, rfl, by decide +kernel, by decide +kernel⟩

/-! what a def is worth to its callers -/
section
variable (P : Program) (w : World) (K : PySem.W.Frag) (mg : Str → Option Value) (base : Heap)
def Ca (x : Str) (k : Nat) (ps : List Str) (sp : Sp) : Prop := ∃ f fd, mg x = some (.ref f) ∧ PySem.W.keepIn K (.ref f) = true ∧ Binds K fd ps [] ∧ FnOk P w K mg base CX0 k f fd ps sp
/-- a def of the text -/
def Txt (x : Str) (st : Stmt) (ps : List Str) : Prop := ∃ f fd, mg x = some (.ref f) ∧ Fun K x x st f fd ∧ Binds K fd ps []
variable {P w K mg base}
theorem Txt.ca {x : Str} {st : Stmt} {k : Nat} {ps : List Str} {sp : Sp} (t : Txt K mg x st ps) (h : ∀ f fd, Fun K x x st f fd → FnOk P w K mg base CX0 k f fd ps sp) : Ca P w K mg base x k ps sp := by
  obtain ⟨f, fd, m, F, b⟩ := t
  exact ⟨f, fd, m, F.kp, b, h f fd F⟩
end
end K0

namespace K0
open PySem L2
/-! strictly ascending lists -/
def Asc (l : List Int) : Prop := l.Pairwise (· < ·)
theorem asc_eq : ∀ {l m : List Int}, Asc l → Asc m → (∀ x, x ∈ l ↔ x ∈ m) → l = m
  | [], [], _, _, _ => rfl
  | [], b :: m, _, _, h => by have := (h b).2 (by simp); simp at this
  | a :: l, [], _, _, h => by have := (h a).1 (by simp); simp at this
  | a :: l, b :: m, h1, h2, h => by
    have p1 := List.pairwise_cons.mp h1
    have p2 := List.pairwise_cons.mp h2
    have e : a = b := by
      have x1 := (h a).1 (by simp)
      have x2 := (h b).2 (by simp)
      rw [List.mem_cons] at x1 x2
      rcases x1 with x1 | x1
      · exact x1
      · rcases x2 with x2 | x2
        · exact x2.symm
        · have := p1.1 b x2
          have := p2.1 a x1
          omega
    subst e
    refine congrArg (a :: ·) (asc_eq p1.2 p2.2 fun x => ⟨fun hx => ?_, fun hx => ?_⟩)
    · have := (h x).1 (by simp [hx])
      rw [List.mem_cons] at this
      rcases this with rfl | y
      · have := p1.1 x hx; omega
      · exact y
    · have := (h x).2 (by simp [hx])
      rw [List.mem_cons] at this
      rcases this with rfl | y
      · have := p2.1 x hx; omega
      · exact y
/-- one turn of taking the ascending ones, each once -/
theorem asc_snoc {F ms : List Int} {i : Nat} {x : Int} (hs : ms.Pairwise (· ≤ ·)) (hx : ms[i]? = some x) (h : Asc F ∧ ∀ y, y ∈ F ↔ y ∈ ms.take i) :
    ((F = [] ∨ F.getLast? ≠ some x) → Asc (F ++ [x]) ∧ ∀ y, y ∈ F ++ [x] ↔ y ∈ ms.take (i + 1)) ∧ (¬ (F = [] ∨ F.getLast? ≠ some x) → Asc F ∧ ∀ y, y ∈ F ↔ y ∈ ms.take (i + 1)) := by
  obtain ⟨h1, h2⟩ := h
  have et : ms.take (i + 1) = ms.take i ++ [x] := by rw [List.take_add_one, hx]; rfl
  obtain ⟨hi, ex⟩ := List.getElem?_eq_some_iff.mp hx
  have le : ∀ y ∈ ms.take i, y ≤ x := fun y hy => by
    obtain ⟨j, hj, ej⟩ := List.mem_iff_getElem.mp hy
    rw [List.length_take] at hj
    rw [List.getElem_take] at ej
    rw [← ej, ← ex]
    exact List.pairwise_iff_getElem.mp hs j i (by omega) hi (by omega)
  refine ⟨fun hc => ⟨?_, fun y => by rw [et, List.mem_append, List.mem_append, h2]⟩, fun hc => ⟨h1, fun y => ?_⟩⟩
  · refine List.pairwise_append.mpr ⟨h1, by simp, fun a ha b hb => ?_⟩
    rw [List.mem_singleton] at hb
    subst hb
    have l1 := le a ((h2 a).1 ha)
    rcases hc with rfl | hc
    · simp at ha
    · by_cases e : a = b
      · subst e
        exfalso
        have hne : F ≠ [] := fun z => by rw [z] at ha; simp at ha
        have hl := List.getLast?_eq_some_getLast hne
        have m := (h2 _).1 (List.getLast_mem hne)
        have l2 := le _ m
        have l3 : a ≤ F.getLast hne := by
          obtain ⟨j, hj, ej⟩ := List.mem_iff_getElem.mp ha
          rw [List.getLast_eq_getElem, ← ej]
          by_cases q : j = F.length - 1
          · subst q; exact Int.le_refl _
          · exact Int.le_of_lt (List.pairwise_iff_getElem.mp h1 j (F.length - 1) hj (by omega) (by omega))
        exact hc (by rw [hl, show F.getLast hne = a by omega])
      · omega
  · rw [et, List.mem_append, ← h2]
    refine ⟨Or.inl, fun z => ?_⟩
    rcases z with z | z
    · exact z
    · rw [List.mem_singleton] at z
      subst z
      have hne : F ≠ [] := fun z => hc (Or.inl z)
      have hl : F.getLast? = some y := by
        by_cases q : F.getLast? = some y
        · exact q
        · exact absurd (Or.inr q) hc
      rw [List.getLast?_eq_some_getLast hne] at hl
      rw [← Option.some.inj hl]
      exact List.getLast_mem hne
end K0

namespace Dv
open PySem PySem.Spec PyProof.Rows L2
open Evl (Ex)
section
variable {K : PySem.W.Frag} {T : Tw} {σ : L2.St} {G G' H H' : Hp} {ta tb te tx tl : TE} {t u : TT} {v : V} {d : PyData}
theorem Stp.back {G1 G2 H2 : Hp} (p : Pre T G H) (e : Ex G G1) (s : Stp T G1 H G2 H2) : Stp T G H G H2 :=
  ⟨Ex.refl _, fun a o x y => (by rw [x] at y; cases y), s.fm, (e.trans s.ex).trans s.pre.1, fun S C z => ⟨(p.2 S C z).1, (s.pre.2 S C z).2⟩⟩
/-- a list kept apart, told for a while -/
theorem Ap.seen {l : Addr} {es : List PyData} {G0 H0 : Hp} (p0 : Pre T G0 H0) (hl : H0 l = none) (p : Pre T G H) (a : Ap l es G H) : ∃ G1, Ex G G1 ∧ Pre T G1 H ∧ Da G1 (.ref l) (.list es) := by
  obtain ⟨g, xs, e, k⟩ := a
  refine ⟨upd G l (.lst xs), Ex.new g, ⟨fun a u x => ?_, fun S C z => ?_⟩, .lst upd_same (k.mono (Ex.new g))⟩
  · by_cases q : a = l
    · rw [q, upd_same] at x; rw [q, ← x]; exact e
    · rw [upd_ne q] at x; exact p.1 a u x
  · refine ⟨?_, (p.2 S C z).2⟩
    have q : S ≠ l := fun q => p0.freshS hl C (by rw [z, q])
    rw [upd_ne q]
    exact (p.2 S C z).1
/-- a test while a list is seen -/
theorem b_seen {l : Addr} {es : List PyData} {α : Bool → Prop} {G0 H0 : Hp} (p0 : Pre T G0 H0) (hl : H0 l = none) (p : Pre T G H) (a : Ap l es G H) (h : ∀ G1, Ex G G1 → Da G1 (.ref l) (.list es) → EvB T t σ G1 α) {Q : Bool → Hp → Prop} (q : ∀ b H2, α b → Stp T G H G H2 → Q b H2) : t σ H Q := by
  obtain ⟨G1, e, p1, d⟩ := a.seen p0 hl p
  exact h G1 e d G1 H (Ex.refl _) p1 Q fun b G2 H2 s f => q b H2 f (s.back p e)
theorem s_whenA {l : Addr} {es : List PyData} {α : Bool → Prop} {G0 H0 : Hp} {D : Ends} {tu : TS} (p0 : Pre T G0 H0) (hl : H0 l = none) (p : Pre T G H) (a : Ap l es G H) (h : ∀ G1, Ex G G1 → Da G1 (.ref l) (.list es) → EvB T t σ G1 α)
    (h1 : α true → ∀ H2, Stp T G H G H2 → tu D σ H2) (h2 : α false → ∀ H2, Stp T G H G H2 → D.nx σ H2) : tIfS t tu tNext D σ H :=
  b_seen p0 hl p a h fun b H2 f s => by
    cases b with
    | true => exact h1 f H2 s
    | false => exact h2 f H2 s
/-- truth of a list -/
theorem b_truL {es : List PyData} (h : EvP T te σ G (· = .list es)) : EvB T (fun σ H Q => te σ H fun x H' => ∃ k, TruV K x H' k ∧ Q k H') σ G (· = !es.isEmpty) := fun G1 H x p Q q => h G1 H x p _ fun v d G2 H2 s2 k f => by
  subst f
  obtain ⟨a, xs, rfl, ga, kk⟩ := k.lstV
  refine ⟨!es.isEmpty, .inl ⟨xs, .inl (.inl (s2.pre.1 _ _ ga)), ?_⟩, q _ G2 H2 s2 rfl⟩
  have := kk.length
  cases xs <;> cases es <;> simp_all
theorem r_neg {i : Int} : RU1 T (rU fun i => V.int (-i)) (.int i) (· = .int (-i)) := fun x G H hx p Q q => by
  cases hx.intV
  exact ⟨i, rfl, q _ _ G H (Stp.refl p) (.int _) rfl⟩
theorem r_ixLast {ds : List PyData} {e : PyData} (h : ds.getLast? = some e) : RD T (rIxL K) (.list ds) (.int (-1)) (· = e) := fun x y G H hx hy p Q q => by
  cases hy.intV
  obtain ⟨a, xs, rfl, ga, k⟩ := hx.lstV
  rw [List.getLast?_eq_getElem?] at h
  obtain ⟨v, hv, kv⟩ := k.get h
  rw [← k.length] at hv
  have hn : xs ≠ [] := fun z => by subst z; simp at hv
  have hv2 : xs.getLast hn = v := by
    rw [List.getLast_eq_getElem]
    exact (List.getElem?_eq_some_iff.mp hv).2
  have ha : atI xs (-1) = some v := by
    rw [← List.dropLast_concat_getLast hn, hv2]
    exact atI_last _ _
  exact ⟨a, xs, -1, v, rfl, rfl, .inl (.inl (p.1 _ _ ga)), ha, q v e G H (Stp.refl p) kv rfl⟩
end
end Dv
namespace K0
open PySem PySem.Spec PyProof.Rows L2 Dv
open Evl (Ex)
abbrev encI (ns : List Int) : List PyData := ns.map .int
abbrev encC (cs : List Int) : PyData := .tuple (encI cs)
abbrev encR (r : Int × List Int) : PyData := .tuple [.int r.1, encC r.2]
section
variable {P : Program} {w : World} {K : PySem.W.Frag} {mg : Str → Option Value} {base : Heap}
/-! sorted_things, of ints -/
def RSorted (ds : List PyData) (d : PyData) : Prop := ∃ ns ms, ds = [.list (encI ns)] ∧ ns.length < 64 ∧ Asc ms ∧ (∀ x, x ∈ ms ↔ x ∈ ns) ∧ d = encC ms
theorem ok_sorted (t : Txt K mg "sorted_things" s_sorted_things p_sorted_things) (mS : mg "sorted" = none) (mT : mg "tuple" = none) : Ca P w K mg base "sorted_things" 1 p_sorted_things (spF RSorted) := by
  refine t.ca fun f fd F => F.ok sc_sorted_things (fun vs H Q E h => ?_) (fun cdv A outer s H vs Q E hr h => ?_)
  · obtain ⟨G, ds, d, _, k, ⟨ns, ms, rfl, _⟩, _⟩ := h
    exact k.length
  · obtain ⟨G, ds, d, p0, k, ⟨ns, ms, rfl, hz, ha, hm, rfl⟩, q⟩ := h
    obtain ⟨v, ws, rfl, kv, k0⟩ := k.consV
    cases k0.nilV
    refine ⟨_, pss_cons (ps_set (i := 1) sc_sorted_things.nd rfl (.inl rfl) (pe_lst pa_nil))
      (pss_cons (ps_for PassesOwn.never rfl (pi_list (pe_callB cr_sorted (by rfl) mS (by decide +kernel) (pa_cons (pv 0) pa_nil))) (pg_name (i := 2) sc_sorted_things.nd rfl (.inl rfl))
        (pss_one (ps_if (PW.pt (pw_or (pt_not (pt_truth (pv 1) (by intro _; rfl))) (pw_or1 (pt_cmpR op_ne (pe_ix ix_list (pv 1) (pe_un un_neg pe_int) (fun _ _ => rfl)) (pv 2) (nomark _)))))
          (pss_one (ps_expr (pe_bm PySem.F.plainAttrs_list PySem.F.slot_list_append PySem.F.type_list_append mt_append (pv 1) (pa_cons (pv 2) pa_nil)))) pss_nil)))
      (pss_one (ps_ret (pe_callTy call_tuple_of (by rfl) mT (by decide +kernel) (pa_cons (pv 1) pa_nil))))), ?_⟩
    refine q_new p0 (Stp.refl p0) fun l H1 hl s1 _ _ a1 => ?_
    refine q_forXN (b := true) (φ := fun d => ∃ ys : List Int, d = .list (encI ys) ∧ ys.Perm ns ∧ ys.Pairwise (· ≤ ·)) (ξ := fun ds => ∃ ys : List Int, ds = encI ys ∧ ys.Perm ns ∧ ys.Pairwise (· ≤ ·)) s1.pre
      (e_cb (a_cons (e_var rfl kv) a_nil (ζ := (· = [.list (encI ns)])) fun d ds e1 e2 => by rw [e1, e2]) fun ds e => by
        subst e
        exact c_sorted hz fun ms h1 h2 => ⟨ms, rfl, h1, h2⟩)
      (fun d ⟨ys, e, z⟩ => ⟨encI ys, e, ys, rfl, z⟩) (fun G1 H1 => Stp none G H G1 H1)
      (fun ds i σ G1 H1 => ∃ (ys F : List Int) (x2 : Option V), ds = encI ys ∧ σ = [some v, some (.ref l), x2] ∧ Ap l (encI F) G1 H1 ∧ (Asc F ∧ ∀ y, y ∈ F ↔ y ∈ ys.take i) ∧ F.length ≤ i)
      (fun ds G2 H2 ⟨ys, e, _⟩ s2 => ⟨s1.trans s2, ys, [], none, e, rfl, a1.stp p0 hl s2, ⟨.nil, by simp⟩, Nat.le_refl _⟩) (fun G1 H1 s => s.pre.1) ?_ ?_
    · rintro ds i d x σ' G1 H1 ⟨ys, rfl, hp, hs⟩ e1 sb hd kd ⟨ys', F, x2, e, rfl, ap, hF, hFl⟩
      have ey : ys' = ys := (List.map_inj_right (fun a b h => by cases h; rfl)).mp e.symm
      subst ey
      obtain ⟨y, hy, rfl⟩ : ∃ y, ys'[i]? = some y ∧ d = .int y := by
        rw [List.getElem?_map] at hd
        cases q : ys'[i]? with
        | none => rw [q] at hd; cases hd
        | some y => rw [q] at hd; cases hd; exact ⟨y, rfl, rfl⟩
      have hi64 : i < 64 := by
        have := (List.getElem?_eq_some_iff.mp hy).1
        have := hp.length_eq
        omega
      have step := asc_snoc hs hy hF
      have hgl : ∀ z, F.getLast? = some z → (encI F).getLast? = some (.int z) := fun z hz => by rw [List.getLast?_map, hz]; rfl
      refine s_whenA p0 hl sb.pre ap (α := (· = (F.isEmpty || !decide (F.getLast?.getD 0 = y)))) (fun G2 e2 dl => ?_) (fun hb H2 s2 => ?_) (fun hb H2 s2 => ?_)
      · refine b_is (b_or (b_not (b_truL (e_var rfl dl))) fun hne => b_test (φ := (· = .bool (!decide (F.getLast?.getD 0 = y)))) (e_op (φ := (· = .int (F.getLast?.getD 0))) (ψ := (· = .int y)) (e_op (φ := (· = .list (encI F))) (ψ := (· = .int (-1))) (e_var rfl dl) (e_un (φ := (· = .int 1)) e_int fun d e => ?_) fun d e hd he => ?_) (e_var rfl (kd.mono e2)) fun d e hd he => ?_) fun d hd => ⟨_, hd, rfl⟩) (by cases F <;> rfl)
        · subst e
          exact r_neg
        · subst hd; subst he
          have hF' : F ≠ [] := fun z => by subst z; simp at hne
          refine r_ixLast ?_
          rw [hgl _ (List.getLast?_eq_some_getLast hF'), List.getLast?_eq_some_getLast hF']
          rfl
        · subst hd; subst he
          exact r_neI
      · refine s_app p0 (sb.trans s2) rfl hl (ap.stp p0 hl s2) (by rw [List.length_map]; omega) (e_var rfl kd) fun d' G3 H3 e3 s3 a3 hd' => ⟨G3, e3, s3, ys', F ++ [y], _, rfl, rfl, ?_, ?_, by rw [List.length_append]; simp; omega⟩
        · subst hd'
          rw [encI, List.map_append]
          exact a3
        · refine step.1 ?_
          cases F with
          | nil => exact .inl rfl
          | cons z F =>
            refine .inr fun q => ?_
            rw [q] at hb
            simp at hb
      · refine ⟨G1, Ex.refl _, sb.trans s2, ys', F, _, rfl, rfl, ap.stp p0 hl s2, step.2 ?_, by omega⟩
        cases F with
        | nil => simp at hb
        | cons z F =>
          intro q
          rcases q with q | q
          · cases q
          · rw [List.getLast?_eq_some_getLast (by simp)] at hb q
            simp at hb q
            exact q hb
    · rintro ds σ' G1 H1 ⟨ys, rfl, hp, hs⟩ e1 sb ⟨ys', F, x2, e, rfl, ap, hF, hFl⟩
      have ey : ys' = ys := (List.map_inj_right (fun a b h => by cases h; rfl)).mp e.symm
      subst ey
      rw [List.length_map, List.take_length] at hF
      have eF : F = ms := asc_eq hF.1 ha fun x => by rw [hF.2, hm, hp.mem_iff]
      subst eF
      obtain ⟨G2, e2, s2, dl⟩ := ap.tell p0 sb hl
      exact s_ret s2.pre (e_cb (a_cons (e_var rfl dl) a_nil (ζ := (· = [.list (encI F)])) fun d ds e1 e2 => by rw [e1, e2]) fun ds e => by
        subst e
        exact c_tupL) fun v' d' G3 H3 s3 k3 f => q v' G3 H3 (s2.trans s3) (by subst f; exact k3)
end
end K0

namespace Dv
open PySem PySem.Spec PyProof.Rows L2
open Evl (Ex)
section
variable {K : PySem.W.Frag} {T : Tw} {σ : L2.St} {G G' H H' G0 H0 : Hp} {ta : TA} {tb te tx tl : TE} {t u : TT} {v : V} {d : PyData} {D : Ends} {tu tw tz : TS}
theorem Stp.junk (s : Stp T G0 H0 G H) (p0 : Pre T G0 H0) {a : Addr} (o : HO) (h : H a = none) : Stp T G0 H0 G (upd H a o) := s.mut p0 o (s.free p0 h) (Evl.fresh_back s.pre.1 h)
theorem Ap.junk {l a : Addr} {es : List PyData} {o : HO} (p : Ap l es G H) (h : H a = none) : Ap l es G (upd H a o) := by
  obtain ⟨g, xs, e, k⟩ := p
  exact ⟨g, xs, by rw [upd_ne (ne_of_none e h)]; exact e, k⟩
/-- a, b = e -/
theorem q_unp2 {j1 j2 : Nat} {d1 d2 : PyData} (p : Pre T G H) (h : EvP T te σ G (· = .tuple [d1, d2])) (k : ∀ v1 v2 G1 H1, Stp T G H G1 H1 → Da G1 v1 d1 → Da G1 v2 d2 → tz D ((σ.set j1 (some v1)).set j2 (some v2)) H1) :
    tSeq (tAsg te (gTup K 2 (gCons (gName j1) (gCons (gName j2) gNil)))) tz D σ H := h G H (Ex.refl _) p _ fun v d G1 H1 s kd f => by
  subst f
  obtain ⟨a, xs, rfl, ga, kk⟩ := kd.tupV
  obtain ⟨v1, ws, rfl, k1, kk⟩ := kk.consV
  obtain ⟨v2, ws, rfl, k2, kk⟩ := kk.consV
  cases kk.nilV
  exact ⟨a, _, rfl, .inl (.inl (s.pre.1 _ _ ga)), rfl, v1, [v2], rfl, v2, [], rfl, rfl, k v1 v2 G1 H1 s k1 k2⟩
/-- for a, b in zip(two tuples) -/
theorem q_zip {j1 j2 : Nat} {ds es : List PyData} (p : Pre T G H) (h : EvA T ta σ G (· = [.tuple ds, .tuple es])) (hl : ds.length = es.length) (p0 : Pre T G0 H0) (s0 : Stp T G0 H0 G H) (I : Nat → L2.St → Hp → Hp → Prop) (h0 : ∀ G2 H2, Stp T G H G2 H2 → I 0 σ G2 H2)
    (hU : ∀ i σ' G1 H1 a o, I i σ' G1 H1 → H1 a = none → I i σ' G1 (upd H1 a o))
    (hs : ∀ i d e x y σ' G1 H1, Ex G G1 → Stp T G0 H0 G1 H1 → ds[i]? = some d → es[i]? = some e → Da G1 x d → Da G1 y e → I i σ' G1 H1 → tu { D with nx := fun σ'' H'' => ∃ G'', Ex G1 G'' ∧ Stp T G0 H0 G'' H'' ∧ I (i + 1) σ'' G'' H'', ct := fun σ'' H'' => ∃ G'', Ex G1 G'' ∧ Stp T G0 H0 G'' H'' ∧ I (i + 1) σ'' G'' H'', bk := tz D } ((σ'.set j1 (some x)).set j2 (some y)) H1)
    (hd : ∀ σ' G1 H1, Ex G G1 → Stp T G0 H0 G1 H1 → I ds.length σ' G1 H1 → tz D σ' H1) : tSeq (tFor (RZ.iZipA K ta) (gTup K 2 (gCons (gName j1) (gCons (gName j2) gNil))) tu) tz D σ H := by
  refine h G H (Ex.refl _) p _ fun vs ds' G2 H2 s2 kk f => ?_
  subst f
  obtain ⟨v1, ws, rfl, k1, kk⟩ := kk.consV
  obtain ⟨v2, ws, rfl, k2, kk⟩ := kk.consV
  cases kk.nilV
  obtain ⟨a, xs, rfl, ga, ka⟩ := k1.tupV
  obtain ⟨b, ys, rfl, gb, kb⟩ := k2.tupV
  refine ⟨a, b, xs, ys, rfl, .inr ⟨.inl (.inl (s2.pre.1 _ _ ga)), .inl (.inl (s2.pre.1 _ _ gb)), ?_⟩⟩
  have la := ka.length
  have lb := kb.length
  refine ⟨fun i m σ H => m = xs.length - i ∧ i ≤ xs.length ∧ ∃ G1, Ex G2 G1 ∧ Stp T G0 H0 G1 H ∧ I i σ G1 H, ⟨xs.length, by simp, Nat.zero_le _, G2, Ex.refl _, s0.trans s2, h0 G2 H2 s2⟩, ?_⟩
  rintro i m σ' H' ⟨rfl, hi, G1, e, s, ii⟩
  have sx : SqT K H' a xs := .inl (.inl (s.pre.1 _ _ (e _ _ ga)))
  have sy : SqT K H' b ys := .inl (.inl (s.pre.1 _ _ (e _ _ gb)))
  by_cases hlt : i < xs.length
  · have hlt2 : i < ys.length := lb ▸ hl ▸ la ▸ hlt
    refine .inr ⟨⟨xs, ys, _, _, sx, sy, List.getElem?_eq_getElem hlt, List.getElem?_eq_getElem hlt2⟩, fun σ'' H'' => ∃ G'', Ex G1 G'' ∧ Stp T G0 H0 G'' H'' ∧ I (i + 1) σ'' G'' H'', fun σ'' H'' ⟨G'', e'', p''⟩ => ⟨xs.length - (i + 1), by omega, rfl, hlt, G'', e.trans e'', p''⟩, fun vv H'' yy => ?_⟩
    obtain ⟨Tn, x, y, rfl, hT, rfl, f1, f2⟩ := yy
    obtain ⟨d, hd', kd⟩ := ka.getV (f1 _ sx)
    obtain ⟨e', he', ke⟩ := kb.getV (f2 _ sy)
    refine ⟨Tn, [x, y], rfl, .inl (.inl upd_same), rfl, x, [y], rfl, y, [], rfl, rfl, ?_⟩
    exact hs i d e' x y σ' G1 _ (s2.ex.trans e) (s.junk p0 _ hT) hd' he' (kd.mono e) (ke.mono e) (hU i σ' G1 H' Tn _ ii hT)
  · have q : i = xs.length := by omega
    subst q
    exact .inl ⟨⟨xs, ys, sx, sy, .inl (Nat.le_refl _)⟩, hd σ' G1 H' (s2.ex.trans e) s (by rw [← la]; exact ii)⟩
end
end Dv

namespace K0
open PySem PySem.Spec PyProof.Rows L2 Dv
open Evl (Ex)
/-! ### the mathematics of two patterns -/
abbrev Row := Int × List Int
def covL : List Int → List Int → Bool
  | x :: xs, y :: ys => (decide (x = -1) || decide (x = y)) && covL xs ys
  | _, _ => true
def cov (a b : Row) : Bool := decide (a.1 = b.1) && covL a.2 b.2
def meetL : List Int → List Int → Option (List Int)
  | x :: xs, y :: ys => if x ≠ -1 ∧ y ≠ -1 ∧ x ≠ y then none else (meetL xs ys).map ((if x = -1 then y else x) :: ·)
  | _, _ => some []
def meet (a b : Row) : Option Row := if a.1 = b.1 then (meetL a.2 b.2).map (a.1, ·) else none
def encO : Option Row → PyData
  | some r => encR r
  | none => .none
theorem encI_get {ns : List Int} {i : Nat} {d : PyData} (h : (encI ns)[i]? = some d) : ∃ z, ns[i]? = some z ∧ d = .int z := by
  rw [List.getElem?_map] at h
  cases q : ns[i]? with
  | none => rw [q] at h; cases h
  | some z => rw [q] at h; cases h; exact ⟨z, rfl, rfl⟩
theorem drop_get {ns : List Int} {i : Nat} {z : Int} (h : ns[i]? = some z) : ns.drop i = z :: ns.drop (i + 1) := by
  obtain ⟨hi, e⟩ := List.getElem?_eq_some_iff.mp h
  rw [List.drop_eq_getElem_cons hi, e]
section
variable {P : Program} {w : World} {K : PySem.W.Frag} {mg : Str → Option Value} {base : Heap}
def RCov (ds : List PyData) (d : PyData) : Prop := ∃ a b : Row, ds = [encR a, encR b] ∧ (a.1 = b.1 → a.2.length = b.2.length) ∧ d = .bool (cov a b)
theorem ok_covers (t : Txt K mg "covers" s_covers p_covers) {tk : Tok} (mS : mg "STAR" = some (.int (-1) tk)) (mZ : mg "zip" = none) : Ca P w K mg base "covers" 1 p_covers (spF RCov) := by
  refine t.ca fun f fd F => F.ok sc_covers (fun vs H Q E h => ?_) (fun cdv A outer s H vs Q E hr h => ?_)
  · obtain ⟨G, ds, d, _, k, ⟨a, b, rfl, _⟩, _⟩ := h
    exact k.length
  · obtain ⟨G, ds, d, p0, k, ⟨a, b, rfl, hl, rfl⟩, q⟩ := h
    obtain ⟨va, ws, rfl, ka, k⟩ := k.consV
    obtain ⟨vb, ws, rfl, kb, k⟩ := k.consV
    cases k.nilV
    refine ⟨_, pss_cons (ps_if (pt_cmpR op_ne (pe_ix ix_tup (pv 0) pe_int (fun _ _ => rfl)) (pe_ix ix_tup (pv 1) pe_int (fun _ _ => rfl)) (nomark _)) (pss_one (ps_ret pe_bl)) pss_nil)
      (pss_cons (ps_for PassesOwn.never rfl (RZ.pi_zipA (by rfl) mZ (pa_cons (pe_ix ix_tup (pv 0) pe_int (fun _ _ => rfl)) (pa_cons (pe_ix ix_tup (pv 1) pe_int (fun _ _ => rfl)) pa_nil)))
        (pg_tup rfl (pgs_cons (pg_name (i := 2) sc_covers.nd rfl (.inl rfl)) (pgs_cons (pg_name (i := 3) sc_covers.nd rfl (.inl rfl)) pgs_nil)))
        (pss_one (ps_if (pt_cmpR op_notIn_seq (pv 2) (pe_tup (pa_cons (pe_glob (v := .int (-1)) (by rfl) mS ⟨_, rfl⟩) (pa_cons (pv 3) pa_nil))) (by rfl)) (pss_one (ps_ret pe_bl)) pss_nil)))
      (pss_one (ps_ret pe_bl))), ?_⟩
    refine q_when p0 (α := (· = !decide (a.1 = b.1))) (b_test (φ := (· = .bool (!decide (a.1 = b.1)))) (e_op (e_op (χ := (· = .int a.1)) (e_var rfl ka) e_int ?_) (e_op (χ := (· = .int b.1)) (e_var rfl kb) e_int ?_) ?_) fun d e => ⟨_, e, rfl⟩) (fun hb G1 H1 s1 => ?_) (fun hb G1 H1 s1 => ?_)
    · rintro _ _ rfl rfl; exact r_ixT (j := 0) rfl rfl
    · rintro _ _ rfl rfl; exact r_ixT (j := 0) rfl rfl
    · rintro _ _ rfl rfl; exact r_neI
    · refine s_ret s1.pre e_bl fun v d G2 H2 s2 k2 e => q v G2 H2 (s1.trans s2) ?_
      subst e
      have : cov a b = false := by
        unfold cov
        rw [show decide (a.1 = b.1) = false by cases h : decide (a.1 = b.1) <;> simp_all]; rfl
      rw [this]; exact k2
    · have hab : a.1 = b.1 := by
        cases h : decide (a.1 = b.1)
        · rw [h] at hb; simp at hb
        · exact of_decide_eq_true h
      have hl := hl hab
      refine q_zip (ds := encI a.2) (es := encI b.2) s1.pre (a_cons (e_op (χ := (· = encC a.2)) (e_var rfl (ka.mono s1.ex)) e_int ?_) (a_cons (e_op (χ := (· = encC b.2)) (e_var rfl (kb.mono s1.ex)) e_int ?_) a_nil (ζ := (· = [encC b.2])) ?_) ?_) (by rw [List.length_map, List.length_map, hl]) p0 s1
        (fun i σ G1 H1 => (∃ x y, σ = [some va, some vb, x, y]) ∧ covL a.2 b.2 = covL (a.2.drop i) (b.2.drop i)) (fun G2 H2 s2 => ⟨⟨none, none, rfl⟩, rfl⟩) (fun _ _ _ _ _ _ h _ => h) ?_ ?_
      · rintro _ _ rfl rfl; exact r_ixT (j := 1) rfl rfl
      · rintro _ _ rfl rfl; exact r_ixT (j := 1) rfl rfl
      · rintro _ _ rfl rfl; rfl
      · rintro _ _ rfl rfl; rfl
      · rintro i d e x y σ' G2 H2 e2 s2 hd he kx ky ⟨⟨x', y', rfl⟩, hc⟩
        obtain ⟨m, hm, rfl⟩ := encI_get hd
        obtain ⟨n, hn, rfl⟩ := encI_get he
        rw [drop_get hm, drop_get hn] at hc
        have hc2 : covL a.2 b.2 = ((decide (m = -1) || decide (m = n)) && covL (a.2.drop (i + 1)) (b.2.drop (i + 1))) := hc
        refine s_when s2.pre (α := (· = !decide (m ∈ [-1, n]))) (b_test (φ := (· = .bool (!decide (m ∈ [-1, n])))) (e_op (ψ := (· = .tuple (encI [-1, n]))) (e_var rfl kx) (e_tup (ξ := (· = encI [-1, n])) (a_cons e_int (a_cons (e_var rfl ky) a_nil (ζ := (· = encI [n])) ?_) ?_) ?_) ?_) fun d e => ⟨_, e, rfl⟩) (fun hb G3 H3 s3 => ?_) (fun hb G3 H3 s3 => ⟨G3, s3.ex, s2.trans s3, ⟨⟨_, _, rfl⟩, ?_⟩⟩)
        · rintro _ _ rfl rfl; rfl
        · rintro _ _ rfl rfl; rfl
        · rintro _ rfl; exact ⟨by simp, rfl⟩
        · rintro _ _ rfl rfl; exact r_in (neg := true) (.inr rfl)
        · refine s_ret s3.pre e_bl fun v d G4 H4 s4 k4 e => q v G4 H4 ((s2.trans s3).trans s4) ?_
          subst e
          have : cov a b = false := by
            unfold cov
            rw [hc2]
            have h1 : ¬ (m ∈ [-1, n]) := by
              intro z
              rw [decide_eq_true z] at hb
              cases hb
            simp at h1
            simp [h1]
          rw [this]; exact k4
        · rw [hc2]
          have h1 : m ∈ [-1, n] := by
            by_cases z : m ∈ [-1, n]
            · exact z
            · rw [decide_eq_false z] at hb; cases hb
          simp at h1
          rcases h1 with h1 | h1 <;> simp [h1]
      · rintro σ' G2 H2 e2 s2 ⟨⟨x', y', rfl⟩, hc⟩
        refine s_ret s2.pre e_bl fun v d G4 H4 s4 k4 e => q v G4 H4 (s2.trans s4) ?_
        subst e
        have : cov a b = true := by
          unfold cov
          rw [hc, decide_eq_true hab, List.length_map, List.drop_length, List.drop_of_length_le (by omega)]; rfl
        rw [this]; exact k4
end
end K0

namespace K0
open PySem PySem.Spec PyProof.Rows L2 Dv
open Evl (Ex)
theorem meetL_length : ∀ {a b c : List Int}, a.length = b.length → meetL a b = some c → c.length = a.length
  | [], [], c, _, h => by cases h; rfl
  | x :: xs, y :: ys, c, hl, h => by
    unfold meetL at h
    by_cases q : x ≠ -1 ∧ y ≠ -1 ∧ x ≠ y
    · rw [if_pos q] at h; cases h
    · rw [if_neg q] at h
      cases r : meetL xs ys with
      | none => rw [r] at h; cases h
      | some z =>
        rw [r] at h
        cases h
        show z.length + 1 = xs.length + 1
        rw [meetL_length (by simpa using hl) r]
section
variable {P : Program} {w : World} {K : PySem.W.Frag} {mg : Str → Option Value} {base : Heap}
def RMeet (ds : List PyData) (d : PyData) : Prop := ∃ a b : Row, ds = [encR a, encR b] ∧ (a.1 = b.1 → a.2.length = b.2.length) ∧ a.2.length ≤ 100 ∧ d = encO (meet a b)
theorem ok_meeting (t : Txt K mg "meeting" s_meeting p_meeting) {tk : Tok} (mS : mg "STAR" = some (.int (-1) tk)) (mZ : mg "zip" = none) (mT : mg "tuple" = none) : Ca P w K mg base "meeting" 1 p_meeting (spF RMeet) := by
  refine t.ca fun f fd F => F.ok sc_meeting (fun vs H Q E h => ?_) (fun cdv A outer s H vs Q E hr h => ?_)
  · obtain ⟨G, ds, d, _, k, ⟨a, b, rfl, _⟩, _⟩ := h
    exact k.length
  · obtain ⟨G, ds, d, p0, k, ⟨a, b, rfl, hl, h100, rfl⟩, q⟩ := h
    obtain ⟨va, ws, rfl, ka, k⟩ := k.consV
    obtain ⟨vb, ws, rfl, kb, k⟩ := k.consV
    cases k.nilV
    refine ⟨_, pss_cons (ps_if (pt_cmpR op_ne (pe_ix ix_tup (pv 0) pe_int (fun _ _ => rfl)) (pe_ix ix_tup (pv 1) pe_int (fun _ _ => rfl)) (nomark _)) (pss_one (ps_ret pe_non)) pss_nil)
      (pss_cons (ps_set (i := 2) sc_meeting.nd rfl (.inl rfl) (pe_lst pa_nil))
      (pss_cons (ps_for PassesOwn.never rfl (RZ.pi_zipA (by rfl) mZ (pa_cons (pe_ix ix_tup (pv 0) pe_int (fun _ _ => rfl)) (pa_cons (pe_ix ix_tup (pv 1) pe_int (fun _ _ => rfl)) pa_nil)))
        (pg_tup rfl (pgs_cons (pg_name (i := 3) sc_meeting.nd rfl (.inl rfl)) (pgs_cons (pg_name (i := 4) sc_meeting.nd rfl (.inl rfl)) pgs_nil)))
        (pss_cons (ps_if (PW.pt (pw_and (pt_cmpR op_notIn_seq (pe_glob (v := .int (-1)) (by rfl) mS ⟨_, rfl⟩) (pe_tup (pa_cons (pv 3) (pa_cons (pv 4) pa_nil))) (by rfl)) (pw_and1 (pt_cmpR op_ne (pv 3) (pv 4) (nomark _))))) (pss_one (ps_ret pe_non)) pss_nil)
        (pss_one (ps_expr (pe_bm PySem.F.plainAttrs_list PySem.F.slot_list_append PySem.F.type_list_append mt_append (pv 2) (pa_cons (pe_ifExp (pt_cmpR op_eq (pv 3) (pe_glob (v := .int (-1)) (by rfl) mS ⟨_, rfl⟩) (nomark _)) (pv 4) (pv 3)) pa_nil))))))
      (pss_one (ps_ret (pe_tup (pa_cons (pe_ix ix_tup (pv 0) pe_int (fun _ _ => rfl)) (pa_cons (pe_callTy call_tuple_of (by rfl) mT (by decide +kernel) (pa_cons (pv 2) pa_nil)) pa_nil))))))), ?_⟩
    refine q_when p0 (α := (· = !decide (a.1 = b.1))) (b_test (φ := (· = .bool (!decide (a.1 = b.1)))) (e_op (e_op (χ := (· = .int a.1)) (e_var rfl ka) e_int ?_) (e_op (χ := (· = .int b.1)) (e_var rfl kb) e_int ?_) ?_) fun d e => ⟨_, e, rfl⟩) (fun hb G1 H1 s1 => ?_) (fun hb G1 H1 s1 => ?_)
    · rintro _ _ rfl rfl; exact r_ixT (j := 0) rfl rfl
    · rintro _ _ rfl rfl; exact r_ixT (j := 0) rfl rfl
    · rintro _ _ rfl rfl; exact r_neI
    · refine s_ret s1.pre e_non fun v d G2 H2 s2 k2 e => q v G2 H2 (s1.trans s2) ?_
      subst e
      have : meet a b = none := by
        unfold meet
        rw [if_neg (by intro z; rw [decide_eq_true z] at hb; cases hb)]
      rw [this]; exact k2
    · have hab : a.1 = b.1 := by
        cases h : decide (a.1 = b.1)
        · rw [h] at hb; simp at hb
        · exact of_decide_eq_true h
      have hl := hl hab
      refine q_new p0 s1 fun l H2 hl0 s2 ext _ ap => ?_
      refine q_zip (ds := encI a.2) (es := encI b.2) s2.pre (a_cons (e_op (χ := (· = encC a.2)) (e_var rfl (ka.mono s1.ex)) e_int ?_) (a_cons (e_op (χ := (· = encC b.2)) (e_var rfl (kb.mono s1.ex)) e_int ?_) a_nil (ζ := (· = [encC b.2])) ?_) ?_) (by rw [List.length_map, List.length_map, hl]) p0 s2
        (fun i σ G1 H1 => ∃ x y, ∃ zs : List Int, σ = [some va, some vb, some (.ref l), x, y] ∧ Ap l (encI zs) G1 H1 ∧ zs.length = i ∧ meetL a.2 b.2 = (meetL (a.2.drop i) (b.2.drop i)).map (zs ++ ·)) (fun G3 H3 s3 => ⟨none, none, [], rfl, ap.stp p0 hl0 s3, rfl, by simp⟩) ?_ ?_ ?_
      · rintro _ _ rfl rfl; exact r_ixT (j := 1) rfl rfl
      · rintro _ _ rfl rfl; exact r_ixT (j := 1) rfl rfl
      · rintro _ _ rfl rfl; rfl
      · rintro _ _ rfl rfl; rfl
      · rintro i σ' G3 H3 a' o ⟨x, y, zs, e1, e2, e3⟩ hf
        exact ⟨x, y, zs, e1, e2.junk hf, e3⟩
      · rintro i d e x y σ' G3 H3 e3 s3 hd he kx ky ⟨x', y', zs, rfl, ap3, hz, hm⟩
        obtain ⟨m, hm', rfl⟩ := encI_get hd
        obtain ⟨n, hn, rfl⟩ := encI_get he
        have hi : i < a.2.length := (List.getElem?_eq_some_iff.mp hm').1
        rw [drop_get hm', drop_get hn] at hm
        refine q_when s3.pre (α := (· = (!decide (-1 ∈ [m, n]) && !decide (m = n)))) (b_and (b_test (φ := (· = .bool (!decide (-1 ∈ [m, n])))) (e_op (φ := (· = .int (-1))) (ψ := (· = .tuple (encI [m, n]))) e_int (e_tup (ξ := (· = encI [m, n])) (a_cons (e_var rfl kx) (a_cons (e_var rfl ky) a_nil (ζ := (· = encI [n])) ?_) ?_) ?_) ?_) fun d e => ⟨_, e, rfl⟩) fun _ => b_test (φ := (· = .bool (!decide (m = n)))) (e_op (e_var rfl kx) (e_var rfl ky) ?_) fun d e => ⟨_, e, rfl⟩) (fun hb G4 H4 s4 => ?_) (fun hb G4 H4 s4 => ?_)
        · rintro _ _ rfl rfl; rfl
        · rintro _ _ rfl rfl; rfl
        · rintro _ rfl; exact ⟨by simp, rfl⟩
        · rintro _ _ rfl rfl; exact r_in (neg := true) (.inr rfl)
        · rintro _ _ rfl rfl; exact r_neI
        · refine s_ret s4.pre e_non fun v d G5 H5 s5 k5 e => q v G5 H5 ((s3.trans s4).trans s5) ?_
          subst e
          have h1 : m ≠ -1 ∧ n ≠ -1 ∧ m ≠ n := by
            simp at hb
            exact ⟨fun z => hb.1.1 z.symm, fun z => hb.1.2 z.symm, hb.2⟩
          have : meet a b = none := by
            unfold meet
            rw [if_pos hab, hm]
            show Option.map _ (Option.map _ (meetL (m :: _) (n :: _))) = none
            rw [meetL, if_pos h1]; rfl
          rw [this]; exact k5
        · have h1 : ¬ (m ≠ -1 ∧ n ≠ -1 ∧ m ≠ n) := by
            intro ⟨z1, z2, z3⟩
            simp at hb
            exact z3 (hb (fun q => z1 q.symm) (fun q => z2 q.symm))
          rw [meetL, if_neg h1, Option.map_map] at hm
          refine s_app p0 (s3.trans s4) rfl hl0 (ap3.stp p0 hl0 s4) (by rw [List.length_map]; omega) (φ := (· = .int (if m = -1 then n else m))) (e_if (α := (· = decide (m = -1))) (b_test (φ := (· = .bool (decide (m = -1)))) (e_op (e_var rfl (kx.mono s4.ex)) (ψ := (· = .int (-1))) e_int ?_) fun d e => ⟨_, e, rfl⟩) (fun z => ?_) (fun z => ?_)) fun d' G5 H5 e5 s5 a5 hd' => ⟨G5, s4.ex.trans e5, s5, _, _, zs ++ [if m = -1 then n else m], rfl, ?_, by simp [hz], ?_⟩
          · rintro _ _ rfl rfl; exact r_eqI
          · rw [if_pos (of_decide_eq_true z.symm)]; exact e_var rfl (ky.mono s4.ex)
          · rw [if_neg (of_decide_eq_false z.symm)]; exact e_var rfl (kx.mono s4.ex)
          · subst hd'
            rw [encI, List.map_append]
            exact a5
          · rw [hm]
            congr 1
            funext r
            show zs ++ (_ :: r) = (zs ++ [_]) ++ r
            rw [List.append_assoc]; rfl
      · rintro σ' G3 H3 e3 s3 ⟨x', y', zs, rfl, ap3, hz, hm⟩
        rw [List.length_map, List.drop_length, List.drop_of_length_le (show b.2.length ≤ a.2.length by omega)] at hm
        obtain ⟨G4, e4, s4, dl⟩ := ap3.tell p0 s3 hl0
        have em : meet a b = some (a.1, zs) := by
          unfold meet
          rw [if_pos hab, hm]
          show some (a.1, zs ++ []) = _
          rw [List.append_nil]
        refine s_ret s4.pre (e_tup (ξ := (· = [.int a.1, encC zs])) (a_cons (e_op (χ := (· = .int a.1)) (e_var rfl (ka.mono (s4.ex))) e_int ?_) (a_cons (e_cb (χ := (· = encC zs)) (a_cons (e_var rfl dl) a_nil (ζ := (· = [.list (encI zs)])) ?_) ?_) a_nil (ζ := (· = [encC zs])) ?_) ?_) (χ := (· = encR (a.1, zs))) ?_) fun v d G5 H5 s5 k5 e => q v G5 H5 (s4.trans s5) (by rw [em]; subst e; exact k5)
        · rintro _ _ rfl rfl; exact r_ixT (j := 0) rfl rfl
        · rintro _ _ rfl rfl; rfl
        · rintro _ rfl; exact c_tupL
        · rintro _ _ rfl rfl; rfl
        · rintro _ _ rfl rfl; rfl
        · rintro _ rfl; exact ⟨by simp, rfl⟩
end
end K0

namespace L2
open PySem PySem.Spec PyProof.Rows
theorem tuple_mul1 (l : Addr) (items : Array Value) (n : Nat) (dd : Option Addr) (sl : Array (Option Value)) (x : Int) (u : Tok) (c0 : (decide (x < -(2 ^ 63)) || decide (x ≥ 2 ^ 63)) = false) (c1 : (items.isEmpty || x == 1) = true) :
    Meets (Builtin.«tuple.__mul__» ⟨[.ref l, .int x u], []⟩) (fun _ R st =>
      st.heap.get? l = some { cls := .type "tuple", dict := dd, data := .seq items n, slots := sl } ∧ R (.ok (.ret (Value.ref l))) st) :=
  .of_wp fun _ _ _ _ st hst => by
    obtain ⟨hp, g, d, tk, os⟩ := st
    obtain ⟨hl, last⟩ := hst
    have f1 := AutoSeq1.idx_int
    have n0 : ¬ (decide (x < -(2 ^ 63)) || decide (x ≥ 2 ^ 63)) = true := fun z => by rw [c0] at z; cases z
    (wp_walk using wpAny_loadPart' hl)
    (refine wpAny_ite_false (decide_eq_false n0) ?_)
    (wp_walk using wpAny_loadPart' hl)
    exact ⟨_, rfl, last⟩
def rRep1 (K : PySem.W.Frag) : R2 := fun x y H Q => ∃ l xs, x = .ref l ∧ y = .int 1 ∧ SqT K H l xs ∧ Q (.ref l) H
theorem op_rep1 {X : Cx} : OpR X (binaryOp .Mult) (rRep1 X.K) := by
  intro _ st _ G0 _ _ _ _ Q inv r1 r2 ⟨l, xs, e1, e2, tup, q⟩
  subst e1
  subst e2
  cases r1
  obtain ⟨tk, e3⟩ := r2
  subst e3
  obtain ⟨its, _, ⟨⟨cls, dd, data, sl⟩, at_l, kind, n, seq⟩, _⟩ := inv.tuple tup
  obtain rfl : cls = _ := kind
  obtain rfl : data = _ := seq
  have last : ∃ v G1, Inv X _ _ G1 st ∧ RelV v (.ref l) ∧ Q v G1 := ⟨.ref l, G0, inv, rfl, q⟩
  have inner := tuple_mul1 l its.toArray n dd sl 1 tk (by decide) (by simp)
  exact wpAny_binaryOp_repeat_ref (T := "tuple") (U := "int") (by decide) ⟨_, at_l, rfl⟩ (fun z => typeIs_int z 1 tk)
    noFill_tuple_mul F.fills_int_mul F.slot_int_rmul repeat_tuple F.slot_int_index.lookup
    (call_meets F.slot_int_rmul (typeIs_int st 1 tk) F.entry_int_rmul (F.args_int_rmul_2 _ _) (int_rmul_tuple 1 tk l its.toArray n dd sl)
      ⟨at_l, rfl, ⟨_, at_l, rfl⟩, call_meets F.slot_tuple_mul ⟨_, at_l, rfl⟩ F.entry_tuple_mul (F.args_tuple_mul_2 _ _) inner ⟨at_l, last⟩⟩)
/-- (x,) * k, k from 1 on -/
def rRepA (K : PySem.W.Frag) : R2 := fun x y H Q => (∃ l xs, x = .ref l ∧ y = .int 1 ∧ SqT K H l xs ∧ Q (.ref l) H) ∨ rRepT K x y H Q
theorem op_repA {X : Cx} : OpR X (binaryOp .Mult) (rRepA X.K) := fun pins s σ H x y v u Q I rx ry h => by
  rcases h with h | h
  · exact op_rep1 pins s σ H x y v u Q I rx ry h
  · exact op_repT pins s σ H x y v u Q I rx ry h
end L2

namespace K0
open PySem L2
/-! products, column by column -/
def ext (acc : List (List Int)) (col : List Int) : List (List Int) := acc.flatMap fun b => col.map fun c => b ++ [c]
def prod (cols : List (List Int)) : List (List Int) := cols.foldl ext [[]]
theorem ext_length (acc : List (List Int)) (col : List Int) : (ext acc col).length = acc.length * col.length := by
  induction acc with
  | nil => simp [ext]
  | cons b acc ih =>
    show (List.length ((col.map fun c => b ++ [c]) ++ ext acc col)) = _
    rw [List.length_append, List.length_map, ih, List.length_cons, Nat.add_mul]; omega
theorem ext_take_le (acc : List (List Int)) (col : List Int) (i : Nat) : (ext (acc.take i) col).length ≤ acc.length * col.length := by
  rw [ext_length, List.length_take]
  exact Nat.mul_le_mul_right _ (Nat.min_le_right _ _)
theorem ext_take_succ {acc : List (List Int)} {col : List Int} {i : Nat} {b : List Int} (h : acc[i]? = some b) : ext (acc.take (i + 1)) col = ext (acc.take i) col ++ col.map fun c => b ++ [c] := by
  rw [List.take_add_one, h]
  simp [ext]
theorem prod_snoc (cols : List (List Int)) (col : List Int) : prod (cols ++ [col]) = ext (prod cols) col := by simp [prod]
theorem prod_length_le : ∀ (n : Nat) (cols : List (List Int)) (acc : List (List Int)), (∀ c ∈ cols, c.length ≤ n) → (cols.foldl ext acc).length ≤ acc.length * n ^ cols.length
  | n, [], acc, _ => by simp
  | n, c :: cols, acc, h => by
    have h1 := prod_length_le n cols (ext acc c) fun x hx => h x (by simp [hx])
    rw [ext_length] at h1
    refine Nat.le_trans h1 ?_
    rw [List.length_cons, Nat.pow_succ, Nat.mul_comm (n ^ cols.length) n, ← Nat.mul_assoc]
    exact Nat.mul_le_mul_right _ (Nat.mul_le_mul_left _ (h c (by simp)))
theorem ext_len {acc : List (List Int)} {col : List Int} {n : Nat} (h : ∀ b ∈ acc, b.length = n) : ∀ b ∈ ext acc col, b.length = n + 1 := fun b hb => by
  obtain ⟨b', h1, h2⟩ := List.mem_flatMap.mp hb
  obtain ⟨c, _, rfl⟩ := List.mem_map.mp h2
  rw [List.length_append, h b' h1]; rfl
theorem foldl_len : ∀ (cols : List (List Int)) (acc : List (List Int)) (n : Nat), (∀ b ∈ acc, b.length = n) → ∀ b ∈ cols.foldl ext acc, b.length = n + cols.length
  | [], _, n, h, b, hb => h b hb
  | c :: cols, acc, n, h, b, hb => by
    rw [foldl_len cols (ext acc c) (n + 1) (ext_len h) b hb, List.length_cons]; omega
theorem prod_len {cols : List (List Int)} {b : List Int} (h : b ∈ prod cols) : b.length = cols.length := by
  rw [foldl_len cols [[]] 0 (by simp) b h]; omega
end K0

namespace K0
open PySem PySem.Spec PyProof.Rows L2 Dv
open Evl (Ex)
section
variable {P : Program} {w : World} {K : PySem.W.Frag} {mg : Str → Option Value} {base : Heap}
theorem enc_get {α : Type} {f : α → PyData} {l : List α} {i : Nat} {d : PyData} (h : (l.map f)[i]? = some d) : ∃ z, l[i]? = some z ∧ d = f z := by
  rw [List.getElem?_map] at h
  cases q : l[i]? with
  | none => rw [q] at h; cases h
  | some z => rw [q] at h; cases h; exact ⟨z, rfl, rfl⟩
def RPicks (ds : List PyData) (d : PyData) : Prop := ∃ cols : List (List Int), ds = [.list (cols.map encC)] ∧ cols.length ≤ 3 ∧ (∀ c ∈ cols, c.length ≤ 12) ∧ d = .list ((prod cols).map encC)
theorem ok_picks (t : Txt K mg "picks" s_picks p_picks) : Ca P w K mg base "picks" 1 p_picks (spF RPicks) := by
  refine t.ca fun f fd F => F.ok sc_picks (fun vs H Q E h => ?_) (fun cdv A outer s H vs Q E hr h => ?_)
  · obtain ⟨G, ds, d, _, k, ⟨a, rfl, _⟩, _⟩ := h
    exact k.length
  · obtain ⟨G, ds, d, p0, k, ⟨cols, rfl, hl, hc, rfl⟩, q⟩ := h
    obtain ⟨v, ws, rfl, kv, k⟩ := k.consV
    cases k.nilV
    refine ⟨_, pss_cons (ps_set (i := 1) sc_picks.nd rfl (.inl rfl) (pe_lst (pa_cons (pe_tup pa_nil) pa_nil)))
      (pss_cons (ps_for PassesOwn.never rfl (pi_list (pv 0)) (pg_name (i := 2) sc_picks.nd rfl (.inr rfl))
        (pss_one (ps_setLc2 (i := 1) (own := [("begun", 3), ("cell", 4)]) (vs1 := [4]) (g := gName 3) (g1 := gName 4) (tt := tYes) (tt1 := tYes) (wi1 := iTup K (tVar 2)) (te := tTup (StX.tStar K (tVar 3) (tCons (tVar 4) tNil))) (by rfl) sc_picks.nd rfl rfl (sw_true rfl rfl rfl (by decide +kernel)) (pi_list (pv 1)) (blkOk_by (N := n_picks) (sc := defScope s_picks) (by decide +kernel)) (by decide)
          (fun _ _ _ _ _ => pg_name (i := 3) sc_picks.nd rfl (.inl rfl)) (fun _ _ _ _ _ => pts_nil) (fun _ _ _ _ _ => pi_tup (pv 2)) (fun _ _ _ _ _ => pg_name (i := 4) sc_picks.nd rfl (.inl rfl)) (fun _ _ _ _ _ => pts_nil)
          (fun _ _ _ _ _ => pe_tup (StX.pa_star (pv 3) (pa_cons (pv 4) pa_nil))))))
      (pss_one (ps_ret (pv 1)))), ?_⟩
    refine q_asg p0 (φ := (· = .list (([[]] : List (List Int)).map encC))) (e_lst (a_cons (e_tup a_nil (χ := (· = encC [])) ?_) a_nil (ζ := (· = [encC []])) ?_) ?_) fun vp dp G1 H1 s1 kp ep => ?_
    · rintro _ rfl; exact ⟨by simp, rfl⟩
    · rintro _ _ rfl rfl; rfl
    · rintro _ rfl; exact ⟨by simp, rfl⟩
    subst ep
    refine q_forN (b := true) (ds := cols.map encC) s1.pre (e_var rfl (kv.mono s1.ex)) (fun G1 H1 => Stp none G H G1 H1) (fun i σ G1 H1 => ∃ vp x2, σ = [some v, some vp, x2, none, none] ∧ Da G1 vp (.list ((prod (cols.take i)).map encC)))
      (fun G2 H2 s2 => ⟨s1.trans s2, vp, none, rfl, kp.mono s2.ex⟩) (fun G1 H1 s => s.pre.1) ?_ ?_
    · rintro i d x σ' G2 H2 e2 s2 hd kx ⟨vp, x2, rfl, kp⟩
      obtain ⟨col, hcol, rfl⟩ := enc_get hd
      have hci : col.length ≤ 12 := hc col (List.mem_of_getElem? hcol)
      have hli : i < cols.length := (List.getElem?_eq_some_iff.mp hcol).1
      have hpl : (prod (cols.take i)).length ≤ 1728 := by
        have h1 := prod_length_le 12 (cols.take i) [[]] fun c hx => hc c (List.take_subset i cols hx)
        refine Nat.le_trans h1 ?_
        rw [List.length_take, Nat.min_eq_left (by omega)]
        have : i = 0 ∨ i = 1 ∨ i = 2 := by omega
        rcases this with rfl | rfl | rfl <;> decide
      have et : prod (cols.take (i + 1)) = ext (prod (cols.take i)) col := by
        rw [List.take_add_one, hcol, ← prod_snoc]; rfl
      have hbl : ∀ b ∈ prod (cols.take i), b.length ≤ 3 := fun b hb => by
        rw [prod_len hb, List.length_take]; omega
      generalize prod (cols.take i) = acc at kp hpl et hbl
      have hm : acc.length * col.length ≤ 1728 * 12 := Nat.mul_le_mul hpl hci
      refine s_asg s2.pre (φ := (· = .list ((ext acc col).map encC))) (e_lc2 (b := true) (b1 := false) (ds := acc.map encC) (f := fun _ => encI col) (fun i k es => es = (ext (acc.take i) col ++ ((col.take k).map fun c => (acc[i]?.getD []) ++ [c])).map encC)
        (φ := fun i k e => e = encC ((acc[i]?.getD []) ++ [col[k]?.getD 0])) (e_var rfl kp) (by simp [ext]) (fun i k es e => ?_) (fun _ => rfl) (fun _ _ => rfl) (fun i d x G1 e1 hd kd => e_var rfl (kx.mono e1)) (fun i k d e x y G1 e1 hd kd he ke => ?_) (fun i k es e hi hk h1 h2 => ?_) (fun i es hi h1 => ?_) (fun es h1 => ?_)) fun v' d' G3 H3 s3 k3 e3 => ⟨G3, s3.ex, s2.trans s3, v', _, rfl, by rw [et]; subst e3; exact k3⟩
      · subst e
        have h1 := ext_take_le acc col i
        simp only [List.length_map, List.length_append, List.length_take]
        omega
      · obtain ⟨b, hb, rfl⟩ := enc_get hd
        obtain ⟨c, hc', rfl⟩ := encI_get he
        rw [hb, hc']
        refine e_tup (ξ := (· = encI (b ++ [c]))) (a_star (e_var rfl kd) (a_cons (e_var rfl ke) a_nil (ζ := (· = encI [c])) ?_) ?_) ?_
        · rintro _ _ rfl rfl; rfl
        · rintro _ rfl; exact ⟨encI b, .inl rfl, fun ds e => by
            subst e
            show List.map PyData.int b ++ List.map PyData.int [c] = List.map PyData.int (b ++ [c])
            rw [List.map_append]⟩
        · rintro _ rfl
          refine ⟨?_, rfl⟩
          have := hbl b (List.mem_of_getElem? hb)
          rw [List.length_map, List.length_append]
          simp only [List.length_cons, List.length_nil]
          omega
      · subst h1
        subst h2
        rw [List.take_add_one, show col[k]? = some (col[k]?.getD 0) by
          rw [List.getElem?_eq_getElem (by simpa using hk)]; rfl]
        simp [List.map_append]
      · subst h1
        rw [List.length_map] at hi ⊢
        rw [ext_take_succ (b := acc[i]?.getD []) (by rw [List.getElem?_eq_getElem hi]; rfl), List.take_length, List.take_zero, List.map_nil, List.append_nil]
      · subst h1
        rw [List.length_map, List.take_length, List.take_zero, List.map_nil, List.append_nil]
    · rintro σ' G2 H2 e2 s2 ⟨vp, x2, rfl, kp⟩
      rw [List.length_map, List.take_length] at kp
      exact s_ret s2.pre (e_var rfl kp) fun v d G3 H3 s3 k3 e => q v G3 H3 (s2.trans s3) (by subst e; exact k3)
end
end K0

namespace Dv
open PySem PySem.Spec PyProof.Rows L2
open Evl (Ex)
section
variable {K : PySem.W.Frag} {T : Tw} {σ : L2.St} {G G' H H' G0 H0 : Hp} {ta : TA} {tb te tx tl : TE} {t u : TT} {v : V} {d : PyData} {D : Ends} {tu tw tz : TS} {φ : PyData → Prop} {χ : PyData → Prop}
/-- tuple of a list -/
theorem e_tupL {ds : List PyData} {tn : TA} (h : EvP T te σ G (· = .list ds)) (hn : tn = tNil) : EvP T (tCB (fun xs H Q => ∃ p ys, xs = [.ref p] ∧ ((SqL K H p ys ∧ ∀ l, H l = none → Q (.ref l) (upd H l (.tup ys))) ∨ (SqT K H p ys ∧ Q (.ref p) H))) (tCons te tn)) σ G (· = .tuple ds) := by
  subst hn
  refine e_cb (a_cons h a_nil (ζ := (· = [.list ds])) ?_) ?_
  · rintro _ _ rfl rfl; rfl
  · rintro _ rfl; exact c_tupL
theorem a_one {ta : TE} {d : PyData} (h : EvP T ta σ G (· = d)) : EvA T (tCons ta tNil) σ G (· = [d]) := a_cons h a_nil fun _ _ e1 e2 => by rw [e1, e2]
theorem a_two {ta tb : TE} {d e : PyData} (h : EvP T ta σ G (· = d)) (h2 : EvP T tb σ G (· = e)) : EvA T (tCons ta (tCons tb tNil)) σ G (· = [d, e]) := a_cons h (a_one h2) fun _ _ e1 e2 => by rw [e1, e2]
theorem e_pair {ta tb : TE} {d e : PyData} (h : EvP T ta σ G (· = d)) (h2 : EvP T tb σ G (· = e)) : EvP T (tTup (tCons ta (tCons tb tNil))) σ G (· = .tuple [d, e]) := e_tup (a_two h h2) fun _ e => by subst e; exact ⟨by simp, rfl⟩
/-- a test of two ints -/
theorem b_eqI {ta tb : TE} {i j : Int} (h : EvP T ta σ G (· = .int i)) (h2 : EvP T tb σ G (· = .int j)) : EvB T (tTest (tOp rEq ta tb)) σ G (· = decide (i = j)) := b_test (φ := (· = .bool (decide (i = j)))) (e_op h h2 fun _ _ e1 e2 => by subst e1; subst e2; exact r_eqI) fun d e => ⟨_, e, rfl⟩
theorem b_neI {ta tb : TE} {i j : Int} (h : EvP T ta σ G (· = .int i)) (h2 : EvP T tb σ G (· = .int j)) : EvB T (tTest (tOp rNe ta tb)) σ G (· = !decide (i = j)) := b_test (φ := (· = .bool (!decide (i = j)))) (e_op h h2 fun _ _ e1 e2 => by subst e1; subst e2; exact r_neI) fun d e => ⟨_, e, rfl⟩
/-- the i-th of a tuple, a list -/
theorem e_ixT {ds : List PyData} {tb : TE} {i : Int} {j : Nat} {e : PyData} (h : EvP T te σ G (· = .tuple ds)) (hb : EvP T tb σ G (· = .int i)) (hi : i = (j : Int)) (hj : ds[j]? = some e) : EvP T (tOp (rIxT K) te tb) σ G (· = e) := e_op h hb fun _ _ e1 e2 => by subst e1; subst e2; exact r_ixT hi hj
theorem e_ixL {ds : List PyData} {tb : TE} {i : Int} {j : Nat} {e : PyData} (h : EvP T te σ G (· = .list ds)) (hb : EvP T tb σ G (· = .int i)) (hi : i = (j : Int)) (hj : ds[j]? = some e) : EvP T (tOp (rIxL K) te tb) σ G (· = e) := e_op h hb fun _ _ e1 e2 => by subst e1; subst e2; exact r_ixL hi hj
/-- a comprehension that keeps all: a map -/
theorem e_lcMap {b : Bool} {ds : List PyData} {j : Nat} {vs : List Nat} (f : PyData → PyData) (h : EvP T tl σ G (· = IsSq b ds)) (hz : ds.length ≤ 40000) (hw : ∀ x, wipe ((wipe σ vs).set j (some x)) vs = wipe σ vs)
    (he : ∀ d x G1, Ex G G1 → d ∈ ds → Da G1 x d → EvP T te ((wipe σ vs).set j (some x)) G1 (· = f d)) : EvP T (tLc (iSq K b tl) (gName j) tYes te vs) σ G (· = .list (ds.map f)) :=
  e_lc (fun i es => es = (ds.take i).map f) (α := fun _ b => b = true) (φ := fun i e => ∃ d, ds[i]? = some d ∧ e = f d) h rfl (fun i es e => by rw [e, List.length_map, List.length_take]; omega) hw (fun i d x G1 e1 hd kd G2 H2 e2 p Q q => q true G2 H2 (Stp.refl p) rfl)
    (fun i d x G1 e1 hd kd _ => (he d x G1 e1 (List.mem_of_getElem? hd) kd).imp fun e h => ⟨d, hd, h⟩) (fun i es e hi h1 _ ⟨d, hd, h2⟩ => by rw [h1, h2, List.take_add_one, hd, List.map_append]; rfl) (fun i es hi h1 h2 => by cases h2) (fun es e => by rw [e, List.take_length])
/-- .. that keeps some -/
theorem e_lcFil {b : Bool} {ds : List PyData} {j : Nat} {vs : List Nat} (g : PyData → Bool) (f : PyData → PyData) (h : EvP T tl σ G (· = IsSq b ds)) (hz : ds.length ≤ 40000) (hw : ∀ x, wipe ((wipe σ vs).set j (some x)) vs = wipe σ vs)
    (ht : ∀ d x G1, Ex G G1 → d ∈ ds → Da G1 x d → EvB T t ((wipe σ vs).set j (some x)) G1 (· = g d))
    (he : ∀ d x G1, Ex G G1 → d ∈ ds → Da G1 x d → EvP T te ((wipe σ vs).set j (some x)) G1 (· = f d)) : EvP T (tLc (iSq K b tl) (gName j) t te vs) σ G (· = .list ((ds.filter g).map f)) :=
  e_lc (fun i es => es = ((ds.take i).filter g).map f) (α := fun i b => ∃ d, ds[i]? = some d ∧ b = g d) (φ := fun i e => ∃ d, ds[i]? = some d ∧ e = f d) h rfl (fun i es e => by rw [e, List.length_map]; have := List.length_filter_le g (ds.take i); rw [List.length_take] at this; omega) hw
    (fun i d x G1 e1 hd kd => (ht d x G1 e1 (List.mem_of_getElem? hd) kd).imp fun e h => ⟨d, hd, h⟩)
    (fun i d x G1 e1 hd kd _ => (he d x G1 e1 (List.mem_of_getElem? hd) kd).imp fun e h => ⟨d, hd, h⟩) (fun i es e hi h1 ⟨d', hd', h3⟩ ⟨d, hd, h2⟩ => by
      have e0 := Option.some.inj (hd.symm.trans hd')
      subst e0
      rw [h1, h2, List.take_add_one, hd, List.filter_append, List.map_append]
      show _ = _ ++ List.map f (List.filter g [d])
      rw [List.filter_cons, if_pos h3.symm]; rfl) (fun i es hi h1 ⟨d, hd, h3⟩ => by
      rw [h1, List.take_add_one, hd, List.filter_append, List.map_append]
      show _ = _ ++ List.map f (List.filter g [d])
      rw [List.filter_cons, if_neg (by rw [← h3]; exact Bool.false_ne_true)]; simp) (fun es e => by rw [e, List.take_length])
end
end Dv
namespace K0
open PySem PySem.Spec PyProof.Rows L2 Dv
open Evl (Ex)
section
variable {P : Program} {w : World} {K : PySem.W.Frag} {mg : Str → Option Value} {base : Heap}
abbrev colOf (ms : List Int) (c : Int) : List Int := if c = -1 then ms else [c]
def RRows (ds : List PyData) (d : PyData) : Prop := ∃ (a : Row) (ws ms : List Int), ds = [encR a, .list (encI ws)] ∧ ws.length < 64 ∧ Asc ms ∧ (∀ x, x ∈ ms ↔ x ∈ ws) ∧ a.2.length ≤ 3 ∧ ms.length ≤ 12 ∧ d = .tuple ((prod (a.2.map (colOf ms))).map fun t => encR (a.1, t))
theorem ok_rows_of (t : Txt K mg "rows_of" s_rows_of p_rows_of) {tk : Tok} (mS : mg "STAR" = some (.int (-1) tk)) (mT : mg "tuple" = none) (cS : Ca P w K mg base "sorted_things" 1 p_sorted_things (spF RSorted)) (cP : Ca P w K mg base "picks" 1 p_picks (spF RPicks)) : Ca P w K mg base "rows_of" 2 p_rows_of (spF RRows) := by
  obtain ⟨fS, fdS, gS, kpS, bS, FS⟩ := cS
  obtain ⟨fP, fdP, gP, kpP, bP, FP⟩ := cP
  refine t.ca fun f fd F => F.ok sc_rows_of (fun vs H Q E h => ?_) (fun cdv A outer s H vs Q E hr h => ?_)
  · obtain ⟨G, ds, d, _, k, ⟨a, ws, ms, rfl, _⟩, _⟩ := h
    exact k.length
  · obtain ⟨G, ds, d, p0, k, ⟨a, ws, ms, rfl, hws, hms, hmem, ha3, hm12, rfl⟩, q⟩ := h
    obtain ⟨va, us, rfl, ka, k⟩ := k.consV
    obtain ⟨vw, us, rfl, kw, k⟩ := k.consV
    cases k.nilV
    refine ⟨_, pss_cons (ps_asg (pv 0) (pg_tup (by rfl) (pgs_cons (pg_name (i := 2) sc_rows_of.nd rfl (.inr rfl)) (pgs_cons (pg_name (i := 3) sc_rows_of.nd rfl (.inl rfl)) pgs_nil))))
      (pss_cons (ps_set (i := 4) sc_rows_of.nd rfl (.inr rfl) (pe_call FS hr (by rfl) gS kpS bS .nil pass0 (pa_cons (pv 1) pa_nil)))
      (pss_cons (ps_setLc (i := 5) (own := [("cell", 6)]) (g := gName 6) (tt := tYes) (te := tIf (tTest (tOp rEq (tVar 6) (tC (.int (-1))))) (tVar 4) (tTup (tCons (tVar 6) tNil))) (by rfl) sc_rows_of.nd rfl rfl (sw_true rfl rfl rfl (by decide +kernel)) (pi_tup (pv 3)) (blkOk_by (N := n_rows_of) (sc := defScope s_rows_of) (by decide +kernel))
          (fun _ _ _ _ _ => pg_name (i := 6) sc_rows_of.nd rfl (.inl rfl)) (fun _ _ _ _ _ => pts_nil) (fun _ _ _ _ _ => pe_ifExp (pt_cmpR op_eq (pv 6) (pe_glob (v := .int (-1)) (by rfl) mS ⟨_, rfl⟩) (nomark _)) (pv 4) (pe_tup (pa_cons (pv 6) pa_nil))))
      (pss_one (ps_ret (pe_callTy call_tuple_of (by rfl) mT (by decide +kernel) (pa_cons (pe_lc (own := [("picked", 7)]) (g := gName 7) (tt := tYes) (te := tTup (tCons (tVar 2) (tCons (tVar 7) tNil))) (by rfl) sc_rows_of.nd (pi_list (pe_call FP hr (by rfl) gP kpP bP .nil pass0 (pa_cons (pv 5) pa_nil))) (blkOk_by (N := n_rows_of) (sc := defScope s_rows_of) (by decide +kernel))
          (fun _ _ _ _ _ => pg_name (i := 7) sc_rows_of.nd rfl (.inl rfl)) (fun _ _ _ _ _ => pts_nil) (fun _ _ _ _ _ => pe_tup (pa_cons (pv 2) (pa_cons (pv 7) pa_nil)))) pa_nil)))))), ?_⟩
    refine q_unp2 p0 (e_var rfl ka) fun v1 v2 G1 H1 s1 k1 k2 => ?_
    refine q_asg s1.pre (φ := (· = encC ms)) (e_call (a_one (e_var rfl (kw.mono s1.ex))) fun ds e => ⟨_, ⟨ws, ms, e, hws, hms, hmem, rfl⟩, rfl⟩) fun v3 d3 G2 H2 s2 k3 e3 => ?_
    subst e3
    refine q_asg s2.pre (φ := (· = .list ((encI a.2).map fun d => match d with | .int c => encC (colOf ms c) | x => x))) (e_lcMap (b := false) _ (e_var rfl (k2.mono s2.ex)) (by rw [List.length_map]; omega) (fun _ => rfl) fun d x G3 e3 hd kx => ?_) fun v4 d4 G3 H3 s3 k4 e4 => ?_
    · obtain ⟨c, hc, rfl⟩ := List.mem_map.mp hd
      refine e_if (α := (· = decide (c = -1))) (b_eqI (e_var rfl kx) e_int) (fun z => ?_) (fun z => ?_)
      · show EvP _ _ _ _ (· = encC (colOf ms c))
        rw [show colOf ms c = ms from if_pos (of_decide_eq_true z.symm)]
        exact e_var rfl (k3.mono e3)
      · show EvP _ _ _ _ (· = encC (colOf ms c))
        rw [show colOf ms c = [c] from if_neg (of_decide_eq_false z.symm)]
        exact e_tup (a_one (e_var rfl kx)) fun _ e => by subst e; exact ⟨by simp, rfl⟩
    · have e4' : d4 = .list ((a.2.map (colOf ms)).map encC) := by
        rw [e4]; simp [List.map_map]
      subst e4'
      refine s_ret s3.pre (e_tupL (e_is (e_lcMap (b := true) (ds := (prod (a.2.map (colOf ms))).map encC) (fun d => .tuple [.int a.1, d]) (e_call (a_one (e_var rfl k4)) fun ds e => ⟨_, ⟨a.2.map (colOf ms), e, by rw [List.length_map]; exact ha3, ?_, rfl⟩, rfl⟩) ?_ (fun _ => rfl) fun d x G4 e4 hd kx => e_pair (e_var rfl ((k1.mono (s2.trans s3).ex).mono e4)) (e_var rfl kx)) rfl) rfl) fun v d G4 H4 s4 k5 e5 => q v G4 H4 (((s1.trans s2).trans s3).trans s4) ?_
      · rw [List.length_map]
        have h1 := prod_length_le 12 (a.2.map (colOf ms)) [[]] fun c hc => by
          obtain ⟨x, _, rfl⟩ := List.mem_map.mp hc
          by_cases z : x = -1
          · rw [show colOf ms x = ms from if_pos z]; exact hm12
          · rw [show colOf ms x = [x] from if_neg z]; simp
        refine Nat.le_trans h1 ?_
        rw [List.length_map]
        have : a.2.length = 0 ∨ a.2.length = 1 ∨ a.2.length = 2 ∨ a.2.length = 3 := by omega
        rcases this with e | e | e | e <;> rw [e] <;> decide
      · subst e5
        rw [List.map_map] at k5
        exact k5
      · intro c hc
        obtain ⟨x, _, rfl⟩ := List.mem_map.mp hc
        by_cases z : x = -1
        · rw [show colOf ms x = ms from if_pos z]; exact hm12
        · rw [show colOf ms x = [x] from if_neg z]; simp
end
end K0

namespace Dv
open PySem PySem.Spec PyProof.Rows L2
open Evl (Ex)
section
variable {K : PySem.W.Frag} {T : Tw} {σ : L2.St} {G G' H H' G0 H0 : Hp} {ta : TA} {tb te tx tl : TE} {t u : TT} {v : V} {d : PyData} {D : Ends} {tu tw tz : TS} {φ : PyData → Prop} {χ : PyData → Prop}
theorem r_rep {x w : Int} (h1 : 1 ≤ w) (h2 : w ≤ 1000) : RD T (rRepA K) (.tuple [.int x]) (.int w) (· = .tuple ((List.replicate w.toNat x).map .int)) := fun a b G H hx hy p Q q => by
  cases hy.intV
  obtain ⟨a, xs, rfl, ga, k⟩ := hx.tupV
  obtain ⟨v, ws, rfl, kv, k⟩ := k.consV
  cases k.nilV
  cases kv.intV
  by_cases e : w = 1
  · subst e
    exact .inl ⟨a, _, rfl, rfl, .inl (.inl (p.1 _ _ ga)), q _ _ G H (Stp.refl p) (.tup ga (.cons (.int x) .nil)) rfl⟩
  · refine .inr ⟨a, w, _, rfl, rfl, .inl (.inl (p.1 _ _ ga)), by simp, by omega, h2, by simp, fun l hl => ?_⟩
    have s := Stp.new p (.tup (List.replicate w.toNat [V.int x]).flatten) hl
    refine q _ _ _ _ s (.tup upd_same ?_) rfl
    rw [show (List.replicate w.toNat [V.int x]).flatten = (List.replicate w.toNat x).map V.int by
      generalize w.toNat = n
      induction n with
      | zero => rfl
      | succ n ih => rw [List.replicate_succ, List.flatten_cons, ih, List.replicate_succ, List.map_cons]; rfl]
    exact .ints _
theorem e_lcEnum {ds : List PyData} {j1 j2 : Nat} {vs : List Nat} (f : Nat → PyData → PyData) (h : EvA T ta σ G (· = [.list ds])) (hz : ds.length ≤ 40000) (hw : ∀ x y, wipe (((wipe σ vs).set j1 (some x)).set j2 (some y)) vs = wipe σ vs)
    (he : ∀ (i : Nat) d x G1, Ex G G1 → ds[i]? = some d → Da G1 x d → EvP T te (((wipe σ vs).set j1 (some (.int (i : Nat)))).set j2 (some x)) G1 (· = f i d)) :
    EvP T (tLc (iEnum K ta) (gTup K 2 (gCons (gName j1) (gCons (gName j2) gNil))) tYes te vs) σ G (· = .list (ds.mapIdx f)) := fun G1 H1 x p Q q => by
  refine h G1 H1 x p _ fun ws ds' G2 H2 s2 kk e => ?_
  subst e
  obtain ⟨v1, ws, rfl, k1, kk⟩ := kk.consV
  cases kk.nilV
  obtain ⟨a, xs, rfl, ga, ka⟩ := k1.lstV
  have la := ka.length
  have p2 := s2.pre
  refine ⟨a, xs, rfl, .inl (.inl (s2.pre.1 _ _ ga)), fun D hD => ?_⟩
  have gD : G2 D = none := Evl.fresh_back p2.1 hD
  refine lc_it (walk_enum (K := K) (a := a) (xs := xs)) (fun i H => ∃ G', Ex G2 G' ∧ Stp T G2 H2 G' H ∧ Ap D ((ds.take i).mapIdx f) G' H) ⟨G2, Ex.refl _, (Stp.refl p2).mut p2 _ hD gD, ⟨gD, [], upd_same, by simp; exact .nil⟩⟩ (fun i H _ ⟨G', e, s, _⟩ => .inl (.inl (s.pre.1 _ _ (e _ _ ga)))) (fun i v H H' hi ⟨G', e, s, a3⟩ y => ?_) (fun H ⟨G', e, s, ⟨g, ys, ex, k⟩⟩ => ?_)
  · obtain ⟨Tn, x1, x2, rfl, hT, rfl, e1, e2⟩ := y
    cases e1
    obtain ⟨d, hd, kd⟩ := ka.getV e2
    refine ⟨Tn, [.int (i : Nat), x2], rfl, .inl (.inl upd_same), rfl, _, [x2], rfl, x2, [], rfl, rfl, hw _ _, ?_⟩
    show te _ _ _
    have s' := s.junk p2 (.tup [.int (i : Nat), x2]) hT
    have a' : Ap D ((ds.take i).mapIdx f) G' (upd H Tn (.tup [.int (i : Nat), x2])) := a3.junk hT
    refine he i d x2 G' ((x.trans s2.ex).trans e) hd (kd.mono e) G' _ (Ex.refl _) s'.pre _ fun y e' G4 H4 s4 k4 f4 => ?_
    obtain ⟨g4, zs, e4, kz⟩ := a'.stp p2 hD s4
    refine ⟨zs, e4, Evl.sz_lt (by rw [kz.length, List.length_mapIdx, List.length_take]; omega), G4, e.trans s4.ex, (s'.trans s4).mut p2 _ hD g4, ⟨g4, _, upd_same, ?_⟩⟩
    rw [List.take_add_one, hd]
    show DaA G4 _ (List.mapIdx f (ds.take i ++ [d]))
    have hil : i < ds.length := by omega
    rw [List.mapIdx_append, List.length_take, Nat.min_eq_left (by omega)]
    subst f4
    have := kz.snoc k4
    simpa using this
  · rw [List.take_of_length_le (by omega)] at k
    exact q _ _ _ H (s2.trans (s.tell p2 hD g ex)) (.lst upd_same (k.mono (Ex.new g))) rfl
theorem map_get {α : Type} {f : α → PyData} {l : List α} {i : Nat} {d : PyData} (h : (l.map f)[i]? = some d) : ∃ z, l[i]? = some z ∧ d = f z := by
  rw [List.getElem?_map] at h
  cases q : l[i]? with
  | none => rw [q] at h; cases h
  | some z => rw [q] at h; cases h; exact ⟨z, rfl, rfl⟩
/-- two clauses, the inner items as they are -/
theorem e_lc2Flat {α : Type} {b b1 : Bool} (g : α → PyData) (l : List α) (f : α → List PyData) (B : Nat) {tl1 : TE} {j j1 : Nat} {vs vs1 : List Nat} (h : EvP T tl σ G (· = IsSq b (l.map g))) (hB : ∀ d ∈ l, (f d).length ≤ B) (hz : l.length * B + B ≤ 50000)
    (hw : ∀ x, wipe ((wipe σ vs).set j (some x)) vs = wipe σ vs)
    (hw1 : ∀ x y, wipe ((wipe ((wipe σ vs).set j (some x)) vs1).set j1 (some y)) vs1 = wipe ((wipe σ vs).set j (some x)) vs1)
    (hv : ∀ x y : V, ((wipe ((wipe σ vs).set j (some x)) vs1).set j1 (some y))[j1]? = some (some y))
    (hs : ∀ (i : Nat) a x G1, Ex G G1 → l[i]? = some a → Da G1 x (g a) → EvP T tl1 ((wipe σ vs).set j (some x)) G1 (· = IsSq b1 (f a))) :
    EvP T (tLc2 (iSq K b tl) (gName j) tYes (iSq K b1 tl1) (gName j1) tYes (tVar j1) vs vs1) σ G (· = .list (l.flatMap f)) := by
  have hsz : ∀ i, ((l.take i).flatMap f).length ≤ l.length * B := fun i => by
    have : ∀ l : List α, (∀ d ∈ l, (f d).length ≤ B) → (l.flatMap f).length ≤ l.length * B := fun l => by
      induction l with
      | nil => intro _; simp
      | cons a l ih =>
        intro hl
        rw [List.flatMap_cons, List.length_append, List.length_cons, Nat.add_mul]
        have := ih fun d hd => hl d (by simp [hd])
        have := hl a (by simp)
        omega
    refine Nat.le_trans (this _ fun d hd => hB d (List.take_subset i l hd)) ?_
    rw [List.length_take]
    exact Nat.mul_le_mul_right _ (Nat.min_le_right _ _)
  refine e_lc2 (b := b) (b1 := b1) (ds := l.map g) (f := fun i => ((l[i]?).map f).getD []) (fun i k es => es = (l.take i).flatMap f ++ (((l[i]?).map f).getD []).take k) (φ := fun i k e => (((l[i]?).map f).getD [])[k]? = some e) h (by simp) (fun i k es e => ?_) hw hw1 (fun i d x G1 e1 hd kd => ?_) (fun i k d e x y G1 e1 hd kd he ke => ?_) (fun i k es e hi hk h1 h2 => ?_) (fun i es hi h1 => ?_) (fun es h1 => ?_)
  · subst e
    have := hsz i
    rw [List.length_append, List.length_take]
    have h2 : (((l[i]?).map f).getD []).length ≤ B := by
      cases q : l[i]? with
      | none => simp
      | some d => exact hB d (List.mem_of_getElem? q)
    omega
  · obtain ⟨a, ha, rfl⟩ := map_get hd
    rw [ha]; exact hs i a x G1 e1 ha kd
  · refine (e_var (hv x y) ke).imp fun d' e' => ?_
    subst e'
    exact he
  · rw [h1, List.append_assoc, List.take_add_one, h2]; rfl
  · rw [List.length_map] at hi
    rw [h1, List.take_length, List.take_add_one, List.getElem?_eq_getElem hi, List.flatMap_append]
    simp
  · rw [h1, List.length_map, List.take_length]; simp
/-- one clause, typed -/
theorem e_lcT {α : Type} {b : Bool} (g : α → PyData) (l : List α) (p : α → Bool) (f : α → PyData) {j : Nat} {vs : List Nat} (h : EvP T tl σ G (· = IsSq b (l.map g))) (hz : l.length ≤ 40000) (hw : ∀ x, wipe ((wipe σ vs).set j (some x)) vs = wipe σ vs)
    (ht : ∀ a x G1, Ex G G1 → a ∈ l → Da G1 x (g a) → EvB T t ((wipe σ vs).set j (some x)) G1 (· = p a))
    (he : ∀ a x G1, Ex G G1 → a ∈ l → Da G1 x (g a) → p a = true → EvP T te ((wipe σ vs).set j (some x)) G1 (· = f a)) : EvP T (tLc (iSq K b tl) (gName j) t te vs) σ G (· = .list ((l.filter p).map f)) :=
  e_lc (fun i es => es = ((l.take i).filter p).map f) (α := fun i b => ∃ a, l[i]? = some a ∧ b = p a) (φ := fun i e => ∃ a, l[i]? = some a ∧ e = f a) h rfl (fun i es e => by rw [e, List.length_map]; have := List.length_filter_le p (l.take i); rw [List.length_take] at this; omega) hw
    (fun i d x G1 e1 hd kd => by
      obtain ⟨a, ha, rfl⟩ := map_get hd
      exact (ht a x G1 e1 (List.mem_of_getElem? ha) kd).imp fun e h => ⟨a, ha, h⟩)
    (fun i d x G1 e1 hd kd ⟨a', ha', hp⟩ => by
      obtain ⟨a, ha, rfl⟩ := map_get hd
      have e0 := Option.some.inj (ha.symm.trans ha')
      subst e0
      exact (he a x G1 e1 (List.mem_of_getElem? ha) kd hp.symm).imp fun e h => ⟨a, ha, h⟩) (fun i es e hi h1 ⟨d', hd', h3⟩ ⟨d, hd, h2⟩ => by
      have e0 := Option.some.inj (hd.symm.trans hd')
      subst e0
      rw [h1, h2, List.take_add_one, hd, List.filter_append, List.map_append]
      show _ = _ ++ List.map f (List.filter p [d])
      rw [List.filter_cons, if_pos h3.symm]; rfl) (fun i es hi h1 ⟨d, hd, h3⟩ => by
      rw [h1, List.take_add_one, hd, List.filter_append, List.map_append]
      show _ = _ ++ List.map f (List.filter p [d])
      rw [List.filter_cons, if_neg (by rw [← h3]; exact Bool.false_ne_true)]; simp) (fun es e => by rw [e, List.length_map, List.take_length])
theorem b_yes : EvB T tYes σ G (· = true) := fun G1 H x p Q q => q true G1 H (Stp.refl p) rfl
theorem e_lcTM {α : Type} {b : Bool} (g : α → PyData) (l : List α) (f : α → PyData) {j : Nat} {vs : List Nat} (h : EvP T tl σ G (· = IsSq b (l.map g))) (hz : l.length ≤ 40000) (hw : ∀ x, wipe ((wipe σ vs).set j (some x)) vs = wipe σ vs)
    (he : ∀ a x G1, Ex G G1 → a ∈ l → Da G1 x (g a) → EvP T te ((wipe σ vs).set j (some x)) G1 (· = f a)) : EvP T (tLc (iSq K b tl) (gName j) tYes te vs) σ G (· = .list (l.map f)) :=
  e_is (e_lcT g l (fun _ => true) f h hz hw (fun _ _ _ _ _ _ => b_yes) fun a x G1 e1 ha k _ => he a x G1 e1 ha k) (by rw [List.filter_eq_self.mpr fun _ _ => rfl])
end
end Dv
namespace K0
open PySem PySem.Spec PyProof.Rows L2 Dv
open Evl (Ex)
section
variable {P : Program} {w : World} {K : PySem.W.Frag} {mg : Str → Option Value} {base : Heap}
def stars (ws : List Int) : List Row := ws.mapIdx fun i w => ((i : Int), List.replicate w.toNat (-1))
def RStars (ds : List PyData) (d : PyData) : Prop := ∃ ws : List Int, ds = [.list (encI ws)] ∧ ws.length ≤ 3 ∧ (∀ w ∈ ws, 1 ≤ w ∧ w ≤ 3) ∧ d = .tuple ((stars ws).map encR)
theorem ok_stars (t : Txt K mg "star_patterns" s_star_patterns p_star_patterns) {tk : Tok} (mS : mg "STAR" = some (.int (-1) tk)) (mT : mg "tuple" = none) (mE : mg "enumerate" = none) : Ca P w K mg base "star_patterns" 1 p_star_patterns (spF RStars) := by
  refine t.ca fun f fd F => F.ok sc_star_patterns (fun vs H Q E h => ?_) (fun cdv A outer s H vs Q E hr h => ?_)
  · obtain ⟨G, ds, d, _, k, ⟨ws, rfl, _⟩, _⟩ := h
    exact k.length
  · obtain ⟨G, ds, d, p0, k, ⟨ws, rfl, hl, hw, rfl⟩, q⟩ := h
    obtain ⟨v, us, rfl, kv, k⟩ := k.consV
    cases k.nilV
    refine ⟨_, pss_one (ps_ret (pe_callTy call_tuple_of (by rfl) mT (by decide +kernel) (pa_cons (pe_lc (own := [("table", 1), ("width", 2)]) (g := gTup K 2 (gCons (gName 1) (gCons (gName 2) gNil))) (tt := tYes) (te := tTup (tCons (tVar 1) (tCons (tOp (rRepA K) (tTup (tCons (tC (.int (-1))) tNil)) (tVar 2)) tNil))) (by rfl) sc_star_patterns.nd (pi_enum (by rfl) mE (pa_cons (pv 0) pa_nil)) (blkOk_by (N := n_star_patterns) (sc := defScope s_star_patterns) (by decide +kernel))
          (fun _ _ _ _ _ => pg_tup rfl (pgs_cons (pg_name (i := 1) sc_star_patterns.nd rfl (.inl rfl)) (pgs_cons (pg_name (i := 2) sc_star_patterns.nd rfl (.inl rfl)) pgs_nil))) (fun _ _ _ _ _ => pts_nil) (fun _ _ _ _ _ => pe_tup (pa_cons (pv 1) (pa_cons (pe_op op_repA (pe_tup (pa_cons (pe_glob (v := .int (-1)) (by rfl) mS ⟨_, rfl⟩) pa_nil)) (pv 2)) pa_nil)))) pa_nil))), ?_⟩
    refine s_ret p0 (e_tupL (e_lcEnum (fun i d => match d with | .int w => encR ((i : Int), List.replicate w.toNat (-1)) | x => x) (a_one (e_var rfl kv)) (by rw [List.length_map]; omega) (fun _ _ => rfl) fun i d x G1 e1 hd kx => ?_) rfl) fun v d G4 H4 s4 k5 e5 => q v G4 H4 s4 ?_
    · obtain ⟨c, hc, rfl⟩ := encI_get hd
      have hc2 := hw c (List.mem_of_getElem? hc)
      exact e_pair (e_var rfl (.int _)) (e_op (φ := (· = .tuple [.int (-1)])) (e_tup (a_one e_int) fun _ e => by subst e; exact ⟨by simp, rfl⟩) (e_var rfl kx) fun _ _ e1 e2 => by subst e1; subst e2; exact r_rep hc2.1 (by omega))
    · subst e5
      unfold stars
      rw [show (encI ws).mapIdx (fun i d => match d with | .int w => encR ((i : Int), List.replicate w.toNat (-1)) | x => x) = (ws.mapIdx fun i w => ((i : Int), List.replicate w.toNat (-1))).map encR by
        refine List.ext_getElem? fun i => ?_
        rw [List.getElem?_mapIdx, List.getElem?_map, List.getElem?_map, List.getElem?_mapIdx]
        cases ws[i]? <;> rfl] at k5
      exact k5
def allRows (ws ms : List Int) : List Row := (stars ws).flatMap fun a => (prod (a.2.map (colOf ms))).map fun t => (a.1, t)
def RAll (ds : List PyData) (d : PyData) : Prop := ∃ ws fs ms : List Int, ds = [.list (encI ws), .list (encI fs)] ∧ ws.length ≤ 3 ∧ (∀ w ∈ ws, 1 ≤ w ∧ w ≤ 3) ∧ fs.length < 64 ∧ Asc ms ∧ (∀ x, x ∈ ms ↔ x ∈ fs) ∧ ms.length ≤ 12 ∧ d = .tuple ((allRows ws ms).map encR)
theorem ok_all_rows (t : Txt K mg "all_rows" s_all_rows p_all_rows) (mT : mg "tuple" = none) (cS : Ca P w K mg base "star_patterns" 1 p_star_patterns (spF RStars)) (cR : Ca P w K mg base "rows_of" 2 p_rows_of (spF RRows)) : Ca P w K mg base "all_rows" 3 p_all_rows (spF RAll) := by
  obtain ⟨fS, fdS, gS, kpS, bS, FS⟩ := cS
  obtain ⟨fP, fdP, gP, kpP, bP, FP⟩ := cR
  refine t.ca fun f fd F => F.ok sc_all_rows (fun vs H Q E h => ?_) (fun cdv A outer s H vs Q E hr h => ?_)
  · obtain ⟨G, ds, d, _, k, ⟨ws, fs, ms, rfl, _⟩, _⟩ := h
    exact k.length
  · obtain ⟨G, ds, d, p0, k, ⟨ws, fs, ms, rfl, hl, hw, hfs, hms, hmem, hm12, rfl⟩, q⟩ := h
    obtain ⟨va, us, rfl, ka, k⟩ := k.consV
    obtain ⟨vw, us, rfl, kw, k⟩ := k.consV
    cases k.nilV
    refine ⟨_, pss_one (ps_ret (pe_callTy call_tuple_of (by rfl) mT (by decide +kernel) (pa_cons (pe_lc2 (own := [("pattern", 2), ("row", 3)]) (vs1 := [3]) (g := gName 2) (g1 := gName 3) (tt := tYes) (tt1 := tYes) (wi1 := iTup K (tCall (spF RRows) [] E0 (tCons (tVar 2) (tCons (tVar 1) tNil)))) (te := tVar 3) (by rfl) sc_all_rows.nd
          (pi_tup (pe_call FS (hr.mono (by decide)) (by rfl) gS kpS bS .nil pass0 (pa_cons (pv 0) pa_nil))) (blkOk_by (N := n_all_rows) (sc := defScope s_all_rows) (by decide +kernel)) (by decide)
          (fun _ _ _ _ _ => pg_name (i := 2) sc_all_rows.nd rfl (.inl rfl)) (fun _ _ _ _ _ => pts_nil) (fun _ _ _ _ _ => pi_tup (pe_call FP hr (by rfl) gP kpP bP .nil pass0 (pa_cons (pv 2) (pa_cons (pv 1) pa_nil)))) (fun _ _ _ _ _ => pg_name (i := 3) sc_all_rows.nd rfl (.inl rfl)) (fun _ _ _ _ _ => pts_nil) (fun _ _ _ _ _ => pv 3)) pa_nil))), ?_⟩
    have hst : ∀ a ∈ stars ws, a.2.length ≤ 3 := fun a ha => by
      obtain ⟨i, hi, rfl⟩ := List.mem_mapIdx.mp ha
      have := hw _ (List.getElem_mem hi)
      rw [List.length_replicate]; omega
    have hsl : (stars ws).length = ws.length := List.length_mapIdx
    refine s_ret p0 (e_tupL (e_is (e_lc2Flat (b := false) (b1 := false) encR (stars ws) (fun a => ((prod (a.2.map (colOf ms))).map fun t => (a.1, t)).map encR) 1728 (e_call (a_one (e_var rfl ka)) fun ds e => ⟨_, ⟨ws, e, hl, hw, rfl⟩, rfl⟩) (fun a ha => ?_) (by rw [hsl]; omega) (fun _ => rfl) (fun _ _ => rfl) (fun _ _ => rfl) fun i a x G1 e1 ha kx => e_call (a_two (e_var rfl kx) (e_var rfl (kw.mono e1))) fun ds e => ⟨_, ⟨a, fs, ms, e, hfs, hms, hmem, hst a (List.mem_of_getElem? ha), hm12, rfl⟩, ?_⟩) (?_ : _ = PyData.list ((allRows ws ms).map encR))) rfl) fun v d G4 H4 s4 k5 e5 => q v G4 H4 s4 (by subst e5; exact k5)
    · rw [List.length_map, List.length_map]
      have h3 := hst a ha
      have h1 := prod_length_le 12 (a.2.map (colOf ms)) [[]] fun c hc => by
        obtain ⟨x, _, rfl⟩ := List.mem_map.mp hc
        by_cases z : x = -1
        · rw [show colOf ms x = ms from if_pos z]; exact hm12
        · rw [show colOf ms x = [x] from if_neg z]; simp
      refine Nat.le_trans h1 ?_
      rw [List.length_map]
      have : a.2.length = 0 ∨ a.2.length = 1 ∨ a.2.length = 2 ∨ a.2.length = 3 := by omega
      rcases this with e | e | e | e <;> rw [e] <;> decide
    · rw [List.map_map]; rfl
    · unfold allRows
      rw [List.map_flatMap]
end
end K0

namespace Dv
open PySem PySem.Spec PyProof.Rows L2
open Evl (Ex)
/-! ### the drawn source at S -/
structure SrcAt (H : Hp) (S C : Addr) (ns : List Int) (p r z : Int) : Prop where
  hS : H S = some (.lst [.ref C, .int p, .int r, .int z])
  ne : C ≠ S
  hC : H C = some (.lst (ns.map V.int))
abbrev srcD (ns : List Int) (p r z : Int) : PyData := .list [.list (ns.map .int), .int p, .int r, .int z]
theorem SrcAt.ex {H H' : Hp} {S C : Addr} {ns : List Int} {p r z : Int} (h : SrcAt H S C ns p r z) (e : Ex H H') : SrcAt H' S C ns p r z := ⟨e _ _ h.hS, h.ne, e _ _ h.hC⟩
/-- an expression over it -/
def EvS (te : TE) (σ : L2.St) (S : Addr) (ns : List Int) (p r z : Int) (ψ : Int → Prop) : Prop := ∀ G, Da G (.ref S) (srcD ns p r z) → EvP none te σ G (fun d => ∃ x, d = .int x ∧ ψ x)
section
variable {K : PySem.W.Frag} {σ : L2.St} {G G' H H' G0 H0 : Hp} {S C : Addr} {ns : List Int} {p r z : Int} {ta : TA} {ta1 tb te tx tl : TE} {t u : TT} {v : V} {d : PyData} {D : Ends} {tu tw tz : TS} {ψ ψ1 ψ2 : Int → Prop}
theorem SrcAt.known (h : SrcAt H S C ns p r z) : ∃ G, Ex G H ∧ Da G (.ref S) (srcD ns p r z) := by
  refine ⟨fun a => if a = S then H S else if a = C then H C else none, fun a o e => ?_, ?_⟩
  · replace e : (if a = S then H S else if a = C then H C else none) = some o := e
    by_cases q : a = S
    · rw [if_pos q] at e; rw [q]; exact e
    · rw [if_neg q] at e
      by_cases q2 : a = C
      · rw [if_pos q2] at e; rw [q2]; exact e
      · rw [if_neg q2] at e; cases e
  · refine .lst (xs := [.ref C, .int p, .int r, .int z]) (show (if S = S then H S else if S = C then H C else none) = _ by rw [if_pos rfl]; exact h.hS) (.cons (.lst (xs := ns.map V.int) (show (if C = S then H S else if C = C then H C else none) = _ by rw [if_neg h.ne, if_pos rfl]; exact h.hC) (.ints ns)) (.cons (.int p) (.cons (.int r) (.cons (.int z) .nil))))
theorem src_ev (h : SrcAt H S C ns p r z) (he : EvS te σ S ns p r z ψ) {Q : VK} (q : ∀ x H2, Ex H H2 → ψ x → Q (.int x) H2) : te σ H Q := by
  obtain ⟨G, e, k⟩ := h.known
  refine he G k G H (Ex.refl _) ⟨e, fun _ _ z => nomatch z⟩ Q fun v d G2 H2 s kd f => ?_
  obtain ⟨x, rfl, f⟩ := f
  cases kd.intV
  exact q x H2 (fun a o e => s.fm a o (fun _ z => nomatch z) e) f
theorem src_b (h : SrcAt H S C ns p r z) {α : Bool → Prop} (he : ∀ G, Da G (.ref S) (srcD ns p r z) → EvB none t σ G α) {Q : Bool → Hp → Prop} (q : ∀ b H2, Ex H H2 → α b → Q b H2) : t σ H Q := by
  obtain ⟨G, e, k⟩ := h.known
  exact he G k G H (Ex.refl _) ⟨e, fun _ _ z => nomatch z⟩ Q fun b G2 H2 s f => q b H2 (fun a o e => s.fm a o (fun _ z => nomatch z) e) f
/-! expressions -/
theorem v_int {i : Int} (h : ψ i) : EvS (tC (.int i)) σ S ns p r z ψ := fun G k => e_int.imp fun d e => ⟨i, e, h⟩
theorem v_var {j : Nat} {i : Int} (hj : σ[j]? = some (some (.int i))) (h : ψ i) : EvS (tVar j) σ S ns p r z ψ := fun G k => (e_var hj (.int i)).imp fun d e => ⟨i, e.symm ▸ rfl, h⟩
theorem v_I0 {f : Int → Int → Int} (h1 : EvS ta1 σ S ns p r z ψ1) (h2 : EvS tb σ S ns p r z ψ2) (h : ∀ x y, ψ1 x → ψ2 y → ψ (f x y)) : EvS (tOp (rI0 fun i j => .int (f i j)) ta1 tb) σ S ns p r z ψ := fun G k =>
  e_op (h1 G k) (h2 G k) fun d e ⟨x, e1, f1⟩ ⟨y, e2, f2⟩ => by
    subst e1; subst e2
    exact fun x' y' G H hx hy p Q q => r_I0 rfl x' y' G H hx hy p Q fun v d' G2 H2 s kd e => q v d' G2 H2 s kd ⟨_, e, h x y f1 f2⟩
theorem v_I {c : Int → Int → Prop} {f : Int → Int → Int} (h1 : EvS ta1 σ S ns p r z ψ1) (h2 : EvS tb σ S ns p r z ψ2) (hc : ∀ x y, ψ1 x → ψ2 y → c x y) (h : ∀ x y, ψ1 x → ψ2 y → ψ (f x y)) : EvS (tOp (rI c fun i j => .int (f i j)) ta1 tb) σ S ns p r z ψ := fun G k =>
  e_op (h1 G k) (h2 G k) fun d e ⟨x, e1, f1⟩ ⟨y, e2, f2⟩ => by
    subst e1; subst e2
    exact fun x' y' G H hx hy p Q q => r_I (hc x y f1 f2) rfl x' y' G H hx hy p Q fun v d' G2 H2 s kd e => q v d' G2 H2 s kd ⟨_, e, h x y f1 f2⟩
theorem v_toInt {tn : TA} (h1 : EvS ta1 σ S ns p r z ψ) (hn : tn = tNil) : EvS (tCB (fun xs H Q => (∃ i, xs = [.int i] ∧ Q (.int i) H) ∨ ∃ k, xs = [.bl k] ∧ Q (.int (if k then 1 else 0)) H) (tCons ta1 tn)) σ S ns p r z ψ := fun G k => by
  subst hn
  refine e_cb (a_cons (h1 G k) a_nil (ζ := fun ds => ∃ x, ds = [.int x] ∧ ψ x) ?_) ?_
  · rintro _ _ ⟨x, rfl, f⟩ rfl; exact ⟨x, rfl, f⟩
  · rintro _ ⟨x, rfl, f⟩
    exact fun xs G H hx p Q q => c_int xs G H hx p Q fun v d' G2 H2 s kd e => q v d' G2 H2 s kd ⟨x, e, f⟩
theorem v_src {j : Nat} {x : Int} (hi : σ[0]? = some (some (.ref S))) (hj : ([.list (ns.map .int), .int p, .int r, .int z] : List PyData)[j]? = some (.int x)) (h : ψ x) : EvS (tOp (rIxL K) (tVar 0) (tC (.int (j : Int)))) σ S ns p r z ψ := fun G k =>
  (e_ixL (e_var hi k) e_int rfl hj).imp fun d e => ⟨x, e, h⟩
/-! statements -/
theorem qs_asg {i : Nat} (h : SrcAt H S C ns p r z) (he : EvS te σ S ns p r z ψ) (k : ∀ x H2, Ex H H2 → ψ x → tz D (σ.set i (some (.int x))) H2) : tSeq (tAsg te (gName i)) tz D σ H := src_ev h he k
theorem ss_asg {i : Nat} (h : SrcAt H S C ns p r z) (he : EvS te σ S ns p r z ψ) (k : ∀ x H2, Ex H H2 → ψ x → D.nx (σ.set i (some (.int x))) H2) : tAsg te (gName i) D σ H := src_ev h he k
theorem qs_when {α : Bool → Prop} (h : SrcAt H S C ns p r z) (he : ∀ G, Da G (.ref S) (srcD ns p r z) → EvB none t σ G α) (h1 : α true → ∀ H2, Ex H H2 → tu { D with nx := tz D } σ H2) (h2 : α false → ∀ H2, Ex H H2 → tw { D with nx := tz D } σ H2) : tSeq (tIfS t tu tw) tz D σ H :=
  src_b h he fun b H2 e f => by
    cases b with
    | true => exact h1 f H2 e
    | false => exact h2 f H2 e
theorem ss_if {α : Bool → Prop} (h : SrcAt H S C ns p r z) (he : ∀ G, Da G (.ref S) (srcD ns p r z) → EvB none t σ G α) (h1 : α true → ∀ H2, Ex H H2 → tu D σ H2) (h2 : α false → ∀ H2, Ex H H2 → tw D σ H2) : tIfS t tu tw D σ H :=
  src_b h he fun b H2 e f => by
    cases b with
    | true => exact h1 f H2 e
    | false => exact h2 f H2 e
theorem qs_set {j : Nat} (h : SrcAt H S C ns p r z) (hi : σ[0]? = some (some (.ref S))) (hj : j < 4) (he : EvS te σ S ns p r z ψ) (k : ∀ x H2, Ex H H2 → ψ x → tz D σ (upd H2 S (.lst (([.ref C, .int p, .int r, .int z] : List V).set j (.int x))))) : tSeq (tAsg te (gSub (tVar 0) (tC (.int (j : Int))) rSetL)) tz D σ H :=
  src_ev h he fun x H2 e f => ⟨_, hi, S, _, (j : Int), j, rfl, rfl, (h.ex e).hS, Evl.ixN_nat hj, k x H2 e f⟩
theorem ss_set {j : Nat} (h : SrcAt H S C ns p r z) (hi : σ[0]? = some (some (.ref S))) (hj : j < 4) (he : EvS te σ S ns p r z ψ) (k : ∀ x H2, Ex H H2 → ψ x → D.nx σ (upd H2 S (.lst (([.ref C, .int p, .int r, .int z] : List V).set j (.int x))))) : tAsg te (gSub (tVar 0) (tC (.int (j : Int))) rSetL) D σ H :=
  src_ev h he fun x H2 e f => ⟨_, hi, S, _, (j : Int), j, rfl, rfl, (h.ex e).hS, Evl.ixN_nat hj, k x H2 e f⟩
/-- if c: x = e, x an int at any rate -/
theorem qs_cell {i : Nat} {α : Bool → Prop} {c0 : Int} (h : SrcAt H S C ns p r z) (he : ∀ G, Da G (.ref S) (srcD ns p r z) → EvB none t σ G α) (h0 : σ.set i (some (.int c0)) = σ) (h1 : α true → EvS te σ S ns p r z (fun _ => True)) (k : ∀ x H2, Ex H H2 → tz D (σ.set i (some (.int x))) H2) : tSeq (tIfS t (tAsg te (gName i)) tNext) tz D σ H :=
  qs_when h he (fun f H2 e => src_ev (h.ex e) (h1 f) fun x H3 e3 _ => k x H3 (e.trans e3)) (fun _ H2 e => by
    have := k c0 H2 e
    rw [h0] at this
    exact this)
/-- what stays: all but S -/
def But (S : Addr) (H H' : Hp) : Prop := ∀ a o, a ≠ S → H a = some o → H' a = some o
theorem But.refl (S : Addr) (H : Hp) : But S H H := fun _ _ _ h => h
theorem But.ex {H1 H2 : Hp} (b : But S H H1) (e : Ex H1 H2) : But S H H2 := fun a o n h => e a o (b a o n h)
theorem But.set {H1 : Hp} {o : HO} (b : But S H H1) : But S H (upd H1 S o) := fun a u n h => by rw [upd_ne n]; exact b a u n h
theorem SrcAt.set {H1 : Hp} {p' r' z' : Int} (h : SrcAt H1 S C ns p r z) : SrcAt (upd H1 S (.lst [.ref C, .int p', .int r', .int z'])) S C ns p' r' z' := ⟨upd_same, h.ne, by rw [upd_ne h.ne]; exact h.hC⟩
theorem But.stp {p' r' z' : Int} (h : Pre (some (S, C)) G H) (b : But S H H') (s : SrcAt H' S C ns p' r' z') (hl : ns.length ≤ 63) (hp : 0 ≤ p') (hr : 0 ≤ r') (hz : 0 ≤ z') (hz2 : z' < 2147483647) : Stp (some (S, C)) G H G H' :=
  ⟨Ex.refl _, fun a o x y => (by rw [x] at y; cases y), fun a o n e => b a o (fun q => n C (by rw [q])) e, fun a o e => b a o (fun q => by
    have := (h.2 S C rfl).1
    rw [← q, e] at this
    cases this) (h.1 a o e), fun S' C' q => by
    cases q
    exact ⟨(h.2 S C rfl).1, ns, p', r', z', s.hS, s.ne, s.hC, hl, hp, hr, hz, hz2⟩⟩
end
end Dv
namespace K0
open PySem PySem.Spec PyProof.Rows L2 Dv
open Evl (Ex)
section
variable {P : Program} {w : World} {K : PySem.W.Frag} {mg : Str → Option Value} {base : Heap}
def spSource (K : PySem.W.Frag) : Sp := fun vs H Q _ => ∃ (a : Addr) (ns : List Int), vs = [.ref a] ∧ SqL K H a (ns.map V.int) ∧ ∀ S C H', Ex H H' → H S = none → H C = none → SrcAt H' S C ns 0 0 1 → Q (.ref S) H'
theorem ok_source (t : Txt K mg "_law_source" s__law_source p__law_source) (mL : mg "list" = none) : Ca P w K mg base "_law_source" 1 p__law_source (spSource K) := by
  refine t.ca fun f fd F => F.ok sc__law_source (fun vs H Q E h => ?_) (fun cdv A outer s H vs Q E hr h => ?_)
  · obtain ⟨a, ns, rfl, _⟩ := h
    rfl
  · obtain ⟨a, ns, rfl, hq, q⟩ := h
    refine ⟨_, pss_one (ps_ret (pe_lst (pa_cons (pe_callTy call_list_of (by rfl) mL (by decide +kernel) (pa_cons (pv 0) pa_nil)) (pa_cons pe_int (pa_cons pe_int (pa_cons pe_int pa_nil)))))), ?_⟩
    refine ⟨_, rfl, a, _, rfl, .inl hq, fun C hC => ⟨Evl.sz_of (by simp), fun S hS => ?_⟩⟩
    have ne : C ≠ S := fun e => by subst e; rw [upd_same] at hS; cases hS
    have hS0 : H S = none := by
      rw [upd_ne (fun e => ne e.symm)] at hS
      exact hS
    exact q S C _ ((Ex.new hC).trans (Ex.new hS)) hS0 hC ⟨upd_same, ne, by rw [upd_ne ne, upd_same]⟩
def RTake (ds : List PyData) (φ : PyData → Prop) : Prop := ∃ m : Int, ds = [.int m] ∧ 0 < m ∧ m ≤ 10 ^ 30 ∧ φ = fun d => ∃ k, d = .int k ∧ 0 ≤ k ∧ k < m
theorem ok_take (t : Txt K mg "_law_take" s__law_take p__law_take) (mL : mg "len" = none) (mI : mg "int" = none) : Ca P w K mg base "_law_take" 1 p__law_take (spG RTake) := by
  refine t.ca fun f fd F => F.ok sc__law_take (fun vs H Q E h => ?_) (fun cdv A outer s H vs Q E hr h => ?_)
  · obtain ⟨S, C, ws, G, ds, φ, rfl, _, k, ⟨m, rfl, _⟩, _⟩ := h
    exact congrArg (· + 1) k.length
  · obtain ⟨S, C, ws, G, ds, φ, rfl, p0, k, ⟨m, rfl, hm, hm30, rfl⟩, q⟩ := h
    obtain ⟨vm, ws, rfl, km, k⟩ := k.consV
    cases k.nilV
    cases km.intV
    obtain ⟨gS, ns, p, r, z, h1, h2, h3, h4, h5, h6, h7, h8⟩ := p0.2 S C rfl
    have hs : SrcAt H S C ns p r z := ⟨h1, h2, h3⟩
    refine ⟨_, Evl.pss_cut (ps_if (pt_cmpR op_eq (pe_ix ix_list (pv 0) pe_int (fun _ _ => rfl)) pe_int (nomark _))
        (pss_cons (ps_set (i := 2) sc__law_take.nd rfl (.inl rfl) pe_int)
        (pss_cons (ps_if (pt_cmpR op_lt (pe_ix ix_list (pv 0) pe_int (fun _ _ => rfl)) (pe_callB call_len_seq (by rfl) mL PySem.boot_len (pa_cons (pe_ix ix_list (pv 0) pe_int (fun _ _ => rfl)) pa_nil)) (nomark _))
          (pss_one (ps_set (i := 2) sc__law_take.nd rfl (.inl rfl) (pe_ix ix_list (pe_ix ix_list (pv 0) pe_int (fun _ _ => rfl)) (pe_ix ix_list (pv 0) pe_int (fun _ _ => rfl)) (fun _ _ => rfl)))) pss_nil)
        (pss_cons (ps_asg (pe_op op_add (pe_ix ix_list (pv 0) pe_int (fun _ _ => rfl)) pe_int) (pg_sub (pv 0) pe_int set_list))
        (pss_one (ps_if (pt_cmpR op_ge (pv 2) (pe_op op_pow pe_int pe_int) (nomark _))
          (pss_one (ps_asg (pv 2) (pg_sub (pv 0) pe_int set_list)))
          (pss_cons (ps_set (i := 3) sc__law_take.nd rfl (.inl rfl) (pe_op op_mod (pe_callTy call_int1 (by rfl) mI (by decide +kernel) (pa_cons (pe_op op_add (pe_op op_add (pe_op op_add (pe_op op_mul (pe_ix ix_list (pv 0) pe_int (fun _ _ => rfl)) pe_int) (pe_op op_mul (pe_op op_mod (pe_callTy call_int1 (by rfl) mI (by decide +kernel) (pa_cons (pv 2) pa_nil)) pe_int) pe_int)) (pe_op op_mul (pe_ix ix_list (pv 0) pe_int (fun _ _ => rfl)) pe_int)) pe_int) pa_nil)) pe_int))
          (pss_cons (ps_set (i := 3) sc__law_take.nd rfl (.inl rfl) (pe_op op_mod (pe_callTy call_int1 (by rfl) mI (by decide +kernel) (pa_cons (pe_op op_add (pe_op op_add (pe_op op_mul (pv 3) (pv 3)) (pe_op op_mul (pe_ix ix_list (pv 0) pe_int (fun _ _ => rfl)) pe_int)) pe_int) pa_nil)) pe_int))
          (pss_cons (ps_asg (pv 3) (pg_sub (pv 0) pe_int set_list))
          (pss_one (ps_ret (pe_op op_mod (pe_op op_fdivW (pv 3) pe_int) (pv 1)))))))))))) pss_nil)
      (pss_cons (ps_set (i := 4) sc__law_take.nd rfl (.inl rfl) (pe_op op_mod (pe_callTy call_int1 (by rfl) mI (by decide +kernel) (pa_cons (pe_ix ix_list (pv 0) pe_int (fun _ _ => rfl)) pa_nil)) (pv 1)))
      (pss_cons (ps_asg (pe_op op_fdivW (pe_ix ix_list (pv 0) pe_int (fun _ _ => rfl)) (pv 1)) (pg_sub (pv 0) pe_int set_list))
      (pss_one (ps_ret (pv 4))))), ?_⟩
    have at_ : ∀ {σ : L2.St} {G : Hp} {ns : List Int} {p r z x : Int} (j : Nat) (hi : σ[0]? = some (some (.ref S))) (k : Da G (.ref S) (srcD ns p r z)) (hj : ([.list (ns.map .int), .int p, .int r, .int z] : List PyData)[j]? = some (.int x)), EvP none (tOp (rIxL K) (tVar 0) (tC (.int (j : Int)))) σ G (· = .int x) := fun j hi k hj => e_ixL (e_var hi k) e_int rfl hj
    refine ⟨fun σ' H' => ∃ p' r' z' c2 c3, σ' = [some (.ref S), some (.int m), c2, c3, none] ∧ But S H H' ∧ SrcAt H' S C ns p' r' z' ∧ 0 ≤ p' ∧ 0 ≤ r' ∧ 0 ≤ z' ∧ z' < 2147483647, ?_, ?_⟩
    · refine ss_if hs (α := (· = decide (r = 0))) (fun G k => b_eqI (at_ 2 rfl k rfl) e_int) (fun hb H1 e1 => ?_) (fun hb H1 e1 => ⟨p, r, z, none, none, rfl, (But.refl S H).ex e1, hs.ex e1, h5, h6, h7, h8⟩)
      have hr0 : r = 0 := of_decide_eq_true hb.symm
      subst hr0
      refine qs_asg (hs.ex e1) (v_int (ψ := fun _ => True) trivial) fun x0 H2 e2 _ => ?_
      refine qs_cell (c0 := x0) (α := (· = decide (p < (ns.length : Int)))) (hs.ex (e1.trans e2)) (fun G k => b_test (φ := (· = .bool (decide (p < (ns.length : Int))))) (e_op (at_ 1 rfl k rfl) (e_cb (χ := (· = .int (ns.length : Int))) (a_one (e_ixL (j := 0) (e_var rfl k) e_int rfl rfl)) ?_) ?_) fun d e => ⟨_, e, rfl⟩) rfl (fun hp G k => ?_) fun c H3 e3 => ?_
      · rintro _ rfl
        exact fun xs G H hx p Q q => c_len (.inl rfl) xs G H hx p Q fun v d' G2 H2 s kd e => q v d' G2 H2 s kd (by rw [e, List.length_map])
      · rintro _ _ rfl rfl; exact r_I0b rfl
      · have hp' : p < (ns.length : Int) := of_decide_eq_true hp.symm
        refine (e_ixL (ds := ns.map .int) (i := p) (j := p.toNat) (e := .int (ns[p.toNat]?.getD 0)) (e_ixL (j := 0) (e_var rfl k) e_int rfl rfl) (at_ 1 rfl k rfl) (by omega) ?_).imp fun d e => ⟨_, e, trivial⟩
        rw [List.getElem?_map, List.getElem?_eq_getElem (by omega)]
        rfl
      have b3 : But S H H3 := (But.refl S H).ex ((e1.trans e2).trans e3)
      have s3 := hs.ex ((e1.trans e2).trans e3)
      refine qs_set (j := 1) s3 rfl (by decide) (v_I0 (ψ := (0 ≤ ·)) (f := (· + ·)) (v_src (j := 1) (ψ := (· = p)) rfl rfl rfl) (v_int (ψ := (· = 1)) rfl) fun x y hx hy => by omega) fun p' H4 e4 hp' => ?_
      have s4 : SrcAt _ S C ns p' 0 z := (s3.ex e4).set
      have b4 : But S H (upd H4 S (.lst [.ref C, .int p', .int 0, .int z])) := (b3.ex e4).set
      refine ss_if s4 (α := (· = decide (10 ^ 18 ≤ c))) (fun G k => b_test (φ := (· = .bool (decide (10 ^ 18 ≤ c)))) (e_op (φ := (· = .int c)) (ψ := (· = .int (10 ^ 18))) (e_var rfl (.int c)) (e_op (φ := (· = .int 10)) (ψ := (· = .int 18)) e_int e_int ?_) ?_) fun d e => ⟨_, e, rfl⟩) (fun hb H5 e5 => ?_) (fun hb H5 e5 => ?_)
      · rintro _ _ rfl rfl; exact r_I (show CPow 10 18 from ⟨by decide, by decide, by decide⟩) rfl
      · intro d e h1 h2
        subst h1
        rw [h2]
        exact r_I0b rfl
      · have hc : 10 ^ 18 ≤ c := of_decide_eq_true hb.symm
        refine ss_set (j := 2) (s4.ex e5) rfl (by decide) (v_var (ψ := (· = c)) (i := c) rfl rfl) fun x H6 e6 hx => ?_
        subst hx
        exact ⟨p', x, z, _, _, rfl, ((b4.ex e5).ex e6).set, ((s4.ex e5).ex e6).set, hp', by omega, h7, h8⟩
      · refine qs_asg (s4.ex e5) (v_I (ψ := fun x => 0 ≤ x ∧ x < 2147483647) (ψ1 := fun _ => True) (ψ2 := (· = 2147483647)) (f := (· % ·)) (v_toInt (v_I0 (f := (· + ·)) (ψ1 := fun _ => True) (ψ2 := fun _ => True) (v_I0 (f := (· + ·)) (ψ1 := fun _ => True) (ψ2 := fun _ => True) (v_I0 (f := (· + ·)) (ψ1 := fun _ => True) (ψ2 := fun _ => True) (v_I (f := (· * ·)) (ψ1 := fun _ => True) (ψ2 := (· = 69621)) (v_src (j := 3) (x := z) rfl rfl trivial) (v_int rfl) (fun x y _ hy => .inr (by omega)) fun _ _ _ _ => trivial)
            (v_I (f := (· * ·)) (ψ1 := fun _ => True) (ψ2 := (· = 48271)) (v_I (f := (· % ·)) (ψ1 := fun _ => True) (ψ2 := (· = 2147483629)) (v_toInt (v_var (i := c) rfl trivial) rfl) (v_int rfl) (fun x y _ hy => by omega) fun _ _ _ _ => trivial) (v_int rfl) (fun x y _ hy => .inr (by omega)) fun _ _ _ _ => trivial) fun _ _ _ _ => trivial)
            (v_I (f := (· * ·)) (ψ1 := fun _ => True) (ψ2 := (· = 7919)) (v_src (j := 1) (x := p') rfl rfl trivial) (v_int rfl) (fun x y _ hy => .inr (by omega)) fun _ _ _ _ => trivial) fun _ _ _ _ => trivial) (v_int trivial) fun _ _ _ _ => trivial) rfl) (v_int rfl) (fun x y _ hy => by omega) fun x y _ hy => by subst hy; exact ⟨Int.emod_nonneg _ (by decide), Int.emod_lt_of_pos _ (by decide)⟩) fun m1 H6 e6 hm1 => ?_
        refine qs_asg ((s4.ex e5).ex e6) (v_I (ψ := fun x => 0 ≤ x ∧ x < 2147483629) (ψ1 := fun _ => True) (ψ2 := (· = 2147483629)) (f := (· % ·)) (v_toInt (v_I0 (f := (· + ·)) (ψ1 := fun _ => True) (ψ2 := fun _ => True) (v_I0 (f := (· + ·)) (ψ1 := fun _ => True) (ψ2 := fun _ => True) (v_I (f := (· * ·)) (ψ1 := (· = m1)) (ψ2 := (· = m1)) (v_var (i := m1) rfl rfl) (v_var (i := m1) rfl rfl) (fun x y hx hy => .inr (by subst hy; omega)) fun _ _ _ _ => trivial)
            (v_I (f := (· * ·)) (ψ1 := fun _ => True) (ψ2 := (· = 104729)) (v_src (j := 1) (x := p') rfl rfl trivial) (v_int rfl) (fun x y _ hy => .inr (by omega)) fun _ _ _ _ => trivial) fun _ _ _ _ => trivial) (v_int trivial) fun _ _ _ _ => trivial) rfl) (v_int rfl) (fun x y _ hy => by omega) fun x y _ hy => by subst hy; exact ⟨Int.emod_nonneg _ (by decide), Int.emod_lt_of_pos _ (by decide)⟩) fun m2 H7 e7 hm2 => ?_
        refine qs_set (j := 3) (((s4.ex e5).ex e6).ex e7) rfl (by decide) (v_var (ψ := (· = m2)) (i := m2) rfl rfl) fun x H8 e8 hx => ?_
        subst hx
        have s8 : SrcAt _ S C ns p' 0 x := ((((s4.ex e5).ex e6).ex e7).ex e8).set
        have b8 : But S H (upd H8 S (.lst [.ref C, .int p', .int 0, .int x])) := ((((b4.ex e5).ex e6).ex e7).ex e8).set
        refine src_ev s8 (v_I (ψ := fun k => 0 ≤ k ∧ k < m) (ψ1 := fun _ => True) (ψ2 := (· = m)) (f := (· % ·)) (v_I (f := (· / ·)) (ψ1 := fun _ => True) (ψ2 := (· = 7)) (v_var (i := x) rfl trivial) (v_int rfl) (fun x y _ hy => by subst hy; exact ⟨by decide, by decide⟩) fun _ _ _ _ => trivial) (v_var (i := m) rfl rfl) (fun x y _ hy => by omega) fun x y _ hy => by subst hy; exact ⟨Int.emod_nonneg _ (by omega), Int.emod_lt_of_pos _ hm⟩) fun k H9 e9 hk => ?_
        exact q _ (.int k) G H9 ((b8.ex e9).stp p0 (s8.ex e9) h4 hp' (by decide) hm2.1 (by omega)) (.int k) ⟨k, rfl, hk⟩
    · rintro σ' H' ⟨p', r', z', c2, c3, rfl, b1, s1, hp', hr', hz', hz2⟩
      refine qs_asg s1 (v_I (ψ := fun k => 0 ≤ k ∧ k < m) (ψ1 := fun _ => True) (ψ2 := (· = m)) (f := (· % ·)) (v_toInt (v_src (j := 2) (x := r') rfl rfl trivial) rfl) (v_var (i := m) rfl rfl) (fun x y _ hy => by omega) fun x y _ hy => by subst hy; exact ⟨Int.emod_nonneg _ (by omega), Int.emod_lt_of_pos _ hm⟩) fun k H2 e2 hk => ?_
      refine qs_set (j := 2) (s1.ex e2) rfl (by decide) (v_I (ψ := (0 ≤ ·)) (ψ1 := (· = r')) (ψ2 := (· = m)) (f := (· / ·)) (v_src (j := 2) (x := r') rfl rfl rfl) (v_var (i := m) rfl rfl) (fun x y _ hy => by subst hy; exact wide_div (b := 100) hm (by omega) (by decide) (by decide)) fun x y hx hy => by subst hx; subst hy; exact Int.ediv_nonneg hr' (by omega)) fun r2 H3 e3 hr2 => ?_
      have s3 : SrcAt _ S C ns p' r2 z' := ((s1.ex e2).ex e3).set
      have b3 : But S H (upd H3 S (.lst [.ref C, .int p', .int r2, .int z'])) := ((b1.ex e2).ex e3).set
      exact ⟨_, rfl, q _ (.int k) G _ (b3.stp p0 s3 h4 hp' hr2 hz' hz2) (.int k) ⟨k, rfl, hk⟩⟩
end
end K0

namespace Dv
open PySem PySem.Spec PyProof.Rows L2
open Evl (Ex)
section
variable {K : PySem.W.Frag} {T : Tw} {σ : L2.St} {G G' H H' G0 H0 : Hp} {ta : TA} {tb te tx tl : TE} {t u : TT} {v : V} {d : PyData} {D : Ends} {tu tw tz : TS} {φ χ : PyData → Prop}
/-- xs = [e, ..], kept apart -/
theorem q_newA {i : Nat} {ξ : List PyData → Prop} (p0 : Pre T G0 H0) (s : Stp T G0 H0 G H) (h : EvA T ta σ G ξ) (hz : ∀ ds, ξ ds → ds.length ≤ 50000) (k : ∀ l ds G1 H1, H0 l = none → Ex G G1 → Stp T G0 H0 G1 H1 → Ap l ds G1 H1 → ξ ds → tz D (σ.set i (some (.ref l))) H1) : tSeq (tAsg (tLst ta) (gName i)) tz D σ H :=
  h G H (Ex.refl _) s.pre _ fun vs ds G1 H1 s1 kk f => ⟨Evl.sz_of (by rw [kk.length]; have := hz ds f; omega), fun l hl => by
    have s2 := s.trans s1
    have h0 := s2.free p0 hl
    have g := Evl.fresh_back s2.pre.1 hl
    exact k l ds G1 _ h0 s1.ex (s2.mut p0 _ h0 g) ⟨g, vs, upd_same, kk⟩ f⟩
/-- l.append(e), e an int reckoned while l is seen -/
theorem s_appS {i : Nat} {l : Addr} {es : List PyData} {ψ : Int → Prop} (p0 : Pre T G0 H0) (s : Stp T G0 H0 G H) (hi : σ[i]? = some (some (.ref l))) (hl : H0 l = none) (a : Ap l es G H) (hz : es.length ≤ 50000)
    (h : ∀ G1, Ex G G1 → Da G1 (.ref l) (.list es) → EvP T te σ G1 (fun d => ∃ x, d = .int x ∧ ψ x)) (k : ∀ x H1, Stp T G0 H0 G H1 → Ap l (es ++ [.int x]) G H1 → ψ x → D.nx σ H1) : tDrop (tBM K "list" rAppend (tVar i) (tCons te tNil)) D σ H := by
  obtain ⟨g, xs, e, kk⟩ := id a
  obtain ⟨G1, e1, p1, d1⟩ := a.seen p0 hl s.pre
  refine ⟨_, hi, .inl ⟨rfl, xs, .inl (.inl e)⟩, h G1 e1 d1 G1 H (Ex.refl _) p1 _ fun v d G2 H2 s1 kd f => ?_⟩
  obtain ⟨x, rfl, f⟩ := f
  cases kd.intV
  have sb := s1.back s.pre e1
  obtain ⟨g1, ys, e2, k1⟩ := a.stp p0 hl sb
  exact ⟨l, ys, _, rfl, rfl, e2, Evl.sz_lt (by rw [k1.length]; omega), k x _ ((s.trans sb).mut p0 _ hl g1) ⟨g1, _, upd_same, k1.snoc (.int x)⟩ f⟩
theorem a_cons1 {tr : TA} {d : PyData} {ds : List PyData} (h : EvP T te σ G (· = d)) (hr : EvA T tr σ G (· = ds)) : EvA T (tCons te tr) σ G (· = d :: ds) := a_cons h hr fun _ _ e1 e2 => by rw [e1, e2]
end
end Dv
namespace K0
open PySem PySem.Spec PyProof.Rows L2 Dv
open Evl (Ex)
section
variable {P : Program} {w : World} {K : PySem.W.Frag} {mg : Str → Option Value} {base : Heap}
theorem e_take {σ : L2.St} {G : Hp} {S C : Addr} {E : XK} {m : Int} {i : Nat} {te : TE} {tn : TA} (hn : tn = tNil) (hi : σ[i]? = some (some (.ref S))) (h : EvP (some (S, C)) te σ G (· = .int m)) (h0 : 0 < m) (h1 : m ≤ 10 ^ 30) : EvP (some (S, C)) (tCall (spG RTake) [] E (tCons (tVar i) (tCons te tn))) σ G (fun d => ∃ k, d = .int k ∧ 0 ≤ k ∧ k < m) := by
  subst hn
  exact e_callG hi (a_one h) fun ds e => ⟨_, ⟨m, e, h0, h1, rfl⟩, fun d h => h⟩
theorem e_lenL {σ : L2.St} {G : Hp} {T : Tw} {te : TE} {tn : TA} {ds : List PyData} (hn : tn = tNil) (h : EvP T te σ G (· = .list ds)) : EvP T (tCB (fun xs H Q => ∃ p ys, xs = [.ref p] ∧ (SqL K H p ys ∨ SqT K H p ys) ∧ Q (.int ys.length) H) (tCons te tn)) σ G (· = .int (ds.length : Int)) := by
  subst hn
  exact e_cb (a_one h) fun ds e => by subst e; exact c_len (.inl rfl)
theorem e_lenT {σ : L2.St} {G : Hp} {T : Tw} {te : TE} {tn : TA} {ds : List PyData} (hn : tn = tNil) (h : EvP T te σ G (· = .tuple ds)) : EvP T (tCB (fun xs H Q => ∃ p ys, xs = [.ref p] ∧ (SqL K H p ys ∨ SqT K H p ys) ∧ Q (.int ys.length) H) (tCons te tn)) σ G (· = .int (ds.length : Int)) := by
  subst hn
  exact e_cb (a_one h) fun ds e => by subst e; exact c_len (.inr rfl)
def RPick (ds : List PyData) (φ : PyData → Prop) : Prop := ∃ xs : List PyData, ds = [.list xs] ∧ 0 < xs.length ∧ xs.length ≤ 1000 ∧ φ = fun d => d ∈ xs
theorem ok_pick (t : Txt K mg "_law_pick" s__law_pick p__law_pick) (mL : mg "len" = none) (cT : Ca P w K mg base "_law_take" 1 p__law_take (spG RTake)) : Ca P w K mg base "_law_pick" 2 p__law_pick (spG RPick) := by
  obtain ⟨fT, fdT, gT, kpT, bT, FT⟩ := cT
  refine t.ca fun f fd F => F.ok sc__law_pick (fun vs H Q E h => ?_) (fun cdv A outer s H vs Q E hr h => ?_)
  · obtain ⟨S, C, ws, G, ds, φ, rfl, _, k, ⟨xs, rfl, _⟩, _⟩ := h
    exact congrArg (· + 1) k.length
  · obtain ⟨S, C, ws, G, ds, φ, rfl, p0, k, ⟨xs, rfl, h0, h1, rfl⟩, q⟩ := h
    obtain ⟨vx, ws, rfl, kx, k⟩ := k.consV
    cases k.nilV
    refine ⟨_, pss_one (ps_ret (pe_ix ix_list (pv 1) (pe_call FT hr (by rfl) gT kpT bT .nil pass0 (pa_cons (pv 0) (pa_cons (pe_callB call_len_seq (by rfl) mL PySem.boot_len (pa_cons (pv 1) pa_nil)) pa_nil))) (fun _ _ => rfl))), ?_⟩
    refine s_ret p0 (e_op (χ := (· ∈ xs)) (e_var rfl kx) (e_take rfl rfl (e_lenL rfl (e_var rfl kx)) (by omega) (by omega)) ?_) fun v d G1 H1 s1 k1 e => q v d G1 H1 s1 k1 e
    rintro _ _ rfl ⟨j, rfl, j0, j1⟩
    intro x y G H hx hy p Q q
    have hj : j.toNat < xs.length := by omega
    exact r_ixL (j := j.toNat) (e := xs[j.toNat]) (by omega) (List.getElem?_eq_getElem hj) x y G H hx hy p Q fun v d' G2 H2 s kd e => q v d' G2 H2 s kd (by rw [e]; exact List.getElem_mem hj)
theorem e_pick {σ : L2.St} {G : Hp} {S C : Addr} {E : XK} {i : Nat} {te : TE} {tn : TA} {φ χ : PyData → Prop} (hn : tn = tNil) (hi : σ[i]? = some (some (.ref S))) (h : EvP (some (S, C)) te σ G φ) (hφ : ∀ d, φ d → ∃ xs : List PyData, d = .list xs ∧ 0 < xs.length ∧ xs.length ≤ 1000 ∧ ∀ x ∈ xs, χ x) : EvP (some (S, C)) (tCall (spG RPick) [] E (tCons (tVar i) (tCons te tn))) σ G χ := by
  subst hn
  refine e_callG hi (a_cons h a_nil (ζ := fun ds => ∃ d, ds = [d] ∧ φ d) fun d ds f e => ⟨d, by rw [e], f⟩) fun ds ⟨d, e, f⟩ => ?_
  obtain ⟨xs, rfl, h0, h1, h2⟩ := hφ d f
  exact ⟨_, ⟨xs, e, h0, h1, rfl⟩, fun d hd => h2 d hd⟩
def RTables (ds : List PyData) (φ : PyData → Prop) : Prop := ds = [] ∧ φ = fun d => ∃ ws : List Int, d = .tuple (encI ws) ∧ 0 < ws.length ∧ ws.length ≤ 3 ∧ ∀ w ∈ ws, 1 ≤ w ∧ w ≤ 3
theorem ok_tables (t : Txt K mg "_law_tables" s__law_tables p__law_tables) (mT : mg "tuple" = none) (mR : mg "range" = none) (cT : Ca P w K mg base "_law_take" 1 p__law_take (spG RTake)) (cP : Ca P w K mg base "_law_pick" 2 p__law_pick (spG RPick)) : Ca P w K mg base "_law_tables" 3 p__law_tables (spG RTables) := by
  obtain ⟨fT, fdT, gT, kpT, bT, FT⟩ := cT
  obtain ⟨fP, fdP, gP, kpP, bP, FP⟩ := cP
  refine t.ca fun f fd F => F.ok sc__law_tables (fun vs H Q E h => ?_) (fun cdv A outer s H vs Q E hr h => ?_)
  · obtain ⟨S, C, ws, G, ds, φ, rfl, _, k, ⟨rfl, _⟩, _⟩ := h
    exact congrArg (· + 1) k.length
  · obtain ⟨S, C, ws, G, ds, φ, rfl, p0, k, ⟨rfl, rfl⟩, q⟩ := h
    cases k.nilV
    refine ⟨_, pss_one (ps_ret (pe_callTy call_tuple_of (by rfl) mT (by decide +kernel) (pa_cons (pe_lc (own := [("_law_k", 1)]) (g := gName 1) (tt := tYes) (te := tCall (spG RPick) [] E0 (tCons (tVar 0) (tCons (tLst (tCons (tC (.int 1)) (tCons (tC (.int 1)) (tCons (tC (.int 2)) (tCons (tC (.int 2)) (tCons (tC (.int 3)) tNil)))))) tNil))) (by rfl) sc__law_tables.nd
          (pi_range1 (by rfl) mR (pa_cons (pe_op op_add pe_int (pe_call FT (hr.mono (by decide)) (by rfl) gT kpT bT .nil pass0 (pa_cons (pv 0) (pa_cons pe_int pa_nil)))) pa_nil)) (blkOk_by (N := n__law_tables) (sc := defScope s__law_tables) (by decide +kernel))
          (fun _ _ _ _ _ => pg_name (i := 1) sc__law_tables.nd rfl (.inl rfl)) (fun _ _ _ _ _ => pts_nil) (fun _ _ _ _ _ => pe_call FP hr (by rfl) gP kpP bP .nil pass0 (pa_cons (pv 0) (pa_cons (pe_lst (pa_cons pe_int (pa_cons pe_int (pa_cons pe_int (pa_cons pe_int (pa_cons pe_int pa_nil)))))) pa_nil)))) pa_nil))), ?_⟩
    refine s_ret p0 (φ := fun d => ∃ ws : List Int, d = .tuple (encI ws) ∧ 0 < ws.length ∧ ws.length ≤ 3 ∧ ∀ w ∈ ws, 1 ≤ w ∧ w ≤ 3) (e_cb (ξ := fun ds => ∃ ws : List Int, ds = [.list (encI ws)] ∧ 0 < ws.length ∧ ws.length ≤ 3 ∧ ∀ w ∈ ws, 1 ≤ w ∧ w ≤ 3) (a_cons (φ := fun d => ∃ ws : List Int, d = .list (encI ws) ∧ 0 < ws.length ∧ ws.length ≤ 3 ∧ ∀ w ∈ ws, 1 ≤ w ∧ w ≤ 3) (e_lcR (φn := fun n => 1 ≤ n ∧ n ≤ 3) (fun i es => ∃ ws : List Int, es = encI ws ∧ ws.length = i ∧ i ≤ 40000 ∧ ∀ w ∈ ws, 1 ≤ w ∧ w ≤ 3) (α := fun _ b => b = true) (φ := fun _ d => ∃ x : Int, d = .int x ∧ 1 ≤ x ∧ x ≤ 3)
      (a_cons (e_op (φ := (· = .int 1)) e_int (e_take rfl rfl e_int (by decide) (by decide)) (χ := fun d => ∃ n : Int, d = .int n ∧ 1 ≤ n ∧ n ≤ 3) ?_) a_nil ?_) (fun n h => by omega) ⟨[], rfl, rfl, by omega, by simp⟩ ?_ (fun _ => rfl) (fun _ _ _ _ _ _ => b_yes) ?_ ?_ ?_ ?_) a_nil ?_) ?_) fun v d G1 H1 s1 k1 e => q v d G1 H1 s1 k1 e
    · rintro _ _ rfl ⟨j, rfl, j0, j1⟩
      intro x y G H hx hy p Q q
      exact r_I0 (k := 1 + j) rfl x y G H hx hy p Q fun v d' G2 H2 s kd e => q v d' G2 H2 s kd ⟨_, e, by omega, by omega⟩
    · rintro _ _ ⟨n, rfl, h⟩ rfl; exact ⟨n, rfl, h⟩
    · rintro i es ⟨ws, rfl, h1, h2, _⟩
      rw [List.length_map]; omega
    · intro n i G1 hn hi e1 _
      refine e_pick (φ := (· = .list (encI [1, 1, 2, 2, 3]))) rfl rfl (e_lst (ξ := (· = encI [1, 1, 2, 2, 3])) (a_cons1 e_int (a_cons1 e_int (a_cons1 e_int (a_cons1 e_int (a_one e_int))))) ?_) ?_
      · rintro _ rfl; exact ⟨by simp, rfl⟩
      · rintro _ rfl
        refine ⟨_, rfl, by simp, by simp, fun x hx => ?_⟩
        simp at hx
        rcases hx with rfl | rfl | rfl <;> exact ⟨_, rfl, by decide, by decide⟩
    · rintro n i es e hn hi ⟨ws, rfl, h1, h2, h3⟩ _ ⟨x, rfl, hx⟩
      refine ⟨ws ++ [x], by simp, by simp [h1], by omega, fun y hy => ?_⟩
      rcases List.mem_append.mp hy with hy | hy
      · exact h3 y hy
      · rw [List.mem_singleton.mp hy]; exact hx
    · intro n i es _ _ _ h; cases h
    · rintro n es hn ⟨ws, rfl, h1, h2, h3⟩
      exact ⟨ws, rfl, by omega, by omega, h3⟩
    · rintro _ _ ⟨ws, rfl, h⟩ rfl; exact ⟨ws, rfl, h⟩
    · rintro _ ⟨ws, rfl, h⟩
      exact fun xs G H hx p Q q => c_tupL xs G H hx p Q fun v d' G2 H2 s kd e => q v d' G2 H2 s kd ⟨ws, e, h⟩
end
end K0

namespace K0
open PySem PySem.Spec PyProof.Rows L2 Dv
open Evl (Ex)
section
variable {P : Program} {w : World} {K : PySem.W.Frag} {mg : Str → Option Value} {base : Heap}
theorem seqIx {j n : Nat} (h : j < n) : seqIndex? (j : Int) n = some j := by
  have h0 : ¬ ((j : Int) < 0) := by omega
  simp only [seqIndex?, h0, if_false]
  rw [if_pos (by simp [h])]
  simp
theorem daa_erase {G : Hp} : ∀ {vs : List V} {ds : List PyData} (i : Nat), DaA G vs ds → DaA G (vs.eraseIdx i) (ds.eraseIdx i)
  | _, _, _, .nil => .nil
  | _, _, 0, .cons _ k => k
  | _, _, i + 1, .cons h k => .cons h (daa_erase i k)
def RMixed (ds : List PyData) (φ : PyData → Prop) : Prop := ∃ xs : List PyData, (ds = [.list xs]) ∧ xs.length ≤ 1000 ∧ φ = fun d => ∃ ys : List PyData, d = .list ys ∧ ys.length = xs.length ∧ ∀ y ∈ ys, y ∈ xs
theorem ok_mixed (t : Txt K mg "_law_mixed" s__law_mixed p__law_mixed) (mLi : mg "list" = none) (mL : mg "len" = none) (mR : mg "range" = none) (cT : Ca P w K mg base "_law_take" 1 p__law_take (spG RTake)) : Ca P w K mg base "_law_mixed" 2 p__law_mixed (spG RMixed) := by
  obtain ⟨fT, fdT, gT, kpT, bT, FT⟩ := cT
  refine t.ca fun f fd F => F.ok sc__law_mixed (fun vs H Q E h => ?_) (fun cdv A outer s H vs Q E hr h => ?_)
  · obtain ⟨S, C, ws, G, ds, φ, rfl, _, k, ⟨xs, rfl, _⟩, _⟩ := h
    exact congrArg (· + 1) k.length
  · obtain ⟨S, C, ws, G, ds, φ, rfl, p0, k, ⟨xs, rfl, hz, rfl⟩, q⟩ := h
    obtain ⟨vx, ws, rfl, kx, k⟩ := k.consV
    cases k.nilV
    refine ⟨_, pss_cons (ps_par (i := 2) (j := 3) (by rfl) sc__law_mixed.nd rfl rfl (by decide) rfl rfl (pa_cons (pe_callTy call_list_of (by rfl) mLi (by decide +kernel) (pa_cons (pv 1) pa_nil)) (pa_cons (pe_lst pa_nil) pa_nil)) (by rfl))
      (pss_cons (ps_for PassesOwn.never rfl (pi_range1 (by rfl) mR (pa_cons (pe_callB call_len_seq (by rfl) mL PySem.boot_len (pa_cons (pv 1) pa_nil)) pa_nil)) (pg_name (i := 4) sc__law_mixed.nd rfl (.inl rfl))
        (pss_one (ps_expr (pe_bm PySem.F.plainAttrs_list PySem.F.slot_list_append PySem.F.type_list_append mt_append (pv 3) (pa_cons (pe_bm PySem.F.plainAttrs_list PySem.F.slot_list_pop PySem.F.type_list_pop mt_popAt (pv 2) (pa_cons (pe_call FT hr (by rfl) gT kpT bT .nil pass0 (pa_cons (pv 0) (pa_cons (pe_callB call_len_seq (by rfl) mL PySem.boot_len (pa_cons (pv 2) pa_nil)) pa_nil))) pa_nil)) pa_nil)))))
      (pss_one (ps_ret (pv 3)))), ?_⟩
    obtain ⟨a, vs, rfl, ga, kv⟩ := kx.lstV
    have hp : Ex G H := p0.1
    refine ⟨_, rfl, a, vs, rfl, .inl (.inl (.inl (hp _ _ ga))), fun l1 hl1 => ⟨Evl.sz_of (by simp), fun l2 hl2 => ⟨_, _, rfl, ?_⟩⟩⟩
    have ne : l1 ≠ l2 := fun e => by subst e; rw [upd_same] at hl2; cases hl2
    have hl2' : H l2 = none := by rw [upd_ne (fun e => ne e.symm)] at hl2; exact hl2
    have g1 : G l1 = none := Evl.fresh_back hp hl1
    have g2 : G l2 = none := Evl.fresh_back hp hl2'
    have s1 : Stp (some (S, C)) G H G (upd (upd H l1 (.lst vs)) l2 (.lst [])) := ((Stp.refl p0).mut p0 _ hl1 g1).mut p0 _ hl2' g2
    have a1 : Ap l1 xs G (upd (upd H l1 (.lst vs)) l2 (.lst [])) := ⟨g1, vs, by rw [upd_ne ne, upd_same], kv⟩
    have a2 : Ap l2 [] G (upd (upd H l1 (.lst vs)) l2 (.lst [])) := ⟨g2, [], upd_same, .nil⟩
    refine q_forR (n := (xs.length : Int)) s1.pre (a_one (e_lenL rfl (e_var rfl kx))) (by omega) (fun i σ H1 => ∃ G1 rs ts x4, σ = [some (.ref S), some (.ref a), some (.ref l1), some (.ref l2), x4] ∧ Ex G G1 ∧ Stp (some (S, C)) G H G1 H1 ∧ Ap l1 rs G1 H1 ∧ Ap l2 ts G1 H1 ∧ rs.length + i = xs.length ∧ ts.length = i ∧ (∀ y ∈ rs, y ∈ xs) ∧ ∀ y ∈ ts, y ∈ xs)
      (fun G2 H2 s2 => ⟨G2, xs, [], none, rfl, s2.ex, s1.trans s2, a1.stp p0 hl1 s2, a2.stp p0 hl2' s2, rfl, rfl, fun _ h => h, by simp⟩) ?_ ?_
    · rintro i σ' H1 hi ⟨G1, rs, ts, x4, rfl, e1, s2, b1, b2, h1, h2, h3, h4⟩
      obtain ⟨gg2, zs2, ez2, kz2⟩ := id b2
      refine ⟨_, rfl, .inl ⟨rfl, zs2, .inl (.inl ez2)⟩, ?_⟩
      obtain ⟨gg1, zs1, ez1, kz1⟩ := id b1
      refine ⟨_, rfl, .inl ⟨rfl, zs1, .inl (.inl ez1)⟩, ?_⟩
      -- the draw, while rest is seen
      obtain ⟨G2, e2, p2, d2⟩ := b1.seen p0 hl1 s2.pre
      refine e_take (m := (rs.length : Int)) (σ := [some (.ref S), some (.ref a), some (.ref l1), some (.ref l2), some (.int (i : Int))]) (tn := tNil) rfl rfl (e_lenL rfl (e_var (i := 2) rfl d2)) (by omega) (by omega) G2 H1 (Ex.refl _) p2 _ fun v d G3 H3 s3 kd ⟨j, ej, j0, j1⟩ => ?_
      subst ej
      cases kd.intV
      have sb := s3.back s2.pre e2
      obtain ⟨c1, ys1, ey1, ky1⟩ := b1.stp p0 hl1 sb
      obtain ⟨c2, ys2, ey2, ky2⟩ := b2.stp p0 hl2' sb
      have hj : j.toNat < rs.length := by omega
      obtain ⟨y, hy, ky⟩ := ky1.get (List.getElem?_eq_getElem hj)
      have hne : l2 ≠ l1 := fun e => ne e.symm
      refine ⟨l1, ys1, j, j.toNat, y, rfl, rfl, ey1, by omega, by omega, ?_, hy, l2, ys2, y, rfl, rfl, by rw [upd_ne hne]; exact ey2, Evl.sz_lt (by rw [ky2.length]; omega), ?_⟩
      · rw [ky1.length]
        have := seqIx hj
        rw [show ((j.toNat : Nat) : Int) = j by omega] at this
        exact this
      · refine ⟨G1, rs.eraseIdx j.toNat, ts ++ [rs[j.toNat]], _, rfl, e1, ((s2.trans sb).mut p0 _ hl1 c1).mut p0 _ hl2' c2, ⟨c1, _, by rw [upd_ne ne, upd_same], daa_erase _ ky1⟩, ⟨c2, _, upd_same, ky2.snoc ky⟩, ?_, by simp [h2], ?_, ?_⟩
        · rw [List.length_eraseIdx_of_lt hj]; omega
        · intro z hz; exact h3 z (List.mem_of_mem_eraseIdx hz)
        · intro z hz
          rcases List.mem_append.mp hz with hz | hz
          · exact h4 z hz
          · rw [List.mem_singleton.mp hz]; exact h3 _ (List.getElem_mem hj)
    · rintro σ' H1 ⟨G1, rs, ts, x4, rfl, e1, s2, b1, b2, h1, h2, h3, h4⟩
      obtain ⟨G2, e2, s3, d2⟩ := b2.tell p0 s2 hl2'
      exact s_ret s3.pre (e_var rfl d2) fun v d G3 H3 s4 k4 e => q v d G3 H3 (s3.trans s4) k4 ⟨ts, e, by omega, h4⟩
end
end K0

namespace K0
open PySem PySem.Spec PyProof.Rows L2 Dv
open Evl (Ex)
section
variable {P : Program} {w : World} {K : PySem.W.Frag} {mg : Str → Option Value} {base : Heap}
def RPool (ds : List PyData) (φ : PyData → Prop) : Prop := ∃ m : Int, ds = [.int m] ∧ 1 ≤ m ∧ m ≤ 5 ∧ φ = fun d => ∃ ps : List Int, d = .list (encI ps) ∧ (ps.length : Int) = m ∧ Asc ps ∧ ∀ x ∈ ps, 0 ≤ x
/-- [0, 0, 1, a draw] -/
theorem e_few {σ : L2.St} {G : Hp} {S C : Addr} {i : Nat} {m : Int} {te : TE} (hi : σ[i]? = some (some (.ref S))) (h : EvP (some (S, C)) te σ G (· = .int m)) (h0 : 0 < m) (h1 : m ≤ 10 ^ 30) :
    EvP (some (S, C)) (tCall (spG RPick) [] E0 (tCons (tVar i) (tCons (tLst (tCons (tC (.int 0)) (tCons (tC (.int 0)) (tCons (tC (.int 1)) (tCons (tCall (spG RTake) [] E0 (tCons (tVar i) (tCons te tNil))) tNil))))) tNil))) σ G (fun d => ∃ x, d = .int x ∧ 0 ≤ x) := by
  refine e_pick (φ := fun d => ∃ k : Int, 0 ≤ k ∧ d = .list (encI [0, 0, 1, k])) rfl hi (e_lst (ξ := fun ds => ∃ k : Int, 0 ≤ k ∧ ds = encI [0, 0, 1, k]) (a_cons (ξ := fun ds => ∃ k : Int, 0 ≤ k ∧ ds = encI [0, 1, k]) e_int (a_cons (ξ := fun ds => ∃ k : Int, 0 ≤ k ∧ ds = encI [1, k]) e_int (a_cons (ξ := fun ds => ∃ k : Int, 0 ≤ k ∧ ds = encI [k]) e_int (a_cons (e_take rfl hi h h0 h1) a_nil ?_) ?_) ?_) ?_) ?_) ?_
  · rintro _ _ ⟨k, rfl, k0, _⟩ rfl; exact ⟨k, k0, rfl⟩
  · rintro _ _ rfl ⟨k, k0, rfl⟩; exact ⟨k, k0, rfl⟩
  · rintro _ _ rfl ⟨k, k0, rfl⟩; exact ⟨k, k0, rfl⟩
  · rintro _ _ rfl ⟨k, k0, rfl⟩; exact ⟨k, k0, rfl⟩
  · rintro _ ⟨k, k0, rfl⟩; exact ⟨by simp, k, k0, rfl⟩
  · rintro _ ⟨k, k0, rfl⟩
    refine ⟨_, rfl, by simp, by simp, fun x hx => ?_⟩
    simp at hx
    rcases hx with rfl | rfl | rfl
    · exact ⟨0, rfl, by decide⟩
    · exact ⟨1, rfl, by decide⟩
    · exact ⟨k, rfl, k0⟩
theorem ok_pool (t : Txt K mg "_law_pool" s__law_pool p__law_pool) (mR : mg "range" = none) (cT : Ca P w K mg base "_law_take" 1 p__law_take (spG RTake)) (cP : Ca P w K mg base "_law_pick" 2 p__law_pick (spG RPick)) : Ca P w K mg base "_law_pool" 3 p__law_pool (spG RPool) := by
  obtain ⟨fT, fdT, gT, kpT, bT, FT⟩ := cT
  obtain ⟨fP, fdP, gP, kpP, bP, FP⟩ := cP
  refine t.ca fun f fd F => F.ok sc__law_pool (fun vs H Q E h => ?_) (fun cdv A outer s H vs Q E hr h => ?_)
  · obtain ⟨S, C, ws, G, ds, φ, rfl, _, k, ⟨m, rfl, _⟩, _⟩ := h
    exact congrArg (· + 1) k.length
  · obtain ⟨S, C, ws, G, ds, φ, rfl, p0, k, ⟨m, rfl, h1, h5, rfl⟩, q⟩ := h
    obtain ⟨vm, ws, rfl, km, k⟩ := k.consV
    cases k.nilV
    cases km.intV
    refine ⟨_, pss_cons (ps_set (i := 2) sc__law_pool.nd rfl (.inl rfl) (pe_lst (pa_cons (pe_call FP hr (by rfl) gP kpP bP .nil pass0 (pa_cons (pv 0) (pa_cons (pe_lst (pa_cons pe_int (pa_cons pe_int (pa_cons pe_int (pa_cons (pe_call FT (hr.mono (by decide)) (by rfl) gT kpT bT .nil pass0 (pa_cons (pv 0) (pa_cons (pe_op op_pow pe_int pe_int) pa_nil))) pa_nil))))) pa_nil))) pa_nil)))
      (pss_cons (ps_for PassesOwn.never rfl (pi_range1 (by rfl) mR (pa_cons (pe_op op_sub (pv 1) pe_int) pa_nil)) (pg_name (i := 3) sc__law_pool.nd rfl (.inl rfl))
        (pss_one (ps_expr (pe_bm PySem.F.plainAttrs_list PySem.F.slot_list_append PySem.F.type_list_append mt_append (pv 2) (pa_cons (pe_op op_add (pe_op op_add (pe_ix ix_list (pv 2) (pv 3) (fun _ _ => rfl)) pe_int) (pe_call FP hr (by rfl) gP kpP bP .nil pass0 (pa_cons (pv 0) (pa_cons (pe_lst (pa_cons pe_int (pa_cons pe_int (pa_cons pe_int (pa_cons (pe_call FT (hr.mono (by decide)) (by rfl) gT kpT bT .nil pass0 (pa_cons (pv 0) (pa_cons (pe_op op_pow pe_int pe_int) pa_nil))) pa_nil))))) pa_nil)))) pa_nil)))))
      (pss_one (ps_ret (pv 2)))), ?_⟩
    have pw : ∀ {σ : L2.St} {G : Hp} (a b : Int), CPow a b → EvP (some (S, C)) (tOp (rI CPow fun i j => .int (i ^ j.toNat)) (tC (.int a)) (tC (.int b))) σ G (· = .int (a ^ b.toNat)) := fun a b hc => e_op (φ := (· = .int a)) (ψ := (· = .int b)) e_int e_int fun d e h1 h2 => by
      rw [h1, h2]; exact r_I hc rfl
    refine q_newA (ξ := fun ds => ∃ x : Int, ds = encI [x] ∧ 0 ≤ x) p0 (Stp.refl p0) (a_cons (e_few rfl (pw 10 30 ⟨by decide, by decide, by decide⟩) (by decide) (by decide)) a_nil ?_) ?_ fun l ds G1 H1 hl e1 s1 a1 ⟨x, ex, hx⟩ => ?_
    · rintro _ _ ⟨x, rfl, h⟩ rfl; exact ⟨x, rfl, h⟩
    · rintro _ ⟨x, rfl, _⟩; simp
    subst ex
    refine q_forR (n := m - 1) s1.pre (a_one (e_op (φ := (· = .int m)) (ψ := (· = .int 1)) (e_var rfl (.int m)) e_int fun d e h1 h2 => by rw [h1, h2]; exact r_I0 rfl)) (by omega) (fun i σ H1 => ∃ (G1 : Hp) (ps : List Int) (x3 : Option V), σ = [some (.ref S), some (.int m), some (.ref l), x3] ∧ Ex G G1 ∧ Stp (some (S, C)) G H G1 H1 ∧ Ap l (encI ps) G1 H1 ∧ ps.length = i + 1 ∧ Asc ps ∧ ∀ x ∈ ps, 0 ≤ x)
      (fun G2 H2 s2 => ⟨G2, [x], none, rfl, e1.trans s2.ex, s1.trans s2, a1.stp p0 hl s2, rfl, List.pairwise_singleton _ _, by simpa using hx⟩) ?_ ?_
    · rintro i σ' H1 hi ⟨G1, ps, x3, rfl, e1, s2, b1, h2, h3, h4⟩
      have hi2 : i < ps.length := by omega
      refine s_appS (ψ := fun y => ∃ z, 0 ≤ z ∧ y = ps[i] + 1 + z) p0 s2 rfl hl b1 (by rw [List.length_map]; omega) (fun G2 e2 d2 => ?_) fun y H2 s3 b3 ⟨z, z0, ey⟩ => ⟨G1, ps ++ [y], _, rfl, e1, s3, ?_, by simp [h2], ?_, ?_⟩
      · refine e_op (φ := (· = .int (ps[i] + 1))) (ψ := fun d => ∃ x, d = .int x ∧ 0 ≤ x) (e_op (φ := (· = .int ps[i])) (ψ := (· = .int 1)) (e_ixL (j := i) (i := (i : Int)) (e_var rfl d2) (e_var rfl (.int _)) rfl (by rw [List.getElem?_map, List.getElem?_eq_getElem hi2]; rfl)) e_int fun d e h1 h2 => by rw [h1, h2]; exact r_I0 rfl)
          (e_few rfl (pw 10 9 ⟨by decide, by decide, by decide⟩) (by decide) (by decide)) ?_
        rintro _ _ rfl ⟨z, rfl, z0⟩
        intro x y G H hx hy p Q q
        exact r_I0 rfl x y G H hx hy p Q fun v d' G2 H2 s kd e => q v d' G2 H2 s kd ⟨_, e, z, z0, rfl⟩
      · rw [encI, List.map_append]; exact b3
      · refine List.pairwise_append.mpr ⟨h3, by simp, fun a ha b hb => ?_⟩
        rw [List.mem_singleton.mp hb, ey]
        obtain ⟨j, hj, rfl⟩ := List.mem_iff_getElem.mp ha
        by_cases e : j = i
        · subst e; omega
        · have := List.pairwise_iff_getElem.mp h3 j i hj hi2 (by omega)
          omega
      · intro a ha
        rcases List.mem_append.mp ha with ha | ha
        · exact h4 a ha
        · rw [List.mem_singleton.mp ha, ey]
          have := h4 _ (List.getElem_mem hi2)
          omega
    · rintro σ' H1 ⟨G1, ps, x3, rfl, e1, s2, b1, h2, h3, h4⟩
      obtain ⟨G2, e2, s3, d2⟩ := b1.tell p0 s2 hl
      exact s_ret s3.pre (e_var rfl d2) fun v d G3 H3 s4 k4 e => q v d G3 H3 (s3.trans s4) k4 ⟨ps, e, by omega, h3, h4⟩
end
end K0

namespace Dv
open PySem PySem.Spec PyProof.Rows L2
open Evl (Ex)
section
variable {K : PySem.W.Frag} {T : Tw} {σ : L2.St} {G G' H H' G0 H0 : Hp} {ta : TA} {tb te tx tl : TE} {t u : TT} {v : V} {d : PyData} {D : Ends} {tu tw tz : TS} {φ χ : PyData → Prop}
/-- all of a list of truths -/
theorem e_all {bs : List Bool} {tn : TA} (hn : tn = tNil) (h : EvP T te σ G (· = .list (bs.map .bool))) : EvP T (tCB (rAll K) (tCons te tn)) σ G (· = .bool (bs.all id)) := by
  subst hn
  exact e_cb (a_one h) fun ds e => by subst e; exact c_all
/-- [e for k in range(n)], n known -/
theorem e_lcRM {n : Nat} (f : Nat → PyData) {j : Nat} {vs : List Nat} (h : EvA T ta σ G (· = [.int (n : Int)])) (hz : n ≤ 40000) (hw : ∀ x, wipe ((wipe σ vs).set j (some x)) vs = wipe σ vs)
    (he : ∀ (i : Nat) G1, i < n → Ex G G1 → EvP T te ((wipe σ vs).set j (some (.int (i : Int)))) G1 (· = f i)) : EvP T (tLc (iRng1 ta) (gName j) tYes te vs) σ G (· = .list ((List.range n).map f)) := by
  refine e_lcR (φn := fun m => m = (n : Int)) (fun i es => i ≤ n ∧ es = (List.range i).map f) (α := fun _ b => b = true) (φ := fun i d => d = f i) (fun G1 H1 x p Q q => h G1 H1 x p Q fun vs ds G2 H2 s k e => q vs ds G2 H2 s k ⟨_, e, rfl⟩) (fun m e => by omega) ⟨Nat.zero_le _, rfl⟩ ?_ hw (fun _ _ _ _ _ _ => b_yes) (fun m i G1 e hi x _ => he i G1 (by omega) x) ?_ ?_ ?_
  · rintro i es ⟨h1, rfl⟩
    rw [List.length_map, List.length_range]; omega
  · rintro m i es e hm hi ⟨h1, rfl⟩ _ rfl
    refine ⟨by omega, ?_⟩
    rw [List.range_succ, List.map_append]; rfl
  · intro m i es _ _ _ h; cases h
  · rintro m es rfl ⟨h1, rfl⟩
    rw [Int.toNat_natCast]
end
end Dv
namespace K0
open PySem PySem.Spec PyProof.Rows L2 Dv
open Evl (Ex)
/-! the law's own rows -/
def lext (acc : List (List Int)) (ws : List Int) : List (List Int) := ext acc ws
section
variable {P : Program} {w : World} {K : PySem.W.Frag} {mg : Str → Option Value} {base : Heap}
def RLonger (ds : List PyData) (d : PyData) : Prop := ∃ (acc : List (List Int)) (ws : List Int), ds = [.list (acc.map encC), .list (encI ws)] ∧ (∀ b ∈ acc, b.length ≤ 3) ∧ acc.length * ws.length ≤ 20000 ∧ ws.length ≤ 1000 ∧ d = .list ((ext acc ws).map encC)
theorem ok_longer (t : Txt K mg "_law_longer" s__law_longer p__law_longer) : Ca P w K mg base "_law_longer" 1 p__law_longer (spF RLonger) := by
  refine t.ca fun f fd F => F.ok sc__law_longer (fun vs H Q E h => ?_) (fun cdv A outer s H vs Q E hr h => ?_)
  · obtain ⟨G, ds, d, _, k, ⟨a, ws, rfl, _⟩, _⟩ := h
    exact k.length
  · obtain ⟨G, ds, d, p0, k, ⟨acc, ws, rfl, hb3, hz, hw1, rfl⟩, q⟩ := h
    obtain ⟨va, us, rfl, ka, k⟩ := k.consV
    obtain ⟨vw, us, rfl, kw, k⟩ := k.consV
    cases k.nilV
    refine ⟨_, pss_cons (ps_set (i := 2) sc__law_longer.nd rfl (.inl rfl) (pe_lst pa_nil))
      (pss_cons (ps_for PassesOwn.never rfl (pi_list (pv 0)) (pg_name (i := 3) sc__law_longer.nd rfl (.inr rfl))
        (pss_one (ps_expr (pe_bm PySem.F.plainAttrs_list PySem.F.slot_list_extend PySem.F.type_list_extend mt_extend (pv 2) (pa_cons (pe_lc (own := [("_law_worth", 4)]) (g := gName 4) (tt := tYes) (te := tOp (rCatA K) (tVar 3) (tTup (tCons (tVar 4) tNil))) (by rfl) sc__law_longer.nd (pi_list (pv 1)) (blkOk_by (N := n__law_longer) (sc := defScope s__law_longer) (by decide +kernel))
          (fun _ _ _ _ _ => pg_name (i := 4) sc__law_longer.nd rfl (.inl rfl)) (fun _ _ _ _ _ => pts_nil) (fun _ _ _ _ _ => pe_op op_catA (pv 3) (pe_tup (pa_cons (pv 4) pa_nil)))) pa_nil)))))
      (pss_one (ps_ret (pv 2)))), ?_⟩
    refine q_new p0 (Stp.refl p0) fun l H1 hl s1 _ _ a1 => ?_
    refine q_forN (b := true) (ds := acc.map encC) s1.pre (e_var rfl ka) (fun G1 H1 => Stp none G H G1 H1) (fun i σ G1 H1 => ∃ x3, σ = [some va, some vw, some (.ref l), x3, none] ∧ Ap l ((ext (acc.take i) ws).map encC) G1 H1)
      (fun G2 H2 s2 => ⟨s1.trans s2, none, rfl, by simpa [ext] using a1.stp p0 hl s2⟩) (fun G1 H1 s => s.pre.1) ?_ ?_
    · rintro i d x σ' G2 H2 e2 s2 hd kx ⟨x3, rfl, b1⟩
      obtain ⟨b, hb, rfl⟩ := enc_get hd
      have hbl := hb3 b (List.mem_of_getElem? hb)
      have htl := ext_take_le acc ws i
      refine s_ext (es := (ext (acc.take i) ws).map encC) (fs := (ws.map fun c => b ++ [c]).map encC) p0 s2 rfl hl b1 (by rw [List.length_map, List.length_map, List.length_map]; omega) (e_is (e_lcTM (b := true) PyData.int ws (fun c => encC (b ++ [c])) (e_var rfl (kw.mono e2)) (by omega) (fun _ => rfl) fun c y G3 e3 hc ky => ?_) (by rw [List.map_map]; rfl)) fun G3 H3 e3 s3 b3 => ⟨G3, e3, s3, _, rfl, ?_⟩
      · refine e_op (e_var rfl (kx.mono e3)) (ψ := (· = encC [c])) (e_tup (a_one (e_var rfl ky)) fun _ e => by subst e; exact ⟨by simp, rfl⟩) fun _ _ e1 e2 => ?_
        subst e1; subst e2
        have := r_catT (K := K) (T := none) (ds := encI b) (es := encI [c]) (by simp only [List.length_map, List.length_cons, List.length_nil]; omega)
        rw [← List.map_append] at this
        exact this
      · rw [ext_take_succ hb, List.map_append]; exact b3
    · rintro σ' G2 H2 e2 s2 ⟨x3, rfl, b1⟩
      rw [List.length_map, List.take_length] at b1
      obtain ⟨G3, e3, s3, d3⟩ := b1.tell p0 s2 hl
      exact s_ret s3.pre (e_var rfl d3) fun v d G4 H4 s4 k4 e => q v G4 H4 (s3.trans s4) (by subst e; exact k4)
def RTuples (ds : List PyData) (d : PyData) : Prop := ∃ (ws : List Int) (n : Nat), ds = [.list (encI ws), .int (n : Int)] ∧ n ≤ 3 ∧ ws.length ≤ 12 ∧ d = .list ((prod (List.replicate n ws)).map encC)
theorem ok_tuples (t : Txt K mg "_law_tuples" s__law_tuples p__law_tuples) (mR : mg "range" = none) (cL : Ca P w K mg base "_law_longer" 1 p__law_longer (spF RLonger)) : Ca P w K mg base "_law_tuples" 2 p__law_tuples (spF RTuples) := by
  obtain ⟨fL, fdL, gL, kpL, bL, FL⟩ := cL
  refine t.ca fun f fd F => F.ok sc__law_tuples (fun vs H Q E h => ?_) (fun cdv A outer s H vs Q E hr h => ?_)
  · obtain ⟨G, ds, d, _, k, ⟨a, n, rfl, _⟩, _⟩ := h
    exact k.length
  · obtain ⟨G, ds, d, p0, k, ⟨ws, n, rfl, hn, hw, rfl⟩, q⟩ := h
    obtain ⟨vw, us, rfl, kw, k⟩ := k.consV
    obtain ⟨vn, us, rfl, kn, k⟩ := k.consV
    cases k.nilV
    refine ⟨_, pss_cons (ps_set (i := 2) sc__law_tuples.nd rfl (.inl rfl) (pe_lst (pa_cons (pe_tup pa_nil) pa_nil)))
      (pss_cons (ps_for PassesOwn.never rfl (pi_range1 (by rfl) mR (pa_cons (pv 1) pa_nil)) (pg_name (i := 3) sc__law_tuples.nd rfl (.inl rfl))
        (pss_one (ps_set (i := 2) sc__law_tuples.nd rfl (.inl rfl) (pe_call FL hr (by rfl) gL kpL bL .nil pass0 (pa_cons (pv 2) (pa_cons (pv 0) pa_nil))))))
      (pss_one (ps_ret (pv 2)))), ?_⟩
    refine q_asg p0 (φ := (· = .list ((prod []).map encC))) (e_lst (a_one (e_tup a_nil (χ := (· = encC [])) ?_)) ?_) fun vp dp G1 H1 s1 kp ep => ?_
    · rintro _ rfl; exact ⟨by simp, rfl⟩
    · rintro _ rfl; exact ⟨by simp, rfl⟩
    subst ep
    refine q_forR (n := (n : Int)) s1.pre (a_one (e_var rfl (kn.mono s1.ex))) (by omega) (fun i σ H1 => ∃ (G1 : Hp) (vp : V) (x3 : Option V), σ = [some vw, some vn, some vp, x3] ∧ Ex G G1 ∧ Stp none G H G1 H1 ∧ Da G1 vp (.list ((prod (List.replicate i ws)).map encC)))
      (fun G2 H2 s2 => ⟨G2, vp, none, rfl, (s1.trans s2).ex, s1.trans s2, kp.mono s2.ex⟩) ?_ ?_
    · rintro i σ' H2 hi ⟨G2, vp, x3, rfl, e2, s2, kp⟩
      have hl : (prod (List.replicate i ws)).length ≤ 144 := by
        have h1 := prod_length_le 12 (List.replicate i ws) [[]] fun c hc => by rw [(List.mem_replicate.mp hc).2]; exact hw
        refine Nat.le_trans h1 ?_
        rw [List.length_replicate]
        have : i = 0 ∨ i = 1 ∨ i = 2 := by omega
        rcases this with rfl | rfl | rfl <;> decide
      have hm : (prod (List.replicate i ws)).length * ws.length ≤ 144 * 12 := Nat.mul_le_mul hl hw
      refine s_asg s2.pre (φ := (· = .list ((prod (List.replicate (i + 1) ws)).map encC))) (e_call (a_two (e_var rfl kp) (e_var rfl (kw.mono e2))) fun ds e => ⟨_, ⟨_, ws, e, fun b hb => ?_, by omega, by omega, rfl⟩, ?_⟩) fun v d G3 H3 s3 k3 e3 => ⟨G3, v, _, rfl, (s2.trans s3).ex, s2.trans s3, by subst e3; exact k3⟩
      · rw [prod_len hb, List.length_replicate]; omega
      · rw [List.replicate_succ', prod_snoc]
    · rintro σ' H2 ⟨G2, vp, x3, rfl, e2, s2, kp⟩
      rw [Int.toNat_natCast] at kp
      exact s_ret s2.pre (e_var rfl kp) fun v d G4 H4 s4 k4 e => q v G4 H4 (s2.trans s4) (by subst e; exact k4)
end
end K0

namespace K0
open PySem PySem.Spec PyProof.Rows L2 Dv
open Evl (Ex)
theorem covL_range : ∀ {a b : List Int}, a.length = b.length → covL a b = ((List.range b.length).map fun k => decide (a[k]?.getD 0 ∈ [-1, b[k]?.getD 0])).all id
  | [], [], _ => rfl
  | x :: xs, y :: ys, h => by
    have ih := covL_range (a := xs) (b := ys) (by simpa using h)
    unfold covL
    rw [ih, List.length_cons, List.range_succ_eq_map, List.map_cons, List.all_cons, List.map_map]
    congr 1
    by_cases h1 : x = -1 <;> by_cases h2 : x = y <;> simp [h1, h2]
section
variable {P : Program} {w : World} {K : PySem.W.Frag} {mg : Str → Option Value} {base : Heap}
theorem ok_lcovers (t : Txt K mg "_law_covers" s__law_covers p__law_covers) (mA : mg "all" = none) (mL : mg "len" = none) (mR : mg "range" = none) : Ca P w K mg base "_law_covers" 1 p__law_covers (spF fun ds d => ∃ a b : Row, ds = [encR a, encR b] ∧ (a.1 = b.1 → a.2.length = b.2.length) ∧ b.2.length ≤ 100 ∧ d = .bool (cov a b)) := by
  refine t.ca fun f fd F => F.ok sc__law_covers (fun vs H Q E h => ?_) (fun cdv A outer s H vs Q E hr h => ?_)
  · obtain ⟨G, ds, d, _, k, ⟨a, b, rfl, _⟩, _⟩ := h
    exact k.length
  · obtain ⟨G, ds, d, p0, k, ⟨a, b, rfl, hl, h100, rfl⟩, q⟩ := h
    obtain ⟨va, ws, rfl, ka, k⟩ := k.consV
    obtain ⟨vb, ws, rfl, kb, k⟩ := k.consV
    cases k.nilV
    refine ⟨_, pss_cons (ps_if (pt_cmpR op_ne (pe_ix ix_tup (pv 0) pe_int (fun _ _ => rfl)) (pe_ix ix_tup (pv 1) pe_int (fun _ _ => rfl)) (nomark _)) (pss_one (ps_ret pe_bl)) pss_nil)
      (pss_one (ps_ret (pe_callB (cr_all (by rfl)) (by rfl) mA (by decide +kernel) (pa_cons (pe_lc (own := [("_law_k", 2)]) (g := gName 2) (tt := tYes)
          (te := tOp (rIn K false) (tOp (rIxT K) (tOp (rIxT K) (tVar 0) (tC (.int 1))) (tVar 2)) (tTup (tCons (tUn (rU fun i => .int (-i)) (tC (.int 1))) (tCons (tOp (rIxT K) (tOp (rIxT K) (tVar 1) (tC (.int 1))) (tVar 2)) tNil)))) (by rfl) sc__law_covers.nd
          (pi_range1 (by rfl) mR (pa_cons (pe_callB call_len_seq (by rfl) mL PySem.boot_len (pa_cons (pe_ix ix_tup (pv 1) pe_int (fun _ _ => rfl)) pa_nil)) pa_nil)) (blkOk_by (N := n__law_covers) (sc := defScope s__law_covers) (by decide +kernel))
          (fun _ _ _ _ _ => pg_name (i := 2) sc__law_covers.nd rfl (.inl rfl)) (fun _ _ _ _ _ => pts_nil) (fun _ _ _ _ _ => pe_cmpR op_in_seq (pe_ix ix_tup (pe_ix ix_tup (pv 0) pe_int (fun _ _ => rfl)) (pv 2) (fun _ _ => rfl)) (pe_tup (pa_cons (pe_un un_neg pe_int) (pa_cons (pe_ix ix_tup (pe_ix ix_tup (pv 1) pe_int (fun _ _ => rfl)) (pv 2) (fun _ _ => rfl)) pa_nil))) (by rfl))) pa_nil)))), ?_⟩
    refine q_when p0 (α := (· = !decide (a.1 = b.1))) (b_neI (e_ixT (j := 0) (e_var rfl ka) e_int rfl rfl) (e_ixT (j := 0) (e_var rfl kb) e_int rfl rfl)) (fun hb G1 H1 s1 => ?_) (fun hb G1 H1 s1 => ?_)
    · refine s_ret s1.pre e_bl fun v d G2 H2 s2 k2 e => q v G2 H2 (s1.trans s2) ?_
      subst e
      have : cov a b = false := by
        unfold cov
        rw [show decide (a.1 = b.1) = false by cases h : decide (a.1 = b.1) <;> simp_all]; rfl
      rw [this]; exact k2
    · have hab : a.1 = b.1 := by
        cases h : decide (a.1 = b.1)
        · rw [h] at hb; simp at hb
        · exact of_decide_eq_true h
      have hl := hl hab
      refine s_ret s1.pre (e_all (bs := (List.range b.2.length).map fun k => decide (a.2[k]?.getD 0 ∈ [-1, b.2[k]?.getD 0])) rfl (e_is (e_lcRM (n := b.2.length) (fun k => .bool (decide (a.2[k]?.getD 0 ∈ [-1, b.2[k]?.getD 0]))) (a_one (e_is (e_lenT (ds := encI b.2) rfl (e_ixT (j := 1) (e_var rfl (kb.mono s1.ex)) e_int rfl rfl)) (by rw [List.length_map]))) (by omega) (fun _ => rfl) fun i G2 hi e2 => ?_) (by rw [List.map_map]; rfl))) fun v d G2 H2 s2 k2 e => q v G2 H2 (s1.trans s2) ?_
      · have hia : a.2[i]? = some (a.2[i]?.getD 0) := by rw [List.getElem?_eq_getElem (by omega)]; rfl
        have hib : b.2[i]? = some (b.2[i]?.getD 0) := by rw [List.getElem?_eq_getElem hi]; rfl
        generalize a.2[i]?.getD 0 = x at hia
        generalize b.2[i]?.getD 0 = y at hib
        refine e_op (φ := (· = .int x)) (ψ := (· = .tuple (encI [-1, y]))) (e_ixT (ds := encI a.2) (j := i) (e_ixT (j := 1) (e_var rfl ((ka.mono s1.ex).mono e2)) e_int rfl rfl) (e_var rfl (.int _)) rfl (by rw [List.getElem?_map, hia]; rfl))
          (e_tup (ξ := (· = encI [-1, y])) (a_two (e_un (φ := (· = .int 1)) (χ := (· = .int (-1))) e_int fun d e => by subst e; exact r_neg) (e_ixT (ds := encI b.2) (j := i) (e_ixT (j := 1) (e_var rfl ((kb.mono s1.ex).mono e2)) e_int rfl rfl) (e_var rfl (.int _)) rfl (by rw [List.getElem?_map, hib]; rfl))) fun _ e => by subst e; exact ⟨by simp, rfl⟩) fun d e h1 h2 => by
            subst h1; subst h2
            exact r_in (neg := false) (.inr rfl)
      · subst e
        have : cov a b = ((List.range b.2.length).map fun k => decide (a.2[k]?.getD 0 ∈ [-1, b.2[k]?.getD 0])).all id := by
          unfold cov
          rw [decide_eq_true hab, covL_range hl]; rfl
        rw [this]; exact k2
def ROver (ds : List PyData) (d : PyData) : Prop := ∃ ws us : List Int, ds = [.tuple (encI ws), .list (encI us)] ∧ ws.length ≤ 3 ∧ (∀ w ∈ ws, 1 ≤ w ∧ w ≤ 3) ∧ us.length ≤ 12 ∧ d = .list ((allRows ws us).map encR)
theorem ok_over (t : Txt K mg "_law_rows_over" s__law_rows_over p__law_rows_over) (mL : mg "len" = none) (mR : mg "range" = none) (cT : Ca P w K mg base "_law_tuples" 2 p__law_tuples (spF RTuples)) : Ca P w K mg base "_law_rows_over" 3 p__law_rows_over (spF ROver) := by
  obtain ⟨fT, fdT, gT, kpT, bT, FT⟩ := cT
  refine t.ca fun f fd F => F.ok sc__law_rows_over (fun vs H Q E h => ?_) (fun cdv A outer s H vs Q E hr h => ?_)
  · obtain ⟨G, ds, d, _, k, ⟨a, b, rfl, _⟩, _⟩ := h
    exact k.length
  · obtain ⟨G, ds, d, p0, k, ⟨ws, us, rfl, hl, hw, hu, rfl⟩, q⟩ := h
    obtain ⟨va, xs, rfl, ka, k⟩ := k.consV
    obtain ⟨vb, xs, rfl, kb, k⟩ := k.consV
    cases k.nilV
    refine ⟨_, pss_cons (ps_set (i := 2) sc__law_rows_over.nd rfl (.inl rfl) (pe_lst pa_nil))
      (pss_cons (ps_for PassesOwn.never rfl (pi_range1 (by rfl) mR (pa_cons (pe_callB call_len_seq (by rfl) mL PySem.boot_len (pa_cons (pv 0) pa_nil)) pa_nil)) (pg_name (i := 3) sc__law_rows_over.nd rfl (.inr rfl))
        (pss_one (ps_expr (pe_bm PySem.F.plainAttrs_list PySem.F.slot_list_extend PySem.F.type_list_extend mt_extend (pv 2) (pa_cons (pe_lc (own := [("_law_filling", 4)]) (g := gName 4) (tt := tYes) (te := tTup (tCons (tVar 3) (tCons (tVar 4) tNil))) (by rfl) sc__law_rows_over.nd (pi_list (pe_call FT hr (by rfl) gT kpT bT .nil pass0 (pa_cons (pv 1) (pa_cons (pe_ix ix_tup (pv 0) (pv 3) (fun _ _ => rfl)) pa_nil)))) (blkOk_by (N := n__law_rows_over) (sc := defScope s__law_rows_over) (by decide +kernel))
          (fun _ _ _ _ _ => pg_name (i := 4) sc__law_rows_over.nd rfl (.inl rfl)) (fun _ _ _ _ _ => pts_nil) (fun _ _ _ _ _ => pe_tup (pa_cons (pv 3) (pa_cons (pv 4) pa_nil)))) pa_nil)))))
      (pss_one (ps_ret (pv 2)))), ?_⟩
    have hsz : ∀ n : Nat, n ≤ 3 → (prod (List.replicate n us)).length ≤ 1728 := fun n hn => by
      have h1 := prod_length_le 12 (List.replicate n us) [[]] fun c hc => by rw [(List.mem_replicate.mp hc).2]; exact hu
      refine Nat.le_trans h1 ?_
      rw [List.length_replicate]
      have : n = 0 ∨ n = 1 ∨ n = 2 ∨ n = 3 := by omega
      rcases this with rfl | rfl | rfl | rfl <;> decide
    have hsl : (stars ws).length = ws.length := List.length_mapIdx
    refine q_new p0 (Stp.refl p0) fun l H1 hl0 s1 _ _ a1 => ?_
    refine q_forR (n := (ws.length : Int)) s1.pre (a_one (e_is (e_lenT (ds := encI ws) rfl (e_var rfl ka)) (by rw [List.length_map]))) (by omega) (fun i σ H1 => ∃ (G1 : Hp) (rs : List Row) (x3 : Option V), σ = [some va, some vb, some (.ref l), x3, none] ∧ Ex G G1 ∧ Stp none G H G1 H1 ∧ Ap l (rs.map encR) G1 H1 ∧ rs.length ≤ i * 1728 ∧ rs = ((stars ws).take i).flatMap fun a => (prod (a.2.map (colOf us))).map fun t => (a.1, t))
      (fun G2 H2 s2 => ⟨G2, [], none, rfl, s2.ex, s1.trans s2, a1.stp p0 hl0 s2, by simp, by simp⟩) ?_ ?_
    · rintro i σ' H2 hi ⟨G2, rs, x3, rfl, e2, s2, b2, hrs, hre⟩
      have hi' : i < ws.length := by omega
      have hwi := hw _ (List.getElem_mem hi')
      have hn3 : ws[i].toNat ≤ 3 := by omega
      have hz := hsz ws[i].toNat hn3
      refine s_ext (es := rs.map encR) (fs := ((prod (List.replicate ws[i].toNat us)).map fun t => ((i : Int), t)).map encR) p0 s2 rfl hl0 b2 (by rw [List.length_map, List.length_map, List.length_map]; omega) (e_is (e_lcTM (b := true) encC (prod (List.replicate ws[i].toNat us)) (fun t => encR ((i : Int), t)) (e_call (a_two (e_var rfl (kb.mono e2)) (e_ixT (ds := encI ws) (j := i) (e := .int ((ws[i].toNat : Nat) : Int)) (e_var rfl (ka.mono e2)) (e_var rfl (.int _)) rfl ?_)) fun ds e => ⟨_, ⟨us, _, e, hn3, hu, rfl⟩, rfl⟩) (by omega) (fun _ => rfl) fun t y G3 e3 ht ky => e_pair (e_var rfl (.int _)) (e_var rfl ky)) (by rw [List.map_map]; rfl)) fun G3 H3 e3 s3 b3 => ⟨G3, rs ++ (prod (List.replicate ws[i].toNat us)).map fun t => ((i : Int), t), _, rfl, e2.trans e3, s3, ?_, ?_, ?_⟩
      · rw [List.getElem?_map, List.getElem?_eq_getElem hi', Int.toNat_of_nonneg (by omega)]; rfl
      · rw [List.map_append]; exact b3
      · rw [List.length_append, List.length_map]; omega
      · rw [List.take_add_one, List.flatMap_append, ← hre]
        congr 1
        have : (stars ws)[i]? = some ((i : Int), List.replicate ws[i].toNat (-1)) := by
          unfold stars
          rw [List.getElem?_mapIdx, List.getElem?_eq_getElem hi']; rfl
        rw [this]
        simp [colOf]
    · rintro σ' H2 ⟨G2, rs, x3, rfl, e2, s2, b2, hrs, hre⟩
      rw [Int.toNat_natCast, ← hsl, List.take_length] at hre
      obtain ⟨G3, e3, s3, d3⟩ := b2.tell p0 s2 hl0
      refine s_ret s3.pre (e_var rfl d3) fun v d G4 H4 s4 k4 e => q v G4 H4 (s3.trans s4) ?_
      subst e
      rw [hre] at k4
      exact k4
end
end K0

namespace Dv
open PySem PySem.Spec PyProof.Rows L2
open Evl (Ex)
section
variable {K : PySem.W.Frag} {T : Tw} {σ : L2.St} {G G' H H' G0 H0 : Hp} {ta : TA} {tb te tx tl : TE} {t u : TT} {v : V} {d : PyData} {φ χ : PyData → Prop}
theorem b_andX {b : Bool} (h1 : EvB T t σ G (· = b)) (h2 : b = true → EvB T u σ G (fun _ => True)) : EvB T (tAnd t u) σ G (fun c => c = true → b = true) := fun G1 H x p Q q => h1 G1 H x p _ fun b' G2 H2 s2 e => by
  subst e
  cases b' with
  | true =>
    show u σ H2 Q
    exact h2 rfl G2 H2 (x.trans s2.ex) s2.pre Q fun b G3 H3 s3 e => q b G3 H3 (s2.trans s3) fun _ => rfl
  | false =>
    show Q false H2
    exact q _ G2 H2 s2 fun h => h
end
end Dv
namespace K0
open PySem PySem.Spec PyProof.Rows L2 Dv
open Evl (Ex)
section
variable {P : Program} {w : World} {K : PySem.W.Frag} {mg : Str → Option Value} {base : Heap}
def IsPat (ws ps : List Int) (a : Row) : Prop := 0 ≤ a.1 ∧ a.1 < (ws.length : Int) ∧ ((a.2.length : Nat) : Int) = (ws[a.1.toNat]?).getD 0 ∧ ∀ c ∈ a.2, c = -1 ∨ c ∈ ps
def RDrawn (ds : List PyData) (φ : PyData → Prop) : Prop := ∃ (ws ps : List Int) (near : Int), ds = [.tuple (encI ws), .list (encI ps), .int near] ∧ 0 < ws.length ∧ ws.length ≤ 3 ∧ (∀ w ∈ ws, 1 ≤ w ∧ w ≤ 3) ∧ ps.length ≤ 100 ∧ near < (ws.length : Int) ∧ φ = fun d => ∃ a : Row, d = encR a ∧ IsPat ws ps a
theorem ok_drawn (t : Txt K mg "_law_drawn_pattern" s__law_drawn_pattern p__law_drawn_pattern) (mL : mg "len" = none) (mT : mg "tuple" = none) (mR : mg "range" = none) (cT : Ca P w K mg base "_law_take" 1 p__law_take (spG RTake)) (cP : Ca P w K mg base "_law_pick" 2 p__law_pick (spG RPick)) : Ca P w K mg base "_law_drawn_pattern" 3 p__law_drawn_pattern (spG RDrawn) := by
  obtain ⟨fT, fdT, gT, kpT, bT, FT⟩ := cT
  obtain ⟨fP, fdP, gP, kpP, bP, FP⟩ := cP
  refine t.ca fun f fd F => F.ok sc__law_drawn_pattern (fun vs H Q E h => ?_) (fun cdv A outer s H vs Q E hr h => ?_)
  · obtain ⟨S, C, ws, G, ds, φ, rfl, _, k, ⟨xs, ps, near, rfl, _⟩, _⟩ := h
    exact congrArg (· + 1) k.length
  · obtain ⟨S, C, us, G, ds, φ, rfl, p0, k, ⟨ws, ps, near, rfl, hl0, hl, hw, hps, hnear, rfl⟩, q⟩ := h
    obtain ⟨v1, us, rfl, k1, k⟩ := k.consV
    obtain ⟨v2, us, rfl, k2, k⟩ := k.consV
    obtain ⟨v3, us, rfl, k3, k⟩ := k.consV
    cases k.nilV
    refine ⟨_, pss_cons (ps_set (i := 4) sc__law_drawn_pattern.nd rfl (.inl rfl) (pe_ifExp (PW.pt (pw_and (pt_cmpR op_ge (pv 3) pe_int (nomark _)) (pw_and1 (pt_cmpR op_gt (pe_call FT (hr.mono (by decide)) (by rfl) gT kpT bT .nil pass0 (pa_cons (pv 0) (pa_cons pe_int pa_nil))) pe_int (nomark _))))) (pv 3)
          (pe_call FT (hr.mono (by decide)) (by rfl) gT kpT bT .nil pass0 (pa_cons (pv 0) (pa_cons (pe_callB call_len_seq (by rfl) mL PySem.boot_len (pa_cons (pv 1) pa_nil)) pa_nil)))))
      (pss_one (ps_ret (pe_tup (pa_cons (pv 4) (pa_cons (pe_callTy call_tuple_of (by rfl) mT (by decide +kernel) (pa_cons (pe_lc (own := [("_law_k", 5)]) (g := gName 5) (tt := tYes)
          (te := tCall (spG RPick) [] E0 (tCons (tVar 0) (tCons (tOp rCat (tLst (tCons (tUn (rU fun i => .int (-i)) (tC (.int 1))) tNil)) (tVar 2)) tNil))) (by rfl) sc__law_drawn_pattern.nd
          (pi_range1 (by rfl) mR (pa_cons (pe_ix ix_tup (pv 1) (pv 4) (fun _ _ => rfl)) pa_nil)) (blkOk_by (N := n__law_drawn_pattern) (sc := defScope s__law_drawn_pattern) (by decide +kernel))
          (fun _ _ _ _ _ => pg_name (i := 5) sc__law_drawn_pattern.nd rfl (.inl rfl)) (fun _ _ _ _ _ => pts_nil) (fun _ _ _ _ _ => pe_call FP hr (by rfl) gP kpP bP .nil pass0 (pa_cons (pv 0) (pa_cons (pe_op op_cat (pe_lst (pa_cons (pe_un un_neg pe_int) pa_nil)) (pv 2)) pa_nil)))) pa_nil)) pa_nil))))), ?_⟩
    refine q_asg p0 (φ := fun d => ∃ k : Int, d = .int k ∧ 0 ≤ k ∧ k < (ws.length : Int)) (e_if (α := fun c => c = true → decide (0 ≤ near) = true) (b_andX (b_test (φ := (· = .bool (decide (0 ≤ near)))) (e_op (φ := (· = .int near)) (ψ := (· = .int 0)) (e_var rfl k3) e_int fun d e h1 h2 => by rw [h1, h2]; exact r_I0b rfl) fun d e => ⟨_, e, rfl⟩)
        fun _ => b_test (φ := fun d => ∃ b : Bool, d = .bool b) (e_op (ψ := (· = .int 0)) (e_take rfl rfl e_int (by decide) (by decide)) e_int ?_) fun d ⟨b, e⟩ => ⟨b, e, trivial⟩) (fun ha => ?_) (fun _ => ?_)) fun v4 d4 G1 H1 s1 k4 ⟨pl, e4, pl0, pl1⟩ => ?_
    · rintro _ _ ⟨j, rfl, _⟩ rfl
      intro x y G H hx hy p Q q
      exact r_I0b rfl x y G H hx hy p Q fun v d' G2 H2 s kd e => q v d' G2 H2 s kd ⟨_, e⟩
    · exact (e_var rfl k3).imp fun d e => ⟨near, e, of_decide_eq_true (ha rfl), hnear⟩
    · exact e_take (m := (ws.length : Int)) rfl rfl (e_is (e_lenT (ds := encI ws) rfl (e_var rfl k1)) (by rw [List.length_map])) (by omega) (by omega)
    subst e4
    have hpl : pl.toNat < ws.length := by omega
    have hwp := hw _ (List.getElem_mem hpl)
    refine s_ret s1.pre (φ := fun d => ∃ a : Row, d = encR a ∧ IsPat ws ps a) (e_tup (ξ := fun ds => ∃ a : Row, ds = [.int a.1, encC a.2] ∧ IsPat ws ps a) (a_cons (φ := (· = .int pl)) (e_var rfl k4) (a_cons (ζ := fun ds => ∃ cs : List Int, ds = [encC cs] ∧ ((cs.length : Nat) : Int) = ws[pl.toNat] ∧ ∀ c ∈ cs, c = -1 ∨ c ∈ ps) (φ := fun d => ∃ cs : List Int, d = encC cs ∧ ((cs.length : Nat) : Int) = ws[pl.toNat] ∧ ∀ c ∈ cs, c = -1 ∨ c ∈ ps)
        (e_cb (ξ := fun ds => ∃ cs : List Int, ds = [.list (encI cs)] ∧ ((cs.length : Nat) : Int) = ws[pl.toNat] ∧ ∀ c ∈ cs, c = -1 ∨ c ∈ ps) (a_cons (φ := fun d => ∃ cs : List Int, d = .list (encI cs) ∧ ((cs.length : Nat) : Int) = ws[pl.toNat] ∧ ∀ c ∈ cs, c = -1 ∨ c ∈ ps)
          (e_lcR (φn := fun n => n = ws[pl.toNat]) (fun i es => ∃ cs : List Int, es = encI cs ∧ cs.length = i ∧ i ≤ 3 ∧ ∀ c ∈ cs, c = -1 ∨ c ∈ ps) (α := fun _ b => b = true) (φ := fun _ d => ∃ x : Int, d = .int x ∧ (x = -1 ∨ x ∈ ps))
            (a_cons (φ := (· = .int ws[pl.toNat])) (e_ixT (ds := encI ws) (j := pl.toNat) (i := pl) (e_var rfl (k1.mono s1.ex)) (e_var rfl k4) (by omega) (by rw [List.getElem?_map, List.getElem?_eq_getElem hpl]; rfl)) a_nil ?_) (fun n h => by omega) ⟨[], rfl, rfl, by omega, by simp⟩ ?_ (fun _ => rfl) (fun _ _ _ _ _ _ => b_yes) ?_ ?_ ?_ ?_) a_nil ?_) ?_) a_nil ?_) ?_) ?_) fun v d G2 H2 s2 k2 e => q v d G2 H2 (s1.trans s2) k2 e
    · rintro _ _ rfl rfl; exact ⟨_, rfl, rfl⟩
    · rintro i es ⟨cs, rfl, h1, h2, _⟩
      rw [List.length_map]; omega
    · intro n i G2 hn hi e1 _
      refine e_pick (φ := (· = .list (encI (-1 :: ps)))) rfl rfl (e_op (φ := (· = .list (encI [-1]))) (ψ := (· = .list (encI ps))) (e_lst (a_one (e_un (φ := (· = .int 1)) (χ := (· = .int (-1))) e_int fun d e => by subst e; exact r_neg)) fun _ e => by subst e; exact ⟨by simp, rfl⟩) (e_var rfl ((k2.mono s1.ex).mono e1)) fun d e h1 h2 => by
        subst h1; subst h2
        exact r_catL (by simp only [List.length_map, List.length_cons, List.length_nil]; omega)) ?_
      rintro _ rfl
      refine ⟨_, rfl, by simp, by simp; omega, fun x hx => ?_⟩
      obtain ⟨y, hy, rfl⟩ := List.mem_map.mp hx
      rcases List.mem_cons.mp hy with rfl | hy
      · exact ⟨_, rfl, .inl rfl⟩
      · exact ⟨_, rfl, .inr hy⟩
    · rintro n i es e hn hi ⟨cs, rfl, h1, h2, h3⟩ _ ⟨x, rfl, hx⟩
      refine ⟨cs ++ [x], by simp, by simp [h1], by omega, fun y hy => ?_⟩
      rcases List.mem_append.mp hy with hy | hy
      · exact h3 y hy
      · rw [List.mem_singleton.mp hy]; exact hx
    · intro n i es _ _ _ h; cases h
    · rintro n es hn ⟨cs, rfl, h1, h2, h3⟩
      exact ⟨cs, rfl, by omega, h3⟩
    · rintro _ _ ⟨cs, rfl, h⟩ rfl; exact ⟨cs, rfl, h⟩
    · rintro _ ⟨cs, rfl, h⟩
      exact fun xs G H hx p Q q => c_tupL xs G H hx p Q fun v d' G2 H2 s kd e => q v d' G2 H2 s kd ⟨cs, e, h⟩
    · rintro _ _ ⟨cs, rfl, h⟩ rfl; exact ⟨cs, rfl, h⟩
    · rintro _ _ rfl ⟨cs, rfl, h1, h2⟩
      exact ⟨(pl, cs), rfl, pl0, pl1, by rw [List.getElem?_eq_getElem hpl]; exact h1, h2⟩
    · rintro _ ⟨a, rfl, h⟩; exact ⟨by simp, a, rfl, h⟩
def RIsPat (ds : List PyData) (d : PyData) : Prop := ∃ (a : Row) (ws : List Int), ds = [encR a, .tuple (encI ws)] ∧ 0 ≤ a.1 ∧ a.1 < (ws.length : Int) ∧ a.2.length ≤ 100 ∧ d = .bool (decide (((a.2.length : Nat) : Int) = ws[a.1.toNat]?.getD 0))
theorem ok_ispat (t : Txt K mg "_law_is_pattern" s__law_is_pattern p__law_is_pattern) (mL : mg "len" = none) (mT : mg "tuple" = none) (mA : mg "all" = none) (mI : mg "isinstance" = none) (mN : mg "int" = none) (mB : mg "bool" = none) : Ca P w K mg base "_law_is_pattern" 1 p__law_is_pattern (spF RIsPat) := by
  refine t.ca fun f fd F => F.ok sc__law_is_pattern (fun vs H Q E h => ?_) (fun cdv A outer s H vs Q E hr h => ?_)
  · obtain ⟨G, ds, d, _, k, ⟨a, b, rfl, _⟩, _⟩ := h
    exact k.length
  · obtain ⟨G, ds, d, p0, k, ⟨a, ws, rfl, a0, a1, h100, rfl⟩, q⟩ := h
    obtain ⟨va, us, rfl, ka, k⟩ := k.consV
    obtain ⟨vb, us, rfl, kb, k⟩ := k.consV
    cases k.nilV
    have tyT : ∀ {X : Cx} {pos : Pos}, X.mg = mg → Gl X "tuple" → PE X (.Name "tuple" pos) (tC (.ty "tuple")) := fun e g => pe_bltn g (by rw [e]; exact mT) (by decide +kernel) rfl
    refine ⟨_, pss_cons (ps_if (PW.pt (pw_or (pt_not (pt_val (pe_callB call_isi (by rfl) mI (by decide +kernel) (pa_cons (pv 0) (pa_cons (pe_bltn (v := .ty "tuple") (by rfl) mT (by decide +kernel) rfl) pa_nil))))) (pw_or (pt_cmpR op_ne (pe_callB call_len_seq (by rfl) mL PySem.boot_len (pa_cons (pv 0) pa_nil)) pe_int (nomark _))
        (pw_or1 (pt_not (pt_val (pe_callB call_isi (by rfl) mI (by decide +kernel) (pa_cons (pe_ix ix_tup (pv 0) pe_int (fun _ _ => rfl)) (pa_cons (pe_bltn (v := .ty "tuple") (by rfl) mT (by decide +kernel) rfl) pa_nil))))))))) (pss_one (ps_ret pe_bl)) pss_nil)
      (pss_one (ps_ret (pe_and (pe_cmpR op_eq (pe_callB call_len_seq (by rfl) mL PySem.boot_len (pa_cons (pe_ix ix_tup (pv 0) pe_int (fun _ _ => rfl)) pa_nil)) (pe_ix ix_tup (pv 1) (pe_ix ix_tup (pv 0) pe_int (fun _ _ => rfl)) (fun _ _ => rfl)) (nomark _))
        (pe_one (pe_callB (cr_all (by rfl)) (by rfl) mA (by decide +kernel) (pa_cons (pe_lc (own := [("_law_cell", 2)]) (g := gName 2) (tt := tYes)
          (te := tAndV (tCB (rIsi K) (tCons (tVar 2) (tCons (tC (.ty "int")) tNil))) (tNotV (tCB (rIsi K) (tCons (tVar 2) (tCons (tC (.ty "bool")) tNil))))) (by rfl) sc__law_is_pattern.nd
          (pi_tup (pe_ix ix_tup (pv 0) pe_int (fun _ _ => rfl))) (blkOk_by (N := n__law_is_pattern) (sc := defScope s__law_is_pattern) (by decide +kernel))
          (fun _ _ _ _ _ => pg_name (i := 2) sc__law_is_pattern.nd rfl (.inl rfl)) (fun _ _ _ _ _ => pts_nil) (fun _ _ _ _ _ => pe_and (pe_callB call_isi (by rfl) mI (by decide +kernel) (pa_cons (pv 2) (pa_cons (pe_bltn (v := .ty "int") (by rfl) mN (by decide +kernel) rfl) pa_nil)))
            (pe_one (pe_not (pe_callB call_isi (by rfl) mI (by decide +kernel) (pa_cons (pv 2) (pa_cons (pe_bltn (v := .ty "bool") (by rfl) mB (by decide +kernel) rfl) pa_nil))))))) pa_nil)))))), ?_⟩
    have hal : a.1.toNat < ws.length := by omega
    have bnot : ∀ {t : TT} {σ : L2.St} {G : Hp}, EvB none t σ G (· = true) → EvB none (tNot t) σ G (· = false) := fun h => b_is (b_not h) rfl
    refine q_when p0 (α := (· = false)) (b_is (b := false || (false || false)) (b_or (bnot (b_B (e_isi (A := "tuple") (b := true) (e_var rfl ka) rfl e_ty rfl (by decide +kernel)) fun d e => ⟨_, e, rfl⟩)) fun _ => b_or (b_is (b_neI (i := 2) (j := 2) (e_lenT (ds := [.int a.1, encC a.2]) rfl (e_var rfl ka)) e_int) rfl) fun _ => bnot (b_B (e_isi (A := "tuple") (b := true) (d := encC a.2) (e_ixT (j := 1) (e_var rfl ka) e_int rfl rfl) rfl e_ty rfl (by decide +kernel)) fun d e => ⟨_, e, rfl⟩)) rfl) (fun hb => by cases hb) (fun _ G1 H1 s1 => ?_)
    refine s_ret s1.pre (e_and (b := decide (((a.2.length : Nat) : Int) = ws[a.1.toNat]?.getD 0)) (c := (a.2.map fun _ => true).all id) (e_op (φ := (· = .int ((a.2.length : Nat) : Int))) (ψ := (· = .int (ws[a.1.toNat]?.getD 0))) (e_is (e_lenT (ds := encI a.2) rfl (e_ixT (j := 1) (e_var rfl (ka.mono s1.ex)) e_int rfl rfl)) (by rw [List.length_map])) (e_ixT (ds := encI ws) (j := a.1.toNat) (i := a.1) (e_var rfl (kb.mono s1.ex)) (e_ixT (j := 0) (e_var rfl (ka.mono s1.ex)) e_int rfl rfl) (by omega) (by rw [List.getElem?_map, List.getElem?_eq_getElem hal]; rfl)) fun d e h1 h2 => by subst h1; subst h2; exact r_eqI)
      fun _ => e_all rfl (e_is (e_lcTM (b := false) PyData.int a.2 (fun _ => .bool true) (e_ixT (j := 1) (e_var rfl (ka.mono s1.ex)) e_int rfl rfl) (by omega) (fun _ => rfl) fun c x G2 e2 hc kx => e_is (e_and (b := true) (c := true) (e_isi (A := "int") (e_var rfl kx) rfl e_ty rfl (by decide +kernel)) fun _ => e_is (e_not (b := false) (e_isi (A := "int") (e_var rfl kx) rfl e_ty rfl (by decide +kernel))) rfl) rfl) (by rw [List.map_map]; rfl))) fun v d G2 H2 s2 k2 e => q v G2 H2 (s1.trans s2) ?_
    subst e
    rw [show ((a.2.map fun _ => true).all id) = true by simp, Bool.and_true] at k2
    exact k2
end
end K0

namespace K0
open PySem L2
/-! ### members of products and of the rows -/
theorem mem_ext {acc : List (List Int)} {col t : List Int} : t ∈ ext acc col ↔ ∃ b ∈ acc, ∃ c ∈ col, t = b ++ [c] := by
  unfold ext
  simp only [List.mem_flatMap, List.mem_map]
  constructor
  · rintro ⟨b, hb, c, hc, rfl⟩; exact ⟨b, hb, c, hc, rfl⟩
  · rintro ⟨b, hb, c, hc, rfl⟩; exact ⟨b, hb, c, hc, rfl⟩
theorem mem_prod_rep {U : List Int} : ∀ {n : Nat} {t : List Int}, t ∈ prod (List.replicate n U) ↔ t.length = n ∧ ∀ c ∈ t, c ∈ U
  | 0, t => by
    show t ∈ [[]] ↔ _
    constructor
    · intro h; rw [List.mem_singleton.mp h]; simp
    · rintro ⟨h, _⟩; rw [List.eq_nil_of_length_eq_zero h]; simp
  | n + 1, t => by
    rw [List.replicate_succ', prod_snoc, mem_ext]
    constructor
    · rintro ⟨b, hb, c, hc, rfl⟩
      obtain ⟨h1, h2⟩ := mem_prod_rep.mp hb
      refine ⟨by simp [h1], fun x hx => ?_⟩
      rcases List.mem_append.mp hx with hx | hx
      · exact h2 x hx
      · rw [List.mem_singleton.mp hx]; exact hc
    · rintro ⟨h1, h2⟩
      have hne : t ≠ [] := fun e => by subst e; simp at h1
      refine ⟨t.dropLast, mem_prod_rep.mpr ⟨by simp [h1], fun x hx => h2 x (List.dropLast_subset t hx)⟩, t.getLast hne, h2 _ (List.getLast_mem hne), (List.dropLast_concat_getLast hne).symm⟩
theorem map_colOf_rep (U : List Int) (n : Nat) : (List.replicate n (-1 : Int)).map (colOf U) = List.replicate n U := by simp [colOf]
theorem mem_rows {ws U : List Int} {r : Row} : r ∈ allRows ws U ↔ ∃ i, ∃ h : i < ws.length, r.1 = (i : Int) ∧ r.2.length = ws[i].toNat ∧ ∀ c ∈ r.2, c ∈ U := by
  unfold allRows
  simp only [List.mem_flatMap, List.mem_map]
  constructor
  · rintro ⟨a, ha, t, ht, rfl⟩
    obtain ⟨i, hi, rfl⟩ := List.mem_mapIdx.mp ha
    rw [map_colOf_rep] at ht
    exact ⟨i, hi, rfl, mem_prod_rep.mp ht⟩
  · rintro ⟨i, hi, h1, h2⟩
    refine ⟨((i : Int), List.replicate ws[i].toNat (-1)), List.mem_mapIdx.mpr ⟨i, hi, rfl⟩, r.2, ?_, ?_⟩
    · rw [map_colOf_rep]; exact mem_prod_rep.mpr h2
    · rw [← h1]
/-! ### covers and meets, cell by cell -/
theorem covL_trans : ∀ {a b c : List Int}, a.length = b.length → b.length = c.length → covL a b = true → covL b c = true → covL a c = true
  | [], _, _, _, _, _, _ => by unfold covL; rfl
  | x :: xs, y :: ys, z :: zs, h1, h2, h3, h4 => by
    unfold covL at h3 h4 ⊢
    simp only [Bool.and_eq_true, Bool.or_eq_true, decide_eq_true_eq] at h3 h4 ⊢
    refine ⟨?_, covL_trans (by simpa using h1) (by simpa using h2) h3.2 h4.2⟩
    rcases h3.1 with h | h
    · exact .inl h
    · rcases h4.1 with h' | h'
      · exact .inl (h.trans h')
      · exact .inr (h.trans h')
def fill (f : Int) (b : List Int) : List Int := b.map fun c => if c = -1 then f else c
theorem covL_fill (f : Int) : ∀ b : List Int, covL b (fill f b) = true
  | [] => rfl
  | y :: ys => by
    show ((decide (y = -1) || decide (y = if y = -1 then f else y)) && covL ys (fill f ys)) = true
    rw [covL_fill f ys]
    by_cases h : y = -1 <;> simp [h]
theorem covL_of_fill {f : Int} {ps : List Int} (hf : f ∉ ps) (hf0 : f ≠ -1) : ∀ {a b : List Int}, a.length = b.length → (∀ c ∈ a, c = -1 ∨ c ∈ ps) → covL a (fill f b) = true → covL a b = true
  | [], [], _, _, _ => rfl
  | x :: xs, y :: ys, hl, h, hc => by
    have hc : ((decide (x = -1) || decide (x = if y = -1 then f else y)) && covL xs (fill f ys)) = true := hc
    show ((decide (x = -1) || decide (x = y)) && covL xs ys) = true
    simp only [Bool.and_eq_true, Bool.or_eq_true, decide_eq_true_eq] at hc ⊢
    refine ⟨?_, covL_of_fill hf hf0 (by simpa using hl) (fun c hc => h c (by simp [hc])) hc.2⟩
    rcases hc.1 with h1 | h1
    · exact .inl h1
    · by_cases hy : y = -1
      · rw [if_pos hy] at h1
        rcases h x (by simp) with h2 | h2
        · exact .inl h2
        · rw [h1] at h2; exact absurd h2 hf
      · rw [if_neg hy] at h1; exact .inr h1
theorem meetL_comm : ∀ {a b : List Int}, meetL a b = meetL b a
  | [], [] => rfl
  | [], _ :: _ => rfl
  | _ :: _, [] => rfl
  | x :: xs, y :: ys => by
    unfold meetL
    rw [meetL_comm (a := xs) (b := ys)]
    by_cases h : x ≠ -1 ∧ y ≠ -1 ∧ x ≠ y
    · rw [if_pos h, if_pos ⟨h.2.1, h.1, fun e => h.2.2 e.symm⟩]
    · rw [if_neg h, if_neg (show ¬ (y ≠ -1 ∧ x ≠ -1 ∧ y ≠ x) from fun q => h ⟨q.2.1, q.1, fun e => q.2.2 e.symm⟩)]
      have : (if x = -1 then y else x) = if y = -1 then x else y := by
        by_cases hx : x = -1 <;> by_cases hy : y = -1
        · rw [if_pos hx, if_pos hy, hx, hy]
        · rw [if_pos hx, if_neg hy]
        · rw [if_neg hx, if_pos hy]
        · rw [if_neg hx, if_neg hy]
          by_cases e : x = y
          · exact e
          · exact absurd ⟨hx, hy, e⟩ h
      rw [this]
theorem meet_comm (a b : Row) : meet a b = meet b a := by
  unfold meet
  by_cases h : a.1 = b.1
  · rw [if_pos h, if_pos h.symm, meetL_comm, h]
  · rw [if_neg h, if_neg fun e => h e.symm]
theorem meetL_none : ∀ {a b t : List Int}, a.length = b.length → b.length = t.length → meetL a b = none → covL a t = true → covL b t = true → False
  | [], [], _, _, _, h, _, _ => by cases h
  | x :: xs, y :: ys, z :: zs, h1, h2, h, ha, hb => by
    unfold covL at ha hb
    unfold meetL at h
    simp only [Bool.and_eq_true, Bool.or_eq_true, decide_eq_true_eq] at ha hb
    by_cases q : x ≠ -1 ∧ y ≠ -1 ∧ x ≠ y
    · rcases ha.1 with e | e
      · exact q.1 e
      · rcases hb.1 with e' | e'
        · exact q.2.1 e'
        · exact q.2.2 (e.trans e'.symm)
    · rw [if_neg q] at h
      cases r : meetL xs ys with
      | none => exact meetL_none (by simpa using h1) (by simpa using h2) r ha.2 hb.2
      | some v => rw [r] at h; cases h
theorem meetL_cov : ∀ {a b r t : List Int}, a.length = b.length → b.length = t.length → meetL a b = some r → covL r t = (covL a t && covL b t)
  | [], [], _, [], _, _, h => by cases h; rfl
  | x :: xs, y :: ys, r, z :: zs, h1, h2, h => by
    unfold meetL at h
    by_cases q : x ≠ -1 ∧ y ≠ -1 ∧ x ≠ y
    · rw [if_pos q] at h; cases h
    · rw [if_neg q] at h
      cases e : meetL xs ys with
      | none => rw [e] at h; cases h
      | some v =>
        rw [e] at h
        cases h
        have ih := meetL_cov (t := zs) (by simpa using h1) (by simpa using h2) e
        show ((decide ((if x = -1 then y else x) = -1) || decide ((if x = -1 then y else x) = z)) && covL v zs) = (((decide (x = -1) || decide (x = z)) && covL xs zs) && ((decide (y = -1) || decide (y = z)) && covL ys zs))
        rw [ih]
        by_cases hx : x = -1 <;> by_cases hy : y = -1
        · simp [hx, hy]
        · simp only [hx, if_true, hy]
          cases covL xs zs <;> cases covL ys zs <;> simp
        · simp only [hx, hy, if_false]
          cases covL xs zs <;> cases covL ys zs <;> simp
        · have e2 : x = y := by
            by_cases e2 : x = y
            · exact e2
            · exact absurd ⟨hx, hy, e2⟩ q
          subst e2
          simp only [hx, if_false]
          cases covL xs zs <;> cases covL ys zs <;> by_cases hz : x = z <;> simp [hz]
theorem meetL_cells {ps : List Int} : ∀ {a b r : List Int}, a.length = b.length → meetL a b = some r → (∀ c ∈ a, c = -1 ∨ c ∈ ps) → (∀ c ∈ b, c = -1 ∨ c ∈ ps) → ∀ c ∈ r, c = -1 ∨ c ∈ ps
  | [], [], _, _, h, _, _ => by cases h; simp
  | x :: xs, y :: ys, r, h1, h, ha, hb => by
    unfold meetL at h
    by_cases q : x ≠ -1 ∧ y ≠ -1 ∧ x ≠ y
    · rw [if_pos q] at h; cases h
    · rw [if_neg q] at h
      cases e : meetL xs ys with
      | none => rw [e] at h; cases h
      | some v =>
        rw [e] at h
        cases h
        intro c hc
        rcases List.mem_cons.mp hc with rfl | hc
        · by_cases hx : x = -1
          · rw [if_pos hx]; exact hb y (by simp)
          · rw [if_neg hx]; exact ha x (by simp)
        · exact meetL_cells (by simpa using h1) e (fun c hc => ha c (by simp [hc])) (fun c hc => hb c (by simp [hc])) c hc
theorem meetL_eq : ∀ {a b r : List Int}, a.length = b.length → meetL a b = some r → (r = a ↔ covL b a = true)
  | [], [], _, _, h => by cases h; simp [covL]
  | x :: xs, y :: ys, r, h1, h => by
    unfold meetL at h
    by_cases q : x ≠ -1 ∧ y ≠ -1 ∧ x ≠ y
    · rw [if_pos q] at h; cases h
    · rw [if_neg q] at h
      cases e : meetL xs ys with
      | none => rw [e] at h; cases h
      | some v =>
        rw [e] at h
        cases h
        have ih := meetL_eq (by simpa using h1) e
        show ((if x = -1 then y else x) :: v = x :: xs) ↔ ((decide (y = -1) || decide (y = x)) && covL ys xs) = true
        rw [List.cons.injEq, ih, Bool.and_eq_true, Bool.or_eq_true, decide_eq_true_eq, decide_eq_true_eq]
        refine and_congr_left fun _ => ?_
        by_cases hx : x = -1
        · rw [if_pos hx, hx]
          constructor
          · exact .inl
          · rintro (h | h) <;> exact h
        · rw [if_neg hx]
          constructor
          · intro _
            by_cases hy : y = -1
            · exact .inl hy
            · by_cases e2 : x = y
              · exact .inr e2.symm
              · exact absurd ⟨hx, hy, e2⟩ q
          · intro _; rfl
/-! ### filters and their lengths -/
theorem filter_len_eq {α : Type} {f g : α → Bool} : ∀ {l : List α}, (l.filter g).length = ((l.filter f).filter g).length ↔ ∀ x ∈ l, g x = true → f x = true
  | [] => by simp
  | a :: l => by
    have ih := filter_len_eq (f := f) (g := g) (l := l)
    have le : ((l.filter f).filter g).length ≤ (l.filter g).length := by
      rw [List.filter_filter]
      have := List.length_filter_le f (l.filter g)
      rw [List.filter_filter] at this
      rw [show (fun a => g a && f a) = fun a => f a && g a by funext a; exact Bool.and_comm _ _]
      exact this
    rw [List.filter_cons, List.filter_cons]
    by_cases hg : g a = true <;> by_cases hf : f a = true
    · rw [if_pos hg, if_pos hf, List.filter_cons, if_pos hg, List.length_cons, List.length_cons]
      constructor
      · intro h x hx
        rcases List.mem_cons.mp hx with rfl | hx
        · intro _; exact hf
        · exact ih.mp (by omega) x hx
      · intro h
        have := ih.mpr fun x hx => h x (by simp [hx])
        omega
    · rw [if_pos hg, if_neg hf, List.length_cons]
      constructor
      · intro h; omega
      · intro h; exact absurd (h a (by simp) hg) hf
    · rw [if_neg hg, if_pos hf, List.filter_cons, if_neg hg, ih]
      constructor
      · intro h x hx
        rcases List.mem_cons.mp hx with rfl | hx
        · intro h'; exact absurd h' hg
        · exact h x hx
      · intro h x hx; exact h x (by simp [hx])
    · rw [if_neg hg, if_neg hf, ih]
      constructor
      · intro h x hx
        rcases List.mem_cons.mp hx with rfl | hx
        · intro h'; exact absurd h' hg
        · exact h x hx
      · intro h x hx; exact h x (by simp [hx])
end K0

namespace K0
open PySem L2
/-! ### what the law asks of two patterns -/
structure Good (ws ps : List Int) : Prop where
  l0 : 0 < ws.length
  l3 : ws.length ≤ 3
  w3 : ∀ w ∈ ws, 1 ≤ w ∧ w ≤ 3
  p0 : ps ≠ []
  p5 : ps.length ≤ 5
  asc : Asc ps
  nn : ∀ x ∈ ps, 0 ≤ x
def top (ps : List Int) : Int := ps.getLast?.getD 0 + 1
def univ (ps : List Int) : List Int := ps ++ [top ps]
variable {ws ps : List Int} {a b r : Row}
theorem Good.last (g : Good ws ps) : ∀ x ∈ ps, x < top ps := fun x hx => by
  unfold top
  rw [List.getLast?_eq_some_getLast g.p0]
  show x < ps.getLast g.p0 + 1
  obtain ⟨j, hj, rfl⟩ := List.mem_iff_getElem.mp hx
  rw [List.getLast_eq_getElem]
  by_cases e : j = ps.length - 1
  · subst e; omega
  · have := List.pairwise_iff_getElem.mp g.asc j (ps.length - 1) hj (by omega) (by omega)
    omega
theorem Good.top0 (g : Good ws ps) : 0 < top ps := by
  obtain ⟨x, hx⟩ := List.exists_mem_of_ne_nil ps g.p0
  have := g.last x hx
  have := g.nn x hx
  omega
theorem Good.fresh (g : Good ws ps) : top ps ∉ ps := fun h => by have := g.last _ h; omega
theorem Good.univ_asc (g : Good ws ps) : Asc (univ ps) := List.pairwise_append.mpr ⟨g.asc, by simp, fun x hx y hy => by rw [List.mem_singleton.mp hy]; exact g.last x hx⟩
theorem Good.univ_nn (g : Good ws ps) : ∀ x ∈ univ ps, 0 ≤ x := fun x hx => by
  rcases List.mem_append.mp hx with h | h
  · exact g.nn x h
  · rw [List.mem_singleton.mp h]; have := g.top0; omega
theorem Good.univ_len (g : Good ws ps) : (univ ps).length ≤ 6 := by
  unfold univ
  have := g.p5
  rw [List.length_append]; simp; omega
theorem IsPat.tab (p : IsPat ws ps a) (g : Good ws ps) : ∃ i, ∃ h : i < ws.length, a.1 = (i : Int) ∧ a.2.length = ws[i].toNat ∧ 1 ≤ ws[i] ∧ ws[i] ≤ 3 := by
  obtain ⟨h0, h1, h2, h3⟩ := p
  have hi : a.1.toNat < ws.length := by omega
  have hw := g.w3 _ (List.getElem_mem hi)
  rw [List.getElem?_eq_getElem hi] at h2
  have h2' : ((a.2.length : Nat) : Int) = ws[a.1.toNat] := h2
  exact ⟨a.1.toNat, hi, by omega, by omega, hw.1, hw.2⟩
theorem IsPat.len3 (p : IsPat ws ps a) (g : Good ws ps) : a.2.length ≤ 3 := by
  obtain ⟨i, hi, _, h, _, _⟩ := p.tab g
  omega
theorem pat_len (g : Good ws ps) (p : IsPat ws ps a) (q : IsPat ws ps b) (h : a.1 = b.1) : a.2.length = b.2.length := by
  obtain ⟨i, hi, e1, e2, _⟩ := p.tab g
  obtain ⟨j, hj, f1, f2, _⟩ := q.tab g
  have : i = j := by omega
  subst this
  omega
theorem row_len (g : Good ws ps) (p : IsPat ws ps a) (hr : r ∈ allRows ws (univ ps)) (h : a.1 = r.1) : a.2.length = r.2.length := by
  obtain ⟨i, hi, e1, e2, _⟩ := p.tab g
  obtain ⟨j, hj, f1, f2, _⟩ := mem_rows.mp hr
  have : i = j := by omega
  subst this
  omega
theorem row_len3 (g : Good ws ps) (hr : r ∈ allRows ws (univ ps)) : r.2.length ≤ 3 := by
  obtain ⟨j, hj, f1, f2, _⟩ := mem_rows.mp hr
  have := g.w3 _ (List.getElem_mem hj)
  omega
theorem fill_row (g : Good ws ps) (p : IsPat ws ps b) : (b.1, fill (top ps) b.2) ∈ allRows ws (univ ps) := by
  obtain ⟨i, hi, e1, e2, _⟩ := p.tab g
  refine mem_rows.mpr ⟨i, hi, e1, by simp [fill, e2], fun c hc => ?_⟩
  obtain ⟨x, hx, rfl⟩ := List.mem_map.mp hc
  unfold univ
  by_cases h : x = -1
  · rw [if_pos h]; simp
  · rw [if_neg h]
    rcases p.2.2.2 x hx with h' | h'
    · exact absurd h' h
    · simp [h']
theorem cov_fill : cov b (b.1, fill (top ps) b.2) = true := by
  unfold cov
  simp [covL_fill]
theorem cov_iff (g : Good ws ps) (p : IsPat ws ps a) (q : IsPat ws ps b) : cov a b = true ↔ ∀ r ∈ allRows ws (univ ps), cov b r = true → cov a r = true := by
  constructor
  · intro h r hr hb
    unfold cov at h hb ⊢
    simp only [Bool.and_eq_true, decide_eq_true_eq] at h hb ⊢
    exact ⟨h.1.trans hb.1, covL_trans (pat_len g p q h.1) (row_len g q hr hb.1) h.2 hb.2⟩
  · intro h
    have z := h _ (fill_row g q) cov_fill
    unfold cov at z ⊢
    simp only [Bool.and_eq_true, decide_eq_true_eq] at z ⊢
    have e : a.1 = b.1 := z.1
    exact ⟨e, covL_of_fill g.fresh (by have := g.top0; omega) (pat_len g p q e) p.2.2.2 z.2⟩
/-- covers: by the numbers of rows -/
theorem fact1 (g : Good ws ps) (p : IsPat ws ps a) (q : IsPat ws ps b) : cov a b = decide (((allRows ws (univ ps)).filter (cov b)).length = (((allRows ws (univ ps)).filter (cov a)).filter (cov b)).length) := by
  rw [Bool.eq_iff_iff, cov_iff g p q, decide_eq_true_eq, filter_len_eq]
theorem fact2 (g : Good ws ps) (p : IsPat ws ps a) (q : IsPat ws ps b) (h : meet a b = none) : ((allRows ws (univ ps)).filter (cov a)).filter (cov b) = [] := by
  rw [List.filter_filter, List.filter_eq_nil_iff]
  intro r hr z
  rw [Bool.and_eq_true] at z
  have z1 := z.1
  have z2 := z.2
  unfold cov at z1 z2
  simp only [Bool.and_eq_true, decide_eq_true_eq] at z1 z2
  have e : a.1 = b.1 := z2.1.trans z1.1.symm
  unfold meet at h
  rw [if_pos e] at h
  cases m : meetL a.2 b.2 with
  | none => exact meetL_none (pat_len g p q e) (row_len g q hr z1.1) m z2.2 z1.2
  | some v => rw [m] at h; cases h
theorem meet_some (h : meet a b = some r) : a.1 = b.1 ∧ r.1 = a.1 ∧ meetL a.2 b.2 = some r.2 := by
  unfold meet at h
  by_cases e : a.1 = b.1
  · rw [if_pos e] at h
    cases m : meetL a.2 b.2 with
    | none => rw [m] at h; cases h
    | some v => rw [m] at h; cases h; exact ⟨e, rfl, rfl⟩
  · rw [if_neg e] at h; cases h
theorem meet_pat (g : Good ws ps) (p : IsPat ws ps a) (q : IsPat ws ps b) (h : meet a b = some r) : IsPat ws ps r := by
  obtain ⟨e, e1, m⟩ := meet_some h
  have hl := pat_len g p q e
  refine ⟨by rw [e1]; exact p.1, by rw [e1]; exact p.2.1, by rw [e1, meetL_length hl m]; exact p.2.2.1, meetL_cells hl m p.2.2.2 q.2.2.2⟩
theorem meet_cov (g : Good ws ps) (p : IsPat ws ps a) (q : IsPat ws ps b) (h : meet a b = some r) {x : Row} (hx : x ∈ allRows ws (univ ps)) : cov r x = (cov b x && cov a x) := by
  obtain ⟨e, e1, m⟩ := meet_some h
  unfold cov
  rw [e1]
  by_cases z : a.1 = x.1
  · have z2 : b.1 = x.1 := e.symm.trans z
    rw [meetL_cov (pat_len g p q e) (row_len g q hx z2) m, decide_eq_true z, decide_eq_true z2]
    simp [Bool.and_comm]
  · have z2 : ¬ b.1 = x.1 := fun w => z (e.trans w)
    rw [decide_eq_false z, decide_eq_false z2]; rfl
theorem fact3 (g : Good ws ps) (p : IsPat ws ps a) (q : IsPat ws ps b) (h : meet a b = some r) : (allRows ws (univ ps)).filter (cov r) = ((allRows ws (univ ps)).filter (cov a)).filter (cov b) := by
  rw [List.filter_filter]
  exact List.filter_congr fun x hx => meet_cov g p q h hx
theorem fact3n (g : Good ws ps) (p : IsPat ws ps a) (q : IsPat ws ps b) (h : meet a b = some r) : ((allRows ws (univ ps)).filter (cov a)).filter (cov b) ≠ [] := by
  rw [← fact3 g p q h]
  intro z
  rw [List.filter_eq_nil_iff] at z
  exact z _ (fill_row g (meet_pat g p q h)) cov_fill
theorem fact4 (g : Good ws ps) (p : IsPat ws ps a) (q : IsPat ws ps b) (h : meet a b = some r) : decide (r = a) = decide (((allRows ws (univ ps)).filter (cov a)).length = (((allRows ws (univ ps)).filter (cov a)).filter (cov b)).length) := by
  have e1 : (((allRows ws (univ ps)).filter (cov a)).filter (cov b)) = (((allRows ws (univ ps)).filter (cov b)).filter (cov a)) := by
    rw [List.filter_filter, List.filter_filter]
    exact List.filter_congr fun _ _ => Bool.and_comm _ _
  rw [e1, ← fact1 g q p]
  obtain ⟨e, e2, m⟩ := meet_some h
  have z := meetL_eq (pat_len g p q e) m
  rw [Bool.eq_iff_iff, decide_eq_true_eq]
  unfold cov
  rw [Bool.and_eq_true, decide_eq_true_eq, ← z]
  constructor
  · intro h; rw [h]; exact ⟨e.symm, rfl⟩
  · rintro ⟨_, h⟩
    exact Prod.ext e2 h
/-! ### products filtered, column by column -/
def allQ (q : Int → Int → Bool) : List Int → List Int → Bool
  | c :: cs, x :: xs => q c x && allQ q cs xs
  | _, _ => true
theorem allQ_snoc (q : Int → Int → Bool) (c x : Int) : ∀ {cs xs : List Int}, cs.length = xs.length → allQ q (cs ++ [c]) (xs ++ [x]) = (allQ q cs xs && q c x)
  | [], [], _ => by simp [allQ]
  | d :: cs, y :: xs, h => by
    show (q d y && allQ q (cs ++ [c]) (xs ++ [x])) = ((q d y && allQ q cs xs) && q c x)
    rw [allQ_snoc q c x (by simpa using h), Bool.and_assoc]
theorem ext_filter {acc : List (List Int)} {U : List Int} {A : List Int → Bool} {B : Int → Bool} {P : List Int → Bool} (h : ∀ b ∈ acc, ∀ x, P (b ++ [x]) = (A b && B x)) : (ext acc U).filter P = ext (acc.filter A) (U.filter B) := by
  induction acc with
  | nil => rfl
  | cons b acc ih =>
    have ih := ih fun b' hb => h b' (by simp [hb])
    show ((U.map fun c => b ++ [c]) ++ ext acc U).filter P = _
    rw [List.filter_append, ih, List.filter_map, List.filter_cons]
    by_cases hA : A b = true
    · rw [if_pos hA]
      show _ = (List.map (fun c => b ++ [c]) (U.filter B)) ++ ext (acc.filter A) (U.filter B)
      congr 2
      refine List.filter_congr fun x _ => ?_
      show P (b ++ [x]) = B x
      rw [h b (by simp), hA, Bool.true_and]
    · rw [if_neg hA]
      have : U.filter (P ∘ fun c => b ++ [c]) = [] := by
        rw [List.filter_eq_nil_iff]
        intro x _ z
        have z : P (b ++ [x]) = true := z
        rw [h b (by simp), Bool.and_eq_true] at z
        exact hA z.1
      rw [this]; rfl
theorem prod_filter (q : Int → Int → Bool) (U : List Int) : ∀ (n : Nat) (cs : List Int), cs.length = n → prod (cs.map fun c => U.filter (q c)) = (prod (List.replicate n U)).filter (allQ q cs)
  | 0, cs, h => by
    rw [List.eq_nil_of_length_eq_zero h]; rfl
  | n + 1, cs, h => by
    have hne : cs ≠ [] := fun e => by subst e; simp at h
    rw [← List.dropLast_concat_getLast hne]
    generalize cs.getLast hne = c
    have hl : cs.dropLast.length = n := by simp [h]
    generalize cs.dropLast = ds at hl
    rw [List.map_append, List.map_singleton, prod_snoc, prod_filter q U n ds hl, List.replicate_succ', prod_snoc]
    refine (ext_filter fun b hb x => ?_).symm
    exact allQ_snoc q c x (by rw [prod_len hb, List.length_replicate, hl])
end K0

namespace K0
open PySem L2
/-! ### rows told: by filters of all rows -/
theorem flat_one {α β : Type} {f : α → List β} : ∀ {l : List α} {a : α}, l.Nodup → a ∈ l → (∀ x ∈ l, x ≠ a → f x = []) → l.flatMap f = f a
  | b :: l, a, hn, ha, h => by
    have hn := List.nodup_cons.mp hn
    rw [List.flatMap_cons]
    by_cases e : b = a
    · subst e
      have : l.flatMap f = [] := by
        rw [List.flatMap_eq_nil_iff]
        intro x hx
        exact h x (by simp [hx]) fun z => hn.1 (z ▸ hx)
      rw [this, List.append_nil]
    · rw [h b (by simp) e, List.nil_append]
      refine flat_one hn.2 ?_ fun x hx => h x (by simp [hx])
      rcases List.mem_cons.mp ha with z | z
      · exact absurd z.symm e
      · exact z
theorem stars_nodup (ws : List Int) : (stars ws).Nodup := by
  unfold stars
  refine List.pairwise_iff_getElem.mpr fun i j hi hj hij e => ?_
  rw [List.getElem_mapIdx, List.getElem_mapIdx] at e
  have := congrArg Prod.fst e
  simp at this
  omega
theorem flat_congr {α β : Type} {f g : α → List β} : ∀ {l : List α}, (∀ x ∈ l, f x = g x) → l.flatMap f = l.flatMap g
  | [], _ => rfl
  | a :: l, h => by
    rw [List.flatMap_cons, List.flatMap_cons, h a (by simp), flat_congr fun x hx => h x (by simp [hx])]
theorem rows_filter (ws U : List Int) (P : Row → Bool) : (allRows ws U).filter P = (stars ws).flatMap fun a => ((prod (a.2.map (colOf U))).filter fun t => P (a.1, t)).map fun t => (a.1, t) := by
  unfold allRows
  rw [List.filter_flatMap]
  congr 1
  funext a
  rw [List.filter_map]; rfl
theorem allQ_const (p : Int → Bool) : ∀ {cs t : List Int}, cs.length = t.length → allQ (fun _ x => p x) cs t = (t.map p).all id
  | [], [], _ => rfl
  | c :: cs, x :: t, h => by
    show (p x && allQ (fun _ x => p x) cs t) = _
    rw [allQ_const p (by simpa using h)]; rfl
theorem fact6 (ws U fs : List Int) : allRows ws (U.filter fun x => decide (x ∈ fs)) = (allRows ws U).filter fun r => (r.2.map fun x => decide (x ∈ fs)).all id := by
  rw [rows_filter]
  unfold allRows
  refine flat_congr fun a ha => ?_
  obtain ⟨i, hi, rfl⟩ := List.mem_mapIdx.mp ha
  show (prod ((List.replicate ws[i].toNat (-1)).map _)).map _ = ((prod ((List.replicate ws[i].toNat (-1)).map _)).filter _).map _
  have z := prod_filter (fun _ x => decide (x ∈ fs)) U ws[i].toNat (List.replicate ws[i].toNat (-1)) (by simp)
  rw [map_colOf_rep, map_colOf_rep]
  rw [List.map_replicate] at z
  rw [z]
  congr 1
  refine List.filter_congr fun t ht => ?_
  rw [allQ_const]
  rw [List.length_replicate, (mem_prod_rep.mp ht).1]
def askQ (fs : List Int) (c x : Int) : Bool := (decide (c = -1) || decide (c = x)) && (decide (0 ≤ c) || decide (x ∈ fs))
theorem askQ_range (fs : List Int) : ∀ {cs t : List Int}, cs.length = t.length → allQ (askQ fs) cs t = (covL cs t && ((List.range t.length).map fun k => decide (0 ≤ cs[k]?.getD 0) || decide (t[k]?.getD 0 ∈ fs)).all id)
  | [], [], _ => rfl
  | c :: cs, x :: t, h => by
    have ih := askQ_range fs (cs := cs) (t := t) (by simpa using h)
    show (askQ fs c x && allQ (askQ fs) cs t) = (((decide (c = -1) || decide (c = x)) && covL cs t) && _)
    rw [ih, List.length_cons, List.range_succ_eq_map, List.map_cons, List.all_cons, List.map_map]
    show (((decide (c = -1) || decide (c = x)) && (decide (0 ≤ c) || decide (x ∈ fs))) && (covL cs t && _)) = (((decide (c = -1) || decide (c = x)) && covL cs t) && ((decide (0 ≤ c) || decide (x ∈ fs)) && _))
    generalize (decide (c = -1) || decide (c = x)) = p
    generalize (decide (0 ≤ c) || decide (x ∈ fs)) = q
    generalize covL cs t = r
    have : (List.map (fun k => decide (0 ≤ cs[k]?.getD 0) || decide (t[k]?.getD 0 ∈ fs)) (List.range t.length)).all id = (List.map ((fun k => decide (0 ≤ (c :: cs)[k]?.getD 0) || decide ((x :: t)[k]?.getD 0 ∈ fs)) ∘ Nat.succ) (List.range t.length)).all id := by
      congr 1
    rw [this]
    generalize (List.map ((fun k => decide (0 ≤ (c :: cs)[k]?.getD 0) || decide ((x :: t)[k]?.getD 0 ∈ fs)) ∘ Nat.succ) (List.range t.length)).all id = s
    cases p <;> cases q <;> cases r <;> cases s <;> rfl
variable {ws ps fs : List Int} {a : Row}
theorem filter_eq_one : ∀ {U : List Int} {c : Int}, Asc U → c ∈ U → (U.filter fun x => decide (c = x)) = [c]
  | u :: U, c, hu, hc => by
    have h := List.pairwise_cons.mp hu
    rw [List.filter_cons]
    by_cases e : c = u
    · subst e
      rw [if_pos (by simp)]
      have : (U.filter fun x => decide (c = x)) = [] := by
        rw [List.filter_eq_nil_iff]
        intro x hx z
        have := h.1 x hx
        have := of_decide_eq_true z
        omega
      rw [this]
    · rw [if_neg (by simp [e])]
      refine filter_eq_one h.2 ?_
      rcases List.mem_cons.mp hc with z | z
      · exact absurd z e
      · exact z
theorem colOf_ask (g : Good ws ps) {c : Int} (hc : c = -1 ∨ c ∈ ps) : colOf ((univ ps).filter fun x => decide (x ∈ fs)) c = (univ ps).filter (askQ fs c) := by
  unfold colOf
  by_cases h : c = -1
  · rw [if_pos h, h]
    refine List.filter_congr fun x _ => ?_
    simp [askQ]
  · rw [if_neg h]
    have hm : c ∈ ps := by
      rcases hc with z | z
      · exact absurd z h
      · exact z
    have h0 := g.nn c hm
    rw [← filter_eq_one g.univ_asc (show c ∈ univ ps by unfold univ; simp [hm])]
    refine List.filter_congr fun x _ => ?_
    simp [askQ, h, h0]
theorem fact5 (g : Good ws ps) (p : IsPat ws ps a) : (prod (a.2.map (colOf ((univ ps).filter fun x => decide (x ∈ fs))))).map (fun t => (a.1, t)) = (allRows ws (univ ps)).filter fun r => cov a r && ((List.range r.2.length).map fun k => decide (0 ≤ a.2[k]?.getD 0) || decide (r.2[k]?.getD 0 ∈ fs)).all id := by
  obtain ⟨i, hi, e1, e2, _⟩ := p.tab g
  rw [rows_filter]
  have hm : ((i : Int), List.replicate ws[i].toNat (-1)) ∈ stars ws := List.mem_mapIdx.mpr ⟨i, hi, rfl⟩
  rw [flat_one (stars_nodup ws) hm]
  · show _ = ((prod ((List.replicate ws[i].toNat (-1)).map (colOf (univ ps)))).filter _).map _
    rw [map_colOf_rep, List.map_congr_left fun c hc => colOf_ask g (p.2.2.2 c hc), prod_filter (askQ fs) (univ ps) ws[i].toNat a.2 e2]
    rw [e1]
    congr 1
    refine List.filter_congr fun t ht => ?_
    have htl := (mem_prod_rep.mp ht).1
    rw [askQ_range fs (by omega)]
    unfold cov
    simp [e1]
  · intro x hx hne
    obtain ⟨j, hj, rfl⟩ := List.mem_mapIdx.mp hx
    have hij : ¬ i = j := fun z => hne (by subst z; rfl)
    rw [List.map_eq_nil_iff, List.filter_eq_nil_iff]
    intro t _ z
    rw [Bool.and_eq_true] at z
    have z1 := z.1
    unfold cov at z1
    rw [Bool.and_eq_true, decide_eq_true_eq, e1] at z1
    exact hij (by have := z1.1; simp at this; omega)
/-! ### == of rows and lists of rows -/
theorem ints_lay : ∀ l : List Int, PyData.canLayAll0 (encI l) = true
  | [] => by simp [PyData.canLayAll0]
  | z :: l => by
    have := ints_lay l
    simp only [List.map_cons, PyData.canLayAll0, PyData.canLay0, Bool.true_and]; exact this
theorem ints_depth : ∀ l : List Int, PyData.depthAll (l.map PyData.int) = 0
  | [] => by simp [PyData.depthAll]
  | z :: l => by
    have := ints_depth l
    rw [List.map_cons, PyData.depthAll, this]; rfl
theorem encC_lay (l : List Int) : (encC l).canLay0 = true := by simp only [PyData.canLay0]; exact ints_lay l
theorem encC_depth (l : List Int) : (encC l).depth ≤ 1 := by
  show PyData.depth (.tuple (l.map PyData.int)) ≤ 1
  rw [PyData.depth, ints_depth]; omega
theorem encR_lay (r : Row) : (encR r).canLay0 = true := by simp only [PyData.canLay0, PyData.canLayAll0, ints_lay]; rfl
theorem encR_depth (r : Row) : (encR r).depth ≤ 2 := by
  show PyData.depth (.tuple [.int r.1, encC r.2]) ≤ 2
  have := encC_depth r.2
  have h0 : PyData.depth (.int r.1) = 0 := by rw [PyData.depth]
  rw [PyData.depth, PyData.depthAll, PyData.depthAll, PyData.depthAll, h0]; omega
theorem encRs_lay : ∀ l : List Row, PyData.canLayAll0 (l.map encR) = true
  | [] => by simp [PyData.canLayAll0]
  | z :: l => by
    have := encRs_lay l
    simp only [List.map_cons, PyData.canLayAll0, encR_lay, Bool.true_and]; exact this
theorem encRs_depth : ∀ l : List Row, PyData.depthAll (l.map encR) ≤ 2
  | [] => by simp [PyData.depthAll]
  | z :: l => by
    have := encRs_depth l
    have := encR_depth z
    rw [List.map_cons, PyData.depthAll]; omega
theorem shaped_of {d : PyData} (h1 : d.canLay0 = true) (h2 : d.depth ≤ 64) : SeqAt.shaped d = true := by
  show (d.canLay0 && decide (d.depth ≤ 64)) = true
  rw [h1, decide_eq_true h2]; rfl
theorem encR_shaped (r : Row) : SeqAt.shaped (encR r) = true := shaped_of (encR_lay r) (by have := encR_depth r; omega)
theorem encRs_shaped (l : List Row) : SeqAt.shaped (.list (l.map encR)) = true := shaped_of (by simp only [PyData.canLay0]; exact encRs_lay l) (by have := encRs_depth l; simp only [PyData.depth]; omega)
theorem encRt_shaped (l : List Row) : SeqAt.shaped (.tuple (l.map encR)) = true := shaped_of (by simp only [PyData.canLay0]; exact encRs_lay l) (by have := encRs_depth l; simp only [PyData.depth]; omega)
theorem encIs_shaped (l : List Int) : SeqAt.shaped (.list (encI l)) = true := shaped_of (by simp only [PyData.canLay0]; exact ints_lay l) (by
  show PyData.depth (.list (l.map PyData.int)) ≤ 64
  rw [PyData.depth, ints_depth]; omega)
theorem eqv_ints : ∀ l m : List Int, PyData.eqvAll (encI l) (encI m) = decide (l = m)
  | [], [] => by simp [PyData.eqvAll]
  | [], _ :: _ => by simp [PyData.eqvAll]
  | _ :: _, [] => by simp [PyData.eqvAll]
  | x :: l, y :: m => by
    have := eqv_ints l m
    simp only [List.map_cons, PyData.eqvAll, PyData.eqv]
    rw [this]
    by_cases h1 : x = y <;> by_cases h2 : l = m <;> simp [h1, h2]
theorem eqv_row (a b : Row) : PyData.eqv (encR a) (encR b) = decide (a = b) := by
  obtain ⟨a1, a2⟩ := a
  obtain ⟨b1, b2⟩ := b
  simp only [PyData.eqv, PyData.eqvAll, eqv_ints]
  by_cases h1 : a1 = b1 <;> by_cases h2 : a2 = b2 <;> simp [h1, h2]
theorem eqv_rows : ∀ l m : List Row, PyData.eqvAll (l.map encR) (m.map encR) = decide (l = m)
  | [], [] => by simp [PyData.eqvAll]
  | [], _ :: _ => by simp [PyData.eqvAll]
  | _ :: _, [] => by simp [PyData.eqvAll]
  | x :: l, y :: m => by
    have := eqv_rows l m
    rw [List.map_cons, List.map_cons, PyData.eqvAll, eqv_row, this]
    by_cases h1 : x = y <;> by_cases h2 : l = m <;> simp [h1, h2]
theorem eqv_listR (l m : List Row) : PyData.eqv (.list (l.map encR)) (.list (m.map encR)) = decide (l = m) := by simp only [PyData.eqv]; exact eqv_rows l m
theorem eqv_tupR (l m : List Row) : PyData.eqv (.tuple (l.map encR)) (.tuple (m.map encR)) = decide (l = m) := by simp only [PyData.eqv]; exact eqv_rows l m
theorem eqv_listI (l m : List Int) : PyData.eqv (.list (encI l)) (.list (encI m)) = decide (l = m) := by simp only [PyData.eqv]; exact eqv_ints l m
end K0

namespace Dv
open PySem PySem.Spec PyProof.Rows L2
open Evl (Ex)
section
variable {K : PySem.W.Frag} {T : Tw} {σ : L2.St} {G G' H H' G0 H0 : Hp} {ta : TA} {tb te tx tl : TE} {t u : TT} {v : V} {d : PyData} {φ χ : PyData → Prop}
theorem r_inB {c : Bool} : RD T (rIn K true) (.bool c) (.tuple [.bool true, .bool false]) (· = .bool false) := fun x y G H hx hy p Q q => by
  cases hx.blV
  obtain ⟨b, ys, rfl, gb, k⟩ := hy.tupV
  obtain ⟨v1, ws, rfl, k1, k⟩ := k.consV
  obtain ⟨v2, ws, rfl, k2, k⟩ := k.consV
  cases k.nilV
  cases k1.blV
  cases k2.blV
  refine ⟨b, _, rfl, .inr (.inl (.inl (p.1 _ _ gb))), rfl, rfl, ?_⟩
  rw [show (if true then !inV (.bl c) [.bl true, .bl false] else inV (.bl c) [.bl true, .bl false]) = false by cases c <;> rfl]
  exact q _ _ G H (Stp.refl p) (.bl false) rfl
end
end Dv
namespace K0
open PySem PySem.Spec PyProof.Rows L2 Dv
open Evl (Ex)
section
variable {P : Program} {w : World} {K : PySem.W.Frag} {mg : Str → Option Value} {base : Heap}
abbrev RLCov (ds : List PyData) (d : PyData) : Prop := ∃ a b : Row, ds = [encR a, encR b] ∧ (a.1 = b.1 → a.2.length = b.2.length) ∧ b.2.length ≤ 100 ∧ d = .bool (cov a b)
def RPair (ds : List PyData) (d : PyData) : Prop := ∃ (ws ps : List Int) (a b : Row), ds = [.tuple (encI ws), .list ((allRows ws (univ ps)).map encR), encR a, encR b] ∧ Good ws ps ∧ IsPat ws ps a ∧ IsPat ws ps b ∧ d = .bool true
theorem rows_len {ws ps : List Int} (g : Good ws ps) : (allRows ws (univ ps)).length ≤ 5184 := by
  unfold allRows
  have : ∀ l : List Row, (∀ a ∈ l, (prod (a.2.map (colOf (univ ps)))).length ≤ 1728) → (l.flatMap fun a => (prod (a.2.map (colOf (univ ps)))).map fun t => (a.1, t)).length ≤ l.length * 1728 := fun l => by
    induction l with
    | nil => intro _; simp
    | cons a l ih =>
      intro hl
      rw [List.flatMap_cons, List.length_append, List.length_map, List.length_cons, Nat.add_mul]
      have := ih fun d hd => hl d (by simp [hd])
      have := hl a (by simp)
      omega
  refine Nat.le_trans (this _ fun a ha => ?_) ?_
  · obtain ⟨i, hi, rfl⟩ := List.mem_mapIdx.mp ha
    have hw := g.w3 _ (List.getElem_mem hi)
    have hu := g.univ_len
    have h1 := prod_length_le 12 ((List.replicate ws[i].toNat (-1)).map (colOf (univ ps))) [[]] fun c hc => by
      obtain ⟨x, _, rfl⟩ := List.mem_map.mp hc
      by_cases z : x = -1
      · rw [show colOf (univ ps) x = univ ps from if_pos z]; omega
      · rw [show colOf (univ ps) x = [x] from if_neg z]; simp
    refine Nat.le_trans h1 ?_
    rw [List.length_map, List.length_replicate]
    have : ws[i].toNat = 1 ∨ ws[i].toNat = 2 ∨ ws[i].toNat = 3 := by omega
    rcases this with e | e | e <;> rw [e] <;> decide
  · have := g.l3
    rw [show (stars ws).length = ws.length from List.length_mapIdx]; omega
theorem e_flt {σ : L2.St} {G : Hp} {l : List Row} {c : Row} {vc : V} {tl : TE} {i : Nat} (h : EvP none tl σ G (· = .list (l.map encR))) (hz : l.length ≤ 40000) (hw : ∀ x, wipe ((wipe σ [7]).set 7 (some x)) [7] = wipe σ [7]) (hi : ∀ x : V, ((wipe σ [7]).set 7 (some x))[i]? = some (some vc)) (h7 : ∀ x : V, ((wipe σ [7]).set 7 (some x))[7]? = some (some x)) (kc : Da G vc (encR c)) (hl : ∀ r ∈ l, (c.1 = r.1 → c.2.length = r.2.length) ∧ r.2.length ≤ 100) :
    EvP none (tLc (iList K tl) (gName 7) (tB (tCall (spF RLCov) [] E0 (tCons (tVar i) (tCons (tVar 7) tNil)))) (tVar 7) [7]) σ G (· = .list ((l.filter (cov c)).map encR)) :=
  e_lcT (b := true) encR l (cov c) encR h hz hw (fun r x G1 e1 hr kx => b_B (φ := (· = .bool (cov c r))) (e_call (a_two (e_var (hi x) (kc.mono e1)) (e_var (h7 x) kx)) fun ds e => ⟨_, ⟨c, r, e, (hl r hr).1, (hl r hr).2, rfl⟩, rfl⟩) fun d e => ⟨_, e, rfl⟩) fun r x G1 e1 hr kx _ => e_var (h7 x) kx
theorem e_flt2 {σ : L2.St} {G : Hp} {l : List Row} {c : Row} {vc : V} {tl : TE} {i : Nat} (h : EvP none tl σ G (· = .list (l.map encR))) (hz : l.length ≤ 40000) (hw : ∀ x, wipe ((wipe σ [7]).set 7 (some x)) [7] = wipe σ [7]) (hi : ∀ x : V, ((wipe σ [7]).set 7 (some x))[i]? = some (some vc)) (h7 : ∀ x : V, ((wipe σ [7]).set 7 (some x))[7]? = some (some x)) (kc : Da G vc (encR c)) (hl : ∀ r ∈ l, (c.1 = r.1 → c.2.length = r.2.length) ∧ r.2.length ≤ 100) :
    EvP none (tLc (iList K tl) (gName 7) (tB (tCall (spF RCov) [] E0 (tCons (tVar i) (tCons (tVar 7) tNil)))) (tVar 7) [7]) σ G (· = .list ((l.filter (cov c)).map encR)) :=
  e_lcT (b := true) encR l (cov c) encR h hz hw (fun r x G1 e1 hr kx => b_B (φ := (· = .bool (cov c r))) (e_call (a_two (e_var (hi x) (kc.mono e1)) (e_var (h7 x) kx)) fun ds e => ⟨_, ⟨c, r, e, (hl r hr).1, rfl⟩, rfl⟩) fun d e => ⟨_, e, rfl⟩) fun r x G1 e1 hr kx _ => e_var (h7 x) kx
theorem r_isN {T : Tw} {m : Option Row} : RD T (fun x y H Q => y = .non ∧ Q (.bl (decide (x = .non))) H) (encO m) .none (· = .bool m.isNone) := fun x y G H hx hy p Q q => by
  cases hy.nonV
  refine ⟨rfl, ?_⟩
  cases m with
  | none =>
    cases Da.nonV hx
    exact q _ _ G H (Stp.refl p) (.bl true) rfl
  | some r =>
    obtain ⟨a, xs, rfl, _, _⟩ := Da.tupV (show Da G x (.tuple [.int r.1, encC r.2]) from hx)
    exact q _ _ G H (Stp.refl p) (.bl false) rfl
theorem e_isNm {σ : L2.St} {G : Hp} {te : TE} {m : Option Row} (h : EvP none te σ G (· = encO m)) : EvP none (tIsN te) σ G (· = .bool m.isNone) := e_isN h (by
  cases m with
  | none => exact .inl ⟨rfl, rfl⟩
  | some r => exact .inr ⟨_, rfl, rfl⟩)
theorem ok_pair (t : Txt K mg "_law_pair_holds" s__law_pair_holds p__law_pair_holds) (mL : mg "len" = none) (cC : Ca P w K mg base "covers" 1 p_covers (spF RCov)) (cM : Ca P w K mg base "meeting" 1 p_meeting (spF RMeet)) (cL : Ca P w K mg base "_law_covers" 1 p__law_covers (spF RLCov)) (cI : Ca P w K mg base "_law_is_pattern" 1 p__law_is_pattern (spF RIsPat)) : Ca P w K mg base "_law_pair_holds" 2 p__law_pair_holds (spF RPair) := by
  obtain ⟨fC, fdC, gC, kpC, bC, FC⟩ := cC
  obtain ⟨fM, fdM, gM, kpM, bM, FM⟩ := cM
  obtain ⟨fL, fdL, gL, kpL, bL, FL⟩ := cL
  obtain ⟨fI, fdI, gI, kpI, bI, FI⟩ := cI
  refine t.ca fun f fd F => F.ok sc__law_pair_holds (fun vs H Q E h => ?_) (fun cdv A outer s H vs Q E hr h => ?_)
  · obtain ⟨G, ds, d, _, k, ⟨ws, ps, a, b, rfl, _⟩, _⟩ := h
    exact k.length
  · obtain ⟨G, ds, d, p0, k, ⟨ws, ps, a, b, rfl, g, pa, pb, rfl⟩, q⟩ := h
    obtain ⟨vt, us, rfl, kt, k⟩ := k.consV
    obtain ⟨vr, us, rfl, kr, k⟩ := k.consV
    obtain ⟨va, us, rfl, ka, k⟩ := k.consV
    obtain ⟨vb, us, rfl, kb, k⟩ := k.consV
    cases k.nilV
    refine ⟨_, (pss_cons (ps_setLc (i := 4) (own := [("_law_row", 7)]) (g := gName 7) (tt := tB (tCall (spF RLCov) [] E0 (tCons (tVar 2) (tCons (tVar 7) tNil)))) (te := tVar 7) (by rfl) sc__law_pair_holds.nd rfl rfl (sw_true rfl rfl rfl (by decide +kernel)) (pi_list (pv 1)) (blkOk_by (N := n__law_pair_holds) (sc := defScope s__law_pair_holds) (by decide +kernel)) (fun _ _ _ _ _ => pg_name (i := 7) sc__law_pair_holds.nd rfl (.inl rfl)) (fun _ _ _ _ _ => pts_one (pt_val (pe_call FL hr (by rfl) gL kpL bL .nil pass0 (pa_cons (pv 2) (pa_cons (pv 7) pa_nil))))) (fun _ _ _ _ _ => pv 7))
      (pss_cons (ps_setLc (i := 5) (own := [("_law_row", 7)]) (g := gName 7) (tt := tB (tCall (spF RLCov) [] E0 (tCons (tVar 3) (tCons (tVar 7) tNil)))) (te := tVar 7) (by rfl) sc__law_pair_holds.nd rfl rfl (sw_true rfl rfl rfl (by decide +kernel)) (pi_list (pv 4)) (blkOk_by (N := n__law_pair_holds) (sc := defScope s__law_pair_holds) (by decide +kernel)) (fun _ _ _ _ _ => pg_name (i := 7) sc__law_pair_holds.nd rfl (.inl rfl)) (fun _ _ _ _ _ => pts_one (pt_val (pe_call FL hr (by rfl) gL kpL bL .nil pass0 (pa_cons (pv 3) (pa_cons (pv 7) pa_nil))))) (fun _ _ _ _ _ => pv 7))
      (pss_cons (ps_if (pt_cmpR op_ne (pe_cmpR op_isBl (pe_call FC hr (by rfl) gC kpC bC .nil pass0 (pa_cons (pv 2) (pa_cons (pv 3) pa_nil))) pe_bl (by rfl)) (pe_cmpR op_eq (pe_callB call_len_seq (by rfl) mL PySem.boot_len (pa_cons (pe_lc (own := [("_law_row", 7)]) (g := gName 7) (tt := tB (tCall (spF RLCov) [] E0 (tCons (tVar 3) (tCons (tVar 7) tNil)))) (te := tVar 7) (by rfl) sc__law_pair_holds.nd (pi_list (pv 1)) (blkOk_by (N := n__law_pair_holds) (sc := defScope s__law_pair_holds) (by decide +kernel)) (fun _ _ _ _ _ => pg_name (i := 7) sc__law_pair_holds.nd rfl (.inl rfl)) (fun _ _ _ _ _ => pts_one (pt_val (pe_call FL hr (by rfl) gL kpL bL .nil pass0 (pa_cons (pv 3) (pa_cons (pv 7) pa_nil))))) (fun _ _ _ _ _ => pv 7)) pa_nil)) (pe_callB call_len_seq (by rfl) mL PySem.boot_len (pa_cons (pv 5) pa_nil)) (by rfl)) (by rfl)) (pss_one (ps_ret pe_bl)) pss_nil)
      (pss_cons (ps_if (pt_cmpR op_notIn_seq (pe_call FC hr (by rfl) gC kpC bC .nil pass0 (pa_cons (pv 2) (pa_cons (pv 3) pa_nil))) (pe_tup (pa_cons pe_bl (pa_cons pe_bl pa_nil))) (by rfl)) (pss_one (ps_ret pe_bl)) pss_nil)
      (pss_cons (ps_set (i := 6) sc__law_pair_holds.nd rfl (.inr rfl) (pe_call FM hr (by rfl) gM kpM bM .nil pass0 (pa_cons (pv 2) (pa_cons (pv 3) pa_nil))))
      (pss_cons (ps_if (PW.pt (pw_or (pt_cmpR op_isN (pv 6) pe_non (nomark _)) (pw_or1 (pt_cmpR op_isN (pe_call FM hr (by rfl) gM kpM bM .nil pass0 (pa_cons (pv 3) (pa_cons (pv 2) pa_nil))) pe_non (nomark _))))) (pss_one (ps_ret (pe_and (pe_cmpR (op_eqD hr.units) (pv 5) (pe_lst pa_nil) (nomark _)) (pe_and (pe_cmp (pc_isN (pv 6)) rfl) (pe_one (pe_cmp (pc_isN (pe_call FM hr (by rfl) gM kpM bM .nil pass0 (pa_cons (pv 3) (pa_cons (pv 2) pa_nil)))) rfl)))))) pss_nil)
      (pss_cons (ps_if (PW.pt (pw_or (pt_not (pt_val (pe_call FI hr (by rfl) gI kpI bI .nil pass0 (pa_cons (pv 6) (pa_cons (pv 0) pa_nil))))) (pw_or1 (pt_cmpR (op_neD hr.units) (pe_call FM hr (by rfl) gM kpM bM .nil pass0 (pa_cons (pv 3) (pa_cons (pv 2) pa_nil))) (pv 6) (nomark _))))) (pss_one (ps_ret pe_bl)) pss_nil)
      (pss_cons (ps_if (PW.pt (pw_or (pt_cmpR (op_neD hr.units) (pe_lc (own := [("_law_row", 7)]) (g := gName 7) (tt := tB (tCall (spF RLCov) [] E0 (tCons (tVar 6) (tCons (tVar 7) tNil)))) (te := tVar 7) (by rfl) sc__law_pair_holds.nd (pi_list (pv 1)) (blkOk_by (N := n__law_pair_holds) (sc := defScope s__law_pair_holds) (by decide +kernel)) (fun _ _ _ _ _ => pg_name (i := 7) sc__law_pair_holds.nd rfl (.inl rfl)) (fun _ _ _ _ _ => pts_one (pt_val (pe_call FL hr (by rfl) gL kpL bL .nil pass0 (pa_cons (pv 6) (pa_cons (pv 7) pa_nil))))) (fun _ _ _ _ _ => pv 7)) (pv 5) (nomark _)) (pw_or1 (pt_cmpR (op_eqD hr.units) (pv 5) (pe_lst pa_nil) (nomark _))))) (pss_one (ps_ret pe_bl)) pss_nil)
      (pss_cons (ps_if (pt_cmpR (op_neD hr.units) (pe_lc (own := [("_law_row", 7)]) (g := gName 7) (tt := tB (tCall (spF RCov) [] E0 (tCons (tVar 6) (tCons (tVar 7) tNil)))) (te := tVar 7) (by rfl) sc__law_pair_holds.nd (pi_list (pv 1)) (blkOk_by (N := n__law_pair_holds) (sc := defScope s__law_pair_holds) (by decide +kernel)) (fun _ _ _ _ _ => pg_name (i := 7) sc__law_pair_holds.nd rfl (.inl rfl)) (fun _ _ _ _ _ => pts_one (pt_val (pe_call FC hr (by rfl) gC kpC bC .nil pass0 (pa_cons (pv 6) (pa_cons (pv 7) pa_nil))))) (fun _ _ _ _ _ => pv 7)) (pv 5) (nomark _)) (pss_one (ps_ret pe_bl)) pss_nil)
      (pss_one (ps_ret (pe_cmpR op_eq (pe_cmpR (op_eqD hr.units) (pv 6) (pv 2) (nomark _)) (pe_cmpR op_eq (pe_callB call_len_seq (by rfl) mL PySem.boot_len (pa_cons (pv 4) pa_nil)) (pe_callB call_len_seq (by rfl) mL PySem.boot_len (pa_cons (pv 5) pa_nil)) (by rfl)) (by rfl))))))))))))), ?_⟩
    have ci : ∀ m n : Nat, decide ((m : Int) = (n : Int)) = decide (m = n) := fun m n => decide_eq_decide.mpr Int.ofNat_inj
    have hR := rows_len g
    have la : ∀ r ∈ allRows ws (univ ps), (a.1 = r.1 → a.2.length = r.2.length) ∧ r.2.length ≤ 100 := fun r hr => ⟨row_len g pa hr, by have := row_len3 g hr; omega⟩
    have lb : ∀ r ∈ allRows ws (univ ps), (b.1 = r.1 → b.2.length = r.2.length) ∧ r.2.length ≤ 100 := fun r hr => ⟨row_len g pb hr, by have := row_len3 g hr; omega⟩
    have lab := pat_len g pa pb
    have lba := pat_len g pb pa
    have l3a := pa.len3 g
    have l3b := pb.len3 g
    have f1 := fact1 g pa pb
    have f2 := fact2 g pa pb
    have f3 := fun r h => fact3 (r := r) g pa pb h
    have f3n := fun r h => fact3n (r := r) g pa pb h
    have f4 := fun r h => fact4 (r := r) g pa pb h
    have fp := fun r h => meet_pat (r := r) g pa pb h
    have lrow : ∀ r, IsPat ws ps r → ∀ x ∈ allRows ws (univ ps), (r.1 = x.1 → r.2.length = x.2.length) ∧ x.2.length ≤ 100 := fun r hp x hx => ⟨row_len g hp hx, by have := row_len3 g hx; omega⟩
    generalize hR' : allRows ws (univ ps) = R at *
    have hmine : (R.filter (cov a)).length ≤ 40000 := by have := List.length_filter_le (cov a) R; omega
    refine q_asg p0 (φ := (· = .list ((R.filter (cov a)).map encR))) (e_flt (e_var rfl kr) (by omega) (fun _ => rfl) (fun _ => rfl) (fun _ => rfl) ka la) fun v1 d1 G1 H1 s1 k1 e1 => ?_
    subst e1
    refine q_asg s1.pre (φ := (· = .list (((R.filter (cov a)).filter (cov b)).map encR))) (e_flt (e_var rfl k1) hmine (fun _ => rfl) (fun _ => rfl) (fun _ => rfl) (kb.mono s1.ex) fun r hr => lb r (List.mem_filter.mp hr).1) fun v2 d2 G2 H2 s2 k2 e2 => ?_
    subst e2
    have s12 := s1.trans s2
    have ccov : ∀ {σ : L2.St} {Gx : Hp}, σ[2]? = some (some va) → σ[3]? = some (some vb) → Ex G Gx → EvP none (tCall (spF RCov) [] E0 (tCons (tVar 2) (tCons (tVar 3) tNil))) σ Gx (· = .bool (cov a b)) := fun h2 h3 e => e_call (a_two (e_var h2 (ka.mono e)) (e_var h3 (kb.mono e))) fun ds e => ⟨_, ⟨a, b, e, lab, rfl⟩, rfl⟩
    have cmab : ∀ {σ : L2.St} {Gx : Hp}, σ[2]? = some (some va) → σ[3]? = some (some vb) → Ex G Gx → EvP none (tCall (spF RMeet) [] E0 (tCons (tVar 2) (tCons (tVar 3) tNil))) σ Gx (· = encO (meet a b)) := fun h2 h3 e => e_call (a_two (e_var h2 (ka.mono e)) (e_var h3 (kb.mono e))) fun ds e => ⟨_, ⟨a, b, e, lab, by omega, rfl⟩, rfl⟩
    have cmba : ∀ {σ : L2.St} {Gx : Hp}, σ[2]? = some (some va) → σ[3]? = some (some vb) → Ex G Gx → EvP none (tCall (spF RMeet) [] E0 (tCons (tVar 3) (tCons (tVar 2) tNil))) σ Gx (· = encO (meet a b)) := fun h2 h3 e => e_call (a_two (e_var h3 (kb.mono e)) (e_var h2 (ka.mono e))) fun ds e => ⟨_, ⟨b, a, e, lba, by omega, rfl⟩, by rw [meet_comm]⟩
    -- covers, by the numbers of rows
    refine q_when s2.pre (α := (· = false)) (b_is (b_test (φ := (· = .bool (!decide (decide (cov a b = true) = decide (((R.filter (cov b)).length : Int) = (((R.filter (cov a)).filter (cov b)).length : Int)))))) (e_op (e_op (χ := (· = .bool (decide (cov a b = true)))) (ψ := (· = .bool true)) (ccov rfl rfl s12.ex) e_bl ?_) (e_op (χ := (· = .bool (decide (((R.filter (cov b)).length : Int) = (((R.filter (cov a)).filter (cov b)).length : Int))))) (φ := (· = .int ((R.filter (cov b)).length : Int))) (ψ := (· = .int (((R.filter (cov a)).filter (cov b)).length : Int))) (e_is (e_lenL rfl (e_flt (e_var rfl (kr.mono s12.ex)) (by omega) (fun _ => rfl) (fun _ => rfl) (fun _ => rfl) (kb.mono s12.ex) lb)) (by rw [List.length_map])) (e_is (e_lenL rfl (e_var rfl k2)) (by rw [List.length_map])) ?_) ?_) fun d e => ⟨_, e, rfl⟩) ?_) (fun hb => by cases hb) (fun _ G3 H3 s3 => ?_)
    · rintro _ _ rfl rfl; exact r_isB
    · rintro _ _ rfl rfl; exact r_eqI
    · rintro _ _ rfl rfl; exact r_neB
    · rw [f1, ci]
      generalize decide ((R.filter (cov b)).length = ((R.filter (cov a)).filter (cov b)).length) = z
      cases z <;> rfl
    have s13 := s12.trans s3
    refine q_when s3.pre (α := (· = false)) (b_test (φ := (· = .bool false)) (e_op (ψ := (· = .tuple [.bool true, .bool false])) (ccov rfl rfl s13.ex) (e_tup (a_two e_bl e_bl) fun _ e => by subst e; exact ⟨by simp, rfl⟩) fun d e h1 h2 => by subst h1; subst h2; exact r_inB) fun d e => ⟨_, e, rfl⟩) (fun hb => by cases hb) (fun _ G4 H4 s4 => ?_)
    have s14 := s13.trans s4
    refine q_asg s4.pre (cmab rfl rfl s14.ex) fun v5 d5 G5 H5 s5 k5 e5 => ?_
    subst e5
    have s15 := s14.trans s5
    have kboth := k2.mono ((s3.trans s4).trans s5).ex
    have kmine := k1.mono (((s2.trans s3).trans s4).trans s5).ex
    refine q_when s5.pre (α := (· = (meet a b).isNone)) (b_is (b_or (b_test (φ := (· = .bool (meet a b).isNone)) (e_op (ψ := (· = .none)) (e_var rfl k5) e_non fun d e h1 h2 => by subst h1; subst h2; exact r_isN) fun d e => ⟨_, e, rfl⟩) fun _ => b_test (φ := (· = .bool (meet a b).isNone)) (e_op (ψ := (· = .none)) (cmba rfl rfl s15.ex) e_non fun d e h1 h2 => by subst h1; subst h2; exact r_isN) fun d e => ⟨_, e, rfl⟩) (by cases (meet a b).isNone <;> rfl)) (fun hb G6 H6 s6 => ?_) (fun hb G6 H6 s6 => ?_)
    · have hn : meet a b = none := by
        cases h : meet a b with
        | none => rfl
        | some r => rw [h] at hb; cases hb
      have hbo := f2 hn
      have s16 := s15.trans s6
      refine s_ret s6.pre (e_and (b := true) (c := true) (e_op (φ := (· = .list (([] : List Row).map encR))) (ψ := (· = .list (([] : List Row).map encR))) (by rw [hbo] at kboth; exact e_var rfl (kboth.mono s6.ex)) (e_lst a_nil fun _ e => by subst e; exact ⟨by simp, rfl⟩) fun d e h1 h2 => by
          subst h1; subst h2
          exact r_eqD (encRs_shaped []) (encRs_shaped []) (by rw [eqv_listR]; simp)) fun _ => e_and (b := true) (c := true) (e_is (e_isNm (e_var rfl (k5.mono s6.ex))) (by rw [hn]; rfl)) fun _ => e_is (e_isNm (cmba rfl rfl s16.ex)) (by rw [hn]; rfl)) fun v d G7 H7 s7 k7 e => q v G7 H7 (s16.trans s7) (by subst e; exact k7)
    · obtain ⟨r, hr⟩ : ∃ r, meet a b = some r := by
        cases h : meet a b with
        | none => rw [h] at hb; cases hb
        | some r => exact ⟨r, rfl⟩
      have e3 := f3 r hr
      have e3n := f3n r hr
      have e4 := f4 r hr
      have hp := fp r hr
      obtain ⟨i, hi, t1, t2, t3, t4⟩ := hp.tab g
      rw [hr] at k5
      have s16 := s15.trans s6
      have k5 : Da G5 v5 (encR r) := k5
      refine q_when s6.pre (α := (· = false)) (b_is (b := false || false) (b_or (b_is (b_not (b := true) (b_B (φ := (· = .bool true)) (e_call (a_two (e_var rfl (k5.mono s6.ex)) (e_var rfl (kt.mono s16.ex))) fun ds e => ⟨_, ⟨r, ws, e, hp.1, hp.2.1, by omega, rfl⟩, by rw [decide_eq_true hp.2.2.1]⟩) fun d e => ⟨_, e, rfl⟩)) rfl) fun _ => b_is (b_test (φ := (· = .bool (!decide (r = r)))) (e_op (φ := (· = encR r)) (ψ := (· = encR r)) (e_is (cmba rfl rfl s16.ex) (by rw [hr]; rfl)) (e_var rfl (k5.mono s6.ex)) fun d e h1 h2 => by
          subst h1; subst h2
          exact r_neD (encR_shaped r) (encR_shaped r) (eqv_row r r)) fun d e => ⟨_, e, rfl⟩) (by simp)) rfl) (fun hb => by cases hb) (fun _ G7 H7 s7 => ?_)
      have s17 := s16.trans s7
      have s67 := s6.trans s7
      have lr := lrow r hp
      refine q_when s7.pre (α := (· = false)) (b_is (b := false || false) (b_or (b_is (b_test (φ := (· = .bool (!decide ((R.filter (cov r)) = ((R.filter (cov a)).filter (cov b)))))) (e_op (e_flt (e_var rfl (kr.mono s17.ex)) (by omega) (fun _ => rfl) (fun _ => rfl) (fun _ => rfl) (k5.mono s67.ex) lr) (e_var rfl (kboth.mono s67.ex)) fun d e h1 h2 => by
          subst h1; subst h2
          exact r_neD (encRs_shaped _) (encRs_shaped _) (eqv_listR _ _)) fun d e => ⟨_, e, rfl⟩) (by rw [e3]; simp)) fun _ => b_is (b_test (φ := (· = .bool (decide (((R.filter (cov a)).filter (cov b)) = [])))) (e_op (ψ := (· = .list (([] : List Row).map encR))) (e_var rfl (kboth.mono s67.ex)) (e_lst a_nil fun _ e => by subst e; exact ⟨by simp, rfl⟩) fun d e h1 h2 => by
          subst h1; subst h2
          exact r_eqD (encRs_shaped _) (encRs_shaped []) (eqv_listR _ _)) fun d e => ⟨_, e, rfl⟩) (decide_eq_false e3n)) rfl) (fun hb => by cases hb) (fun _ G8 H8 s8 => ?_)
      have s18 := s17.trans s8
      have s68 := s67.trans s8
      refine q_when s8.pre (α := (· = false)) (b_is (b_test (φ := (· = .bool (!decide ((R.filter (cov r)) = ((R.filter (cov a)).filter (cov b)))))) (e_op (e_flt2 (e_var rfl (kr.mono s18.ex)) (by omega) (fun _ => rfl) (fun _ => rfl) (fun _ => rfl) (k5.mono s68.ex) lr) (e_var rfl (kboth.mono s68.ex)) fun d e h1 h2 => by
          subst h1; subst h2
          exact r_neD (encRs_shaped _) (encRs_shaped _) (eqv_listR _ _)) fun d e => ⟨_, e, rfl⟩) (by rw [e3]; simp)) (fun hb => by cases hb) (fun _ G9 H9 s9 => ?_)
      have s19 := s18.trans s9
      have s69 := s68.trans s9
      refine s_ret s9.pre (φ := (· = .bool (decide (decide (r = a) = decide (((R.filter (cov a)).length : Int) = (((R.filter (cov a)).filter (cov b)).length : Int)))))) (e_op (e_op (χ := (· = .bool (decide (r = a)))) (e_var rfl (k5.mono s69.ex)) (e_var rfl (ka.mono s19.ex)) ?_) (e_op (χ := (· = .bool (decide (((R.filter (cov a)).length : Int) = (((R.filter (cov a)).filter (cov b)).length : Int))))) (φ := (· = .int ((R.filter (cov a)).length : Int))) (ψ := (· = .int (((R.filter (cov a)).filter (cov b)).length : Int))) (e_is (e_lenL rfl (e_var rfl (kmine.mono s69.ex))) (by rw [List.length_map])) (e_is (e_lenL rfl (e_var rfl (kboth.mono s69.ex))) (by rw [List.length_map])) ?_) ?_) fun v d G10 H10 s10 k10 e => q v G10 H10 (s19.trans s10) ?_
      · rintro _ _ rfl rfl
        exact r_eqD (encR_shaped _) (encR_shaped _) (eqv_row _ _)
      · rintro _ _ rfl rfl; exact r_eqI
      · rintro _ _ rfl rfl; exact r_eqB
      · subst e
        rw [e4, ci, decide_eq_true rfl] at k10
        exact k10
end
end K0

namespace K0
open PySem PySem.Spec PyProof.Rows L2 Dv
open Evl (Ex)
section
variable {P : Program} {w : World} {K : PySem.W.Frag} {mg : Str → Option Value} {base : Heap}
def spLaw (K : PySem.W.Frag) : Sp := fun vs H Q _ => ∃ (a : Addr) (ns : List Int), vs = [.ref a] ∧ SqL K H a (ns.map V.int) ∧ ns.length ≤ 63 ∧ ∀ H', Q (.bl true) H'
theorem ok_law {f : Addr} {fd : FuncData} (F : Fun K "law" "law" s_law f fd) {tk : Tok} (mS : mg "STAR" = some (.int (-1) tk)) (mL : mg "len" = none) (mR : mg "range" = none) (mA : mg "all" = none) (mT : mg "tuple" = none) (mLi : mg "list" = none) (mI : mg "isinstance" = none) (cSo : Ca P w K mg base "_law_source" 1 p__law_source (spSource K)) (cTk : Ca P w K mg base "_law_take" 1 p__law_take (spG RTake)) (cTa : Ca P w K mg base "_law_tables" 3 p__law_tables (spG RTables)) (cPo : Ca P w K mg base "_law_pool" 3 p__law_pool (spG RPool)) (cDr : Ca P w K mg base "_law_drawn_pattern" 3 p__law_drawn_pattern (spG RDrawn)) (cOv : Ca P w K mg base "_law_rows_over" 3 p__law_rows_over (spF ROver)) (cPa : Ca P w K mg base "_law_pair_holds" 2 p__law_pair_holds (spF RPair)) (cPi : Ca P w K mg base "_law_pick" 2 p__law_pick (spG RPick)) (cMx : Ca P w K mg base "_law_mixed" 2 p__law_mixed (spG RMixed)) (cRo : Ca P w K mg base "rows_of" 2 p_rows_of (spF RRows)) (cAl : Ca P w K mg base "all_rows" 3 p_all_rows (spF RAll)) (cLc : Ca P w K mg base "_law_covers" 1 p__law_covers (spF RLCov)) : FnOk P w K mg base CX0 4 f fd p_law (spLaw K) := by
  obtain ⟨fSo, fdSo, gSo, kpSo, bSo, FSo⟩ := cSo
  obtain ⟨fTk, fdTk, gTk, kpTk, bTk, FTk⟩ := cTk
  obtain ⟨fTa, fdTa, gTa, kpTa, bTa, FTa⟩ := cTa
  obtain ⟨fPo, fdPo, gPo, kpPo, bPo, FPo⟩ := cPo
  obtain ⟨fDr, fdDr, gDr, kpDr, bDr, FDr⟩ := cDr
  obtain ⟨fOv, fdOv, gOv, kpOv, bOv, FOv⟩ := cOv
  obtain ⟨fPa, fdPa, gPa, kpPa, bPa, FPa⟩ := cPa
  obtain ⟨fPi, fdPi, gPi, kpPi, bPi, FPi⟩ := cPi
  obtain ⟨fMx, fdMx, gMx, kpMx, bMx, FMx⟩ := cMx
  obtain ⟨fRo, fdRo, gRo, kpRo, bRo, FRo⟩ := cRo
  obtain ⟨fAl, fdAl, gAl, kpAl, bAl, FAl⟩ := cAl
  obtain ⟨fLc, fdLc, gLc, kpLc, bLc, FLc⟩ := cLc
  refine F.ok sc_law (fun vs H Q E h => ?_) (fun cdv A outer s H vs Q E hr h => ?_)
  · obtain ⟨a, ns, rfl, _⟩ := h
    rfl
  · obtain ⟨sa, ns, rfl, hS, hlen, q⟩ := h
    refine ⟨_, (pss_cons (ps_set (i := 1) sc_law.nd rfl (.inl rfl) (pe_call FSo (hr.mono (by decide)) (by rfl) gSo kpSo bSo .nil pass0 (pa_cons (pv 0) pa_nil)))
      (pss_cons (ps_set (i := 2) sc_law.nd rfl (.inl rfl) (pe_call FTa hr (by rfl) gTa kpTa bTa .nil pass0 (pa_cons (pv 1) pa_nil)))
      (pss_cons (ps_set (i := 3) sc_law.nd rfl (.inl rfl) (pe_call FPo hr (by rfl) gPo kpPo bPo .nil pass0 (pa_cons (pv 1) (pa_cons (pe_op op_add pe_int (pe_call FTk (hr.mono (by decide)) (by rfl) gTk kpTk bTk .nil pass0 (pa_cons (pv 1) (pa_cons pe_int pa_nil)))) pa_nil))))
      (pss_cons (ps_set (i := 4) sc_law.nd rfl (.inr rfl) (pe_call FDr hr (by rfl) gDr kpDr bDr .nil pass0 (pa_cons (pv 1) (pa_cons (pv 2) (pa_cons (pv 3) (pa_cons (pe_un un_neg pe_int) pa_nil))))))
      (pss_cons (ps_set (i := 5) sc_law.nd rfl (.inl rfl) (pe_call FDr hr (by rfl) gDr kpDr bDr .nil pass0 (pa_cons (pv 1) (pa_cons (pv 2) (pa_cons (pv 3) (pa_cons (pe_ix ix_tup (pv 4) pe_int (fun _ _ => rfl)) pa_nil))))))
      (pss_cons (ps_set (i := 6) sc_law.nd rfl (.inl rfl) (pe_call FOv hr (by rfl) gOv kpOv bOv .nil pass0 (pa_cons (pv 2) (pa_cons (pe_op op_cat (pv 3) (pe_lst (pa_cons (pe_op op_add (pe_ix ix_list (pv 3) (pe_op op_sub (pe_callB call_len_seq (by rfl) mL PySem.boot_len (pa_cons (pv 3) pa_nil)) pe_int) (fun _ _ => rfl)) pe_int) pa_nil))) pa_nil))))
      (pss_cons (ps_if (PW.pt (pw_or (pt_cmpR op_ne (pe_glob (v := .int (-1)) (by rfl) mS ⟨_, rfl⟩) (pe_un un_neg pe_int) (nomark _)) (pw_or (pt_not (pt_val (pe_call FPa (hr.mono (by decide)) (by rfl) gPa kpPa bPa .nil pass0 (pa_cons (pv 2) (pa_cons (pv 6) (pa_cons (pv 4) (pa_cons (pv 5) pa_nil))))))) (pw_or1 (pt_not (pt_val (pe_call FPa (hr.mono (by decide)) (by rfl) gPa kpPa bPa .nil pass0 (pa_cons (pv 2) (pa_cons (pv 6) (pa_cons (pv 5) (pa_cons (pv 4) pa_nil))))))))))) (pss_one (ps_ret pe_bl)) pss_nil)
      (pss_cons (ps_set (i := 7) sc_law.nd rfl (.inr rfl) (pe_slice sl_list (pe_call FMx (hr.mono (by decide)) (by rfl) gMx kpMx bMx .nil pass0 (pa_cons (pv 1) (pa_cons (pe_op op_cat (pv 3) (pe_lst (pa_cons (pe_call FPi (hr.mono (by decide)) (by rfl) gPi kpPi bPi .nil pass0 (pa_cons (pv 1) (pa_cons (pv 3) pa_nil))) pa_nil))) pa_nil))) po_none (po_some (pe_call FTk (hr.mono (by decide)) (by rfl) gTk kpTk bTk .nil pass0 (pa_cons (pv 1) (pa_cons (pe_op op_add (pe_callB call_len_seq (by rfl) mL PySem.boot_len (pa_cons (pv 3) pa_nil)) pe_int) pa_nil))))))
      (pss_cons (ps_set (i := 8) sc_law.nd rfl (.inl rfl) (pe_callTy call_list_of (by rfl) mLi (by decide +kernel) (pa_cons (pv 7) pa_nil)))
      (pss_cons (ps_set (i := 9) sc_law.nd rfl (.inl rfl) (pe_call FRo (hr.mono (by decide)) (by rfl) gRo kpRo bRo .nil pass0 (pa_cons (pv 4) (pa_cons (pv 8) pa_nil))))
      (pss_cons (ps_set (i := 10) sc_law.nd rfl (.inl rfl) (pe_lst pa_nil))
      (pss_cons (ps_for PassesOwn.never rfl (pi_list (pv 6)) (pg_name (i := 11) sc_law.nd rfl (.inr rfl)) (pss_one (ps_if (PW.pt (pw_and (pt_val (pe_call FLc (hr.mono (by decide)) (by rfl) gLc kpLc bLc .nil pass0 (pa_cons (pv 4) (pa_cons (pv 11) pa_nil)))) (pw_and1 (pt_val (pe_callB (cr_all (by rfl)) (by rfl) mA (by decide +kernel) (pa_cons (pe_lc (own := [("_law_k", 13)]) (g := gName 13) (tt := tYes) (te := tOrV (tOp (rI0 fun i j => .bl (decide (j ≤ i))) (tOp (rIxT K) (tOp (rIxT K) (tVar 4) (tC (.int 1))) (tVar 13)) (tC (.int 0))) (tOp (rIn K false) (tOp (rIxT K) (tOp (rIxT K) (tVar 11) (tC (.int 1))) (tVar 13)) (tVar 7))) (by rfl) sc_law.nd (pi_range1 (by rfl) mR (pa_cons (pe_callB call_len_seq (by rfl) mL PySem.boot_len (pa_cons (pe_ix ix_tup (pv 11) pe_int (fun _ _ => rfl)) pa_nil)) pa_nil)) (blkOk_by (N := n_law) (sc := defScope s_law) (by decide +kernel)) (fun _ _ _ _ _ => pg_name (i := 13) sc_law.nd rfl (.inl rfl)) (fun _ _ _ _ _ => pts_nil) (fun _ _ _ _ _ => pe_or (pe_cmpR op_ge (pe_ix ix_tup (pe_ix ix_tup (pv 4) pe_int (fun _ _ => rfl)) (pv 13) (fun _ _ => rfl)) pe_int (nomark _)) (pe_one (pe_cmpR op_in_seq (pe_ix ix_tup (pe_ix ix_tup (pv 11) pe_int (fun _ _ => rfl)) (pv 13) (fun _ _ => rfl)) (pv 7) (by rfl))))) pa_nil)))))) (pss_one (ps_expr (pe_bm PySem.F.plainAttrs_list PySem.F.slot_list_append PySem.F.type_list_append mt_append (pv 10) (pa_cons (pv 11) pa_nil)))) pss_nil)))
      (pss_cons (ps_if (PW.pt (pw_or (pt_cmpR (op_neD hr.units) (pv 9) (pe_callTy call_tuple_of (by rfl) mT (by decide +kernel) (pa_cons (pv 10) pa_nil)) (nomark _)) (pw_or1 (pt_not (pt_val (pe_callB call_isi (by rfl) mI (by decide +kernel) (pa_cons (pv 9) (pa_cons (pe_bltn (v := .ty "tuple") (by rfl) mT (by decide +kernel) rfl) pa_nil)))))))) (pss_one (ps_ret pe_bl)) pss_nil)
      (pss_cons (ps_set (i := 12) sc_law.nd rfl (.inl rfl) (pe_call FAl hr (by rfl) gAl kpAl bAl .nil pass0 (pa_cons (pe_callTy call_list_of (by rfl) mLi (by decide +kernel) (pa_cons (pv 2) pa_nil)) (pa_cons (pv 8) pa_nil))))
      (pss_one (ps_ret (pe_and (pe_cmpR (op_eqD hr.units) (pv 12) (pe_callTy call_tuple_of (by rfl) mT (by decide +kernel) (pa_cons (pe_lc (own := [("_law_row", 11)]) (g := gName 11) (tt := tB (tCB (rAll K) (tCons (tLc (iTup K (tOp (rIxT K) (tVar 11) (tC (.int 1)))) (gName 14) tYes (tOp (rIn K false) (tVar 14) (tVar 7)) [14]) tNil))) (te := tVar 11) (by rfl) sc_law.nd (pi_list (pv 6)) (blkOk_by (N := n_law) (sc := defScope s_law) (by decide +kernel)) (fun _ _ _ _ _ => pg_name (i := 11) sc_law.nd rfl (.inl rfl)) (fun _ _ _ _ _ => pts_one (pt_val (pe_callB (cr_all (by rfl)) (by rfl) mA (by decide +kernel) (pa_cons (pe_lc (own := [("_law_worth", 14)]) (g := gName 14) (tt := tYes) (te := tOp (rIn K false) (tVar 14) (tVar 7)) (by rfl) sc_law.nd (pi_tup (pe_ix ix_tup (pv 11) pe_int (fun _ _ => rfl))) (blkOk_by (N := n_law) (sc := { kind := .function, names := [(PySem.Str.ofString ".0", .local), (PySem.Str.ofString "_law_row", .local), (PySem.Str.ofString "all", .globalImplicit), (PySem.Str.ofString "_law_few", .cell)], isGenerator := false, isCoroutine := false }) (by decide +kernel)) (fun _ _ _ _ _ => pg_name (i := 14) sc_law.nd rfl (.inl rfl)) (fun _ _ _ _ _ => pts_nil) (fun _ _ _ _ _ => pe_cmpR op_in_seq (pv 14) (pv 7) (by rfl))) pa_nil)))) (fun _ _ _ _ _ => pv 11)) pa_nil)) (nomark _)) (pe_one (pe_cmpR (op_eqD hr.units) (pv 8) (pv 7) (nomark _)))))))))))))))))))), ?_⟩
    refine ⟨_, rfl, sa, ns, rfl, hS, fun S C H1 ex1 hS0 hC0 sat => ?_⟩
    have P0 : Pre (some (S, C)) (fun _ => none) H1 := ⟨fun a o e => (nomatch e), fun S' C' e => by
      cases e
      exact ⟨rfl, ns, 0, 0, 1, sat.hS, sat.ne, sat.hC, hlen, by decide, by decide, by decide, by decide⟩⟩
    have neg1 : ∀ {T : Tw} {σ : L2.St} {G : Hp}, EvP T (tUn (rU fun i => V.int (-i)) (tC (.int 1))) σ G (· = .int (-1)) := fun {T σ G} => e_un (φ := (· = .int 1)) e_int fun d e => by subst e; exact r_neg
    refine q_asg P0 (φ := fun d => ∃ ws : List Int, d = .tuple (encI ws) ∧ 0 < ws.length ∧ ws.length ≤ 3 ∧ ∀ w ∈ ws, 1 ≤ w ∧ w ≤ 3) (e_callG (i := 1) rfl a_nil fun ds e => ⟨_, ⟨e, rfl⟩, fun d h => h⟩) fun v2 d2 G2 H2 s2 k2 ⟨ws, e2, hw0, hw3, hww⟩ => ?_
    subst e2
    refine q_asg s2.pre (φ := fun d => ∃ ps : List Int, d = .list (encI ps) ∧ 1 ≤ ps.length ∧ ps.length ≤ 4 ∧ Asc ps ∧ ∀ x ∈ ps, 0 ≤ x) (e_callG (i := 1) rfl (a_cons (φ := fun d => ∃ m : Int, d = .int m ∧ 1 ≤ m ∧ m ≤ 4) (e_op (φ := (· = .int 1)) e_int (e_take rfl rfl e_int (by decide) (by decide)) ?_) a_nil (ζ := fun ds => ∃ m : Int, ds = [.int m] ∧ 1 ≤ m ∧ m ≤ 4) ?_) fun ds ⟨m, e, m1, m4⟩ => ⟨_, ⟨m, e, m1, by omega, rfl⟩, fun d ⟨ps, e1, e2, e3, e4⟩ => ⟨ps, e1, by omega, by omega, e3, e4⟩⟩) fun v3 d3 G3 H3 s3 k3 ⟨ps, e3, hp1, hp4, hasc, hnn⟩ => ?_
    · rintro _ _ rfl ⟨j, rfl, j0, j1⟩
      intro x y G H hx hy p Q q
      exact r_I0 (k := 1 + j) rfl x y G H hx hy p Q fun v d' G2 H2 s kd e => q v d' G2 H2 s kd ⟨_, e, by omega, by omega⟩
    · rintro _ _ ⟨m, rfl, h⟩ rfl; exact ⟨m, rfl, h⟩
    subst e3
    have g : Good ws ps := ⟨hw0, hw3, hww, fun e => by subst e; simp at hp1, by omega, hasc, hnn⟩
    have s13 := s2.trans s3
    have kt := k2.mono s3.ex
    refine q_asg s3.pre (φ := fun d => ∃ a : Row, d = encR a ∧ IsPat ws ps a) (e_callG (i := 1) rfl (a_cons1 (e_var rfl kt) (a_cons1 (e_var rfl k3) (a_one neg1))) fun ds e => ⟨_, ⟨ws, ps, -1, e, hw0, hw3, hww, by omega, by omega, rfl⟩, fun d h => h⟩) fun v4 d4 G4 H4 s4 k4 ⟨a, e4, pa⟩ => ?_
    subst e4
    have s14 := s13.trans s4
    have kt4 := kt.mono s4.ex
    have kp4 := k3.mono s4.ex
    refine q_asg s4.pre (φ := fun d => ∃ a : Row, d = encR a ∧ IsPat ws ps a) (e_callG (i := 1) rfl (a_cons1 (e_var rfl kt4) (a_cons1 (e_var rfl kp4) (a_one (e_ixT (j := 0) (e_var rfl k4) e_int rfl rfl)))) fun ds e => ⟨_, ⟨ws, ps, a.1, e, hw0, hw3, hww, by omega, pa.2.1, rfl⟩, fun d h => h⟩) fun v5 d5 G5 H5 s5 k5 ⟨b, e5, pb⟩ => ?_
    subst e5
    have s15 := s14.trans s5
    have kt5 := kt4.mono s5.ex
    have kp5 := kp4.mono s5.ex
    have ka5 := k4.mono s5.ex
    have hu6 := g.univ_len
    refine q_asg s5.pre (φ := (· = .list ((allRows ws (univ ps)).map encR))) (e_call (a_two (e_var rfl kt5) (e_op (χ := (· = .list (encI (univ ps)))) (φ := (· = .list (encI ps))) (ψ := (· = .list (encI [top ps]))) (e_var rfl kp5) (e_lst (a_one (e_op (χ := (· = .int (top ps))) (φ := (· = .int (ps.getLast?.getD 0))) (ψ := (· = .int 1)) (e_ixL (j := ps.length - 1) (i := (ps.length : Int) - 1) (e_var rfl kp5) (e_op (φ := (· = .int (ps.length : Int))) (ψ := (· = .int 1)) (e_is (e_lenL rfl (e_var rfl kp5)) (by rw [List.length_map])) e_int ?_) (by omega) ?_) e_int ?_)) ?_) ?_)) fun ds e => ⟨_, ⟨ws, univ ps, e, hw3, hww, by omega, rfl⟩, rfl⟩) fun v6 d6 G6 H6 s6 k6 e6 => ?_
    · rintro _ _ rfl rfl; exact r_I0 rfl
    · rw [List.getElem?_map, List.getLast?_eq_getElem?, List.getElem?_eq_getElem (show ps.length - 1 < ps.length by omega)]; rfl
    · rintro _ _ rfl rfl; exact r_I0 rfl
    · rintro _ rfl; exact ⟨by simp, rfl⟩
    · rintro _ _ rfl rfl
      have := r_catL (T := some (S, C)) (ds := encI ps) (es := encI [top ps]) (by simp only [List.length_map, List.length_cons, List.length_nil]; omega)
      rw [← List.map_append] at this
      exact this
    subst e6
    have s16 := s15.trans s6
    have kt6 := kt5.mono s6.ex
    have kp6 := kp5.mono s6.ex
    have ka6 := ka5.mono s6.ex
    have kb6 := k5.mono s6.ex
    refine q_when s6.pre (α := (· = false)) (b_is (b := false || (false || false)) (b_or (b_is (b_neI (i := -1) (j := -1) e_int neg1) (by decide)) fun _ => b_or (b_is (b_not (b := true) (b_B (φ := (· = .bool true)) (e_call (a_cons1 (e_var rfl kt6) (a_cons1 (e_var rfl k6) (a_two (e_var rfl ka6) (e_var rfl kb6)))) fun ds e => ⟨_, ⟨ws, ps, a, b, e, g, pa, pb, rfl⟩, rfl⟩) fun d e => ⟨_, e, rfl⟩)) rfl)
        fun _ => b_is (b_not (b := true) (b_B (φ := (· = .bool true)) (e_call (a_cons1 (e_var rfl kt6) (a_cons1 (e_var rfl k6) (a_two (e_var rfl kb6) (e_var rfl ka6)))) fun ds e => ⟨_, ⟨ws, ps, b, a, e, g, pb, pa, rfl⟩, rfl⟩) fun d e => ⟨_, e, rfl⟩)) rfl) rfl) (fun hb => by cases hb) (fun _ G7 H7 s7 => ?_)
    have s17 := s16.trans s7
    have kt7 := kt6.mono s7.ex
    have kp7 := kp6.mono s7.ex
    have ka7 := ka6.mono s7.ex
    have kr7 := k6.mono s7.ex
    have toI : ∀ ys : List PyData, (∀ y ∈ ys, y ∈ encI ps) → ∃ fs : List Int, ys = encI fs ∧ ∀ x ∈ fs, x ∈ ps := fun ys => by
      induction ys with
      | nil => intro _; exact ⟨[], rfl, by simp⟩
      | cons y ys ih =>
        intro h
        obtain ⟨fs, e, hf⟩ := ih fun z hz => h z (by simp [hz])
        obtain ⟨x, hx, e2⟩ := List.mem_map.mp (h y (by simp))
        refine ⟨x :: fs, by rw [e, ← e2]; rfl, fun z hz => ?_⟩
        rcases List.mem_cons.mp hz with rfl | hz
        · exact hx
        · exact hf z hz
    refine q_asg s7.pre (φ := fun d => ∃ fs : List Int, d = .list (encI fs) ∧ fs.length ≤ 6 ∧ ∀ x ∈ fs, x ∈ ps) (e_slHead (ds := []) (n := fun _ => True) (φ := fun d => ∃ ys : List PyData, d = .list ys ∧ ys.length ≤ 5 ∧ ∀ y ∈ ys, y ∈ encI ps)
        (e_callG (i := 1) rfl (a_cons (φ := fun d => ∃ y : PyData, y ∈ encI ps ∧ d = .list (encI ps ++ [y])) (e_op (φ := (· = .list (encI ps))) (ψ := fun d => ∃ y : PyData, y ∈ encI ps ∧ d = .list [y]) (e_var rfl kp7) (e_lst (ξ := fun ds => ∃ y : PyData, y ∈ encI ps ∧ ds = [y]) (a_cons (φ := fun y => y ∈ encI ps) (e_pick (i := 1) (φ := (· = .list (encI ps))) rfl rfl (e_var rfl kp7) ?_) a_nil ?_) ?_) ?_) a_nil (ζ := fun ds => ∃ y : PyData, y ∈ encI ps ∧ ds = [.list (encI ps ++ [y])]) ?_) fun ds ⟨y, hy, e⟩ => ⟨_, ⟨_, e, ?_, rfl⟩, fun d ⟨ys, e1, e2, e3⟩ => ⟨ys, e1, ?_, fun z hz => ?_⟩⟩)
        o_none (o_some (φ := fun d => ∃ k : Int, d = .int k ∧ 0 ≤ k ∧ k < (ps.length : Int) + 2) (e_take (i := 1) rfl rfl (e_op (φ := (· = .int (ps.length : Int))) (ψ := (· = .int 2)) (e_is (e_lenL rfl (e_var rfl kp7)) (by rw [List.length_map])) e_int ?_) (by omega) (by omega)) ?_) ?_) fun v7 d7 G8 H8 s8 k7 ⟨fs, e7, hf6, hfp⟩ => ?_
    · rintro _ rfl
      exact ⟨_, rfl, by simp only [List.length_map]; omega, by simp only [List.length_map]; omega, fun x hx => hx⟩
    · rintro d _ hd rfl; exact ⟨d, hd, rfl⟩
    · rintro _ ⟨y, hy, rfl⟩; exact ⟨by simp, y, hy, rfl⟩
    · rintro _ _ rfl ⟨y, hy, rfl⟩
      intro x y' G H hx hy' p Q q
      exact r_catL (by simp only [List.length_map, List.length_cons, List.length_nil]; omega) x y' G H hx hy' p Q fun v d' G2 H2 s kd e => q v d' G2 H2 s kd ⟨y, hy, e⟩
    · rintro _ _ ⟨y, hy, rfl⟩ rfl; exact ⟨y, hy, rfl⟩
    · simp only [List.length_append, List.length_map, List.length_cons, List.length_nil]; omega
    · rw [e2]; simp only [List.length_append, List.length_map, List.length_cons, List.length_nil]; omega
    · rcases List.mem_append.mp (e3 z hz) with h | h
      · exact h
      · rw [List.mem_singleton.mp h]; exact hy
    · rintro _ _ rfl rfl; exact r_I0 rfl
    · rintro _ ⟨k, rfl, k0, k1⟩
      exact ⟨k, rfl, k.toNat, by rw [Int.toNat_of_nonneg k0], trivial⟩
    · rintro _ ⟨ys, rfl, hl, hy⟩
      refine ⟨ys, rfl, fun m _ => ?_⟩
      obtain ⟨fs, e, hf⟩ := toI (ys.take m) fun y h => hy y (List.take_subset m ys h)
      refine ⟨fs, by rw [e], ?_, hf⟩
      have := congrArg List.length e
      rw [List.length_map, List.length_take] at this
      omega
    subst e7
    have s18 := s17.trans s8
    have kt8 := kt7.mono s8.ex
    have ka8 := ka7.mono s8.ex
    have kr8 := kr7.mono s8.ex
    refine q_asg s8.pre (φ := (· = .list (encI fs))) (e_cb (a_one (e_var rfl k7)) fun ds e => by subst e; exact c_list (.inl rfl)) fun v8 d8 G9 H9 s9 k8 e8 => ?_
    subst e8
    have s19 := s18.trans s9
    have kt9 := kt8.mono s9.ex
    have ka9 := ka8.mono s9.ex
    have kr9 := kr8.mono s9.ex
    have kf9 := k7.mono s9.ex
    have hasc : Asc ((univ ps).filter fun x => decide (x ∈ fs)) := List.Pairwise.filter _ g.univ_asc
    have hmem : ∀ x, x ∈ ((univ ps).filter fun x => decide (x ∈ fs)) ↔ x ∈ fs := fun x => by
      rw [List.mem_filter, decide_eq_true_eq]
      refine ⟨fun h => h.2, fun h => ⟨?_, h⟩⟩
      unfold univ
      simp [hfp x h]
    have hms : ((univ ps).filter fun x => decide (x ∈ fs)).length ≤ 12 := by
      have := List.length_filter_le (fun x => decide (x ∈ fs)) (univ ps)
      omega
    have f5 := fact5 (fs := fs) g pa
    have f6 := fact6 ws (univ ps) fs
    have hR := rows_len g
    have la : ∀ r ∈ allRows ws (univ ps), (a.1 = r.1 → a.2.length = r.2.length) ∧ r.2.length ≤ 3 := fun r hr => ⟨row_len g pa hr, row_len3 g hr⟩
    have l3a := pa.len3 g
    refine q_asg s9.pre (φ := (· = .tuple (((allRows ws (univ ps)).filter fun r => cov a r && ((List.range r.2.length).map fun k => decide (0 ≤ a.2[k]?.getD 0) || decide (r.2[k]?.getD 0 ∈ fs)).all id).map encR))) (e_call (a_two (e_var rfl ka9) (e_var rfl k8)) fun ds e => ⟨_, ⟨a, fs, _, e, by omega, hasc, hmem, l3a, hms, rfl⟩, by rw [← f5, List.map_map]; rfl⟩) fun v9 d9 G10 H10 s10 k9 e9 => ?_
    subst e9
    have s1a := s19.trans s10
    have kt10 := kt9.mono s10.ex
    have ka10 := ka9.mono s10.ex
    have kr10 := kr9.mono s10.ex
    have kf10 := kf9.mono s10.ex
    have kh10 := k8.mono s10.ex
    generalize hRe : allRows ws (univ ps) = R at *
    generalize hPe : (fun r : Row => cov a r && ((List.range r.2.length).map fun k => decide (0 ≤ a.2[k]?.getD 0) || decide (r.2[k]?.getD 0 ∈ fs)).all id) = Pf at *
    refine q_new P0 s1a fun l H11 hl0 s1b keep _ ap => ?_
    refine q_forN (b := true) (ds := R.map encR) s1b.pre (e_var rfl kr10) (fun G' H' => Stp (some (S, C)) (fun _ => none) H1 G' H') (fun i σ' G' H' => ∃ x11, σ' = [some (.ref sa), some (.ref S), some v2, some v3, some v4, some v5, some v6, some v7, some v8, some v9, some (.ref l), x11, none, none, none] ∧ Ap l (((R.take i).filter Pf).map encR) G' H')
      (fun G12 H12 s12 => ⟨s1b.trans s12, none, rfl, by simpa using ap.stp P0 hl0 s12⟩) (fun G' H' s => s.pre.1) ?_ ?_
    · rintro i d x σ' G12 H12 e12 s12 hd kx ⟨x11, rfl, ap12⟩
      obtain ⟨r, hr, rfl⟩ := map_get hd
      have hrR := List.mem_of_getElem? hr
      have hrl := la r hrR
      have hlen2 : ((R.take i).filter Pf).length ≤ 50000 := by
        have := List.length_filter_le Pf (R.take i)
        rw [List.length_take] at this
        omega
      have et : (R.take (i + 1)).filter Pf = (R.take i).filter Pf ++ if Pf r = true then [r] else [] := by
        rw [List.take_add_one, hr, List.filter_append]
        show _ ++ List.filter Pf [r] = _
        rw [List.filter_cons]
        by_cases z : Pf r = true
        · rw [if_pos z, if_pos z]; rfl
        · rw [if_neg z, if_neg z]; rfl
      refine s_when s12.pre (α := (· = Pf r)) (b_is (b_and (b := cov a r) (c := ((List.range r.2.length).map fun k => decide (0 ≤ a.2[k]?.getD 0) || decide (r.2[k]?.getD 0 ∈ fs)).all id) (b_B (φ := (· = .bool (cov a r))) (e_call (a_two (e_var rfl (ka10.mono e12)) (e_var rfl kx)) fun ds e => ⟨_, ⟨a, r, e, hrl.1, by omega, rfl⟩, rfl⟩) fun d e => ⟨_, e, rfl⟩) fun hc => b_B (φ := (· = .bool _)) (e_all rfl (e_is (e_lcRM (n := r.2.length) (fun k => .bool (decide (0 ≤ a.2[k]?.getD 0) || decide (r.2[k]?.getD 0 ∈ fs))) (a_one (e_is (e_lenT (ds := encI r.2) rfl (e_ixT (j := 1) (e_var rfl kx) e_int rfl rfl)) (by rw [List.length_map]))) (by omega) (fun _ => rfl) fun k G13 hk e13 => ?_) (by rw [List.map_map]; rfl))) fun d e => ⟨_, e, rfl⟩) (by rw [← hPe])) (fun hb G13 H13 s13 => ?_) (fun hb G13 H13 s13 => ?_)
      · have hal : a.2.length = r.2.length := hrl.1 (by
          unfold cov at hc
          rw [Bool.and_eq_true, decide_eq_true_eq] at hc
          exact hc.1)
        have hia : a.2[k]? = some (a.2[k]?.getD 0) := by rw [List.getElem?_eq_getElem (by omega)]; rfl
        have hib : r.2[k]? = some (r.2[k]?.getD 0) := by rw [List.getElem?_eq_getElem hk]; rfl
        generalize a.2[k]?.getD 0 = xa at hia
        generalize r.2[k]?.getD 0 = xr at hib
        refine e_or (b := decide (0 ≤ xa)) (c := decide (xr ∈ fs)) (e_op (φ := (· = .int xa)) (ψ := (· = .int 0)) (e_ixT (ds := encI a.2) (j := k) (e_ixT (j := 1) (e_var rfl ((ka10.mono e12).mono e13)) e_int rfl rfl) (e_var rfl (.int _)) rfl (by rw [List.getElem?_map, hia]; rfl)) e_int fun d e h1 h2 => by subst h1; subst h2; exact r_I0b rfl)
          fun _ => e_op (φ := (· = .int xr)) (ψ := (· = .list (encI fs))) (e_ixT (ds := encI r.2) (j := k) (e_ixT (j := 1) (e_var rfl (kx.mono e13)) e_int rfl rfl) (e_var rfl (.int _)) rfl (by rw [List.getElem?_map, hib]; rfl)) (e_var rfl ((kf10.mono e12).mono e13)) fun d e h1 h2 => by subst h1; subst h2; exact r_in (neg := false) (.inl rfl)
      · refine s_app P0 (s12.trans s13) rfl hl0 (ap12.stp P0 hl0 s13) (by rw [List.length_map]; exact hlen2) (e_var rfl (kx.mono s13.ex)) fun d' G14 H14 e14 s14' a14 hd' => ⟨G14, s13.ex.trans e14, s14', _, rfl, ?_⟩
        subst hd'
        rw [et, if_pos hb.symm, List.map_append]
        exact a14
      · refine ⟨G13, s13.ex, s12.trans s13, _, rfl, ?_⟩
        rw [et, if_neg (by rw [← hb]; exact Bool.false_ne_true), List.append_nil]
        exact ap12.stp P0 hl0 s13
    · rintro σ' G12 H12 e12 s12 ⟨x11, rfl, ap12⟩
      rw [List.length_map, List.take_length] at ap12
      obtain ⟨G13, e13, s13', kd13⟩ := ap12.tell P0 s12 hl0
      have e1013 := e12.trans e13
      refine q_when s13'.pre (α := (· = false)) (b_is (b := false || false) (b_or (b_is (b_test (φ := (· = .bool (!decide (R.filter Pf = R.filter Pf)))) (e_op (e_var rfl (k9.mono e1013)) (ψ := (· = .tuple ((R.filter Pf).map encR))) (e_tupL (e_var rfl kd13) rfl) fun d e h1 h2 => by
          subst h1; subst h2
          exact r_neD (encRt_shaped _) (encRt_shaped _) (eqv_tupR _ _)) fun d e => ⟨_, e, rfl⟩) (by simp)) fun _ => b_is (b_not (b := true) (b_B (e_isi (A := "tuple") (b := true) (e_var rfl (k9.mono e1013)) rfl e_ty rfl (by decide +kernel)) fun d e => ⟨_, e, rfl⟩)) rfl) rfl) (fun hb => by cases hb) (fun _ G14 H14 s14' => ?_)
      have e1014 := e1013.trans s14'.ex
      refine q_asg s14'.pre (φ := (· = .tuple ((R.filter fun r => (r.2.map fun x => decide (x ∈ fs)).all id).map encR))) (e_call (a_two (e_cb (χ := (· = .list (encI ws))) (a_one (e_var rfl (kt10.mono e1014))) fun ds e => by subst e; exact c_list (.inr rfl)) (e_var rfl (kh10.mono e1014))) fun ds e => ⟨_, ⟨ws, fs, _, e, hw3, hww, by omega, hasc, hmem, hms, rfl⟩, by rw [f6]⟩) fun v12 d12 G15 H15 s15' k12 e12' => ?_
      subst e12'
      have e1015 := e1014.trans s15'.ex
      refine s_ret s15'.pre (e_and (b := true) (c := true) (e_op (e_var rfl k12) (ψ := (· = .tuple ((R.filter fun r => (r.2.map fun x => decide (x ∈ fs)).all id).map encR))) (e_tupL (e_lcT (b := true) encR R (fun r => (r.2.map fun x => decide (x ∈ fs)).all id) encR (e_var rfl (kr10.mono e1015)) (by omega) (fun _ => rfl) (fun r x G16 e16 hr kx => b_B (φ := (· = .bool ((r.2.map fun x => decide (x ∈ fs)).all id))) (e_all rfl (e_is (e_lcTM (b := false) PyData.int r.2 (fun x => .bool (decide (x ∈ fs))) (e_ixT (j := 1) (e_var rfl kx) e_int rfl rfl) (by have := la r hr; omega) (fun _ => rfl) fun c y G17 e17 hc ky => e_op (φ := (· = .int c)) (ψ := (· = .list (encI fs))) (e_var rfl ky) (e_var rfl (((kf10.mono e1015).mono e16).mono e17)) fun d e h1 h2 => by subst h1; subst h2; exact r_in (neg := false) (.inl rfl)) (by rw [List.map_map]; rfl))) fun d e => ⟨_, e, rfl⟩) fun r x G16 e16 hr kx _ => e_var rfl kx) rfl) fun d e h1 h2 => by
          subst h1; subst h2
          exact r_eqD (encRt_shaped _) (encRt_shaped _) (by rw [eqv_tupR]; simp)) fun _ => e_op (φ := (· = .list (encI fs))) (ψ := (· = .list (encI fs))) (e_var rfl (kh10.mono e1015)) (e_var rfl (kf10.mono e1015)) fun d e h1 h2 => by
          subst h1; subst h2
          exact r_eqD (encIs_shaped _) (encIs_shaped _) (by rw [eqv_listI]; simp)) fun v d G16 H16 s16' k16 e => ?_
      subst e
      cases k16.blV
      exact q H16
end
end K0

namespace K0
open PySem PySem.Spec PyProof.Rows L2 Dv
open Evl (Ex)
theorem txt_mk {K : PySem.W.Frag} {h : Heap} {mg : Str → Option Value} {x : Str} {st : Stmt} {ps : List Str} {f : Addr} {oc : Value} {od an : Option Addr} {osl : Array (Option Value)} {kV doc pm cdv ct : Value} (X : K.In h) (G : h.Ns mainGlobals mg)
    (a : PySem.W.nsIn K mainGlobals x = some (some (.ref f))) (l : K.lookup f = some ⟨oc, od, .func (PySem.W.fnOf x x (defArgs st) (defBody st) (defScope st) .none kV doc pm an cdv ct), osl⟩) (c : PySem.W.codeIn K cdv x = true) (k : PySem.W.keepIn K (.ref f) = true)
    (hb : ∀ (kV doc pm : Value) (an : Option Addr) (cdv ct : Value) (us : List Value), us.length = ps.length → bindArgs (PySem.W.fnOf x x (defArgs st) (defBody st) (defScope st) .none kV doc pm an cdv ct) ⟨us, []⟩ = pure (ps.zip us)) : Txt K mg x st ps :=
  ⟨f, _, PySem.W.mg_of X G a, fun_mk l c k, (fun_mk l c k).binds hb⟩
theorem b_sorted_things (kV doc pm : Value) (an : Option Addr) (cdv ct : Value) (us : List Value) (hl : us.length = (p_sorted_things).length) : bindArgs (PySem.W.fnOf "sorted_things" "sorted_things" (defArgs s_sorted_things) (defBody s_sorted_things) (defScope s_sorted_things) .none kV doc pm an cdv ct) ⟨us, []⟩ = pure ((p_sorted_things).zip us) := match us, hl with | [_], _ => rfl
theorem b_covers (kV doc pm : Value) (an : Option Addr) (cdv ct : Value) (us : List Value) (hl : us.length = (p_covers).length) : bindArgs (PySem.W.fnOf "covers" "covers" (defArgs s_covers) (defBody s_covers) (defScope s_covers) .none kV doc pm an cdv ct) ⟨us, []⟩ = pure ((p_covers).zip us) := match us, hl with | [_, _], _ => rfl
theorem b_meeting (kV doc pm : Value) (an : Option Addr) (cdv ct : Value) (us : List Value) (hl : us.length = (p_meeting).length) : bindArgs (PySem.W.fnOf "meeting" "meeting" (defArgs s_meeting) (defBody s_meeting) (defScope s_meeting) .none kV doc pm an cdv ct) ⟨us, []⟩ = pure ((p_meeting).zip us) := match us, hl with | [_, _], _ => rfl
theorem b_picks (kV doc pm : Value) (an : Option Addr) (cdv ct : Value) (us : List Value) (hl : us.length = (p_picks).length) : bindArgs (PySem.W.fnOf "picks" "picks" (defArgs s_picks) (defBody s_picks) (defScope s_picks) .none kV doc pm an cdv ct) ⟨us, []⟩ = pure ((p_picks).zip us) := match us, hl with | [_], _ => rfl
theorem b_rows_of (kV doc pm : Value) (an : Option Addr) (cdv ct : Value) (us : List Value) (hl : us.length = (p_rows_of).length) : bindArgs (PySem.W.fnOf "rows_of" "rows_of" (defArgs s_rows_of) (defBody s_rows_of) (defScope s_rows_of) .none kV doc pm an cdv ct) ⟨us, []⟩ = pure ((p_rows_of).zip us) := match us, hl with | [_, _], _ => rfl
theorem b_all_rows (kV doc pm : Value) (an : Option Addr) (cdv ct : Value) (us : List Value) (hl : us.length = (p_all_rows).length) : bindArgs (PySem.W.fnOf "all_rows" "all_rows" (defArgs s_all_rows) (defBody s_all_rows) (defScope s_all_rows) .none kV doc pm an cdv ct) ⟨us, []⟩ = pure ((p_all_rows).zip us) := match us, hl with | [_, _], _ => rfl
theorem b_star_patterns (kV doc pm : Value) (an : Option Addr) (cdv ct : Value) (us : List Value) (hl : us.length = (p_star_patterns).length) : bindArgs (PySem.W.fnOf "star_patterns" "star_patterns" (defArgs s_star_patterns) (defBody s_star_patterns) (defScope s_star_patterns) .none kV doc pm an cdv ct) ⟨us, []⟩ = pure ((p_star_patterns).zip us) := match us, hl with | [_], _ => rfl
theorem b__law_source (kV doc pm : Value) (an : Option Addr) (cdv ct : Value) (us : List Value) (hl : us.length = (p__law_source).length) : bindArgs (PySem.W.fnOf "_law_source" "_law_source" (defArgs s__law_source) (defBody s__law_source) (defScope s__law_source) .none kV doc pm an cdv ct) ⟨us, []⟩ = pure ((p__law_source).zip us) := match us, hl with | [_], _ => rfl
theorem b__law_take (kV doc pm : Value) (an : Option Addr) (cdv ct : Value) (us : List Value) (hl : us.length = (p__law_take).length) : bindArgs (PySem.W.fnOf "_law_take" "_law_take" (defArgs s__law_take) (defBody s__law_take) (defScope s__law_take) .none kV doc pm an cdv ct) ⟨us, []⟩ = pure ((p__law_take).zip us) := match us, hl with | [_, _], _ => rfl
theorem b__law_pick (kV doc pm : Value) (an : Option Addr) (cdv ct : Value) (us : List Value) (hl : us.length = (p__law_pick).length) : bindArgs (PySem.W.fnOf "_law_pick" "_law_pick" (defArgs s__law_pick) (defBody s__law_pick) (defScope s__law_pick) .none kV doc pm an cdv ct) ⟨us, []⟩ = pure ((p__law_pick).zip us) := match us, hl with | [_, _], _ => rfl
theorem b__law_mixed (kV doc pm : Value) (an : Option Addr) (cdv ct : Value) (us : List Value) (hl : us.length = (p__law_mixed).length) : bindArgs (PySem.W.fnOf "_law_mixed" "_law_mixed" (defArgs s__law_mixed) (defBody s__law_mixed) (defScope s__law_mixed) .none kV doc pm an cdv ct) ⟨us, []⟩ = pure ((p__law_mixed).zip us) := match us, hl with | [_, _], _ => rfl
theorem b__law_pool (kV doc pm : Value) (an : Option Addr) (cdv ct : Value) (us : List Value) (hl : us.length = (p__law_pool).length) : bindArgs (PySem.W.fnOf "_law_pool" "_law_pool" (defArgs s__law_pool) (defBody s__law_pool) (defScope s__law_pool) .none kV doc pm an cdv ct) ⟨us, []⟩ = pure ((p__law_pool).zip us) := match us, hl with | [_, _], _ => rfl
theorem b__law_tables (kV doc pm : Value) (an : Option Addr) (cdv ct : Value) (us : List Value) (hl : us.length = (p__law_tables).length) : bindArgs (PySem.W.fnOf "_law_tables" "_law_tables" (defArgs s__law_tables) (defBody s__law_tables) (defScope s__law_tables) .none kV doc pm an cdv ct) ⟨us, []⟩ = pure ((p__law_tables).zip us) := match us, hl with | [_], _ => rfl
theorem b__law_tuples (kV doc pm : Value) (an : Option Addr) (cdv ct : Value) (us : List Value) (hl : us.length = (p__law_tuples).length) : bindArgs (PySem.W.fnOf "_law_tuples" "_law_tuples" (defArgs s__law_tuples) (defBody s__law_tuples) (defScope s__law_tuples) .none kV doc pm an cdv ct) ⟨us, []⟩ = pure ((p__law_tuples).zip us) := match us, hl with | [_, _], _ => rfl
theorem b__law_longer (kV doc pm : Value) (an : Option Addr) (cdv ct : Value) (us : List Value) (hl : us.length = (p__law_longer).length) : bindArgs (PySem.W.fnOf "_law_longer" "_law_longer" (defArgs s__law_longer) (defBody s__law_longer) (defScope s__law_longer) .none kV doc pm an cdv ct) ⟨us, []⟩ = pure ((p__law_longer).zip us) := match us, hl with | [_, _], _ => rfl
theorem b__law_covers (kV doc pm : Value) (an : Option Addr) (cdv ct : Value) (us : List Value) (hl : us.length = (p__law_covers).length) : bindArgs (PySem.W.fnOf "_law_covers" "_law_covers" (defArgs s__law_covers) (defBody s__law_covers) (defScope s__law_covers) .none kV doc pm an cdv ct) ⟨us, []⟩ = pure ((p__law_covers).zip us) := match us, hl with | [_, _], _ => rfl
theorem b__law_rows_over (kV doc pm : Value) (an : Option Addr) (cdv ct : Value) (us : List Value) (hl : us.length = (p__law_rows_over).length) : bindArgs (PySem.W.fnOf "_law_rows_over" "_law_rows_over" (defArgs s__law_rows_over) (defBody s__law_rows_over) (defScope s__law_rows_over) .none kV doc pm an cdv ct) ⟨us, []⟩ = pure ((p__law_rows_over).zip us) := match us, hl with | [_, _], _ => rfl
theorem b__law_drawn_pattern (kV doc pm : Value) (an : Option Addr) (cdv ct : Value) (us : List Value) (hl : us.length = (p__law_drawn_pattern).length) : bindArgs (PySem.W.fnOf "_law_drawn_pattern" "_law_drawn_pattern" (defArgs s__law_drawn_pattern) (defBody s__law_drawn_pattern) (defScope s__law_drawn_pattern) .none kV doc pm an cdv ct) ⟨us, []⟩ = pure ((p__law_drawn_pattern).zip us) := match us, hl with | [_, _, _, _], _ => rfl
theorem b__law_is_pattern (kV doc pm : Value) (an : Option Addr) (cdv ct : Value) (us : List Value) (hl : us.length = (p__law_is_pattern).length) : bindArgs (PySem.W.fnOf "_law_is_pattern" "_law_is_pattern" (defArgs s__law_is_pattern) (defBody s__law_is_pattern) (defScope s__law_is_pattern) .none kV doc pm an cdv ct) ⟨us, []⟩ = pure ((p__law_is_pattern).zip us) := match us, hl with | [_, _], _ => rfl
theorem b__law_pair_holds (kV doc pm : Value) (an : Option Addr) (cdv ct : Value) (us : List Value) (hl : us.length = (p__law_pair_holds).length) : bindArgs (PySem.W.fnOf "_law_pair_holds" "_law_pair_holds" (defArgs s__law_pair_holds) (defBody s__law_pair_holds) (defScope s__law_pair_holds) .none kV doc pm an cdv ct) ⟨us, []⟩ = pure ((p__law_pair_holds).zip us) := match us, hl with | [_, _, _, _], _ => rfl
theorem b_law (kV doc pm : Value) (an : Option Addr) (cdv ct : Value) (us : List Value) (hl : us.length = (p_law).length) : bindArgs (PySem.W.fnOf "law" "law" (defArgs s_law) (defBody s_law) (defScope s_law) .none kV doc pm an cdv ct) ⟨us, []⟩ = pure ((p_law).zip us) := match us, hl with | [_], _ => rfl
theorem law_all {l : PySem.W.OpenLaw} {w : World} {K : PySem.W.Frag} {mg : Str → Option Value} {fa : Addr} (hfa : mg "law" = some (.ref fa)) {tk : Tok} (mS : mg "STAR" = some (.int (-1) tk)) (t_sorted_things : Txt K mg "sorted_things" s_sorted_things p_sorted_things) (t_covers : Txt K mg "covers" s_covers p_covers) (t_meeting : Txt K mg "meeting" s_meeting p_meeting) (t_picks : Txt K mg "picks" s_picks p_picks) (t_rows_of : Txt K mg "rows_of" s_rows_of p_rows_of) (t_all_rows : Txt K mg "all_rows" s_all_rows p_all_rows) (t_star_patterns : Txt K mg "star_patterns" s_star_patterns p_star_patterns) (t__law_source : Txt K mg "_law_source" s__law_source p__law_source) (t__law_take : Txt K mg "_law_take" s__law_take p__law_take) (t__law_pick : Txt K mg "_law_pick" s__law_pick p__law_pick) (t__law_mixed : Txt K mg "_law_mixed" s__law_mixed p__law_mixed) (t__law_pool : Txt K mg "_law_pool" s__law_pool p__law_pool) (t__law_tables : Txt K mg "_law_tables" s__law_tables p__law_tables) (t__law_tuples : Txt K mg "_law_tuples" s__law_tuples p__law_tuples) (t__law_longer : Txt K mg "_law_longer" s__law_longer p__law_longer) (t__law_covers : Txt K mg "_law_covers" s__law_covers p__law_covers) (t__law_rows_over : Txt K mg "_law_rows_over" s__law_rows_over p__law_rows_over) (t__law_drawn_pattern : Txt K mg "_law_drawn_pattern" s__law_drawn_pattern p__law_drawn_pattern) (t__law_is_pattern : Txt K mg "_law_is_pattern" s__law_is_pattern p__law_is_pattern) (t__law_pair_holds : Txt K mg "_law_pair_holds" s__law_pair_holds p__law_pair_holds) (t_law : Txt K mg "law" s_law p_law) (z_sorted : mg "sorted" = none) (z_tuple : mg "tuple" = none) (z_zip : mg "zip" = none) (z_enumerate : mg "enumerate" = none) (z_list : mg "list" = none) (z_len : mg "len" = none) (z_int : mg "int" = none) (z_range : mg "range" = none) (z_all : mg "all" = none) (z_isinstance : mg "isinstance" = none) (z_bool : mg "bool" = none) :
    ∃ fd : FuncData, (∀ (s : Shared) (v : Value), BindsTo s fd ⟨[v], []⟩ [("_law_script", v)]) ∧ ∀ base : Heap, K.In base → base.Ns mainGlobals mg → FnOk l.prog w K mg base CX0 4 fa fd ["_law_script"] (spLaw K) := by
  obtain ⟨f, fd, m, F, b⟩ := t_law
  have e := hfa.symm.trans m
  cases e
  obtain ⟨oc, od, kV, doc, pm, an, cdv, ct, osl, rfl, lk, hcd⟩ := id F.ex
  refine ⟨PySem.W.fnOf "law" "law" (defArgs s_law) (defBody s_law) (defScope s_law) .none kV doc pm an cdv ct, fun s v => .of_eq rfl, fun base _ _ => ?_⟩
  have cSo := ok_source (P := l.prog) (w := w) (base := base) t__law_source z_list
  have cTk := ok_take (P := l.prog) (w := w) (base := base) t__law_take z_len z_int
  have cPi := ok_pick (P := l.prog) (w := w) (base := base) t__law_pick z_len cTk
  have cTa := ok_tables (P := l.prog) (w := w) (base := base) t__law_tables z_tuple z_range cTk cPi
  have cPo := ok_pool (P := l.prog) (w := w) (base := base) t__law_pool z_range cTk cPi
  have cMx := ok_mixed (P := l.prog) (w := w) (base := base) t__law_mixed z_list z_len z_range cTk
  have cDr := ok_drawn (P := l.prog) (w := w) (base := base) t__law_drawn_pattern z_len z_tuple z_range cTk cPi
  have cLo := ok_longer (P := l.prog) (w := w) (base := base) t__law_longer
  have cTu := ok_tuples (P := l.prog) (w := w) (base := base) t__law_tuples z_range cLo
  have cOv := ok_over (P := l.prog) (w := w) (base := base) t__law_rows_over z_len z_range cTu
  have cLc := ok_lcovers (P := l.prog) (w := w) (base := base) t__law_covers z_all z_len z_range
  have cIs := ok_ispat (P := l.prog) (w := w) (base := base) t__law_is_pattern z_len z_tuple z_all z_isinstance z_int z_bool
  have cC := ok_covers (P := l.prog) (w := w) (base := base) t_covers mS z_zip
  have cM := ok_meeting (P := l.prog) (w := w) (base := base) t_meeting mS z_zip z_tuple
  have cS := ok_sorted (P := l.prog) (w := w) (base := base) t_sorted_things z_sorted z_tuple
  have cP := ok_picks (P := l.prog) (w := w) (base := base) t_picks
  have cRo := ok_rows_of (P := l.prog) (w := w) (base := base) t_rows_of mS z_tuple cS cP
  have cSt := ok_stars (P := l.prog) (w := w) (base := base) t_star_patterns mS z_tuple z_enumerate
  have cAl := ok_all_rows (P := l.prog) (w := w) (base := base) t_all_rows z_tuple cSt cRo
  have cPa := ok_pair (P := l.prog) (w := w) (base := base) t__law_pair_holds z_len cC cM cLc cIs
  exact ok_law F mS z_len z_range z_all z_tuple z_list z_isinstance cSo cTk cTa cPo cDr cOv cPa cPi cMx cRo cAl cLc
end K0
open PySem PySem.W PyProof.Rows
set_option maxHeartbeats 0 in
theorem PySem.Challenge.cw_soonestsaid_k00_patterns_against_all_row_holds : PySem.Challenge.rw_soonestsaid_k00_patterns_against_all_row.Holds := by
  w_on; o_law; k_head; (case hw => w_witness2)
  k_fill
  refine L2.walk_of (l := PySem.Challenge.rw_soonestsaid_k00_patterns_against_all_row) (n := 63) (k := 4) (x := "_law_script") (CX := fun _ => L2.CX0) (sp := fun w => K0.spLaw _) rfl (by decide) rfl ⟨rfl, by decide, by decide⟩ (fun w h Y => PySem.W.kIn_of Y) ?F (fun _ _ a ns hl _ hS => ⟨a, ns, rfl, hS, hl, fun _ => rfl⟩) (fun _ _ _ _ _ h => h)
  case F =>
    intro w mg fa h KX G hmg
    refine' K0.law_all hmg (PySem.W.mg_of KX G ?star) (K0.txt_mk KX G ?a0 ?l0 ?c0 ?k0 K0.b_sorted_things) (K0.txt_mk KX G ?a1 ?l1 ?c1 ?k1 K0.b_covers) (K0.txt_mk KX G ?a2 ?l2 ?c2 ?k2 K0.b_meeting) (K0.txt_mk KX G ?a3 ?l3 ?c3 ?k3 K0.b_picks) (K0.txt_mk KX G ?a4 ?l4 ?c4 ?k4 K0.b_rows_of) (K0.txt_mk KX G ?a5 ?l5 ?c5 ?k5 K0.b_all_rows) (K0.txt_mk KX G ?a6 ?l6 ?c6 ?k6 K0.b_star_patterns) (K0.txt_mk KX G ?a7 ?l7 ?c7 ?k7 K0.b__law_source) (K0.txt_mk KX G ?a8 ?l8 ?c8 ?k8 K0.b__law_take) (K0.txt_mk KX G ?a9 ?l9 ?c9 ?k9 K0.b__law_pick) (K0.txt_mk KX G ?a10 ?l10 ?c10 ?k10 K0.b__law_mixed) (K0.txt_mk KX G ?a11 ?l11 ?c11 ?k11 K0.b__law_pool) (K0.txt_mk KX G ?a12 ?l12 ?c12 ?k12 K0.b__law_tables) (K0.txt_mk KX G ?a13 ?l13 ?c13 ?k13 K0.b__law_tuples) (K0.txt_mk KX G ?a14 ?l14 ?c14 ?k14 K0.b__law_longer) (K0.txt_mk KX G ?a15 ?l15 ?c15 ?k15 K0.b__law_covers) (K0.txt_mk KX G ?a16 ?l16 ?c16 ?k16 K0.b__law_rows_over) (K0.txt_mk KX G ?a17 ?l17 ?c17 ?k17 K0.b__law_drawn_pattern) (K0.txt_mk KX G ?a18 ?l18 ?c18 ?k18 K0.b__law_is_pattern) (K0.txt_mk KX G ?a19 ?l19 ?c19 ?k19 K0.b__law_pair_holds) (K0.txt_mk KX G ?a20 ?l20 ?c20 ?k20 K0.b_law) (PySem.W.mg_none_of KX G ?z0) (PySem.W.mg_none_of KX G ?z1) (PySem.W.mg_none_of KX G ?z2) (PySem.W.mg_none_of KX G ?z3) (PySem.W.mg_none_of KX G ?z4) (PySem.W.mg_none_of KX G ?z5) (PySem.W.mg_none_of KX G ?z6) (PySem.W.mg_none_of KX G ?z7) (PySem.W.mg_none_of KX G ?z8) (PySem.W.mg_none_of KX G ?z9) (PySem.W.mg_none_of KX G ?z10)
    (case star => k_is)
    (case a0 => k_is); (case l0 => k_is); (case c0 => k_is); (case k0 => k_is)
    (case a1 => k_is); (case l1 => k_is); (case c1 => k_is); (case k1 => k_is)
    (case a2 => k_is); (case l2 => k_is); (case c2 => k_is); (case k2 => k_is)
    (case a3 => k_is); (case l3 => k_is); (case c3 => k_is); (case k3 => k_is)
    (case a4 => k_is); (case l4 => k_is); (case c4 => k_is); (case k4 => k_is)
    (case a5 => k_is); (case l5 => k_is); (case c5 => k_is); (case k5 => k_is)
    (case a6 => k_is); (case l6 => k_is); (case c6 => k_is); (case k6 => k_is)
    (case a7 => k_is); (case l7 => k_is); (case c7 => k_is); (case k7 => k_is)
    (case a8 => k_is); (case l8 => k_is); (case c8 => k_is); (case k8 => k_is)
    (case a9 => k_is); (case l9 => k_is); (case c9 => k_is); (case k9 => k_is)
    (case a10 => k_is); (case l10 => k_is); (case c10 => k_is); (case k10 => k_is)
    (case a11 => k_is); (case l11 => k_is); (case c11 => k_is); (case k11 => k_is)
    (case a12 => k_is); (case l12 => k_is); (case c12 => k_is); (case k12 => k_is)
    (case a13 => k_is); (case l13 => k_is); (case c13 => k_is); (case k13 => k_is)
    (case a14 => k_is); (case l14 => k_is); (case c14 => k_is); (case k14 => k_is)
    (case a15 => k_is); (case l15 => k_is); (case c15 => k_is); (case k15 => k_is)
    (case a16 => k_is); (case l16 => k_is); (case c16 => k_is); (case k16 => k_is)
    (case a17 => k_is); (case l17 => k_is); (case c17 => k_is); (case k17 => k_is)
    (case a18 => k_is); (case l18 => k_is); (case c18 => k_is); (case k18 => k_is)
    (case a19 => k_is); (case l19 => k_is); (case c19 => k_is); (case k19 => k_is)
    (case a20 => k_is); (case l20 => k_is); (case c20 => k_is); (case k20 => k_is)
    (case z0 => k_is)
    (case z1 => k_is)
    (case z2 => k_is)
    (case z3 => k_is)
    (case z4 => k_is)
    (case z5 => k_is)
    (case z6 => k_is)
    (case z7 => k_is)
    (case z8 => k_is)
    (case z9 => k_is)
    (case z10 => k_is)

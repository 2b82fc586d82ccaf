import PyProof.Rows.All
import Wide.All
import OpenK.AllK
import Wide.FinOn
import HandS.ForMost
import HandS.Exc
import HandS.ExcOwn
import HandS.WordsExc
import HandS.TryMany
import HandS.ExcSuper
import HandS.ExcInit
import KE.KExcInit
import HandS.Flt
import HandS.StrMore
import HandS.IsInst
import HandS.Conv
import HandS.Wide
import KE.KxIndex
import HandS.OwnEq
import HandS.ExcIs
import KE.KExcIs
import PyProof.ListStr
import HandS.TryOnly
import HandS.Style
import PyProof.EqKinds
import PyProof.NeKinds
import HandS.More
import HandS.HeadHook3
import HandS.TupAny
import PyProof.CollectIter
import PyProof.WalksMore
import HandS.Base
import HandS.Walk
import HandS.Zip
import HandS.SortKw
import HandS.Star
import HandS.MakeKw
import HandS.MakeKwOnly
import PyProof.InstNe
import HandS.Evl
import PySem.Challenge.RW_spoiltline_k53_codecs_of_usual_kinds
set_option Elab.async false
set_option linter.all false
set_option maxHeartbeats 8000000
namespace Lev
section
variable {α : Type}
/-- an alignment of two lists with c changes -/
inductive A : List α → List α → Nat → Prop where
  | nil : A [] [] 0
  | keep {a u v c} : A u v c → A (a :: u) (a :: v) c
  | swap {a b u v c} : A u v c → A (a :: u) (b :: v) (c + 1)
  | drop {a u v c} : A u v c → A (a :: u) v (c + 1)
  | add {b u v c} : A u v c → A u (b :: v) (c + 1)
theorem A.cast {u v u' v' : List α} {c c' : Nat} (h : A u v c) (e1 : u = u') (e2 : v = v') (e3 : c = c') : A u' v' c' := by
  subst e1 e2 e3; exact h
theorem A.refl : ∀ u : List α, A u u 0
  | [] => .nil
  | _ :: u => .keep (A.refl u)
theorem A.symm {u v : List α} {c : Nat} (h : A u v c) : A v u c := by
  induction h with
  | nil => exact .nil
  | keep _ ih => exact .keep ih
  | swap _ ih => exact .swap ih
  | drop _ ih => exact .add ih
  | add _ ih => exact .drop ih
theorem A.append {u v u' v' : List α} {c c' : Nat} (h : A u v c) (h' : A u' v' c') : A (u ++ u') (v ++ v') (c + c') := by
  induction h with
  | nil => exact h'.cast rfl rfl (Nat.zero_add _).symm
  | keep _ ih => exact .keep ih
  | swap _ ih => exact (A.swap ih).cast rfl rfl (by omega)
  | drop _ ih => exact (A.drop ih).cast rfl rfl (by omega)
  | add _ ih => exact (A.add ih).cast rfl rfl (by omega)
theorem A.drops : ∀ u : List α, A u [] u.length
  | [] => .nil
  | _ :: u => .drop (A.drops u)
theorem A.adds (u : List α) : A [] u u.length := (A.drops u).symm
theorem A.nilLeft {v : List α} {c : Nat} (h : A [] v c) : v.length ≤ c := by
  generalize e : ([] : List α) = u at h
  induction h with
  | nil => exact Nat.le_refl _
  | keep _ _ => cases e
  | swap _ _ => cases e
  | drop _ _ => cases e
  | add _ ih => have := ih e; simp; omega
/-- an alignment is cut where the left list is -/
theorem A.split {w v : List α} {c : Nat} (h : A w v c) : ∀ u u' : List α, w = u ++ u' → ∃ v1 v2 c1 c2, v = v1 ++ v2 ∧ A u v1 c1 ∧ A u' v2 c2 ∧ c = c1 + c2 := by
  induction h with
  | nil =>
    intro u u' e
    have e1 : u = [] := (List.append_eq_nil_iff.mp e.symm).1
    have e2 : u' = [] := (List.append_eq_nil_iff.mp e.symm).2
    subst e1 e2
    exact ⟨[], [], 0, 0, rfl, .nil, .nil, rfl⟩
  | @keep a w v c h ih =>
    intro u u' e
    cases u with
    | nil => exact ⟨[], a :: v, 0, c, rfl, .nil, (A.keep h).cast e rfl rfl, (Nat.zero_add _).symm⟩
    | cons x u =>
      injection e with e1 e2
      subst e1
      obtain ⟨v1, v2, c1, c2, rfl, h1, h2, rfl⟩ := ih u u' e2
      exact ⟨_ :: v1, v2, c1, c2, rfl, .keep h1, h2, rfl⟩
  | @swap a b w v c h ih =>
    intro u u' e
    cases u with
    | nil => exact ⟨[], b :: v, 0, c + 1, rfl, .nil, (A.swap h).cast e rfl rfl, (Nat.zero_add _).symm⟩
    | cons x u =>
      injection e with e1 e2
      subst e1
      obtain ⟨v1, v2, c1, c2, rfl, h1, h2, rfl⟩ := ih u u' e2
      exact ⟨_ :: v1, v2, c1 + 1, c2, rfl, .swap h1, h2, by omega⟩
  | @drop a w v c h ih =>
    intro u u' e
    cases u with
    | nil => exact ⟨[], v, 0, c + 1, rfl, .nil, (A.drop h).cast e rfl rfl, (Nat.zero_add _).symm⟩
    | cons x u =>
      injection e with e1 e2
      subst e1
      obtain ⟨v1, v2, c1, c2, rfl, h1, h2, rfl⟩ := ih u u' e2
      exact ⟨v1, v2, c1 + 1, c2, rfl, .drop h1, h2, by omega⟩
  | @add b w v c h ih =>
    intro u u' e
    obtain ⟨v1, v2, c1, c2, rfl, h1, h2, rfl⟩ := ih u u' e
    exact ⟨b :: v1, v2, c1 + 1, c2, rfl, .add h1, h2, by omega⟩

/-! ### ways over places of two lists -/
inductive P (u v : List α) : Nat → Nat → Nat → Prop where
  | zero : P u v 0 0 0
  | keep {i j c a} : P u v i j c → u[i]? = some a → v[j]? = some a → P u v (i + 1) (j + 1) c
  | swap {i j c} : P u v i j c → i < u.length → j < v.length → P u v (i + 1) (j + 1) (c + 1)
  | drop {i j c} : P u v i j c → i < u.length → P u v (i + 1) j (c + 1)
  | add {i j c} : P u v i j c → j < v.length → P u v i (j + 1) (c + 1)
variable {u v : List α}
theorem P.bounds {i j c : Nat} (h : P u v i j c) : i ≤ u.length ∧ j ≤ v.length := by
  induction h with
  | zero => exact ⟨Nat.zero_le _, Nat.zero_le _⟩
  | keep _ e1 e2 _ =>
    have h1 := (List.getElem?_eq_some_iff.mp e1).1
    have h2 := (List.getElem?_eq_some_iff.mp e2).1
    exact ⟨h1, h2⟩
  | swap _ h1 h2 _ => exact ⟨h1, h2⟩
  | drop _ h1 ih => exact ⟨h1, ih.2⟩
  | add _ h1 ih => exact ⟨ih.1, h1⟩
theorem P.toA {i j c : Nat} (h : P u v i j c) : A (u.take i) (v.take j) c := by
  induction h with
  | zero => exact (A.nil).cast (by simp) (by simp) rfl
  | keep _ e1 e2 ih =>
    exact (ih.append (A.keep A.nil)).cast (by rw [List.take_add_one, e1]; rfl) (by rw [List.take_add_one, e2]; rfl) rfl
  | @swap i j c _ h1 h2 ih =>
    exact (ih.append (A.swap (a := u[i]) (b := v[j]) A.nil)).cast (by rw [List.take_add_one, List.getElem?_eq_getElem h1]; rfl) (by rw [List.take_add_one, List.getElem?_eq_getElem h2]; rfl) rfl
  | @drop i j c _ h1 ih =>
    exact (ih.append (A.drop (a := u[i]) A.nil)).cast (by rw [List.take_add_one, List.getElem?_eq_getElem h1]; rfl) (by simp) rfl
  | @add i j c _ h1 ih =>
    exact (ih.append (A.add (b := v[j]) A.nil)).cast (by simp) (by rw [List.take_add_one, List.getElem?_eq_getElem h1]; rfl) rfl
theorem P.onA {u' v' : List α} {c' : Nat} (h : A u' v' c') : ∀ {i j c : Nat}, P u v i j c → u.drop i = u' → v.drop j = v' → i ≤ u.length → j ≤ v.length → P u v u.length v.length (c + c') := by
  induction h with
  | nil =>
    intro i j c p e1 e2 b1 b2
    have h1 : u.length ≤ i := List.drop_eq_nil_iff.mp e1
    have h2 : v.length ≤ j := List.drop_eq_nil_iff.mp e2
    have e3 : i = u.length := Nat.le_antisymm b1 h1
    have e4 : j = v.length := Nat.le_antisymm b2 h2
    subst e3 e4
    exact p
  | @keep a u' v' c' _ ih =>
    intro i j c p e1 e2 b1 b2
    have g1 : u[i]? = some a := by have := congrArg (·[0]?) e1; simpa using this
    have g2 : v[j]? = some a := by have := congrArg (·[0]?) e2; simpa using this
    have h1 := (List.getElem?_eq_some_iff.mp g1).1
    have h2 := (List.getElem?_eq_some_iff.mp g2).1
    exact ih (.keep p g1 g2) (by rw [← List.drop_drop, e1]; rfl) (by rw [← List.drop_drop, e2]; rfl) h1 h2
  | @swap a b u' v' c' _ ih =>
    intro i j c p e1 e2 b1 b2
    have g1 : u[i]? = some a := by have := congrArg (·[0]?) e1; simpa using this
    have g2 : v[j]? = some b := by have := congrArg (·[0]?) e2; simpa using this
    have h1 := (List.getElem?_eq_some_iff.mp g1).1
    have h2 := (List.getElem?_eq_some_iff.mp g2).1
    have := ih (.swap p h1 h2) (by rw [← List.drop_drop, e1]; rfl) (by rw [← List.drop_drop, e2]; rfl) h1 h2
    rw [show c + (c' + 1) = c + 1 + c' by omega]; exact this
  | @drop a u' v' c' _ ih =>
    intro i j c p e1 e2 b1 b2
    have g1 : u[i]? = some a := by have := congrArg (·[0]?) e1; simpa using this
    have h1 := (List.getElem?_eq_some_iff.mp g1).1
    have := ih (.drop p h1) (by rw [← List.drop_drop, e1]; rfl) e2 h1 b2
    rw [show c + (c' + 1) = c + 1 + c' by omega]; exact this
  | @add b u' v' c' _ ih =>
    intro i j c p e1 e2 b1 b2
    have g2 : v[j]? = some b := by have := congrArg (·[0]?) e2; simpa using this
    have h2 := (List.getElem?_eq_some_iff.mp g2).1
    have := ih (.add p h2) e1 (by rw [← List.drop_drop, e2]; rfl) b1 h2
    rw [show c + (c' + 1) = c + 1 + c' by omega]; exact this
theorem A.toP {c : Nat} (h : A u v c) : P u v u.length v.length c := by
  have := P.onA (u := u) (v := v) h .zero rfl rfl (Nat.zero_le _) (Nat.zero_le _)
  simpa using this
theorem P.toA' {c : Nat} (h : P u v u.length v.length c) : A u v c := h.toA.cast (List.take_length) (List.take_length) rfl

/-! ### the table -/
variable [DecidableEq α]
def neq (x y : Option α) : Nat := if x = y then 0 else 1
def T (u v : List α) : Nat → Nat → Nat
  | 0, j => j
  | i + 1, 0 => i + 1
  | i + 1, j + 1 => min (T u v i j + neq u[i]? v[j]?) (min (T u v (i + 1) j + 1) (T u v i (j + 1) + 1))
theorem T_zero (j : Nat) : T u v 0 j = j := by unfold T; rfl
theorem T_left (i : Nat) : T u v i 0 = i := by cases i <;> (unfold T; rfl)
theorem T_step (i j : Nat) : T u v (i + 1) (j + 1) = min (T u v i j + neq u[i]? v[j]?) (min (T u v (i + 1) j + 1) (T u v i (j + 1) + 1)) := by
  rw [T]
theorem T_le {i j c : Nat} (h : P u v i j c) : T u v i j ≤ c := by
  induction h with
  | zero => rw [T_zero]; omega
  | keep _ e1 e2 ih => rw [T_step, e1, e2]; simp only [neq, if_true]; omega
  | @swap i j c _ _ _ ih =>
    rw [T_step]
    have : neq u[i]? v[j]? ≤ 1 := by unfold neq; split <;> omega
    omega
  | @drop i j c _ _ ih => cases j with
    | zero => rw [T_left] at *; omega
    | succ j => rw [T_step]; omega
  | @add i j c _ _ ih => cases i with
    | zero => rw [T_zero] at *; omega
    | succ i => rw [T_step]; omega
theorem T_P : ∀ (i j : Nat), i ≤ u.length → j ≤ v.length → P u v i j (T u v i j) := by
  intro i
  induction i with
  | zero =>
    intro j
    induction j with
    | zero => intro _ _; rw [T_zero]; exact .zero
    | succ j ih => intro h1 h2; rw [T_zero]; have := ih h1 (by omega); rw [T_zero] at this; exact .add this (by omega)
  | succ i ihi =>
    intro j
    induction j with
    | zero => intro h1 h2; rw [T_left]; have := ihi 0 (by omega) h2; rw [T_left] at this; exact .drop this (by omega)
    | succ j ih =>
      intro h1 h2
      have p1 := ihi j (by omega) (by omega)
      have p2 := ih h1 (by omega)
      have p3 := ihi (j + 1) (by omega) h2
      rw [T_step]
      by_cases q1 : T u v i j + neq u[i]? v[j]? ≤ min (T u v (i + 1) j + 1) (T u v i (j + 1) + 1)
      · rw [Nat.min_eq_left q1]
        by_cases e : u[i]? = v[j]?
        · rw [show neq u[i]? v[j]? = 0 by unfold neq; rw [if_pos e]]
          exact .keep p1 (List.getElem?_eq_getElem (by omega)) (by rw [← e]; exact List.getElem?_eq_getElem (by omega))
        · rw [show neq u[i]? v[j]? = 1 by unfold neq; rw [if_neg e]]
          exact .swap p1 (by omega) (by omega)
      · rw [Nat.min_eq_right (by omega)]
        by_cases q2 : T u v (i + 1) j + 1 ≤ T u v i (j + 1) + 1
        · rw [Nat.min_eq_left q2]; exact .add p2 (by omega)
        · rw [Nat.min_eq_right (by omega)]; exact .drop p3 (by omega)
/-- the distance -/
def D (u v : List α) : Nat := T u v u.length v.length
theorem D_A (u v : List α) : A u v (D u v) := (T_P _ _ (Nat.le_refl _) (Nat.le_refl _)).toA'
theorem D_le {u v : List α} {c : Nat} (h : A u v c) : D u v ≤ c := T_le h.toP
theorem D_symm (u v : List α) : D u v = D v u := Nat.le_antisymm (D_le (D_A v u).symm) (D_le (D_A u v).symm)
theorem D_self (u : List α) : D u u = 0 := Nat.le_zero.mp (D_le (A.refl u))
theorem D_le_max (u v : List α) : D u v ≤ max u.length v.length := by
  have key : ∀ u v : List α, ∃ c, A u v c ∧ c ≤ max u.length v.length := by
    intro u
    induction u with
    | nil => intro v; exact ⟨_, A.adds v, by simp⟩
    | cons a u ih =>
      intro v
      cases v with
      | nil => exact ⟨_, A.drops (a :: u), by simp⟩
      | cons b v =>
        obtain ⟨c, h, hc⟩ := ih v
        exact ⟨c + 1, .swap h, by simp; omega⟩
  obtain ⟨c, h, hc⟩ := key u v
  exact Nat.le_trans (D_le h) hc
theorem A.lens {u v : List α} {c : Nat} (h : A u v c) : u.length ≤ v.length + c ∧ v.length ≤ u.length + c := by
  induction h with
  | nil => exact ⟨Nat.le_refl _, Nat.le_refl _⟩
  | keep _ ih => simp only [List.length_cons]; omega
  | swap _ ih => simp only [List.length_cons]; omega
  | drop _ ih => simp only [List.length_cons]; omega
  | add _ ih => simp only [List.length_cons]; omega
end
end Lev

set_option Elab.async false
set_option linter.all false
set_option maxHeartbeats 400000
namespace Lev
section
variable {α : Type}
/-- w is a turn of v -/
def Turn (v w : List α) : Prop := ∃ x y, v = x ++ y ∧ w = y ++ x
theorem Turn.refl (v : List α) : Turn v v := ⟨[], v, rfl, (List.append_nil v).symm⟩
theorem Turn.symm {v w : List α} (h : Turn v w) : Turn w v := by
  obtain ⟨x, y, rfl, rfl⟩ := h
  exact ⟨y, x, rfl, rfl⟩
theorem Turn.trans {u v w : List α} (h : Turn u v) (h' : Turn v w) : Turn u w := by
  obtain ⟨x, y, rfl, rfl⟩ := h
  obtain ⟨x', y', e, rfl⟩ := h'
  rcases List.append_eq_append_iff.mp e with ⟨e1, rfl, rfl⟩ | ⟨e1, rfl, rfl⟩
  · exact ⟨e1, y' ++ y, by rw [List.append_assoc], by rw [List.append_assoc]⟩
  · exact ⟨x ++ x', e1, by rw [List.append_assoc], by rw [List.append_assoc]⟩
theorem Turn.length {v w : List α} (h : Turn v w) : w.length = v.length := by
  obtain ⟨x, y, rfl, rfl⟩ := h
  simp only [List.length_append]; omega
theorem Turn.at (v : List α) (k : Nat) : Turn v (v.drop k ++ v.take k) := ⟨v.take k, v.drop k, (List.take_append_drop k v).symm, rfl⟩
/-- an alignment of turns of both is one of u and a turn -/
theorem cut {u u' v v' : List α} {c : Nat} (hu : Turn u u') (hv : Turn v v') (h : A u' v' c) : ∃ w, Turn v w ∧ A u w c := by
  obtain ⟨x, y, rfl, rfl⟩ := hu
  obtain ⟨w1, w2, c1, c2, rfl, h1, h2, rfl⟩ := h.split y x rfl
  exact ⟨w2 ++ w1, hv.trans ⟨w1, w2, rfl, rfl⟩, (h2.append h1).cast rfl rfl (Nat.add_comm _ _)⟩
/-! ### the window that is just as long -/
theorem window (N : Nat) : ∀ {u w w' : List α} {c c' k b : Nat}, u.length + w.length + w'.length ≤ N → A u w c → A u w' c' → w.length + k ≤ b → b ≤ w'.length + k →
    ∃ p q s t s' t' c1 c2 c3 c4, u = p ++ q ∧ w = s ++ t ∧ w' = s' ++ t' ∧ A p s c1 ∧ A q t c2 ∧ A p s' c3 ∧ A q t' c4 ∧ c = c1 + c2 ∧ c' = c3 + c4 ∧ t.length + (k + s'.length) = b := by
  induction N with
  | zero =>
    intro u w w' c c' k b hN h h' l1 l2
    have e1 : u = [] := List.eq_nil_of_length_eq_zero (by omega)
    have e2 : w = [] := List.eq_nil_of_length_eq_zero (by omega)
    have e3 : w' = [] := List.eq_nil_of_length_eq_zero (by omega)
    subst e1 e2 e3
    exact ⟨[], [], [], [], [], [], 0, c, 0, c', rfl, rfl, rfl, .nil, h, .nil, h', (Nat.zero_add _).symm, (Nat.zero_add _).symm, by simp at *; omega⟩
  | succ N ih =>
    intro u w w' c c' k b hN h h' l1 l2
    by_cases e : w.length + k = b
    · exact ⟨[], u, [], w, [], w', 0, c, 0, c', rfl, rfl, rfl, .nil, h, .nil, h', (Nat.zero_add _).symm, (Nat.zero_add _).symm, by simp; omega⟩
    · -- a letter more of the second
      have main : ∀ {a : α} {u w1 w1' pw pw' : List α} {c1 c1' pc pc' : Nat}, A u w1 c1 → A u w1' c1' → (∀ {p s d}, A p s d → A (a :: p) (pw ++ s) (pc + d)) → (∀ {p s d}, A p s d → A (a :: p) (pw' ++ s) (pc' + d)) → pw.length ≤ 1 → pw'.length ≤ 1 →
          (u.length + 1) + (pw ++ w1).length + (pw' ++ w1').length ≤ N + 1 → (pw ++ w1).length + k ≤ b → b ≤ (pw' ++ w1').length + k → ¬ (pw ++ w1).length + k = b →
          ∃ p q s t s' t' d1 d2 d3 d4, a :: u = p ++ q ∧ pw ++ w1 = s ++ t ∧ pw' ++ w1' = s' ++ t' ∧ A p s d1 ∧ A q t d2 ∧ A p s' d3 ∧ A q t' d4 ∧ pc + c1 = d1 + d2 ∧ pc' + c1' = d3 + d4 ∧ t.length + (k + s'.length) = b := by
        intro a u w1 w1' pw pw' c1 c1' pc pc' g g' f f' n1 n2 hN l1 l2 e
        rw [List.length_append] at hN l1 l2 e
        rw [List.length_append] at hN
        obtain ⟨p, q, s, t, s', t', d1, d2, d3, d4, rfl, rfl, rfl, a1, a2, a3, a4, e1, e2, e3⟩ := ih (k := k + pw'.length) (b := b) (by omega) g g' (by omega) (by omega)
        exact ⟨a :: p, q, pw ++ s, t, pw' ++ s', t', pc + d1, d2, pc' + d3, d4, rfl, by simp, by simp, f a1, a2, f' a3, a4, by omega, by omega, by rw [List.length_append]; omega⟩
      cases h' with
      | nil =>
        have := h.nilLeft
        simp at l2
        omega
      | @add b' _ w'' c'' g' =>
        simp only [List.length_cons] at hN l2
        obtain ⟨p, q, s, t, s', t', d1, d2, d3, d4, rfl, rfl, rfl, a1, a2, a3, a4, e1, e2, e3⟩ := ih (k := k + 1) (b := b) (by omega) h g' (by omega) (by omega)
        exact ⟨p, q, s, t, b' :: s', t', d1, d2, d3 + 1, d4, rfl, rfl, rfl, a1, a2, .add a3, a4, e1, by omega, by simp only [List.length_cons]; omega⟩
      | @keep a u w1' c1' g' =>
        cases h with
        | @add b' _ w1 c1 g =>
          simp only [List.length_cons] at hN l1 l2 e
          obtain ⟨p, q, s, t, s', t', d1, d2, d3, d4, e0, rfl, e00, a1, a2, a3, a4, e1, e2, e3⟩ := ih (k := k) (b := b) (by simp only [List.length_cons]; omega) g (A.keep g') (by omega) (by simp only [List.length_cons]; omega)
          exact ⟨p, q, b' :: s, t, s', t', d1 + 1, d2, d3, d4, e0, rfl, e00, .add a1, a2, a3, a4, by omega, e2, e3⟩
        | @keep _ _ w1 c1 g => simpa using main (pw := [a]) (pw' := [a]) (pc := 0) (pc' := 0) g g' (fun z => (A.keep z).cast rfl rfl (by omega)) (fun z => (A.keep z).cast rfl rfl (by omega)) (by simp) (by simp) (by simpa using hN) (by simpa using l1) (by simpa using l2) (by simpa using e)
        | @swap _ x _ w1 c1 g => simpa [Nat.add_comm] using main (pw := [x]) (pw' := [a]) (pc := 1) (pc' := 0) g g' (fun z => (A.swap z).cast rfl rfl (by omega)) (fun z => (A.keep z).cast rfl rfl (by omega)) (by simp) (by simp) (by simpa using hN) (by simpa using l1) (by simpa using l2) (by simpa using e)
        | @drop _ _ _ c1 g => simpa [Nat.add_comm] using main (pw := []) (pw' := [a]) (pc := 1) (pc' := 0) g g' (fun z => (A.drop z).cast rfl rfl (by omega)) (fun z => (A.keep z).cast rfl rfl (by omega)) (by simp) (by simp) (by simpa using hN) (by simpa using l1) (by simpa using l2) (by simpa using e)
      | @swap a y u w1' c1' g' =>
        cases h with
        | @add b' _ w1 c1 g =>
          simp only [List.length_cons] at hN l1 l2 e
          obtain ⟨p, q, s, t, s', t', d1, d2, d3, d4, e0, rfl, e00, a1, a2, a3, a4, e1, e2, e3⟩ := ih (k := k) (b := b) (by simp only [List.length_cons]; omega) g (A.swap (b := y) g') (by omega) (by simp only [List.length_cons]; omega)
          exact ⟨p, q, b' :: s, t, s', t', d1 + 1, d2, d3, d4, e0, rfl, e00, .add a1, a2, a3, a4, by omega, e2, e3⟩
        | @keep _ _ w1 c1 g => simpa [Nat.add_comm] using main (pw := [a]) (pw' := [y]) (pc := 0) (pc' := 1) g g' (fun z => (A.keep z).cast rfl rfl (by omega)) (fun z => (A.swap z).cast rfl rfl (by omega)) (by simp) (by simp) (by simpa using hN) (by simpa using l1) (by simpa using l2) (by simpa using e)
        | @swap _ x _ w1 c1 g => simpa [Nat.add_comm] using main (pw := [x]) (pw' := [y]) (pc := 1) (pc' := 1) g g' (fun z => (A.swap z).cast rfl rfl (by omega)) (fun z => (A.swap z).cast rfl rfl (by omega)) (by simp) (by simp) (by simpa using hN) (by simpa using l1) (by simpa using l2) (by simpa using e)
        | @drop _ _ _ c1 g => simpa [Nat.add_comm] using main (pw := []) (pw' := [y]) (pc := 1) (pc' := 1) g g' (fun z => (A.drop z).cast rfl rfl (by omega)) (fun z => (A.swap z).cast rfl rfl (by omega)) (by simp) (by simp) (by simpa using hN) (by simpa using l1) (by simpa using l2) (by simpa using e)
      | @drop a u _ c1' g' =>
        cases h with
        | @add b' _ w1 c1 g =>
          simp only [List.length_cons] at hN l1 l2 e
          obtain ⟨p, q, s, t, s', t', d1, d2, d3, d4, e0, rfl, e00, a1, a2, a3, a4, e1, e2, e3⟩ := ih (k := k) (b := b) (by simp only [List.length_cons]; omega) g (A.drop g') (by omega) (by omega)
          exact ⟨p, q, b' :: s, t, s', t', d1 + 1, d2, d3, d4, e0, rfl, e00, .add a1, a2, a3, a4, by omega, e2, e3⟩
        | @keep _ _ w1 c1 g => simpa [Nat.add_comm] using main (pw := [a]) (pw' := []) (pc := 0) (pc' := 1) g g' (fun z => (A.keep z).cast rfl rfl (by omega)) (fun z => (A.drop z).cast rfl rfl (by omega)) (by simp) (by simp) (by simpa using hN) (by simpa using l1) (by simpa using l2) (by simpa using e)
        | @swap _ x _ w1 c1 g => simpa [Nat.add_comm] using main (pw := [x]) (pw' := []) (pc := 1) (pc' := 1) g g' (fun z => (A.swap z).cast rfl rfl (by omega)) (fun z => (A.drop z).cast rfl rfl (by omega)) (by simp) (by simp) (by simpa using hN) (by simpa using l1) (by simpa using l2) (by simpa using e)
        | @drop _ _ _ c1 g => simpa [Nat.add_comm] using main (pw := []) (pw' := []) (pc := 1) (pc' := 1) g g' (fun z => (A.drop z).cast rfl rfl (by omega)) (fun z => (A.drop z).cast rfl rfl (by omega)) (by simp) (by simp) (by simpa using hN) (by simpa using l1) (by simpa using l2) (by simpa using e)
/-! ### rounds -/
def rounds : Nat → List α → List α
  | 0, _ => []
  | n + 1, v => v ++ rounds n v
theorem rounds_len (n : Nat) (v : List α) : (rounds n v).length = n * v.length := by
  induction n with
  | zero => simp [rounds]
  | succ n ih => simp [rounds, ih, Nat.succ_mul]; omega
theorem rounds_get (n : Nat) (v : List α) {i : Nat} (h : i < n * v.length) : (rounds n v)[i]? = v[i % v.length]? := by
  induction n generalizing i with
  | zero => omega
  | succ n ih =>
    show (v ++ rounds n v)[i]? = _
    rw [Nat.succ_mul] at h
    rcases Nat.lt_or_ge i v.length with q | q
    · rw [List.getElem?_append_left q, Nat.mod_eq_of_lt q]
    · rw [List.getElem?_append_right q, ih (by omega)]
      congr 1
      conv => rhs; rw [← Nat.sub_add_cancel q, Nat.add_mod_right]
/-- a piece of rounds that is as long as the text is a turn of it; the rest are rounds -/
theorem piece {n : Nat} {v x y z : List α} (h : rounds (n + 1) v = x ++ y ++ z) (hy : y.length = v.length) : Turn v y ∧ x ++ z = rounds n v := by
  by_cases hv : v.length = 0
  · have e1 : v = [] := List.eq_nil_of_length_eq_zero hv
    subst e1
    have hz : ∀ n, rounds n ([] : List α) = [] := fun n => List.eq_nil_of_length_eq_zero (by rw [rounds_len]; simp)
    rw [hz] at h
    have h' := congrArg List.length h
    simp only [List.length_nil, List.length_append] at h'
    have e2 : x = [] := List.eq_nil_of_length_eq_zero (by omega)
    have e3 : y = [] := List.eq_nil_of_length_eq_zero (by omega)
    have e4 : z = [] := List.eq_nil_of_length_eq_zero (by omega)
    subst e2 e3 e4
    exact ⟨Turn.refl _, (hz n).symm⟩
  have pos : 0 < v.length := Nat.pos_of_ne_zero hv
  have hl := congrArg List.length h
  rw [rounds_len, List.length_append, List.length_append, Nat.succ_mul] at hl
  have G : ∀ i, i < (n + 1) * v.length → (x ++ y ++ z)[i]? = v[i % v.length]? := fun i hi => by rw [← h]; exact rounds_get (n + 1) v hi
  rw [Nat.succ_mul] at G
  constructor
  · have e : y = v.drop (x.length % v.length) ++ v.take (x.length % v.length) := by
      have lt := Nat.mod_lt x.length pos
      apply List.ext_getElem?
      intro i
      rcases Nat.lt_or_ge i y.length with q | q
      · have g := G (x.length + i) (by omega)
        rw [List.append_assoc, List.getElem?_append_right (by omega), Nat.add_sub_cancel_left, List.getElem?_append_left q] at g
        rw [g]
        rcases Nat.lt_or_ge i (v.length - x.length % v.length) with q2 | q2
        · rw [List.getElem?_append_left (by rw [List.length_drop]; exact q2), List.getElem?_drop]
          congr 1
          rw [Nat.add_mod, Nat.mod_eq_of_lt (show i < v.length by omega), Nat.mod_eq_of_lt (by omega)]
        · rw [List.getElem?_append_right (by rw [List.length_drop]; exact q2), List.length_drop, List.getElem?_take, if_pos (by omega)]
          congr 1
          rw [Nat.add_mod, Nat.mod_eq_of_lt (show i < v.length by omega), Nat.mod_eq_sub_mod (by omega), Nat.mod_eq_of_lt (by omega)]
          omega
      · rw [List.getElem?_eq_none q, List.getElem?_eq_none (by simp only [List.length_append, List.length_drop, List.length_take]; omega)]
    rw [e]
    exact Turn.at v _
  · apply List.ext_getElem?
    intro i
    rcases Nat.lt_or_ge i (n * v.length) with q | q
    · rw [rounds_get n v q]
      rcases Nat.lt_or_ge i x.length with q2 | q2
      · rw [List.getElem?_append_left q2]
        have g := G i (by omega)
        rw [List.append_assoc, List.getElem?_append_left q2] at g
        exact g
      · rw [List.getElem?_append_right q2]
        have g := G (i + v.length) (by omega)
        rw [List.getElem?_append_right (by rw [List.length_append]; omega), List.length_append, Nat.add_mod_right] at g
        rw [← g]
        congr 1
        omega
    · rw [List.getElem?_eq_none (by rw [List.length_append]; omega), List.getElem?_eq_none (by rw [rounds_len]; omega)]
/-- the parts of a text that go with each round of u -/
inductive Blocks (u : List α) : Nat → List α → Nat → Prop where
  | nil : Blocks u 0 [] 0
  | cons {n w v c d} : A u w c → Blocks u n v d → Blocks u (n + 1) (w ++ v) (c + d)
theorem blocks_of {u : List α} : ∀ {n : Nat} {v : List α} {c : Nat}, A (rounds (n + 1) u) v c → Blocks u (n + 1) v c
  | 0, v, c, h => by
    have h' : A u v c := h.cast (List.append_nil u) rfl rfl
    have := Blocks.cons h' .nil
    rw [List.append_nil] at this
    exact this
  | n + 1, v, c, h => by
    obtain ⟨v1, v2, c1, c2, rfl, h1, h2, rfl⟩ := h.split u (rounds (n + 1) u) rfl
    exact .cons h1 (blocks_of h2)
def Gone (u : List α) (b n : Nat) (V : List α) (c : Nat) : Prop :=
  ∃ x y z c1 c2 u', V = x ++ y ++ z ∧ y.length = b ∧ Blocks u n (x ++ z) c1 ∧ Turn u u' ∧ A u' y c2 ∧ c = c1 + c2
theorem tri {u : List α} {b : Nat} : ∀ {n : Nat} {V : List α} {c : Nat}, Blocks u (n + 1) V c →
    (∃ w V' c1 d, V = w ++ V' ∧ A u w c1 ∧ Blocks u n V' d ∧ c = c1 + d ∧ w.length < b ∧ V.length < (n + 1) * b) ∨
    (∃ w V' c1 d, V = w ++ V' ∧ A u w c1 ∧ Blocks u n V' d ∧ c = c1 + d ∧ b < w.length ∧ (n + 1) * b < V.length) ∨ Gone u b n V c := by
  intro n
  induction n with
  | zero =>
    intro V c h
    cases h with
    | @cons _ w V' c d h1 h2 =>
      cases h2
      rcases Nat.lt_trichotomy w.length b with q | q | q
      · exact .inl ⟨w, [], c, 0, rfl, h1, .nil, rfl, q, by simp; exact q⟩
      · exact .inr (.inr ⟨[], w, [], 0, c, u, by simp, q, .nil, Turn.refl u, h1, by omega⟩)
      · exact .inr (.inl ⟨w, [], c, 0, rfl, h1, .nil, rfl, q, by simp; exact q⟩)
  | succ n ih =>
    intro V c h
    cases h with
    | @cons _ w V' c d h1 h2 =>
      have em : (n + 1 + 1) * b = (n + 1) * b + b := Nat.succ_mul _ _
      rcases ih h2 with ⟨w', V'', c', d', rfl, g1, g2, rfl, l1, l2⟩ | ⟨w', V'', c', d', rfl, g1, g2, rfl, l1, l2⟩ | ⟨x, y, z, d1, d2, u', rfl, hy, g1, g2, g3, rfl⟩
      · rcases Nat.lt_trichotomy w.length b with q | q | q
        · exact .inl ⟨w, _, c, _, rfl, h1, h2, rfl, q, by rw [List.length_append]; omega⟩
        · exact .inr (.inr ⟨[], w, _, _, c, u, by simp, q, h2, Turn.refl u, h1, by omega⟩)
        · -- longer, then shorter
          obtain ⟨p, q', s, t, s', t', k1, k2, k3, k4, rfl, rfl, rfl, a1, a2, a3, a4, rfl, rfl, e⟩ := window _ (k := 0) (b := w.length + w'.length - b) (Nat.le_refl _) g1 h1 (by omega) (by omega)
          simp only [List.length_append] at e q l1
          refine .inr (.inr ⟨s', t' ++ s, t ++ V'', (k3 + k2) + d', k4 + k1, q' ++ p, by simp, by rw [List.length_append]; omega, ?_, ⟨p, q', rfl, rfl⟩, a4.append a1, by omega⟩)
          have := Blocks.cons (a3.append a2) g2
          rw [List.append_assoc] at this
          exact this
      · rcases Nat.lt_trichotomy w.length b with q | q | q
        · obtain ⟨p, q', s, t, s', t', k1, k2, k3, k4, rfl, rfl, rfl, a1, a2, a3, a4, rfl, rfl, e⟩ := window _ (k := 0) (b := b) (Nat.le_refl _) h1 g1 (by omega) (by omega)
          refine .inr (.inr ⟨s, t ++ s', t' ++ V'', (k1 + k4) + d', k2 + k3, q' ++ p, by simp, by rw [List.length_append]; omega, ?_, ⟨p, q', rfl, rfl⟩, a2.append a3, by omega⟩)
          have := Blocks.cons (a1.append a4) g2
          rw [List.append_assoc] at this
          exact this
        · exact .inr (.inr ⟨[], w, _, _, c, u, by simp, q, h2, Turn.refl u, h1, by omega⟩)
        · exact .inr (.inl ⟨w, _, c, _, rfl, h1, h2, rfl, q, by rw [List.length_append]; omega⟩)
      · refine .inr (.inr ⟨w ++ x, y, z, c + d1, d2, u', by simp, hy, ?_, g2, g3, by omega⟩)
        rw [List.append_assoc]
        exact .cons h1 g1
/-- rounds are at least as far apart as so many turns -/
theorem rounds_ge {u v : List α} {r : Nat} (hr : ∀ w c, Turn v w → A u w c → r ≤ c) : ∀ {n : Nat} {c : Nat}, Blocks u (n + 1) (rounds (n + 1) v) c → (n + 1) * r ≤ c := by
  intro n
  induction n with
  | zero =>
    intro c h
    rw [show rounds 1 v = v from List.append_nil v] at h
    generalize e : v = V at h
    cases h with
    | @cons _ w V' c d h1 h2 =>
      cases h2
      rw [List.append_nil] at e
      subst e
      have := hr v c (Turn.refl v) h1
      omega
  | succ n ih =>
    intro c h
    have hl := rounds_len (n + 1 + 1) v
    rcases tri (b := v.length) h with ⟨w, V', c', d', e, g1, g2, _, l1, l2⟩ | ⟨w, V', c', d', e, g1, g2, _, l1, l2⟩ | ⟨x, y, z, d1, d2, u', e, hy, g1, g2, g3, rfl⟩
    · rw [hl] at l2; exact absurd l2 (Nat.lt_irrefl _)
    · rw [hl] at l2; exact absurd l2 (Nat.lt_irrefl _)
    · obtain ⟨ht, hz⟩ := piece e hy
      rw [hz] at g1
      have k1 := ih g1
      obtain ⟨w, tw, aw⟩ := cut g2 ht g3
      have k2 := hr w d2 tw aw
      rw [Nat.succ_mul]
      omega
theorem rounds_A {u w : List α} {c : Nat} (h : A u w c) : ∀ n, A (rounds n u) (rounds n w) (n * c)
  | 0 => (A.nil).cast rfl rfl (by omega)
  | n + 1 => (h.append (rounds_A h n)).cast rfl rfl (by rw [Nat.succ_mul]; omega)
theorem rounds_turn (x y : List α) : ∀ n, rounds (n + 1) (x ++ y) = x ++ rounds n (y ++ x) ++ y
  | 0 => by simp [rounds]
  | n + 1 => by
    show (x ++ y) ++ rounds (n + 1) (x ++ y) = x ++ ((y ++ x) ++ rounds n (y ++ x)) ++ y
    rw [rounds_turn x y n]
    simp
theorem rounds_last (u : List α) : ∀ n, rounds (n + 1) u = rounds n u ++ u
  | 0 => by simp [rounds]
  | n + 1 => by
    show u ++ rounds (n + 1) u = (u ++ rounds n u) ++ u
    rw [rounds_last u n]; simp
theorem rounds_le {u v w : List α} {c : Nat} (ht : Turn v w) (h : A u w c) (n : Nat) : ∃ d, A (rounds (n + 1) u) (rounds (n + 1) v) d ∧ d ≤ n * c + u.length + v.length := by
  obtain ⟨x, y, rfl, rfl⟩ := ht
  refine ⟨_, (((A.adds x).append (rounds_A h n)).append ((A.drops u).append (A.adds y))).cast (by simp [rounds_last]) (by rw [rounds_turn]; simp) rfl, ?_⟩
  simp only [List.length_append]; omega
/-! ### the price of rounds -/
variable [DecidableEq α]
/-- the least of the distances of u and the turns of v -/
def Rp (u v : List α) (r : Nat) : Prop := (∃ w, Turn v w ∧ D u w = r) ∧ ∀ w, Turn v w → r ≤ D u w
theorem Rp.uniq {u v : List α} {r r' : Nat} (h : Rp u v r) (h' : Rp u v r') : r = r' := by
  obtain ⟨⟨w, t, e⟩, k⟩ := h
  obtain ⟨⟨w', t', e'⟩, k'⟩ := h'
  have := k w' t'
  have := k' w t
  omega
theorem Rp.turns {u u' v v' : List α} {r : Nat} (h : Rp u v r) (hu : Turn u u') (hv : Turn v v') : Rp u' v' r := by
  obtain ⟨⟨w, t, e⟩, k⟩ := h
  have low : ∀ w', Turn v' w' → r ≤ D u' w' := fun w' t' => by
    obtain ⟨w2, t2, a2⟩ := cut hu (hv.trans t') (D_A u' w')
    exact Nat.le_trans (k w2 t2) (D_le a2)
  obtain ⟨w2, t2, a2⟩ := cut (v := v') hu.symm (hv.symm.trans t) (D_A u w)
  have := D_le a2
  have := low w2 t2
  exact ⟨⟨w2, t2, by omega⟩, low⟩
theorem Rp.symm {u v : List α} {r : Nat} (h : Rp u v r) : Rp v u r := by
  obtain ⟨⟨w, t, e⟩, k⟩ := h
  have low : ∀ w', Turn u w' → r ≤ D v w' := fun w' t' => by
    obtain ⟨w2, t2, a2⟩ := cut t' (Turn.refl v) (D_A v w').symm
    exact Nat.le_trans (k w2 t2) (D_le a2)
  obtain ⟨w2, t2, a2⟩ := cut (v := u) t (Turn.refl u) (D_A u w).symm
  have := D_le a2
  have := low w2 t2
  exact ⟨⟨w2, t2, by omega⟩, low⟩
theorem Rp.self {u w : List α} (h : Turn u w) : Rp u w 0 := ⟨⟨u, h.symm, D_self u⟩, fun _ _ => Nat.zero_le _⟩
theorem Rp.ge {u v : List α} {r : Nat} (h : Rp u v r) (n : Nat) : (n + 1) * r ≤ D (rounds (n + 1) u) (rounds (n + 1) v) :=
  rounds_ge (fun w c t a => Nat.le_trans (h.2 w t) (D_le a)) (blocks_of (D_A _ _))
theorem Rp.le {u v : List α} {r : Nat} (h : Rp u v r) (n : Nat) : D (rounds (n + 1) u) (rounds (n + 1) v) ≤ n * r + u.length + v.length := by
  obtain ⟨⟨w, t, rfl⟩, _⟩ := h
  obtain ⟨d, a, hd⟩ := rounds_le t (D_A u w) n
  exact Nat.le_trans (D_le a) hd
/-- the turns by their places -/
theorem turn_at {v w : List α} (h : Turn v w) : ∃ k, k < max 1 v.length ∧ w = v.drop k ++ v.take k := by
  obtain ⟨x, y, rfl, rfl⟩ := h
  by_cases e : y = []
  · subst e
    exact ⟨0, by omega, by simp⟩
  · have : 0 < y.length := List.length_pos_iff.mpr e
    exact ⟨x.length, by rw [List.length_append]; omega, by simp⟩
end
end Lev

set_option Elab.async false
set_option linter.all false
set_option maxHeartbeats 400000
namespace Lev
section
variable {α : Type} [DecidableEq α]
/-! ### turns by a number, and roots -/
def rot (k : Nat) (v : List α) : List α := v.drop k ++ v.take k
theorem rot_len (k : Nat) (v : List α) : (rot k v).length = v.length := by
  unfold rot; rw [List.length_append, List.length_drop, List.length_take]; omega
theorem rot_get {k : Nat} {v : List α} (hk : k ≤ v.length) {i : Nat} (hi : i < v.length) : (rot k v)[i]? = v[(i + k) % v.length]? := by
  unfold rot
  by_cases h : i < v.length - k
  · rw [List.getElem?_append_left (by rw [List.length_drop]; exact h), List.getElem?_drop, Nat.mod_eq_of_lt (by omega), Nat.add_comm]
  · rw [List.getElem?_append_right (by rw [List.length_drop]; omega), List.length_drop, List.getElem?_take, if_pos (by omega)]
    have e : i + k = (i - (v.length - k)) + v.length := by omega
    rw [e, Nat.add_mod_right, Nat.mod_eq_of_lt (by omega)]
/-- each letter is the one so many places on -/
def Pr (v u : List α) (s : Nat) : Prop := ∀ i, i < v.length → v[(i + s) % v.length]? = u[i]?
theorem rot_eq {k : Nat} {v u : List α} (hk : k ≤ v.length) (hl : u.length = v.length) : rot k v = u ↔ Pr v u k := by
  constructor
  · intro h i hi
    rw [← h, rot_get hk hi]
  · intro h
    apply List.ext_getElem?
    intro i
    by_cases hi : i < v.length
    · rw [rot_get hk hi]; exact h i hi
    · rw [List.getElem?_eq_none (by rw [rot_len]; omega), List.getElem?_eq_none (by omega)]
theorem Pr.zero (v : List α) : Pr v v 0 := fun i hi => by rw [Nat.add_zero, Nat.mod_eq_of_lt hi]
theorem Pr.whole (v : List α) : Pr v v v.length := fun i hi => by rw [Nat.add_mod_right, Nat.mod_eq_of_lt hi]
theorem Pr.add {v u : List α} {s t : Nat} (h : Pr v v s) (g : Pr v u t) : Pr v u (t + s) := fun i hi => by
  have e := h ((i + t) % v.length) (Nat.mod_lt _ (by omega))
  rw [Nat.mod_add_mod] at e
  rw [← Nat.add_assoc, e, g i hi]
theorem Pr.sub {v u : List α} {s t : Nat} (h : Pr v v s) (g : Pr v u (t + s)) : Pr v u t := fun i hi => by
  have e := h ((i + t) % v.length) (Nat.mod_lt _ (by omega))
  rw [Nat.mod_add_mod] at e
  rw [← e, Nat.add_assoc, g i hi]
theorem Pr.mul {v : List α} {s : Nat} (h : Pr v v s) : ∀ q, Pr v v (q * s)
  | 0 => by rw [Nat.zero_mul]; exact Pr.zero v
  | q + 1 => by rw [Nat.succ_mul]; exact h.add (Pr.mul h q)
theorem Pr.mod {v u : List α} {s t : Nat} (h : Pr v v s) (g : Pr v u t) : Pr v u (t % s) := by
  refine Pr.sub (h.mul (t / s)) ?_
  rw [Nat.mul_comm, Nat.mod_add_div]; exact g
theorem Pr.diff {v u : List α} {s t : Nat} (h : Pr v u s) (g : Pr v u (t + s)) : Pr v v t := fun i hi => by
  -- the letters i + t and i are both read by u
  have hv : 0 < v.length := by omega
  -- choose j with j + s ≡ i
  have key : ∃ j, j < v.length ∧ (j + s) % v.length = i := by
    refine ⟨(i + (v.length - s % v.length)) % v.length, Nat.mod_lt _ hv, ?_⟩
    rw [Nat.mod_add_mod]
    have hs := Nat.mod_lt s hv
    have e : i + (v.length - s % v.length) + s = i + v.length * (s / v.length + 1) := by
      have := Nat.mod_add_div s v.length
      rw [Nat.mul_add, Nat.mul_one]
      generalize v.length * (s / v.length) = z at *
      omega
    rw [e, Nat.add_mul_mod_self_left, Nat.mod_eq_of_lt hi]
  obtain ⟨j, hj, ej⟩ := key
  have e1 := h j hj
  have e2 := g j hj
  rw [ej] at e1
  have e3 : (j + (t + s)) % v.length = (i + t) % v.length := by
    rw [show j + (t + s) = (j + s) + t by omega, ← Nat.mod_add_mod, ej]
  rw [e3] at e2
  rw [e2, e1]
instance (v u : List α) (s : Nat) : Decidable (Pr v u s) := by unfold Pr; infer_instance
/-- the length of the root -/
def rho (v : List α) : Nat := ((List.range v.length).find? fun s => decide (Pr v v (s + 1))).elim 0 (· + 1)
theorem rho_nil : rho ([] : List α) = 0 := rfl
theorem find_range {n : Nat} {p : Nat → Bool} {s : Nat} (h : (List.range n).find? p = some s) : s < n ∧ p s = true ∧ ∀ t, t < s → p t = false := by
  have e := List.find?_eq_some_iff_getElem.mp h
  obtain ⟨h1, i, hi, h2, h3⟩ := e
  rw [List.length_range] at hi
  rw [List.getElem_range] at h2
  subst h2
  exact ⟨hi, h1, fun t ht => by have := h3 t ht; rw [List.getElem_range] at this; simpa using this⟩
theorem rho_spec {v : List α} (hv : v ≠ []) : 0 < rho v ∧ rho v ≤ v.length ∧ Pr v v (rho v) ∧ ∀ t, 0 < t → t < rho v → ¬ Pr v v t := by
  have hl : 0 < v.length := List.length_pos_iff.mpr hv
  unfold rho
  cases h : (List.range v.length).find? fun s => decide (Pr v v (s + 1)) with
  | none =>
    have := List.find?_eq_none.mp h (v.length - 1) (List.mem_range.mpr (by omega))
    rw [show v.length - 1 + 1 = v.length by omega] at this
    exact absurd (decide_eq_true (Pr.whole v)) this
  | some s =>
    obtain ⟨h1, h2, h3⟩ := find_range h
    refine ⟨Nat.succ_pos _, h1, of_decide_eq_true h2, fun t t0 t1 => ?_⟩
    have := h3 (t - 1) (by have : t < s + 1 := t1; omega)
    rw [show t - 1 + 1 = t by omega] at this
    exact of_decide_eq_false this
theorem rho_le (v : List α) : rho v ≤ v.length := by
  by_cases h : v = []
  · subst h; exact Nat.le_refl _
  · exact (rho_spec h).2.1
theorem rho_least {v : List α} (hv : v ≠ []) {t : Nat} (t0 : 0 < t) (h : Pr v v t) : rho v ≤ t := by
  obtain ⟨_, _, _, k⟩ := rho_spec hv
  rcases Nat.lt_or_ge t (rho v) with q | q
  · exact absurd h (k t t0 q)
  · exact q
theorem rho_eq {v : List α} (hv : v ≠ []) {s : Nat} (s0 : 0 < s) (h : Pr v v s) (k : ∀ t, 0 < t → t < s → ¬ Pr v v t) : rho v = s := by
  refine Nat.le_antisymm (rho_least hv s0 h) ?_
  obtain ⟨a, _, c, _⟩ := rho_spec hv
  rcases Nat.lt_or_ge (rho v) s with q | q
  · exact absurd c (k _ a q)
  · exact q
theorem rho_dvd {v : List α} (hv : v ≠ []) {t : Nat} (h : Pr v v t) : t % rho v = 0 := by
  obtain ⟨a, _, c, k⟩ := rho_spec hv
  rcases Nat.eq_zero_or_pos (t % rho v) with q | q
  · exact q
  · exact absurd (Pr.mod c h) (k _ q (Nat.mod_lt _ a))
/-- the rounds of a piece -/
theorem rounds_Pr {w : List α} (hw : w ≠ []) (k : Nat) (s : Nat) : Pr (rounds (k + 1) w) (rounds (k + 1) w) s ↔ Pr w w s := by
  have hm : 0 < w.length := List.length_pos_iff.mpr hw
  have hl : (rounds (k + 1) w).length = (k + 1) * w.length := rounds_len _ _
  have get : ∀ i, (rounds (k + 1) w)[i % ((k + 1) * w.length)]? = w[i % w.length]? := fun i => by
    rw [rounds_get _ _ (Nat.mod_lt _ (Nat.mul_pos (Nat.succ_pos _) hm)), Nat.mod_mod_of_dvd _ (Nat.dvd_mul_left _ _)]
  constructor
  · intro h i hi
    have e := h i (by rw [hl, Nat.succ_mul]; omega)
    rw [hl, get] at e
    have e2 := get i
    rw [Nat.mod_eq_of_lt (by rw [Nat.succ_mul]; omega), Nat.mod_eq_of_lt hi] at e2
    rw [e, e2]
  · intro h i hi
    rw [hl] at hi
    rw [hl, get]
    have e2 := get i
    rw [Nat.mod_eq_of_lt hi] at e2
    rw [e2]
    have := h (i % w.length) (Nat.mod_lt _ hm)
    rw [Nat.mod_add_mod] at this
    exact this
theorem rounds_ne {w : List α} (hw : w ≠ []) (k : Nat) : rounds (k + 1) w ≠ [] := by
  intro h
  have := congrArg List.length h
  rw [rounds_len, Nat.succ_mul, List.length_nil] at this
  have := List.length_pos_iff.mpr hw
  omega
theorem rho_rounds {w : List α} (hw : w ≠ []) (k : Nat) : rho (rounds (k + 1) w) = rho w := by
  obtain ⟨a, _, c, d⟩ := rho_spec hw
  exact rho_eq (rounds_ne hw k) a ((rounds_Pr hw k _).mpr c) fun t t0 t1 h => d t t0 t1 ((rounds_Pr hw k _).mp h)
theorem rho_ext {v w : List α} (h : ∀ s, Pr v v s ↔ Pr w w s) (hv : v ≠ []) (hw : w ≠ []) : rho v = rho w := by
  obtain ⟨a, _, c, d⟩ := rho_spec hw
  exact rho_eq hv a ((h _).mpr c) fun t t0 t1 q => d t t0 t1 ((h _).mp q)
/-- a text is the rounds of a beginning of s letters exactly if s divides and it is periodic -/
theorem rounds_iff {v : List α} {s : Nat} (s0 : 0 < s) (hs : s ≤ v.length) : (v.length % s = 0 ∧ rounds (v.length / s) (v.take s) = v) ↔ (v.length % s = 0 ∧ Pr v v s) := by
  have lt : (v.take s).length = s := by rw [List.length_take]; omega
  constructor
  · rintro ⟨h1, h2⟩
    refine ⟨h1, ?_⟩
    have hq : 0 < v.length / s := Nat.div_pos hs s0
    obtain ⟨k, hk⟩ : ∃ k, v.length / s = k + 1 := ⟨v.length / s - 1, by omega⟩
    rw [hk] at h2
    have hw : v.take s ≠ [] := by intro z; rw [z] at lt; simp at lt; omega
    have := (rounds_Pr hw k s).mpr (by have := Pr.whole (v.take s); rw [lt] at this; exact this)
    rw [h2] at this
    exact this
  · rintro ⟨h1, h2⟩
    refine ⟨h1, ?_⟩
    have hd : v.length / s * s = v.length := Nat.div_mul_cancel (Nat.dvd_of_mod_eq_zero h1)
    apply List.ext_getElem?
    intro i
    by_cases hi : i < v.length
    · rw [rounds_get _ _ (by rw [lt, hd]; exact hi), lt, List.getElem?_take, if_pos (Nat.mod_lt _ s0)]
      have e := h2.mul (i / s) (i % s) (Nat.lt_of_lt_of_le (Nat.mod_lt _ s0) hs)
      rw [Nat.mul_comm, Nat.mod_add_div, Nat.mod_eq_of_lt hi] at e
      exact e.symm
    · rw [List.getElem?_eq_none (by rw [rounds_len, lt, hd]; omega), List.getElem?_eq_none (by omega)]
theorem rho_rounds_of {v : List α} (hv : v ≠ []) : v.length % rho v = 0 ∧ rounds (v.length / rho v) (v.take (rho v)) = v := by
  obtain ⟨a, b, c, _⟩ := rho_spec hv
  exact (rounds_iff a b).mpr ⟨rho_dvd hv (Pr.whole v), c⟩
def root (v : List α) : List α := v.take (rho v)
theorem root_nil : root ([] : List α) = [] := rfl
theorem root_len (v : List α) : (root v).length = rho v := by unfold root; rw [List.length_take]; have := rho_le v; omega
theorem root_ne {v : List α} (hv : v ≠ []) : root v ≠ [] := by
  intro h
  have := congrArg List.length h
  rw [root_len] at this
  have := (rho_spec hv).1
  simp at *; omega
theorem root_rounds {w : List α} (hw : w ≠ []) (k : Nat) : root (rounds (k + 1) w) = root w := by
  unfold root
  rw [rho_rounds hw]
  show (w ++ rounds k w).take (rho w) = _
  rw [List.take_append_of_le_length (rho_le w)]
theorem root_of {v : List α} (hv : v ≠ []) : ∃ k, v = rounds (k + 1) (root v) := by
  obtain ⟨h1, h2⟩ := rho_rounds_of hv
  have hq : 0 < v.length / rho v := Nat.div_pos (rho_le v) (rho_spec hv).1
  exact ⟨v.length / rho v - 1, by rw [show v.length / rho v - 1 + 1 = v.length / rho v by omega]; exact h2.symm⟩
theorem rounds_addR (v : List α) (n : Nat) : ∀ k, rounds (k + n) v = rounds k v ++ rounds n v
  | 0 => by rw [Nat.zero_add]; rfl
  | k + 1 => by
    rw [Nat.add_right_comm]
    show v ++ rounds (k + n) v = (v ++ rounds k v) ++ rounds n v
    rw [rounds_addR v n k, List.append_assoc]
/-- texts that commute are rounds of one text -/
theorem commute {N : Nat} : ∀ {x y : List α}, x.length + y.length ≤ N → x ≠ [] → y ≠ [] → x ++ y = y ++ x → ∃ z a b, z ≠ [] ∧ x = rounds (a + 1) z ∧ y = rounds (b + 1) z := by
  induction N with
  | zero => intro x y h hx _ _; exact absurd (List.length_eq_zero_iff.mp (by omega)) hx
  | succ N ih =>
    intro x y h hx hy e
    have px := List.length_pos_iff.mpr hx
    have py := List.length_pos_iff.mpr hy
    have one : ∀ {x y : List α}, x.length + y.length ≤ N + 1 → x ≠ [] → y ≠ [] → x ++ y = y ++ x → x.length < y.length → ∃ z a b, z ≠ [] ∧ x = rounds (a + 1) z ∧ y = rounds (b + 1) z := by
      intro x y h hx hy e l
      have px := List.length_pos_iff.mpr hx
      have hp : y = x ++ y.drop x.length := by
        have := congrArg (List.take x.length) e
        rw [List.take_left', List.take_append_of_le_length (by omega)] at this
        · conv => lhs; rw [← List.take_append_drop x.length y]
          rw [← this]
        · rfl
      generalize hy' : y.drop x.length = y' at hp
      have ly : y'.length = y.length - x.length := by rw [← hy', List.length_drop]
      rw [hp] at e
      have e2 : x ++ y' = y' ++ x := by
        rw [List.append_assoc] at e
        exact List.append_cancel_left e
      have hy2 : y' ≠ [] := by intro z; rw [z] at ly; simp at ly; omega
      obtain ⟨z, a, b, hz, e3, e4⟩ := ih (by omega) hx hy2 e2
      refine ⟨z, a, a + 1 + b, hz, e3, ?_⟩
      rw [hp, show a + 1 + b + 1 = (a + 1) + (b + 1) by omega, rounds_addR, ← e3, ← e4]
    rcases Nat.lt_trichotomy x.length y.length with l | l | l
    · exact one h hx hy e l
    · have : x = y := by
        have := congrArg (List.take x.length) e
        rw [List.take_left' rfl, List.take_left' l.symm] at this
        exact this
      subst this
      exact ⟨x, 0, 0, hx, by simp [rounds], by simp [rounds]⟩
    · obtain ⟨z, a, b, hz, e1, e2⟩ := one (by omega) hy hx e.symm l
      exact ⟨z, b, a, hz, e2, e1⟩
theorem root_commute {x y : List α} (hx : x ≠ []) (hy : y ≠ []) : root x = root y ↔ x ++ y = y ++ x := by
  constructor
  · intro h
    obtain ⟨a, ea⟩ := root_of hx
    obtain ⟨b, eb⟩ := root_of hy
    rw [← h] at eb
    rw [ea, eb, ← rounds_addR, ← rounds_addR, Nat.add_comm]
  · intro h
    obtain ⟨z, a, b, hz, e1, e2⟩ := commute (Nat.le_refl _) hx hy h
    rw [e1, e2, root_rounds hz, root_rounds hz]
end
end Lev

set_option Elab.async false
set_option linter.all false
set_option maxRecDepth 100000
set_option maxHeartbeats 2000000
/-! An own error class over another own class over Exception, whose __init__ keeps its one argument: raised, caught, its attribute read. -/
namespace ErrX
open PySem PySem.W PySem.Calls PyProof.Rows PySem.HandSPX Builtin Builtin.ObjectAttr
abbrev tailE : List Value := [.type "Exception", .type "BaseException", .type "object"]
/-! ### the text of such an __init__ -/
def iA (p1 p2 : Pos) : Arguments := { posonlyargs := [], args := [{ arg := "self", annotation := none, pos := p1 }, { arg := "given", annotation := none, pos := p2 }], vararg := none, kwonlyargs := [], kw_defaults := [], kwarg := none, defaults := [] }
def iB (q1 q2 q3 q4 : Pos) : List Stmt := [.Assign [.Attribute (.Name "self" q1) "given" q2] (.Name "given" q3) q4]
def iS : Scope := { kind := .function, names := [(PySem.Str.ofString "self", .local), (PySem.Str.ofString "given", .local)], isGenerator := false, isCoroutine := false, more := [] }
/-- what the written part says of the class cn, at C, and of its __init__, at fI -/
structure ETxt (K : Frag) (mg : Str → Option Value) (cn qi : Str) (C fI : Addr) : Prop where
  gC : mg cn = some (.ref C)
  cls : ∃ nm q N bs bm sn sub ab col dd k0 k1 k2 k3 k5, K.lookup C = some (excClassObj nm q C N bs bm true sn sub ab col dd k0 k1 k2 k3 k5 "Exception.__new__") ∧ excTail tailE bm = true
  ov : excOver K C tailE = true
  tk : takerIn K C "given" = some none
  sa : findIn K (.ref C) "__setattr__" = some (some (.builtin "object.__setattr__"))
  ga : findIn K (.ref C) "__getattribute__" = some (some (.builtin "BaseException.__getattribute__"))
  gg : findIn K (.ref C) "__getattr__" = some none
  noN : findIn K (.ref C) "given" = some none
  iC : findIn K (.ref C) "__init__" = some (some (.ref fI))
  tC : typeIn K (.ref fI) = some (.type "function")
  kC : keepIn K (.ref C) = true
  exC : subIn K (.ref C) (.type "BaseException") = some true
  tyC : typeIn K (.ref C) = some (.type "type")
  hdC : hasDictIn K C = true
  fn : ∃ (oc : Value) (od : Option Addr) (doc pm : Value) (an : Option Addr) (cdv ct : Value) (osl : Array (Option Value)) (p1 p2 q1 q2 q3 q4 : Pos),
    K.lookup fI = some ⟨oc, od, .func (fnOf "__init__" qi (iA p1 p2) (iB q1 q2 q3 q4) iS .none .none doc pm an cdv ct), osl⟩ ∧ codeIn K cdv qi = true
theorem one_fits (v : Value) : [v].length ≤ sizeLine := by
  rw [sizeLine_eq]
  exact (by decide : 1 ≤ 16777216)
/-- what __init__ leaves of a fresh error at x -/
structure EndE (h h' : Heap) (x C dx t1 : Addr) (fl : Str) (v : Value) : Prop where
  keep : ∀ b o, b ≠ x → h.get? b = some o → h'.get? b = some o
  obj : h'.get? x = some (excObj C t1 (some dx) .none)
  dbig : h.objs.size ≤ dx
  dne : dx ≠ x
  ns : h'.Ns1 dx (fun y => if y = fl then some v else none)
structure MadeE (h h' : Heap) (e C d : Addr) (fl : Str) (v : Value) : Prop where
  keep : ∀ b o, h.get? b = some o → h'.get? b = some o
  new : h.objs.size ≤ e
  obj : ∃ t, h'.get? e = some (excObj C t (some d) .none)
  dbig : h.objs.size ≤ d
  dne : d ≠ e
  ns : h'.Ns1 d (fun y => if y = fl then some v else none)
section
variable {prog : Program} {w : World} {A : Around} {E : Value → Shared → Prop} {R : Result → Shared → Prop} {s : Shared} {K : Frag} {mg : Str → Option Value} {C fI : Addr} {cn qi : Str}
/-- the first store into a fresh error -/
theorem store_new {name : Str} {tk : Tok} {v : Value} {x t0 : Addr} (X : K.In s.heap) (hx : s.heap.get? x = some (excObj C t0 none .none)) (ho : excOver K C tailE = true) (ht : takerIn K C name = some none) (hh : hasDictIn K C = true)
    (hq : ∀ h' tk' dx, EndE s.heap h' x C dx t0 name v → R (.ok (.ret .none)) { s with heap := h', toks := tk' }) :
    codeAny (model prog w) A (.call (.builtin "object.__setattr__") ⟨[.ref x, .str name tk, v], []⟩) R s := by
  refine osa_openX (od := none) F.store_Exception X ⟨hx, rfl, rfl, trivial⟩ ho ht fun b => ?_
  obtain ⟨cd, hc, hd'⟩ := any_some hh
  have hxs : x ≠ s.heap.objs.size := Nat.ne_of_lt (Heap.lt_size hx)
  have hx1 : (s.heap.push { cls := .type "dict", data := .dict #[] }).get? x = some (excObj C t0 none .none) := Heap.get?_push_of_some _ hx
  refine wpAny_bind (wpAny_pure (wpAny_bind (instanceDict_exc hx (looks_clsIn X hc) hd' ?_)))
  show wpAny _ _ (storeInDict s.heap.objs.size (.str name tk) name v) _ _ _
  obtain ⟨hp, g, dr, t, os⟩ := s
  refine store_in_new ?_ ?_
  · exact ⟨_, #[], _, (Heap.get?_update_ne _ _ _ _ hxs.symm).trans (Heap.get?_push_at rfl rfl), rfl, fun e he => absurd he (by simp), fun _ => rfl⟩
  · intro h' tk' hn' hs
    refine hq h' tk' hp.objs.size ⟨fun b o hb ho => ?_, ?_, Nat.le_refl _, hxs.symm, hn'⟩
    · exact (hs.2 b (Nat.ne_of_lt (Heap.lt_size ho))).trans ((Heap.get?_update_ne _ _ _ _ hb).trans (Heap.get?_push_of_some _ ho))
    · exact (hs.2 x hxs).trans (Heap.get?_update_self _ hx1 rfl)
theorem ldC {M : Model} {s : Shared} {name : Str} {scope : Scope} {L a : Addr} {cd : Value} {m : Str → Option Value} {x : Str} {pos : Pos} {v : Value} {Q : Value → Shared → Prop} {A : Around} {E : Value → Shared → Prop} (hn : s.heap.Ns L m) (hv : m x = some v) (h : Q v s)
    (hk : scope.kind = .function := by rfl) (hl : (envOfC name scope L a cd).kindOf x = some .local := by rfl) (hd : (x == ("__debug__" : Str)) = false := by decide) :
    wpAny M A (eval (.Name x pos) (envOfC name scope L a cd)) Q E s := wpAny_Name (wpAny_loadName_local hk hl hn hv h) hd
theorem init_ok (T : ETxt K mg cn qi C fI) {x t0 : Addr} {v : Value} (X : K.In s.heap) (hlim : s.heap.NoLimit) (hx : s.heap.get? x = some (excObj C t0 none .none)) (hroom : A.depth < recursionLimit)
    (hq : ∀ h' tk dx, EndE s.heap h' x C dx t0 "given" v → R (.ok (.ret .none)) { s with heap := h', toks := tk }) :
    codeAny (model prog w) A (.call (.ref fI) ⟨[.ref x, v], []⟩) R s := by
  obtain ⟨oc, od, doc, pm, an, cdv, ct, osl, p1, p2, q1, q2, q3, q4, ho, hcd⟩ := T.fn
  refine Att.call_fn (binds := [("self", .ref x), ("given", v)]) X hlim ho hcd hroom (BindsTo.of_eq (by first | rfl | with_unfolding_all rfl)) (by first | rfl | decide | with_unfolding_all rfl) (fun s1 IC => ?_) rfl rfl rfl
  obtain ⟨h1, tk1, rfl⟩ := IC.toInCall.same
  have k : ∀ b o, s.heap.get? b = some o → h1.get? b = some o := IC.toInCall.keep
  have hn := IC.toInCall.ns
  have X1 : K.In h1 := X.keeps k
  have hx1 := k _ _ hx
  show wpAny _ _ (execs _ _) _ _ _
  refine wpAny_execs_cons (plainObj_wpAny_Assign_Attribute ?_)
  refine ldC (v := v) hn (by first | rfl | with_unfolding_all rfl | kernel_rfl) (ldC (v := .ref x) hn (by first | rfl | with_unfolding_all rfl | kernel_rfl) ?_)
  refine set_plain X1 (ox := excObj C t0 none .none) (od := none) ⟨hx1, rfl, rfl, trivial⟩ T.sa ?_
  refine store_new X1 hx1 T.ov T.tk T.hdC fun h3 tk3 dx M => ?_
  show wpAny _ _ (execs _ _) _ _ _
  have z : s.heap.objs.size < h1.objs.size := hn.lt
  exact wpAny_execs_nil (hq h3 tk3 dx ⟨fun b o hb e => M.keep b o hb (k b o e), M.obj, Nat.le_of_lt (Nat.lt_of_lt_of_le z M.dbig), M.dne, M.ns⟩)
theorem made_ok (T : ETxt K mg cn qi C fI) {v : Value} (X : K.In s.heap) (hlim : s.heap.NoLimit) (hroom : A.depth + 1 < recursionLimit)
    (hq : ∀ h' tk e d, MadeE s.heap h' e C d "given" v → R (.ok (.ret (.ref e))) { s with heap := h', toks := tk }) :
    codeAny (model prog w) A (.call (.ref C) ⟨[v], []⟩) R s := by
  obtain ⟨nm, q, N, bs, bm, sn, sub, ab, col, dd, k0, k1, k2, k3, k5, hC, hbm⟩ := T.cls
  obtain ⟨hp, g, dr, tk, os⟩ := s
  have k : ∀ b o, hp.get? b = some o → ((hp.push (kdv_tup [v])).push (excO C hp.objs.size)).get? b = some o := fun b o e => Heap.get?_push_of_some _ (Heap.get?_push_of_some _ e)
  have hget : ((hp.push (kdv_tup [v])).push (excO C hp.objs.size)).get? (hp.objs.size + 1) = some (excO C hp.objs.size) := by heap_get
  refine call_own F.excBase_Exception (fun X => excTail_contains X bm hbm) (X _ _ hC) (looks_findIn X T.iC) (fun self => bind_fn X self T.tC) (one_fits v) ?_
  refine init_ok (s := ⟨(hp.push (kdv_tup [v])).push (excO C hp.objs.size), g, dr, tk, os⟩) T (X.keeps k) (hlim.keeps k) hget ?_ fun h' tk' dx M => ?_
  · show A.depth + 1 < recursionLimit
    exact hroom
  · have old : ∀ b o, hp.get? b = some o → h'.get? b = some o := fun b o e => M.keep b o (Nat.ne_of_lt (Nat.lt_succ_of_lt (Heap.lt_size e))) (k b o e)
    have z : hp.objs.size + 1 + 1 ≤ dx := by
      have q := M.dbig
      first
        | exact q
        | (rw [Heap.size_push, Heap.size_push] at q; exact q)
        | (simpa only [Heap.size_push] using q)
    exact ⟨rfl, hq h' tk' (hp.objs.size + 1) dx ⟨old, Nat.le_succ _, ⟨_, M.obj⟩, Nat.le_trans (Nat.le_trans (Nat.le_succ _) (Nat.le_succ _)) z, M.dne, M.ns⟩⟩
end
end ErrX
namespace L2
open PySem PySem.Spec PyProof.Rows
/-- the own dict of an error that keeps v -/
abbrev gvn (v : V) : List (Str × V) := [(("given" : Str), v)]
theorem relO_gvn {v : V} {v' : Value} (r : RelV v v') (f : Str) : RelO (List.lookup f (gvn v)) (if f = "given" then some v' else none) := by
  have e := lookup_put "given" f v []
  show RelO (List.lookup f [(("given" : Str), v)]) _
  rw [e]
  by_cases h : f = "given"
  · rw [if_pos h, if_pos h]; exact r
  · rw [if_neg h, if_neg h]; trivial
section
variable {X : Cx} {C fI : Addr} {cn qi : Str}
/-- C(e) -/
def tMkE (C : Addr) (ta : TA) : St → Hp → XK → Prop := fun σ H Q => ta σ H fun vs H1 => ∃ v, vs = [v] ∧ ∀ d, H1 d = none → Q (.ref C) (some d) (upd H1 d (.xd (gvn v)))
theorem pmk_err {a : Expr} {ta : TA} {p pos : Pos} {k : Nat} (T : ErrX.ETxt X.K X.mg cn qi C fI) (hr : Room k X.A) (ha : PA X [a] ta) (hg : Gl X cn) (hdb : (cn == ("__debug__" : Str)) = false)
    (he : starEach (a :: []) X.env = (false, eval a X.env) :: starEach [] X.env := by rfl) (hpl : (backTo pos (starEach [] X.env)).any (·.1) = false := by rfl) :
    PMk X (.Call (.Name cn p) [a] [] pos) (tMkE C ta) := by
  intro pins s σ H Q I h
  refine wpAny_Call_Name_kw (ld_glob I hg T.gC ?_ hdb)
  refine PySem.W.callWith_K (h₀ := X.base) I.ok.mod.kin T.kC (thn (ha.run pos pins s σ H _ I h) fun us s1 hh => ?_) he hpl
  obtain ⟨vs, H1, I1, r1, v, ev, q1⟩ := hh
  subst ev
  refine ⟨I1.kIn, ?_⟩
  cases r1 with
  | cons rv rn =>
    rename_i v' us'
    cases rn
    show wpAny _ _ (call (.ref C) [v']) _ _ _
    have hlim := I1.nolimit
    obtain ⟨hp, g, dr, tk, os⟩ := s1
    refine wpAny_call (ErrX.made_ok T I1.kIn hlim (by have := hr.dp; omega) fun h' tk' e d M => ?_)
    show MkP X pins σ Q (.ref e) ⟨h', g, dr, tk', os⟩
    obtain ⟨t, hoe⟩ := M.obj
    have hns := M.ns
    obtain ⟨G', g1, g2⟩ := restrict h' fun b => decide (b ≠ e)
    have gk : ∀ b, b ≠ e → G'.get? b = h'.get? b := fun b hb => g1 b (decide_eq_true hb)
    have ge : G'.get? e = none := g2 e (by simp)
    have old : ∀ b o, hp.get? b = some o → G'.get? b = some o := fun b o q => (gk b (Nat.ne_of_lt (Nat.lt_of_lt_of_le (Heap.lt_size q) M.new))).trans (M.keep b o q)
    have ob : ObjOk X.prog X.w (upd H1 d (.xd (gvn v))) G' d (.xd (gvn v)) :=
      ⟨_, hns.at (fun o q => (gk d M.dne).trans q), fun f => relO_gvn rv f⟩
    have J : Inv X pins σ (upd H1 d (.xd (gvn v))) ⟨G', g, dr, tk', os⟩ := I1.laid (t' := tk') old M.dbig ob
    refine ⟨e, _, _, ⟨G', g, dr, tk', os⟩, _, .ref C, some d, rfl, J, fun b o q => ?_, ge, hoe, ⟨rfl, rfl⟩, rfl, rfl, ?_, rfl, I1.bare, raises_own T.exC T.tyC, q1 d (I1.hok.fresh M.dbig)⟩
    · by_cases hb : b = e
      · have q' : G'.get? b = some o := q
        rw [hb, ge] at q'; cases q'
      · exact (gk b hb).symm.trans q
    · rw [upd_ne (Ne.symm M.dne)]
      exact I1.hok.fresh M.new
/-- raise C(e) -/
def tRaiseE (C : Addr) (W : WX) (ta : TA) : TS := fun _ σ H => tMkE C ta σ H fun cls d H' => W cls d σ H'
theorem ps_raiseE {a : Expr} {ta : TA} {W : WX} {p pos pos2 : Pos} {k : Nat} (hc : X.calm = true) (T : ErrX.ETxt X.K X.mg cn qi C fI) (hr : Room k X.A) (tk : Takes X W) (ha : PA X [a] ta) (hg : Gl X cn := by rfl) (hdb : (cn == ("__debug__" : Str)) = false := by decide)
    (he : starEach (a :: []) X.env = (false, eval a X.env) :: starEach [] X.env := by rfl) (hpl : (backTo pos (starEach [] X.env)).any (·.1) = false := by rfl) :
    PS X (.Raise (some (.Call (.Name cn p) [a] [] pos)) none pos2) (tRaiseE C W ta) := ps_raise hc tk (pmk_err T hr ha hg hdb he hpl)
/-- e.given, e the error that the suite holds (at a; its class cls, its dict d) -/
def tGvn (C : Addr) (a : Addr) (cls : Value) (d : Option Addr) (te : TE) : TE := fun σ H Q => te σ H fun x H1 => x = .ref a ∧ cls = .ref C ∧ ∃ (dd : Addr) (v : V), d = some dd ∧ H1 dd = some (.xd (gvn v)) ∧ Q v H1
theorem pe_gvn {a : Addr} {oe : Obj} {cls : Value} {d : Option Addr} {pn : List (Addr × Obj)} {e : Expr} {te : TE} {pos : Pos} (T : ErrX.ETxt X.K X.mg cn qi C fI) (hz : Zc cls d oe) (hf : ∃ vs, oe.data = .fields vs) (he : PE (X.suite a ((a, oe) :: pn)) e te)
    (hb : attributeBase e "given" X.env (eval e X.env) = eval e X.env := by rfl) :
    PE (X.suite a ((a, oe) :: pn)) (.Attribute e "given" pos) (tGvn C a cls d te) := by
  refine ⟨fun pins s σ H Q I h => ?_⟩
  refine attr_of hb (thn (he.run pins s σ H _ I h) fun u s1 hh => ?_)
  obtain ⟨x, H1, I1, rx, ex, ec, dd, v, ed, ea, q⟩ := hh
  subst ex
  obtain rfl : u = Value.ref a := rx
  subst ec
  subst ed
  obtain ⟨ha, _⟩ := I1.pin (a, oe) (List.mem_append_left _ List.mem_cons_self)
  obtain ⟨vs, hd⟩ := hf
  have hx : ObjOk X.prog X.w H1 s1.heap dd (.xd (gvn v)) := I1.hok dd _ ea
  obtain ⟨mA, hns, hr⟩ := hx
  obtain ⟨od, ho, hl⟩ := lookIn_ns hns
  have l : List.lookup ("given" : Str) (gvn v) = some v := by
    show List.lookup ("given" : Str) [(("given" : Str), v)] = some v
    rw [lookup_put, if_pos rfl]
  obtain ⟨u, hu, ru⟩ := RelO.some_of (v := v) (o := mA "given") (by rw [← l]; exact hr "given")
  have J : PySem.W.InstAt s1.heap a oe C (some od) := ⟨ha, hz.1, by unfold PySem.W.notCls; rw [hd] <;> rfl, by rw [hz.2]; exact ho⟩
  exact HandSPX.exc_get I1.kIn J T.ga T.gg T.exC (PySem.W.findObj_own T.hdC T.noN rfl (by rw [hl, hu])) (handed_of ru) ⟨v, H1, I1.tok _, ru, q⟩
end
end L2

set_option Elab.async false
set_option linter.all false
set_option maxRecDepth 100000
set_option maxHeartbeats 2000000
/-! Further rules over the hand layer: texts by their codes, three numbers' max and min, repr of data. -/
namespace L2
open PySem PySem.Spec PyProof.Rows
/-! ### texts by their codes -/
abbrev cs (x : Str) : List Nat := x.cps.toList
def S (l : List Nat) : Str := ⟨l.toArray⟩
theorem S_tl (l : List Nat) : cs (S l) = l := by simp [S, cs]
theorem S_of (z : Str) : S (cs z) = z := by obtain ⟨⟨l⟩⟩ := z; rfl
theorem S_len (l : List Nat) : (S l).length = l.length := by simp [S, Str.length]
theorem S_inj {l m : List Nat} (h : S l = S m) : l = m := by have := congrArg cs h; rwa [S_tl, S_tl] at this
theorem S_app (l m : List Nat) : S l ++ S m = S (l ++ m) := by
  show (⟨l.toArray ++ m.toArray⟩ : Str) = ⟨(l ++ m).toArray⟩
  simp
theorem S_eqV (l m : List Nat) : decide (V.str (S l) = V.str (S m)) = decide (l = m) := by
  by_cases h : l = m
  · subst h; simp
  · rw [decide_eq_false h, decide_eq_false]
    intro e; exact h (S_inj (V.str.inj e))
theorem sIx_some (n d i : Nat) : HT.sIx n d (some ((i : Nat) : Int)) = min i n := HT.sIx_nat n d i
theorem cut_from (l : List Nat) (i : Nat) : cutS (S l) (some (i : Int)) none = S (l.drop i) := by
  show S (((cs (S l)).drop (HT.sIx (S l).length 0 (some (i : Int)))).take (HT.sIx (S l).length (S l).length none - HT.sIx (S l).length 0 (some (i : Int)))) = _
  rw [S_tl, S_len, sIx_some, HT.sIx_none]
  congr 1
  rcases Nat.le_total i l.length with h | h
  · rw [Nat.min_eq_left h, List.take_of_length_le (by rw [List.length_drop]; omega)]
  · rw [Nat.min_eq_right h, Nat.sub_self, List.take_zero, List.drop_of_length_le h]
theorem cut_to (l : List Nat) (i : Nat) : cutS (S l) none (some (i : Int)) = S (l.take i) := by
  show S (((cs (S l)).drop (HT.sIx (S l).length 0 none)).take (HT.sIx (S l).length (S l).length (some (i : Int)) - HT.sIx (S l).length 0 none)) = _
  rw [S_tl, S_len, sIx_some, HT.sIx_none, List.drop_zero, Nat.sub_zero]
  congr 1
  rcases Nat.le_total i l.length with h | h
  · rw [Nat.min_eq_left h]
  · rw [Nat.min_eq_right h, List.take_of_length_le h, List.take_of_length_le (Nat.le_refl _)]
theorem cut_mid (l : List Nat) (i j : Nat) : cutS (S l) (some (i : Int)) (some (j : Int)) = S ((l.drop i).take (j - i)) := by
  show S (((cs (S l)).drop (HT.sIx (S l).length 0 (some (i : Int)))).take (HT.sIx (S l).length (S l).length (some (j : Int)) - HT.sIx (S l).length 0 (some (i : Int)))) = _
  rw [S_tl, S_len, sIx_some, sIx_some]
  congr 1
  rcases Nat.le_total i l.length with h | h
  · rw [Nat.min_eq_left h]
    rcases Nat.le_total j l.length with h2 | h2
    · rw [Nat.min_eq_left h2]
    · rw [Nat.min_eq_right h2, List.take_of_length_le (by rw [List.length_drop]; omega), List.take_of_length_le (by rw [List.length_drop]; omega)]
  · rw [Nat.min_eq_right h, List.drop_of_length_le h, List.drop_of_length_le (Nat.le_refl _)]
    simp
theorem atI_S {l : List Nat} {i : Nat} {c : Nat} (h : l[i]? = some c) : atI (S l).cps.toList (i : Int) = some c := by
  show atI (cs (S l)) (i : Int) = some c
  rw [S_tl]
  exact atI_nat h
/-! ### what a text is -/
def low (c : Nat) : Bool := decide (97 ≤ c) && decide (c ≤ 122)
theorem ascii_facts : ∀ c : Fin 128, Unicode.isAlpha c.val = (low c.val || (decide (65 ≤ c.val) && decide (c.val ≤ 90))) ∧ Unicode.isLower c.val = low c.val ∧ (Unicode.isUpper c.val || Unicode.isTitle c.val) = (decide (65 ≤ c.val) && decide (c.val ≤ 90)) := by
  decide +kernel
theorem istext_eq (z : Str) : (decide (V.str z = V.str (Str.ofString "")) || (Txt.isascii z && Txt.isalpha z && Txt.islower z)) = (cs z).all low := by
  obtain ⟨⟨l⟩⟩ := z
  have e0 : (V.str (⟨⟨l⟩⟩ : Str) = V.str (Str.ofString "")) ↔ l = [] := by
    constructor
    · intro h
      have h2 := congrArg cs (V.str.inj h)
      exact h2
    · intro h; subst h; rfl
  show (decide _ || ((l.toArray.all (· < 128)) && (decide (l.toArray.size > 0) && l.toArray.all Unicode.isAlpha) && (l.toArray.any Unicode.isLower && !l.toArray.any fun c => Unicode.isUpper c || Unicode.isTitle c))) = l.all low
  have ea : ∀ p : Nat → Bool, (l.toArray).all p = l.all p := fun p => by rw [← Array.all_toList]
  have eb : ∀ p : Nat → Bool, (l.toArray).any p = l.any p := fun p => by rw [← Array.any_toList]
  have ec : (⟨l⟩ : Array Nat) = l.toArray := rfl
  simp only [ea, eb]
  simp only [List.size_toArray]
  clear ea eb ec
  cases l with
  | nil => rw [decide_eq_true (e0.mpr rfl)]; rfl
  | cons a r =>
    rw [decide_eq_false (fun h => by cases e0.mp h), Bool.false_or]
    generalize hl : a :: r = l
    have hne : l ≠ [] := by rw [← hl]; simp
    have F : ∀ c ∈ l, c < 128 → Unicode.isAlpha c = (low c || (decide (65 ≤ c) && decide (c ≤ 90))) ∧ Unicode.isLower c = low c ∧ (Unicode.isUpper c || Unicode.isTitle c) = (decide (65 ≤ c) && decide (c ≤ 90)) := fun c _ hc => ascii_facts ⟨c, hc⟩
    rw [Bool.eq_iff_iff]
    simp only [Bool.and_eq_true, List.all_eq_true, List.any_eq_true, Bool.not_eq_true', List.any_eq_false, decide_eq_true_eq]
    constructor
    · rintro ⟨⟨h1, _, h2⟩, _, h3⟩ c hc
      obtain ⟨f1, f2, f3⟩ := F c hc (h1 c hc)
      have q2 := h2 c hc
      have q3 := h3 c hc
      rw [f1] at q2
      rw [f3] at q3
      simp only [Bool.or_eq_true] at q2
      rcases q2 with q2 | q2
      · exact q2
      · exact absurd q2 q3
    · intro h
      have hb : ∀ c ∈ l, c < 128 := fun c hc => by
        have := h c hc
        unfold low at this
        simp only [Bool.and_eq_true, decide_eq_true_eq] at this
        omega
      refine ⟨⟨hb, by rw [← hl]; simp, fun c hc => ?_⟩, ?_, fun c hc => ?_⟩
      · rw [(F c hc (hb c hc)).1, h c hc, Bool.true_or]
      · obtain ⟨c, hc⟩ := List.exists_mem_of_ne_nil l hne
        exact ⟨c, hc, by rw [(F c hc (hb c hc)).2.1]; exact h c hc⟩
      · rw [(F c hc (hb c hc)).2.2]
        have := h c hc
        unfold low at this
        simp only [Bool.and_eq_true, decide_eq_true_eq] at this
        simp; omega
/-! ### calls -/
theorem nuMax3_int (i j k : Int) : nuMax3 (.int i) (.int j) (.int k) = some (.int (max (max i j) k)) := by
  have h2 : ∀ a b : Int, nuMax2 (.int a) (.int b) = some (.int (max a b)) := fun a b => by
    show Option.map (fun c => if c = true then V.int b else V.int a) (some (decide (a < b))) = some (V.int (max a b))
    by_cases h : a < b
    · rw [decide_eq_true h]; simp; omega
    · rw [decide_eq_false h]; simp; omega
  unfold nuMax3
  rw [h2]
  exact h2 _ _
theorem nuMin3_int (i j k : Int) : nuMin3 (.int i) (.int j) (.int k) = some (.int (min (min i j) k)) := by
  have h2 : ∀ a b : Int, nuMin2 (.int a) (.int b) = some (.int (min a b)) := fun a b => by
    show Option.map (fun c => if c = true then V.int b else V.int a) (some (decide (b < a))) = some (V.int (min a b))
    by_cases h : b < a
    · rw [decide_eq_true h]; simp; omega
    · rw [decide_eq_false h]; simp; omega
  unfold nuMin3
  rw [h2]
  exact h2 _ _
def rMax3 : List V → Hp → VK → Prop := fun xs H Q => ∃ i j k, xs = [.int i, .int j, .int k] ∧ Q (.int (max (max i j) k)) H
def rMin3 : List V → Hp → VK → Prop := fun xs H Q => ∃ i j k, xs = [.int i, .int j, .int k] ∧ Q (.int (min (min i j) k)) H
theorem call_max3 {X : Cx} (hc : X.calm = true) : CallR X (.builtin "max") rMax3 := fun pins s σ H xs us Q I r h => by
  obtain ⟨i, j, k, rfl, q⟩ := h
  exact call_max3Nu hc pins s σ H _ us Q I r ⟨_, _, _, _, rfl, nuMax3_int i j k, q⟩
theorem call_min3 {X : Cx} (hc : X.calm = true) : CallR X (.builtin "min") rMin3 := fun pins s σ H xs us Q I r h => by
  obtain ⟨i, j, k, rfl, q⟩ := h
  exact call_min3Nu hc pins s σ H _ us Q I r ⟨_, _, _, _, rfl, nuMin3_int i j k, q⟩
/-! ### repr of data: Dp, and an empty dict -/
def Dr (K : PySem.W.Frag) (H : Hp) (x : V) (d : PyData) : Prop := Dp K H x d ∨ ∃ a, x = .ref a ∧ H a = some (.dK []) ∧ d = .dict []
def rRepr (K : PySem.W.Frag) : List V → Hp → VK → Prop := fun xs H Q => ∃ x d, xs = [x] ∧ Dr K H x d ∧ d.showable = true ∧ d.depth ≤ 60 ∧ d.shown.length ≤ sizeLine ∧ Q (.str d.shown) H
theorem hasDict_dp {K : PySem.W.Frag} {H : Hp} : (∀ {x d}, Dp K H x d → d.hasDict = false) ∧ (∀ {xs ds}, DpAll K H xs ds → PyData.hasDictAll ds = false) := by
  constructor
  · intro x d h
    exact Dp.rec (motive_1 := fun _ d _ => d.hasDict = false) (motive_2 := fun _ ds _ => PyData.hasDictAll ds = false) rfl (fun _ => rfl) (fun _ => rfl) (fun _ => rfl)
      (fun _ _ ih => by unfold PyData.hasDict; exact ih) (fun _ _ ih => by unfold PyData.hasDict; exact ih) rfl (fun _ _ i1 i2 => by unfold PyData.hasDictAll; rw [i1, i2]; rfl) h
  · intro x d h
    exact DpAll.rec (motive_1 := fun _ d _ => d.hasDict = false) (motive_2 := fun _ ds _ => PyData.hasDictAll ds = false) rfl (fun _ => rfl) (fun _ => rfl) (fun _ => rfl)
      (fun _ _ ih => by unfold PyData.hasDict; exact ih) (fun _ _ ih => by unfold PyData.hasDict; exact ih) rfl (fun _ _ i1 i2 => by unfold PyData.hasDictAll; rw [i1, i2]; rfl) h
end L2
namespace L2
open PySem PySem.Spec PyProof.Rows
section
variable {X : Cx}
theorem call_repr (hc : X.A.guards = some []) (hu : X.A.units + 64 < cLine) : CallR X (.builtin "repr") (rRepr X.K) := by
  intro pins s σ H xs us Q I r h
  obtain ⟨x, d, rfl, hd, hs, hdp, hz, q⟩ := h
  cases r with
  | cons r1 rn =>
    rename_i u us'
    cases rn
    rcases hd with hd | ⟨a, rfl, ha, rfl⟩
    · obtain ⟨as, rd⟩ := Dp.reads I d x u hd r1
      cases hd with
      | non => cases rd; exact P.repr_of_none ⟨.str _, H, I.tok _, ⟨_, rfl⟩, q⟩
      | bl b => cases rd; exact P.repr_of_bool ⟨.str _, H, I.tok _, ⟨_, rfl⟩, q⟩
      | int i =>
        cases rd
        have hi : i.natAbs.log2 < 1920 := of_decide_eq_true hs
        exact P.repr_of_int hi ⟨.str _, H, I.tok _, ⟨_, rfl⟩, q⟩
      | str z => cases rd; exact P.repr_of_str ⟨.str _, H, I.tok _, ⟨_, rfl⟩, q⟩ hz
      | lst h1 h2 =>
        obtain rfl : u = Value.ref _ := r1
        have hh : PyData.hasDict _ = false := hasDict_dp.1 (Dp.lst h1 h2)
        exact repr_of_reads' rd hs (fun e => by rw [hh] at e; cases e) hc (by omega) (fun _ _ e => e) (fun h' u tk k => ⟨.str _, H, I.kept k, ⟨_, rfl⟩, q⟩) hz
      | tup h1 h2 =>
        obtain rfl : u = Value.ref _ := r1
        have hh : PyData.hasDict _ = false := hasDict_dp.1 (Dp.tup h1 h2)
        exact repr_of_reads' rd hs (fun e => by rw [hh] at e; cases e) hc (by omega) (fun _ _ e => e) (fun h' u tk k => ⟨.str _, H, I.kept k, ⟨_, rfl⟩, q⟩) hz
    · obtain rfl : u = Value.ref a := r1
      obtain ⟨_, hsys, vs, hkv, od, es, ep, hget, hcl, hdat, hko, hps, _⟩ : ObjOk X.prog X.w H s.heap a (.dK []) := I.hok a _ ha
      cases hkv
      have he : es.toList = [] := by
        generalize es.toList = l at hps
        cases hps; rfl
      have rd : Reads s.heap (.ref a) (.dict []) (a :: [] ++ []) := .dict hget hcl.1 hdat (by rw [he]; exact .nil) (by rw [he]; exact .nil)
      refine repr_of_reads' rd hs (fun _ hm => ?_) hc (by omega) (fun _ _ e => e) (fun h' u tk k => ⟨.str _, H, I.kept k, ⟨_, rfl⟩, q⟩) hz
      have e : sysModules = a := by simpa using hm
      rw [← e] at hsys
      exact absurd hsys (by decide)
end
end L2
namespace L2
open PySem PySem.Spec PyProof.Rows
section
variable {X : Cx}
theorem op_mul_str : OpR X (binaryOp .Mult) (fun x y H Q => ∃ z k, x = .str z ∧ y = .int k ∧ MulOk z k ∧ Q (.str (Txt.mul z k)) H) := by
  intro pins s σ H x y v u Q I rx ry h
  obtain ⟨z, k, rfl, rfl, hz, q⟩ := h
  obtain ⟨t, rfl⟩ := rx
  obtain ⟨t', rfl⟩ := ry
  exact SB.mul hz fun t2 k2 => ⟨.str _, H, I.tok _, ⟨_, rfl⟩, q⟩
/-- f(k = v, ..) by keywords alone, what is raised wished for at the slots -/
def tCallKS (sp : Sp) (gV : List V → List V → List V) (E : St → XK) (tk : TA) : TE := fun σ H Q => tk σ H fun zs H1 => sp (gV [] zs) H1 Q (E σ)
theorem pe_callKS {CX : CXT} {k : Nat} {f : Addr} {fd : FuncData} {ps ks : List Str} {sp : Sp} {E : St → XK} {x : Str} {p pos : Pos} {kws : List Keyword} {tk : TA} {g : List Value → List Value → List Value} {gV : List V → List V → List V}
    (F : FnOk X.prog X.w X.K X.mg X.base CX k f fd ps sp) (hr : Room k X.A) (hg : Gl X x) (hm : X.mg x = some (.ref f)) (hk : PySem.W.keepIn X.K (.ref f) = true) (hb : KBinds X.K fd ps ks g gV) (hx : ∀ σ, PassesAt CX X σ (E σ))
    (hkw : PK X kws tk) (hall : (backToKw pos (keywordEach kws X.env)).all (·.1.isSome) = true := by rfl) (hks : (backToKw pos (keywordEach kws X.env)).filterMap (·.1) = ks := by rfl)
    (hdb : (x == ("__debug__" : Str)) = false := by decide) (hpl : ((backTo pos (starEach [] X.env)).any (·.1) || (backToKw pos (keywordEach kws X.env)).any (·.1.isNone)) = false := by rfl) :
    PE X (.Call (.Name x p) [] kws pos) (tCallKS sp gV E tk) := by
  constructor
  intro pins s σ H Q I h
  apply wpAny_Call_Name_kw (ld_glob I hg hm ?_ hdb)
  apply PySem.W.callWith_KW0 (h₀ := X.base) I.ok.mod.kin hk hall (thn (hkw.run pos pins s σ H _ I h) ?_) hpl
  rintro ws s1 ⟨zs, H1, I1, rz, q⟩
  refine ⟨I1.kIn, ?_⟩
  rw [hks]
  have r2 := hb.rel (vs := []) (us := []) .nil rz
  have hl : (g [] ws).length = ps.length := (r2.length).symm.trans (F.len _ _ _ _ q)
  apply wpAny_call
  apply codeAny_mono (F.run X.A X.stack s1 H1 ⟨[], ks.zip ws⟩ (g [] ws) (gV [] zs) Q (E σ) hr I1.env0 (hb.to s1 [] ws I1.kIn hl) r2 q)
  intro r s' hq
  match r, hq with
  | .error er, hq => exact hx σ pins H1 s1 er s' I1 hq
  | .ok (.ret u), hq => exact I1.after hq
  | .ok .next, hq => exact hq.elim
  | .ok .brk, hq => exact hq.elim
  | .ok .cont, hq => exact hq.elim
end
end L2

set_option Elab.async false
set_option linter.all false
set_option maxRecDepth 100000
set_option maxHeartbeats 2000000
/-! Defs that call repr: the promise is shown only where no repr is running around the call. -/
namespace L2
open PySem PySem.Spec PyProof.Rows
/-- as FnOk, where no guard stands around -/
structure FnG (P : Program) (w : World) (K : PySem.W.Frag) (mg : Str → Option Value) (base : Heap) (CX : CXT) (k : Nat) (f : Addr) (fd : FuncData) (ps : List Str) (sp : Sp) : Prop where
  len : ∀ vs H Q E, sp vs H Q E → vs.length = ps.length
  run : ∀ (A : Around) (outer : List Env) (s : Shared) (H : Hp) (args : Args) (us : List Value) (vs : List V) (Q : VK) (E : XK), A.guards = some [] → Room k A → Env0 P w K mg base A outer s H →
    BindsTo s fd args (ps.zip us) → Vals vs us → sp vs H Q E → codeAny (model P w) A (.call (.ref f) args) (CR CX outer P w H s Q E) s
theorem FnOk.toG {P : Program} {w : World} {K : PySem.W.Frag} {mg : Str → Option Value} {base : Heap} {CX : CXT} {k : Nat} {f : Addr} {fd : FuncData} {ps : List Str} {sp : Sp} (F : FnOk P w K mg base CX k f fd ps sp) : FnG P w K mg base CX k f fd ps sp :=
  ⟨F.len, fun A outer s H args us vs Q E _ hr => F.run A outer s H args us vs Q E hr⟩
section
variable {X : Cx} {CX : CXT} {k : Nat} {f : Addr} {fd : FuncData} {ps : List Str} {sp : Sp} {dvs : List V} {ds : List Value} {E : XK} {x : Str} {p pos : Pos} {e : Expr} {es : List Expr} {t : TA}
theorem pe_callG (F : FnG X.prog X.w X.K X.mg X.base CX k f fd ps sp) (hgd : X.A.guards = some []) (hr : Room k X.A) (hg : Gl X x) (hm : X.mg x = some (.ref f)) (hk : PySem.W.keepIn X.K (.ref f) = true) (hb : Binds X.K fd ps ds) (hd : Vals dvs ds) (hx : Passes CX X E)
    (ha : PA X (e :: es) t) (hdb : (x == ("__debug__" : Str)) = false := by decide) (he : starEach (e :: es) X.env = (false, eval e X.env) :: starEach es X.env := by rfl) (hpl : (backTo pos (starEach es X.env)).any (·.1) = false := by rfl) :
    PE X (.Call (.Name x p) (e :: es) [] pos) (tCall sp dvs E t) := by
  constructor
  intro pins s σ H Q I h
  apply wpAny_Call_Name_kw (ld_glob I hg hm ?_ hdb)
  apply PySem.W.callWith_K (h₀ := X.base) I.ok.mod.kin hk (thn (ha.run pos pins s σ H _ I h) ?_) he hpl
  rintro us s1 ⟨vs, H1, I1, rv, q⟩
  refine ⟨I1.kIn, ?_⟩
  have r2 : Vals (vs ++ dvs) (us ++ ds) := rv.append hd
  have hl : (us ++ ds).length = ps.length := (r2.length).symm.trans (F.len _ _ _ _ q)
  apply wpAny_call
  apply codeAny_mono (F.run X.A X.stack s1 H1 ⟨us, []⟩ (us ++ ds) (vs ++ dvs) Q E hgd hr I1.env0 (hb s1 us I1.kIn hl) r2 q)
  intro r s' hq
  match r, hq with
  | .error er, hq => exact hx pins σ H1 s1 er s' I1 hq
  | .ok (.ret u), hq => exact I1.after hq
  | .ok .next, hq => exact hq.elim
  | .ok .brk, hq => exact hq.elim
  | .ok .cont, hq => exact hq.elim
end
theorem deeper_guards {A : Around} {env : Env} : (A.deeper env).guards = A.guards := rfl
section
variable {P : Program} {w : World} {K : PySem.W.Frag} {mg : Str → Option Value} {base : Heap}
/-- the rule for a def, where no guard stands around -/
theorem Fun.okG {x qual : Str} {st : Stmt} {f : Addr} {fd : FuncData} {N ps : List Str} {k : Nat} {sp : Sp} (F : Fun K x qual st f fd) (S : FnScope N ps (defScope st)) (len : ∀ vs H Q E, sp vs H Q E → vs.length = ps.length)
    (hbody : ∀ (cdv : Value) (A : Around) (outer : List Env) (s : Shared) (H : Hp) (vs : List V) (Q : VK) (E : XK), (A.deeper (envOfC qual (defScope st) s.heap.objs.size f cdv)).guards = some [] → Room k (A.deeper (envOfC qual (defScope st) s.heap.objs.size f cdv)) → sp vs H Q E →
      ∃ t, PSs (cxOf CX0 P w K mg base N qual (defScope st) f cdv A outer s H E).nox (defBody st) t ∧ t { nx := fun _ H' => Q .non H', rt := Q } (start N vs) H) : FnG P w K mg base CX0 (k + 1) f fd ps sp := by
  obtain ⟨oc, od, kV, doc, pm, an, cdv, ct, osl, rfl, lk, hcd⟩ := F.ex
  refine ⟨len, fun A outer s H args us vs Q E hgd hr e0 hb r hsp => ?_⟩
  have KX : K.In s.heap := e0.mod.kin.keeps fun b o e => (e0.bs b o e).1
  have lim : s.heap.NoLimit := e0.mod.nolimit.keeps fun b o e => (e0.bs b o e).1
  apply codeAny_call_function hr.depth (KX _ _ lk) rfl S.co S.gen rfl (PySem.W.codeRec_of KX hcd) (hb _ _ _ _ ?_)
  apply wpAny_newFunctionEnv_cells S.kind ?_ ?_
  · rintro ⟨n, v⟩ hy
    rcases S.par n (List.of_mem_zip hy).1 with q | q
    · exact Or.inl q
    · exact Or.inr ⟨q, PySem.W.cellsFrom_some _ _ _ (Or.inl q)⟩
  · intro env he s1 x
    subst he
    refine ⟨lim.keeps x.toInCall.keep, codeAny_func ?_⟩
    obtain ⟨t, ht, hq⟩ := hbody cdv A outer s H vs Q E (deeper_guards.trans hgd) (hr.deeper _) hsp
    have I := inv_start (CX := CX0) (E := E) S hr.hd e0 (len _ _ _ _ hsp) r x
    apply wpAny_mono (ht.nox.run [] s1 (start N vs) H _ I hq) ?_ fun e s' hs => hs
    intro fl s' hs
    match fl, hs with
    | .ret u, ⟨v, σ', H', J, rv, q⟩ => exact ⟨v, H', J.os, J.bare, J.base, J.hok, rv, q⟩
    | .next, ⟨σ', H', J, q⟩ => exact ⟨V.non, H', J.os, J.bare, J.base, J.hok, rfl, q⟩
    | .brk, ⟨_, _, _, q⟩ => exact q.elim
    | .cont, ⟨_, _, _, q⟩ => exact q.elim
end
end L2
namespace L2
open PySem PySem.Spec PyProof.Rows
section
variable {P : Program} {w : World} {K : PySem.W.Frag} {mg mb : Str → Option Value} {k : Nat} {fa a : Addr} {fd : FuncData} {x : Str} {sp : Sp} {s1 : Shared} {vs : List Value} {ns : List Int}
/-- the law's call, H telling nothing but, maybe, the script at a -/
theorem enterG {H : Hp} (KX : K.In s1.heap) (hns : s1.heap.Ns mainGlobals mg) (hb : s1.heap.Ns builtinsNs mb) (hbb : ∀ x : Str, x ≠ "__name__" → mb x = bootBuiltins x) (hlim : s1.heap.NoLimit) (hg : s1.gens = #[])
    (ha : s1.heap.get? a = some { cls := .type "list", data := .seq vs.toArray }) (hr : Room k callerA)
    (F : ∀ base : Heap, K.In base → base.Ns mainGlobals mg → FnG P w K mg base CX0 k fa fd [x] sp) (hbind : ∀ (s : Shared) (u : Value), BindsTo s fd ⟨[u], []⟩ [(x, u)])
    (hO : Only H) (hok : HOk P w H s1.heap) (hA : ∀ b, H b ≠ none → b = a) (hK : ∀ b o, K.lookup b = some o → H b = none) (hsp : sp [.ref a] H (fun v _ => v = .bl true) fun _ _ _ => False) :
    codeAny (model P w) callerA (.call (.ref fa) ⟨[.ref a], []⟩) (fun r s' => r = .ok (.ret (.bool true)) ∧ OldK s1.heap s'.heap ∧ s'.os = s1.os ∧ AllBare s'.gens) s1 := by
  have nsK : ∀ {b : Addr} {m : Str → Option Value}, s1.heap.Ns b m → (hidT s1.heap H).Ns b m := by
    rintro b m ⟨o, es, ep, e, d, r⟩
    have n : H b = none := by
      cases q : H b with
      | none => rfl
      | some u =>
        have z := hA b (by rw [q]; exact fun z => nomatch z)
        rw [z, ha] at e
        rw [← Option.some.inj e] at d
        exact nomatch d
    exact ⟨o, es, ep, hidT_get e n, d, r⟩
  have hKb : K.In (hidT s1.heap H) := fun b o e => hidT_get (KX b o e) (hK b o e)
  have e0 : Env0 P w K mg (hidT s1.heap H) callerA [] s1 H :=
    { frames := rfl, mod := ⟨hKb, nsK hns, ⟨mb, nsK hb, hbb⟩, hlim.elim fun mc h => ⟨mc, nsK h.1, h.2⟩⟩, bs := fun b o e => of_hidT e, bsz := Nat.le_of_eq (hidT_size _ _), funs := trivial, frf := fun b hb => (List.not_mem_nil hb).elim, hok := hok, bare := .of_eq hg }
  apply codeAny_mono ((F _ hKb (nsK hns)).run callerA [] s1 H ⟨[.ref a], []⟩ [.ref a] [.ref a] _ _ rfl hr e0 (hbind s1 (.ref a)) (.cons rfl .nil) hsp)
  intro r s' h
  match r, h with
  | .error e, h =>
    obtain ⟨_, _, _, h⟩ := h
  | .ok .next, h => exact h.elim
  | .ok .brk, h => exact h.elim
  | .ok .cont, h => exact h.elim
  | .ok (.ret u), ⟨v, H', os, bare, un, hok', r', q⟩ =>
    obtain rfl : v = .bl true := q
    obtain rfl : u = Value.bool true := r'
    refine ⟨rfl, OldK.of_keep fun b o e => ?_, os, bare⟩
    rcases hO b with z | ⟨ob, xs, z⟩
    · exact un.keep b o e z (List.not_mem_nil) (List.not_mem_nil)
    · have e1 := (hok b _ z).1
      have e2 := (hok' b _ (un.frzs b ob _ z)).1
      rw [e] at e1
      rw [Option.some.inj e1]
      exact e2
end
/-- the goal that the head leaves, from the law's promise, where the law's def calls repr -/
theorem walk_G {l : PySem.W.OpenLaw} {n k : Nat} {q : Program} {loose : List Str} {XP : (Str → Option Value) → Heap → Prop} {YP : World → Heap → Prop} {d : DefRec} {K : Params → PySem.W.Frag} {sp : PySem.W.Frag → Sp} {x : Str}
    (hn : l.most = some n) (hn2 : n ≤ sizeLine) (hdf : d.params.defaults = []) (hr : Room k callerA)
    (hY : ∀ (w : World) (h : Heap), YP w h → (K w.params).In h)
    (F : ∀ (w : World) (mg : Str → Option Value) (fa : Addr) (h : Heap), (K w.params).In h → h.Ns mainGlobals mg → mg d.name = some (.ref fa) →
      ∃ fd : FuncData, (∀ (s : Shared) (u : Value), BindsTo s fd ⟨[u], []⟩ [(x, u)]) ∧
        ∀ base : Heap, (K w.params).In base → base.Ns mainGlobals mg → FnG l.prog w (K w.params) mg base CX0 k fa fd [x] (sp (K w.params)))
    (hsp : ∀ (K : PySem.W.Frag) (H : Hp) (a : Addr) (ns : List Int), ns.length ≤ n → Only H → SqL K H a (ns.map V.int) → sp K [.ref a] H (fun v _ => v = .bl true) fun _ _ _ => False) :
    PySem.W.WalkO q loose XP YP l.row.toRowW d [] (fun f vs => PySem.call f vs) := by
  refine Att.attach_call hn hdf fun w s0 s1 mg mb fa o pm cd doc a vs ns G Y ho hd hcd hmg hobj hints hlen hg => ?_
  have KX := hY w _ Y
  obtain ⟨fd, hb, hF⟩ := F w mg fa _ KX G.T.g hmg
  have rv := vals_ints hints
  have lenV := hints.length
  have hl := Nat.le_trans hlen hn2
  cases hk : (K w.params).lookup a with
  | some ob =>
    have e := KX a ob hk
    rw [hobj] at e
    have e' := (Option.some.inj e).symm
    subst e'
    refine enterG (H := fun _ => none) KX G.T.g G.T.b G.T.builtins G.T.nolimit hg hobj hr hF hb (fun _ => .inl rfl) (fun b u z => nomatch (show (none : Option HO) = some u from z)) (fun b z => (z rfl).elim) (fun _ _ _ => rfl) ?_
    exact hsp (K w.params) _ a ns hlen (fun _ => .inl rfl) (.inr ⟨_, vs.toArray, _, hk, rfl, rfl, rfl, by rw [List.size_toArray, lenV]; exact hl, by simpa using rv⟩)
  | none =>
    have at_a : (fun b => if b = a then some (HO.frz { cls := .type "list", data := .seq vs.toArray } (.lst (ns.map V.int))) else none) a = some (HO.frz { cls := .type "list", data := .seq vs.toArray } (.lst (ns.map V.int))) := if_pos rfl
    have only : Only (fun b => if b = a then some (HO.frz { cls := .type "list", data := .seq vs.toArray } (.lst (ns.map V.int))) else none) := fun b => by
      by_cases z : b = a
      · exact .inr ⟨_, _, if_pos z⟩
      · exact .inl (if_neg z)
    refine enterG (H := fun b => if b = a then some (HO.frz { cls := .type "list", data := .seq vs.toArray } (.lst (ns.map V.int))) else none) KX G.T.g G.T.b G.T.builtins G.T.nolimit hg hobj hr hF hb only (fun b u z => ?_) (fun b z => ?_) (fun b ob z => ?_) ?_
    · by_cases y : b = a
      · subst y
        have z' := at_a.symm.trans z
        rw [← Option.some.inj z']
        exact ⟨hobj, by rw [List.length_map]; exact hl, vs, _, rv, hobj⟩
      · exact nomatch (if_neg y).symm.trans z
    · by_cases y : b = a
      · exact y
      · exact (z (if_neg y)).elim
    · refine if_neg fun y => ?_
      rw [y, hk] at z
      cases z
    · exact hsp (K w.params) _ a ns hlen only (.inl (.inr ⟨_, at_a⟩))
end L2

set_option Elab.async false
set_option linter.all false
set_option maxRecDepth 100000
set_option maxHeartbeats 2000000
/-! Several clauses 'except .. as e', one behind the other, all of them with one name. -/
namespace L2
open PySem PySem.Spec PyProof.Rows
/-- what stands behind the suite: the name is gone -/
def goneEnds (i : Nat) (D : Ends) : Ends :=
  { nx := fun u G => D.nx (u.set i none) G,
    rt := D.rt,
    bk := fun u G => D.bk (u.set i none) G,
    ct := fun u G => D.ct (u.set i none) G }
abbrev SuiteT := Addr → Value → Option Addr → TS
def wAll (K : PySem.W.Frag) (i : Nat) (Wo : WX) (D : Ends) : List (Value × SuiteT) → WX
  | [] => Wo
  | q :: l => fun cls d σ H =>
    ∃ b, PySem.W.exmOne K cls q.1 = some b ∧
      (b = true → ∀ a, H a = none → q.2 a cls d (goneEnds i D) (σ.set i (some (.ref a))) H) ∧
      (b = false → wAll K i Wo D l cls d σ H)
/-- the clauses and what their suites tell -/
inductive Clauses (X : Cx) (n : Str) : List ExceptHandler → List (Value × SuiteT) → Prop
  | last : Clauses X n [] []
  | more {x : Str} {c : Value} {ts : SuiteT} {b₀ : Stmt} {su : List Stmt} {p1 p2 : Pos} {hl : List ExceptHandler} {l : List (Value × SuiteT)} :
      Names X x c →
      (∀ (a : Addr) (oe : Obj) (cls : Value) (d : Option Addr) (pn : List (Addr × Obj)), Zc cls d oe → (∃ vs, oe.data = .fields vs) →
        PSs (X.suite a ((a, oe) :: pn)) (b₀ :: su) (ts a cls d)) →
      Clauses X n hl l → Clauses X n (.ExceptHandler (some (.Name x p1)) (some n) (b₀ :: su) p2 :: hl) ((c, ts) :: l)
section
variable {X : Cx} {n : Str} {i : Nat} {body : List Stmt} {h₀ : ExceptHandler} {hl : List ExceptHandler} {l : List (Value × SuiteT)} {pos : Pos} {tb : WX → TS} {Wo : WX}
theorem ps_tryAll (eS : X.stack = X.env :: X.outer) (eF : X.env.frame = some X.env.locals) (nd : X.N.Nodup) (ei : X.N[i]? = some n) (en : X.env.kindOf n = some .local) (tk : Takes X Wo)
    (hb : ∀ (W : WX) (pn : List (Addr × Obj)) (xe : Value → Shared → Prop), Takes (X.tr pn xe) W →
      PassesOwn (model X.prog X.w) X.A X.env xe → PSs (X.tr pn xe) body (tb W))
    (hc : Clauses X n (h₀ :: hl) l) :
    PS X (.Try body (h₀ :: hl) [] [] pos) (fun D σ H => tb (wAll X.K i Wo D l) D σ H) := by
  constructor
  intro pins s σ H D I hyp
  have iok := I.ok
  have fr : X.A.frames = some (X.env :: X.outer) := iok.frames.trans (congrArg some eS)
  apply wpAny_Try_except
  let XE : Value → Shared → Prop := fun e s₁ =>
    wpAny (model X.prog X.w) X.A (noteFrame e X.env) (fun _ s₂ =>
      wpAny (model X.prog X.w) X.A (setFlight e none) (fun _ s₃ =>
        wpAny (model X.prog X.w) X.A (handleBy e X.env (h₀ :: hl)) (SP X pins D) X.xe s₃) X.xe s₂) X.xe s₁
  have run := (hb (wAll X.K i Wo D l) (X.pn ++ pins) XE ?_ PassesOwn.looking).run [] s σ H D (I.toTry _) hyp
  · refine wpAny_mono run (fun f s1 sp => ?_) (fun e s1 q => q)
    match f, sp with
    | .next, ⟨u, G, J, q⟩ => exact wpAny_execs_nil ⟨u, G, J.ofTry iok, q⟩
    | .brk, ⟨u, G, J, q⟩ => exact ⟨u, G, J.ofTry iok, q⟩
    | .cont, ⟨u, G, J, q⟩ => exact ⟨u, G, J.ofTry iok, q⟩
    | .ret _, ⟨v, u, G, J, r, q⟩ => exact ⟨v, u, G, J.ofTry iok, r, q⟩
  · -- what flies out of the body
    rintro u s' ⟨a, B, sI, pins', τ, G, cls, d, rfl, J', nb, up, sky, na, os, ag, wish⟩
    have J : Inv X pins τ G sI := J'.ofTry iok
    have sky2 : Sky B (X.env :: X.outer) a (Zc cls d) X.env.locals s'.heap := eS ▸ sky
    show wpAny _ X.A (noteFrame (.ref a) X.env) _ _ _
    apply Sky.land Zc.steady fr eF sky2
    intro g3 fly3 up3
    have J3 : Inv X pins τ G { s' with heap := g3 } := J.landed nb fly3.1 (up.trans up3) os ag
    obtain ⟨o3, v3, at3, z3, d3⟩ := fly3.there
    have off : a ∉ frs (X.env :: X.outer) := by
      intro hm
      obtain ⟨_, o', e', hn⟩ := fly3.2.2.1.mem hm
      rw [at3] at e'
      cases e'
      exact hn _ d3
    have offL : a ≠ X.env.locals := by
      intro z
      exact off (List.mem_filterMap.mpr ⟨X.env, List.mem_cons_self, by rw [eF, z]⟩)
    have offF : a ∉ X.fs := by
      intro hm
      obtain ⟨e, he, q⟩ := List.mem_filterMap.mp hm
      exact off (List.mem_filterMap.mpr ⟨e, List.mem_cons_of_mem _ he, q⟩)
    have S3 := J3.suite at3 d3 na offL offF
    -- clause by clause
    suffices go : ∀ {hs : List ExceptHandler} {k : List (Value × SuiteT)}, Clauses X n hs k → wAll X.K i Wo D k cls d τ G →
        wpAny (model X.prog X.w) X.A (handleBy (.ref a) X.env hs) (SP X pins D) X.xe { s' with heap := g3 } from go hc wish
    intro hs k hk
    induction hk with
    | last =>
      intro out
      apply wpAny_handleBy_nil
      obtain ⟨k1, k2, k3, oe, vs, T, oT, ts', he, hz, hd, h1, hr⟩ := id fly3
      unfold PySem.passOn
      apply wpAny_bind
      apply wpAny_field he hd h1
      rw [if_neg (by simp : ¬ ((Value.ref T == Value.none) = true))]
      have thrown : wpAny (model X.prog X.w) X.A (setFlight (.ref a) X.env.frame) (fun _ s4 =>
          wpAny (model X.prog X.w) X.A (throw (.ref a) : Sem Flow) (SP X pins D) X.xe s4) X.xe { s' with heap := g3 } := by
        rw [eF]
        apply HandSPX.setFlight_upZ fly3
        intro g4 fly4 up4
        apply wpAny_throw
        apply tk
        exact ⟨a, B, sI, pins, τ, G, cls, d, rfl, J, nb, (up.trans up3).trans up4, .inr (.inr (eS ▸ fly4)), na, os, ag, out⟩
      first
        | exact wpAny_bind (wpAny_pure (wpAny_bind thrown))
        | exact wpAny_bind thrown
    | @more x c ts b₀ su p1 p2 hl2 l2 nm suite _ ih =>
      rintro ⟨b, eb, yes, no⟩
      have looks : PySem.W.Looks (model X.prog X.w) g3 (typeOf (.ref a)) cls := by
        intro A' Q' E' t k q
        exact wpAny_typeOf_ref (k _ _ at3) (by rw [z3.1]; exact q)
      have LM := PySem.W.exm_one (M := model X.prog X.w) (J3.kIn) looks eb
      apply wpAny_handleBy_cons (codeAny_handlers_test ?_) (by intro q; cases q)
      have named : ∀ {Q' : Value → Shared → Prop} {E' : Value → Shared → Prop}, Q' c { s' with heap := g3 } →
          wpAny (model X.prog X.w) (X.A.mark (some (.ref a))) (eval (.Name x p1) X.env) Q' E' { s' with heap := g3 } := by
        intro Q' E' q
        rcases nm with ⟨g, dbg, m | ⟨m, v, w⟩⟩
        · exact ld_glob (X := X.suite a ((a, o3) :: (X.pn ++ pins))) S3 g m q dbg
        · exact ld_blt (X := X.suite a ((a, o3) :: (X.pn ++ pins))) S3 g m v q w dbg
      apply named
      apply LM.here
      match b, yes, no with
      | false, _, no => exact ih (no rfl)
      | true, yes, _ =>
        apply codeAny_handlers_suite_as
        apply HandSPX.lands_againZ fly3
        intro g4 fly4 up4
        have J4 : Inv X pins τ G { s' with heap := g4 } := J.landed nb fly4.1 ((up.trans up3).trans up4) os ag
        obtain ⟨o4, v4, at4, z4, d4⟩ := fly4.there
        have S4 := J4.suite at4 d4 na offL offF
        apply store_ok (X := X.suite a ((a, o4) :: (X.pn ++ pins))) (v := .ref a) S4 nd ei (.inl en) rfl ?_ (.inr en)
        intro s5 S5
        have ran := (suite a o4 cls d (X.pn ++ pins) z4 ⟨_, d4⟩).run [] s5 _ G _ S5 (yes rfl a na)
        refine wpAny_mono ran (fun f s6 sp => ?_) (fun _ _ z => z.elim)
        have gone : ∀ {u : St} {K6 : Hp} {Q' : Shared → Prop}, Inv (X.suite a ((a, o4) :: (X.pn ++ pins))) [] u K6 s6 →
            (∀ s7, Inv X pins (u.set i none) K6 s7 → Q' s7) →
            wpAny (model X.prog X.w) X.A (do bindName X.env n .none; unbindBehindTheSuite X.env n p2) (fun _ s7 => Q' s7) X.xe s6 :=
          fun S6 q => gone_ok (S6.unsuite iok) nd ei en q
        match f, sp with
        | .next, ⟨_, _, S6, q⟩ => exact gone S6 fun _ J7 => ⟨_, _, J7, q⟩
        | .brk, ⟨_, _, S6, q⟩ => exact gone S6 fun _ J7 => ⟨_, _, J7, q⟩
        | .cont, ⟨_, _, S6, q⟩ => exact gone S6 fun _ J7 => ⟨_, _, J7, q⟩
        | .ret _, ⟨_, _, _, S6, r, q⟩ => exact gone S6 fun _ J7 => ⟨_, _, _, J7, r, q⟩
end
end L2

set_option Elab.async false
set_option linter.all false
set_option maxRecDepth 100000
set_option maxHeartbeats 2000000
/-! Further rules: isinstance of a caught error, list of a text, == of lists of unlike length, find, dicts shown. -/
namespace L2
open PySem PySem.Spec PyProof.Rows PySem.Builtin PySem.Builtin.Str
/-! ### find -/
theorem occ_stay (s sub : Str) (hi : Nat) : ∀ (l : List Nat) (st : Array Nat × Nat), st.1.size = 1 → (forIn l st (StrLaws.occBody s sub hi 1)).run.fst = st.1
  | [], st, h => rfl
  | a :: l, st, h => by
    rw [List.forIn_cons]
    unfold StrLaws.occBody
    rw [if_neg (fun z => by have := z.1.1.1; omega)]
    exact occ_stay s sub hi l _ h
theorem occ_one (s sub : Str) (hi : Nat) : ∀ (l : List Nat) (free : Nat), (∀ i ∈ l, free ≤ i) →
    (forIn l ((#[] : Array Nat), free) (StrLaws.occBody s sub hi 1)).run.fst.toList = (l.find? fun i => decide (i + sub.length ≤ hi) && subAt s sub i).toList
  | [], free, _ => rfl
  | a :: l, free, hf => by
    have ha : free ≤ a := hf a List.mem_cons_self
    rw [List.forIn_cons]
    by_cases c : a + sub.length ≤ hi ∧ subAt s sub a = true
    · rw [List.find?_cons_of_pos (by simp [c.1, c.2])]
      have e : StrLaws.occBody s sub hi 1 a ((#[] : Array Nat), free) = pure (ForInStep.yield ((#[] : Array Nat).push a, a + sub.length)) := by
        unfold StrLaws.occBody
        rw [if_pos ⟨⟨⟨by simp, ha⟩, c.1⟩, c.2⟩]
      rw [e]
      show (forIn l ((#[] : Array Nat).push a, a + sub.length) (StrLaws.occBody s sub hi 1)).run.fst.toList = _
      rw [occ_stay s sub hi l _ (by simp)]
      rfl
    · rw [List.find?_cons_of_neg (by simpa using c)]
      have e : StrLaws.occBody s sub hi 1 a ((#[] : Array Nat), free) = pure (ForInStep.yield ((#[] : Array Nat), free)) := by
        unfold StrLaws.occBody
        rw [if_neg (fun h => c ⟨h.1.2, h.2⟩)]
      rw [e]
      exact occ_one s sub hi l free fun i h => hf i (List.mem_cons_of_mem _ h)
theorem occ_find (s sub : Str) (lo hi : Nat) : occurrences s sub lo hi 1 = ((List.range' lo (hi + 1 - lo)).find? fun i => decide (i + sub.length ≤ hi) && subAt s sub i).toList := by
  rw [StrLaws.occ_eq]
  exact occ_one s sub hi _ lo fun i h => (List.mem_range'_1.mp h).1
/-- v stands in u at i -/
def AtL (u v : List Nat) (i : Nat) : Prop := i + v.length ≤ u.length ∧ (u.drop i).take v.length = v
theorem atL_iff (u v : List Nat) (i : Nat) : (decide (i + (S v).length ≤ (S u).length) && subAt (S u) (S v) i) = true ↔ AtL u v i := by
  rw [StrLaws.subAt_eq, Bool.and_eq_true, decide_eq_true_iff]
  show (i + (S v).length ≤ (S u).length ∧ (((cs (S u)).drop i).take (S v).length == cs (S v)) = true) ↔ _
  rw [S_tl, S_tl, S_len, S_len, beq_iff_eq]
  exact Iff.rfl
/-- the first place from lo on -/
def FindL (u v : List Nat) (lo : Nat) (r : Int) : Prop := (∃ i : Nat, r = i ∧ lo ≤ i ∧ AtL u v i ∧ ∀ j, lo ≤ j → j < i → ¬ AtL u v j) ∨ (r = -1 ∧ ∀ j, lo ≤ j → ¬ AtL u v j)
theorem find_range' {lo n : Nat} {p : Nat → Bool} {s : Nat} (h : (List.range' lo n).find? p = some s) : lo ≤ s ∧ p s = true ∧ ∀ t, lo ≤ t → t < s → p t = false := by
  obtain ⟨h1, i, hi, h2, h3⟩ := List.find?_eq_some_iff_getElem.mp h
  rw [List.getElem_range'] at h2
  subst h2
  refine ⟨by omega, h1, fun t ht hlt => ?_⟩
  have := h3 (t - lo) (by omega)
  rw [List.getElem_range'] at this
  rw [show lo + 1 * (t - lo) = t by omega] at this
  simpa using this
theorem occ_FindL (u v : List Nat) (lo : Nat) : FindL u v lo (match occurrences (S u) (S v) lo (S u).length 1 with | k :: _ => (k : Int) | [] => -1) := by
  rw [occ_find]
  cases h : (List.range' lo ((S u).length + 1 - lo)).find? fun i => decide (i + (S v).length ≤ (S u).length) && subAt (S u) (S v) i with
  | none =>
    right
    refine ⟨rfl, fun j hj z => ?_⟩
    have l := z.1
    have := List.find?_eq_none.mp h j (List.mem_range'_1.mpr ⟨hj, by rw [S_len]; omega⟩)
    exact this ((atL_iff u v j).mpr z)
  | some i =>
    left
    obtain ⟨h1, h2, h3⟩ := find_range' h
    refine ⟨i, rfl, h1, (atL_iff u v i).mp h2, fun j a b z => ?_⟩
    have := (atL_iff u v j).mpr z
    rw [h3 j a b] at this
    cases this
theorem find_FindL (u v : List Nat) : FindL u v 0 (Txt.find (S u) (S v)) := occ_FindL u v 0
theorem find3_FindL (u v : List Nat) (i : Nat) : FindL u v i (Txt.find3 (S u) (S v) (i : Int)) := by
  unfold Txt.find3
  rw [show fromIndex (S u).length (i : Int) = i by unfold fromIndex; rw [if_neg (by omega)]; omega]
  exact occ_FindL u v i
/-! ### list of a text -/
section
variable {X : Cx}
theorem call_listStr (hc : X.calm = true) : CallR X (.type "list") (fun xs H Q => ∃ z : List Nat, xs = [.str (S z)] ∧ z.length ≤ sizeLine ∧ ∀ l, H l = none → Q (.ref l) (upd H l (.lst (z.map fun c => V.str (S [c]))))) := by
  intro pins s σ H xs us Q I r h
  obtain ⟨z, rfl, hz, q⟩ := h
  obtain ⟨u, rfl, t, rfl⟩ := vals1 r
  refine call_list_str (I.ok.hd hc) (S z) t (fun h' tk acc' c' kp e hacc => ?_) (by show (S z).length ≤ sizeLine; rw [S_len]; exact hz)
  obtain ⟨hsz, hat⟩ := hacc
  have hsz' : acc'.size = z.length := hsz.trans (S_len z)
  refine ⟨.ref s.heap.objs.size, _, I.laid (t' := tk) kp (Nat.le_refl _) (show ObjOk X.prog X.w _ h' _ (.lst (z.map fun c => V.str (S [c]))) from ⟨by rw [List.length_map]; exact hz, acc'.toList, c', ?_, by rw [Array.toArray_toList]; exact e⟩), rfl, q _ (I.hok.fresh (Nat.le_refl _))⟩
  -- the items
  have go : ∀ (ys : List Nat) (vs : List Value), vs.length = ys.length → (∀ (i c : Nat), ys[i]? = some c → ∃ t, vs[i]? = some (Value.str ⟨#[c]⟩ t)) → Vals (ys.map fun c => V.str (S [c])) vs := by
    intro ys
    induction ys with
    | nil => intro vs h _; rw [List.length_eq_zero_iff.mp h]; exact .nil
    | cons c ys ih =>
      intro vs h k
      match vs, h with
      | v :: vs, h =>
        obtain ⟨t, e⟩ := k 0 c rfl
        obtain rfl := Option.some.inj e
        exact .cons ⟨t, rfl⟩ (ih vs (Nat.succ.inj h) fun i c hc => k (i + 1) c hc)
  refine go z acc'.toList (by rw [Array.length_toList]; exact hsz') fun i c hc => ?_
  have hi : i < z.length := (List.getElem?_eq_some_iff.mp hc).1
  have hv : acc'[i]? = some (acc'[i]'(by omega)) := Array.getElem?_eq_getElem _
  obtain ⟨c', t', hc', e'⟩ := hat i _ hv
  rw [e'] at hv
  have : (S z).cps[i]? = some c := by
    show z.toArray[i]? = some c
    rw [List.getElem?_toArray]; exact hc
  rw [this] at hc'
  obtain rfl := Option.some.inj hc'
  exact ⟨t', by rw [Array.getElem?_toList]; exact hv⟩
end
/-! ### isinstance of the error that the suite holds, with an own dict -/
def rIsEd (K : PySem.W.Frag) (C a : Addr) (cls : Value) (d : Option Addr) : List V → Hp → VK → Prop := fun xs H Q => ∃ (c : V) (cv : Value) (b : Bool) (dd : Addr) (fs : List (Str × V)), xs = [.ref a, c] ∧ ClsV c cv ∧ cls = .ref C ∧ d = some dd ∧ H dd = some (.xd fs) ∧ PySem.W.kitOne K (.ref C) cv = some b ∧ Q (.bl b) H
theorem call_isEd {X : Cx} {a C : Addr} {oe : Obj} {cls : Value} {d : Option Addr} {pn : List (Addr × Obj)} (T : ExcC X.K C) (hz : Zc cls d oe) (hf : ∃ vs, oe.data = .fields vs) : CallR (X.suite a ((a, oe) :: pn)) (.builtin "isinstance") (rIsEd X.K C a cls d) := by
  intro pins s σ H xs us Q I r h
  obtain ⟨c, cv, b, dd, fs, rfl, hcv, rfl, rfl, hd, e, q⟩ := h
  obtain ⟨u1, u2, rfl, r1, r2⟩ := vals2 r
  cases (show u1 = Value.ref a from r1)
  have ec := hcv.eq r2
  subst ec
  obtain ⟨hget, _⟩ := I.pin (a, oe) (List.mem_append.mpr (.inl List.mem_cons_self))
  obtain ⟨vs, hv⟩ := hf
  have hx : ObjOk X.prog X.w H s.heap dd (.xd fs) := I.hok dd _ hd
  obtain ⟨mA, hns, hr⟩ := hx
  obtain ⟨od, ho, hl⟩ := lookIn_ns hns
  have J : PySem.W.InstAt s.heap a oe C (some od) := ⟨hget, hz.1, by unfold PySem.W.notCls; rw [hv] <;> rfl, by rw [hz.2]; exact ho⟩
  obtain ⟨cd, hcd, _⟩ := PySem.W.any_some T.hd
  exact PySem.W.kia_one (PySem.W.kitx_exc (by rw [hcd]; rfl) T.hg T.hk T.hs T.ha T.hn T.ht T.hm) I.kIn J e (fun z => nomatch z) fun tk => ⟨.bl b, H, I.kept (t' := tk) fun _ _ z => z, rfl, q⟩
end L2
namespace GQ
open PySem PySem.Spec PyProof.Rows
section
variable {prog : Program} {w : World} {A : Around} {R : Result → Shared → Prop}
theorem list_eq_len (l b : Addr) (items items2 : Array Value) (n n2 : Nat) (hne : items.size ≠ items2.size) {s : Shared} (hl1 : s.heap.get? l = some { cls := .type "list", data := .seq items n }) (hb1 : s.heap.get? b = some { cls := .type "list", data := .seq items2 n2 })
    (fin : R (.ok (.ret (.bool false))) s) :
    wpAny (model prog w) A.in1 (Builtin.«list.__eq__» ⟨[.ref l, .ref b], []⟩) (FinOf prog w A R) (fun e s' => R (.error e) s') s := by
  obtain ⟨hp, g, d, tk, os⟩ := s
  have f3 := AutoSeq1.sub_list_list
  have hne' : (items.size != items2.size) = true := by simp [hne]
  wp_walk using wpAny_loadPart' hl1, wpAny_loadPart' hb1
  exact fin
end
section
variable {prog : Program} {w : World} {A : Around} {E : Value → Shared → Prop} {s : Shared}
theorem rc_list_len {l b : Addr} {items items2 : Array Value} {n n2 : Nat} {Q : Value → Shared → Prop} (hu : A.units < cLine) (hne : items.size ≠ items2.size) (hl1 : s.heap.get? l = some { cls := .type "list", data := .seq items n }) (hb1 : s.heap.get? b = some { cls := .type "list", data := .seq items2 n2 })
    (fin : Q (.bool false) s) : wpAny (model prog w) A (richCompare .Eq (.ref l) (.ref b)) Q E s := by
  refine wpAny_richCompare_same_room (op := .Eq) ⟨_, hl1, rfl⟩ ⟨_, hb1, rfl⟩ F.slot_list_eq (call_here F.slot_list_eq ⟨_, hl1, rfl⟩ F.entry_list_eq (F.args_list_eq_2 _ _) ?_) hu
  exact list_eq_len (R := wants (fun v s' => v ≠ .notImplemented ∧ Q v s') E) l b items items2 n n2 hne hl1 hb1 ⟨(fun x => nomatch x), fin⟩
end
end GQ
namespace L2
open PySem PySem.Spec PyProof.Rows PySem.Builtin PySem.Builtin.Str
section
variable {X : Cx}
/-- xs == ys of two lists of which one is empty -/
def rEqNil : R2 := fun x y H Q => ∃ p q xs ys, x = .ref p ∧ y = .ref q ∧ H p = some (.lst xs) ∧ H q = some (.lst ys) ∧ (xs = [] ∨ ys = []) ∧ Q (.bl (decide (xs.length = ys.length))) H
theorem op_eq_nil (hu : X.A.units < cLine) : OpR X (compareOp .Eq) rEqNil := by
  intro pins s σ H x y v u Q I rx ry h
  obtain ⟨p, q, xs, ys, rfl, rfl, hp, hq, hn, k⟩ := h
  cases (show v = Value.ref p from rx)
  cases (show u = Value.ref q from ry)
  obtain ⟨z1, its, n, r1, hl, e1⟩ := I.lstM hp
  obtain ⟨z2, its2, n2, r2, hl2, e2⟩ := I.lstM hq
  by_cases hl3 : xs.length = ys.length
  · have ex : xs = [] := by
      rcases hn with e | e
      · exact e
      · subst e; exact List.length_eq_zero_iff.mp hl3
    have ey : ys = [] := by
      rcases hn with e | e
      · subst e; exact List.length_eq_zero_iff.mp hl3.symm
      · exact e
    subst ex ey
    cases r1; cases r2
    rw [decide_eq_true hl3] at k
    exact GQ.rc_listG hu (N := 0) (fun i s' => i = 0 ∧ s' = s) (fun i s' hi => by obtain ⟨rfl, rfl⟩ := hi; exact ⟨_, _, _, _, e1, e2, rfl, rfl, fun h1 _ => absurd h1 (by simp)⟩) (fun s' hs => by obtain ⟨_, rfl⟩ := hs; exact ⟨.bl true, H, I, rfl, k⟩) ⟨rfl, rfl⟩
  · rw [decide_eq_false hl3] at k
    refine GQ.rc_list_len hu ?_ e1 e2 ⟨.bl false, H, I, rfl, k⟩
    have := r1.length
    have := r2.length
    simp only [List.size_toArray]
    omega
/-! ### dicts of flat values, shown -/
def FlatD : V → PyData → Prop := fun v d => (v = .non ∧ d = .none) ∨ (∃ b, v = .bl b ∧ d = .bool b) ∨ (∃ i, v = .int i ∧ d = .int i) ∨ ∃ z, v = .str z ∧ d = .str z
def keyD : Key → PyData
  | .inl i => .int i
  | .inr x => .str x
def DictD : List (Key × V) → List (PyData × PyData) → Prop := Paired fun p q => q.1 = keyD p.1 ∧ FlatD p.2 q.2
/-- data, or a dict of flat values -/
def Ds (K : PySem.W.Frag) (H : Hp) (x : V) (d : PyData) : Prop := Dp K H x d ∨ ∃ a kvs ds, x = .ref a ∧ H a = some (.dK kvs) ∧ d = .dict ds ∧ DictD kvs ds
def rReprD (K : PySem.W.Frag) : List V → Hp → VK → Prop := fun xs H Q => ∃ x d, xs = [x] ∧ Ds K H x d ∧ d.showable = true ∧ d.depth ≤ 60 ∧ d.shown.length ≤ sizeLine ∧ Q (.str d.shown) H
theorem FlatD.reads {v : V} {d : PyData} {u : Value} {h : Heap} (f : FlatD v d) (r : RelV v u) : Reads h u d [] := by
  rcases f with ⟨rfl, rfl⟩ | ⟨b, rfl, rfl⟩ | ⟨i, rfl, rfl⟩ | ⟨z, rfl, rfl⟩
  · cases (show u = Value.none from r); exact .none
  · cases (show u = Value.bool b from r); exact .bool _
  · obtain ⟨t, rfl⟩ := r; exact .int _ _
  · obtain ⟨t, rfl⟩ := r; exact .str _ _
theorem keyD_reads {k : Key} {u : Value} {h : Heap} (e : keyIs k u = true) : Reads h u (keyD k) [] := by
  rcases keyIs_shape e with ⟨i, t, rfl, rfl⟩ | ⟨x, t, rfl, rfl⟩
  · exact .int _ _
  · exact .str _ _
theorem dictD_reads {h : Heap} {P : Program} {w : World} {kvs : List (Key × V)} {ds : List (PyData × PyData)} (dd : DictD kvs ds) : ∀ {vs : List (Key × Value)} {es : List DictEntry}, KV kvs vs → Pairs (mixKind P w) es vs →
    ReadsAll h (es.map (·.key)) (ds.map (·.1)) [] ∧ ReadsAll h (es.map (·.val)) (ds.map (·.2)) [] := by
  unfold DictD at dd
  induction dd with
  | nil =>
    intro vs es kv ps
    cases kv
    cases ps
    exact ⟨.nil, .nil⟩
  | @cons p q l1 l2 h1 _ ih =>
    intro vs es kv ps
    unfold KV at kv
    cases kv with
    | cons a t =>
      cases ps with
      | cons hk hv hp =>
        obtain ⟨i1, i2⟩ := ih t hp
        obtain ⟨e1, f⟩ := h1
        obtain ⟨ka, ra⟩ := a
        refine ⟨.cons (as := []) (bs := []) ?_ i1, .cons (as := []) (bs := []) ?_ i2⟩
        · show Reads h _ q.1 []
          rw [e1, ka]
          exact keyD_reads hk
        · have := f.reads (h := h) ra
          rw [← hv] at this
          exact this
theorem call_reprD (hc : X.A.guards = some []) (hu : X.A.units + 64 < cLine) : CallR X (.builtin "repr") (rReprD X.K) := by
  intro pins s σ H xs us Q I r h
  obtain ⟨x, d, rfl, hd, hs, hdp, hz, q⟩ := h
  rcases hd with hd | ⟨a, kvs, ds, rfl, ha, rfl, dd⟩
  · exact call_repr hc hu pins s σ H _ us Q I r ⟨x, d, rfl, .inl hd, hs, hdp, hz, q⟩
  · obtain ⟨u, rfl, r1⟩ := vals1 r
    obtain rfl : u = Value.ref a := r1
    obtain ⟨_, hsys, vs, hkv, od, es, ep, hget, hcl, hdat, hko, hps, _⟩ : ObjOk X.prog X.w H s.heap a (.dK kvs) := I.hok a _ ha
    obtain ⟨i1, i2⟩ := dictD_reads (h := s.heap) dd hkv hps
    have rd : Reads s.heap (.ref a) (.dict ds) (a :: [] ++ []) := .dict hget hcl.1 hdat i1 i2
    refine repr_of_reads' rd hs (fun _ hm => ?_) hc (by omega) (fun _ _ e => e) (fun h' u tk k => ⟨.str _, H, I.kept k, ⟨_, rfl⟩, q⟩) hz
    have e : sysModules = a := by simpa using hm
    rw [← e] at hsys
    exact absurd hsys (by decide)
end
end L2

set_option Elab.async false
set_option linter.all false
set_option maxRecDepth 100000
set_option maxHeartbeats 4000000
/-! What the laws share: the box of draws, what stands, texts of small letters, what is shown. -/
namespace My
open PySem PySem.Spec PyProof.Rows L2
/-! ### the law's box of draws -/
def BoxO (n : Nat) (o : HO) : Prop := ∃ (a m c : Int) (b : Bool), o = .lst [.int a, .bl b, .int m, .int c] ∧ 0 ≤ m ∧ m < 2147483648 ∧ 0 ≤ c ∧ c ≤ n
def BoxAt (H : Hp) (p : Addr) (n : Nat) : Prop := ∃ o, H p = some o ∧ BoxO n o
theorem BoxAt.mono {H : Hp} {p : Addr} {n m : Nat} (h : BoxAt H p n) (l : n ≤ m) : BoxAt H p m := by
  obtain ⟨o, e, a, m', c, b, e2, h1, h2, h3, h4⟩ := h
  exact ⟨o, e, a, m', c, b, e2, h1, h2, h3, by omega⟩
/-- all but the box stands -/
def Kp (p : Addr) (H H' : Hp) : Prop := ∀ b o, b ≠ p → H b = some o → H' b = some o
theorem Kp.refl (p : Addr) (H : Hp) : Kp p H H := fun _ _ _ e => e
theorem Kp.trans {p : Addr} {H H1 H2 : Hp} (a : Kp p H H1) (b : Kp p H1 H2) : Kp p H H2 := fun c o n e => b c o n (a c o n e)
theorem Kp.of {p : Addr} {H H' : Hp} (s : Same H H') : Kp p H H' := fun b o _ e => s b o e
theorem Kp.new {p q : Addr} {H H' : Hp} {o : HO} (k : Kp p H H') (h : H' q = none) : Kp p H (upd H' q o) := fun b ob n e => by
  have := k b ob n e
  rw [upd_ne (ne_of_none this h)]; exact this
theorem BoxAt.new {p q : Addr} {H : Hp} {o : HO} {n : Nat} (h : BoxAt H p n) (hq : H q = none) : BoxAt (upd H q o) p n := by
  obtain ⟨ob, e, r⟩ := h
  exact ⟨ob, by rw [upd_ne (ne_of_none e hq)]; exact e, r⟩
theorem BoxAt.same {p : Addr} {H H' : Hp} {n : Nat} (h : BoxAt H p n) (s : Same H H') : BoxAt H' p n := by
  obtain ⟨ob, e, r⟩ := h
  exact ⟨ob, s _ _ e, r⟩
theorem Same.new {q : Addr} {H H' : Hp} {o : HO} (k : Same H H') (h : H' q = none) : Same H (upd H' q o) := fun b ob e => by
  have := k b ob e
  rw [upd_ne (ne_of_none this h)]; exact this
theorem cutV_to (xs : List V) (n : Nat) : cutV xs none (some (n : Int)) = xs.take n := by
  unfold cutV
  rw [HT.sIx_none, sIx_some, List.drop_zero, Nat.sub_zero]
  rcases Nat.le_total n xs.length with h | h
  · rw [Nat.min_eq_left h]
  · rw [Nat.min_eq_right h, List.take_of_length_le h, List.take_of_length_le (Nat.le_refl _)]
theorem Kp.upd {p : Addr} {H H' : Hp} {o : HO} (k : Kp p H H') : Kp p H (upd H' p o) := fun b ob n e => by
  rw [upd_ne n]; exact k b ob n e
theorem BoxO.at {H : Hp} {p : Addr} {n : Nat} {o : HO} (h : BoxO n o) : BoxAt (upd H p o) p n := ⟨o, upd_same, h⟩
def isT (z : Str) : Bool := (cs z).all low
def Big (u : List Nat) : Prop := u.length ≤ 100000
theorem Big.fits {u : List Nat} (h : Big u) : (S u).length ≤ sizeLine := by rw [S_len]; exact Nat.le_trans h (by decide)
theorem Big.lt {n : Nat} (h : n ≤ 100000) : n < sizeLine := Nat.lt_of_le_of_lt h (by decide)
theorem Big.dbl {u : List Nat} (h : Big u) : (S u).length + (S u).length ≤ sizeLine := by
  rw [S_len]
  have : u.length ≤ 100000 := h
  exact Nat.le_trans (by omega) (by decide : 200000 ≤ sizeLine)
theorem Big.two {a : Nat} {t : List Nat} (h : Big t) : (S (t.drop a)).length + (S (t.take a)).length ≤ sizeLine := by
  rw [S_len, S_len]
  have : t.length ≤ 100000 := h
  exact Nat.le_trans (by rw [List.length_drop, List.length_take]; omega) (by decide : 200000 ≤ sizeLine)
theorem tYesT {σ : L2.St} {H : Hp} {A B : Hp → Prop} (h : A H) : tYes σ H (fun b H3 => if b = true then A H3 else B H3) := by
  show (if true = true then A H else B H)
  rw [if_pos rfl]; exact h
theorem ixN_nat {n j : Nat} (h : j < n) : ixN n (j : Int) = some j := by
  unfold ixN
  rw [if_pos (by omega), if_pos (by omega), Int.toNat_natCast]
theorem ix_listK {X : Cx} {K : PySem.W.Frag} (e : X.K = K) : IxR X (rIxL K) := by rw [← e]; exact ix_list
/-! ### rounds as a product -/
theorem foldl_rep (x : Array Nat) : ∀ (n : Nat) (b : Array Nat), (List.replicate n x).foldl (· ++ ·) b = b ++ (Lev.rounds n x.toList).toArray
  | 0, b => by simp [Lev.rounds]
  | n + 1, b => by
    rw [List.replicate_succ, List.foldl_cons, foldl_rep x n]
    simp [Lev.rounds]
    obtain ⟨x⟩ := x
    simp
theorem rounds_nil : ∀ n, Lev.rounds n ([] : List Nat) = []
  | 0 => rfl
  | n + 1 => by simp [Lev.rounds, rounds_nil n]
theorem mul_S (x : List Nat) (n : Nat) : Txt.mul (S x) (n : Int) = S (Lev.rounds n x) := by
  unfold Txt.mul
  by_cases h : n = 0
  · subst h; rfl
  · rw [if_neg (by omega)]
    by_cases h1 : ((n : Int) == 1 || (S x).length == 0) = true
    · rw [if_pos h1]
      simp only [Bool.or_eq_true, beq_iff_eq] at h1
      rcases h1 with e | e
      · have : n = 1 := by omega
        subst this
        simp [Lev.rounds]
      · rw [S_len] at e
        have : x = [] := List.eq_nil_of_length_eq_zero e
        subst this
        rw [rounds_nil]
    · rw [if_neg h1, Int.toNat_natCast, foldl_rep]
      simp [S]
theorem mulOk_S {x : List Nat} {n : Nat} (hx : x.length ≤ 1000) (hn : n ≤ 1000) : MulOk (S x) (n : Int) := by
  refine ⟨?_, fun _ _ => ?_, fun _ _ => ?_⟩
  · simp only [Bool.or_eq_false_iff, decide_eq_false_iff_not]; omega
  · rw [S_len]
    rcases Nat.eq_zero_or_pos n with e | e
    · subst e; contradiction
    · have : ((2 : Int) ^ 63 - 1) / n ≥ ((2 : Int) ^ 63 - 1) / 1000 := by
        have h1 : (2 ^ 63 - 1 : Int) / 1000 * n ≤ 2 ^ 63 - 1 := by omega
        exact Int.le_ediv_of_mul_le (by omega) h1
      omega
  · rw [S_len, Int.toNat_natCast]
    have : x.length * n ≤ 1000 * 1000 := Nat.mul_le_mul hx hn
    show decide (x.length * n > sizeLine) = false
    rw [decide_eq_false_iff_not]
    exact Nat.not_lt.mpr (Nat.le_trans this (by decide))
/-! ### letters -/
def Low (t : List Nat) : Prop := ∀ c ∈ t, low c = true
theorem Low.isT {t : List Nat} (h : Low t) : isT (S t) = true := by
  unfold My.isT
  rw [S_tl]
  exact List.all_eq_true.mpr h
theorem Low.append {t u : List Nat} (h : Low t) (g : Low u) : Low (t ++ u) := fun c hc => by
  rcases List.mem_append.mp hc with q | q
  · exact h c q
  · exact g c q
theorem Low.take {t : List Nat} (h : Low t) (n : Nat) : Low (t.take n) := fun c hc => h c (List.mem_of_mem_take hc)
theorem Low.drop {t : List Nat} (h : Low t) (n : Nat) : Low (t.drop n) := fun c hc => h c (List.mem_of_mem_drop hc)
theorem Low.nil : Low [] := fun c hc => by cases hc
theorem Low.one {c : Nat} (h : low c = true) : Low [c] := fun d hd => by rw [List.mem_singleton.mp hd]; exact h
theorem Kp.free {p D : Addr} {H H' : Hp} {o : HO} (k : Kp p H H') (h : H D = none) : Kp p H (L2.upd H' D o) := fun b ob n e => by
  rw [upd_ne (ne_of_none e h)]; exact k b ob n e
theorem BoxAt.other {p q : Addr} {H : Hp} {o : HO} {n : Nat} (h : BoxAt H p n) (hq : p ≠ q) : BoxAt (upd H q o) p n := by
  obtain ⟨ob, e, r⟩ := h
  exact ⟨ob, by rw [upd_ne hq]; exact e, r⟩
theorem BoxAt.ne {p q : Addr} {H : Hp} {n : Nat} (h : BoxAt H p n) (hq : H q = none) : p ≠ q := by
  obtain ⟨ob, e, r⟩ := h
  exact ne_of_none e hq
theorem ones_sum (t : List Nat) : (List.map ((fun x : Str => x.length) ∘ fun c => S [c]) t).sum = t.length := by
  induction t with
  | nil => rfl
  | cons c r ih => rw [List.map_cons, List.sum_cons, ih, List.length_cons]; show 1 + _ = _; omega
theorem alpha_at {d : Nat} (h : d < 26) : atI (Str.ofString "abcdefghijklmnopqrstuvwxyz").cps.toList (d : Int) = some (97 + d) := by
  have e : (Str.ofString "abcdefghijklmnopqrstuvwxyz").cps.toList = (List.range 26).map (97 + ·) := by decide +kernel
  rw [e]
  exact atI_nat (by rw [List.getElem?_map, List.getElem?_range h]; rfl)
theorem low_alpha {d : Nat} (h : d < 26) : low (97 + d) = true := by
  unfold low; simp; omega
theorem join_ones (t : List Nat) : Txt.join (Str.ofString "") (t.map fun c => S [c]) = S t := by
  rw [TL.join_eq]
  have e : cs (Str.join (Str.ofString "") (t.map fun c => S [c])) = t := by
    rw [show cs (Str.join (Str.ofString "") (t.map fun c => S [c])) = TL.tl (Str.join (Str.ofString "") (t.map fun c => S [c])) from rfl, TL.tl_join, List.map_map]
    have go : ∀ t : List Nat, TL.joinL [] (t.map fun c => [c]) = t := by
      intro t
      induction t with
      | nil => rfl
      | cons c r ih =>
        cases r with
        | nil => rfl
        | cons d r => show [c] ++ ([] ++ TL.joinL [] ((d :: r).map fun c => [c])) = _; rw [ih]; rfl
    exact go t
  rw [← S_of (Str.join _ _), e]
/-- whether a value is a text, as is_text says -/
def Jd (K : PySem.W.Frag) (H : Hp) (x : V) (b : Bool) : Prop := (∃ z, x = .str z ∧ b = isT z) ∨ ∃ t, TyX K H x (.type t) ∧ kitB t "str" = some false ∧ b = false
/-- an error of class C, made of x -/
def Bad (C : Addr) (H : Hp) (x : V) (E : XK) : Prop := ∀ d H', Same H H' → H d = none → H' d = some (.xd (gvn x)) → E (.ref C) (some d) H'
theorem tyOf_same {K : PySem.W.Frag} {H H' : Hp} {x : V} {t : Value} (h : TyOf K H x t) (s : Same H H') : TyOf K H' x t := by
  cases h
  case non => exact .non
  case bl => exact .bl _
  case int => exact .int _
  case str => exact .str _
  case flt => exact .flt _
  case lst e => exact .lst (s _ _ e)
  case frz e => exact .frz (s _ _ e)
  case tup e => exact .tup (s _ _ e)
  case dK e => exact .dK (s _ _ e)
  case dT e => exact .dT (s _ _ e)
  case ins e cl ha hn htk hm => exact .ins (s _ _ e) cl ha hn htk hm
theorem tyX_same {K : PySem.W.Frag} {H H' : Hp} {x : V} {t : Value} (h : TyX K H x t) (s : Same H H') : TyX K H' x t := by
  cases h
  case base e => exact .base (tyOf_same e s)
  case byt => exact .byt _
  case set e => exact .set (s _ _ e)
  case kList e c => exact .kList e c
  case kTuple e c => exact .kTuple e c
  case kDict e c => exact .kDict e c
  case fTuple e => exact .fTuple (s _ _ e)
  case fDict e => exact .fDict (s _ _ e)
theorem Jd.same {K : PySem.W.Frag} {H H' : Hp} {x : V} {b : Bool} (h : Jd K H x b) (s : Same H H') : Jd K H' x b := by
  rcases h with h | ⟨t, h1, h2, h3⟩
  · exact .inl h
  · exact .inr ⟨t, tyX_same h1 s, h2, h3⟩
/-! ### what can be shown -/
def Sh (d : PyData) : Prop := d.showable = true ∧ d.depth ≤ 60 ∧ d.shown.length ≤ sizeLine
theorem sh_of {d : PyData} (h1 : d.showable = true) (h2 : d.depth ≤ 60) (h3 : d.leavesShort 40 = true) (h4 : d.weight ≤ 100000) : Sh d := by
  refine ⟨h1, h2, ?_⟩
  have e := PyData.shown_le 40 (by omega) d h3
  exact Nat.le_trans e (Nat.le_trans (by omega : (40 + 2) * d.weight + 40 ≤ 4200040) (by decide))
theorem log2_20 {r : Nat} (h : r < 1048576) : r.log2 < 20 := PySem.Flt.log2_lt_of (by decide) h
theorem short_int {r : Nat} (h : r < 1048576) : (PyData.int r).leavesShort 40 = true := by
  have e := int_text_length_le (a := (r : Int)) (k := 20) (by decide) (log2_20 h)
  have e2 : (PyData.int (r : Int)).shown = Str.ofString (toString (r : Int)) := by simp only [PyData.shown]
  unfold PyData.leavesShort
  refine decide_eq_true ?_
  rw [e2, PySem.ofString_length]
  omega
theorem show_int {r : Nat} (h : r < 1048576) : (PyData.int r).showable = true := by
  simp only [PyData.showable, decide_eq_true_eq]
  exact Nat.lt_trans (log2_20 h) (by decide)
theorem weight_int {r : Nat} (h : r < 1048576) : (PyData.int r).weight ≤ 21 := by
  simp only [PyData.weight]
  have := log2_20 h
  split
  · omega
  · show (r : Int).natAbs.log2 + 1 ≤ 21
    rw [Int.natAbs_natCast]; omega
theorem un64 {k : Nat} {A : Around} (hr : Room k A) : A.units + 64 < cLine := by have := hr.un; omega
theorem neSame {z : Str} {A B : Prop} (h : B) : if (!decide (V.str z = V.str z)) = true then A else B := by
  rw [decide_eq_true rfl]; exact iteF h
theorem jd_low {K : PySem.W.Frag} {H : Hp} {t : List Nat} (h : Low t) : Jd K H (.str (S t)) true := .inl ⟨_, rfl, h.isT.symm⟩
theorem eqT {i : Int} {A B : Prop} (h : A) : if decide (V.int i = V.int i) = true then A else B := by
  rw [decide_eq_true rfl]; exact iteT h
theorem eqF {i j : Int} {A B : Prop} (n : i ≠ j) (h : B) : if decide (V.int i = V.int j) = true then A else B := by
  rw [decide_eq_false (fun z => n (V.int.inj z))]; exact iteF h
theorem through2 {t : TE} {σ : L2.St} {H : Hp} {Q : VK} (R : V → Hp → Prop) (h : ∀ Q' : VK, (∀ v H', R v H' → Q' v H') → t σ H Q') (rest : ∀ v H', R v H' → Q v H') : t σ H Q := h Q rest
theorem eqS {z : Str} {A B : Prop} (h : A) : if decide (V.str z = V.str z) = true then A else B := by
  rw [decide_eq_true rfl]; exact iteT h
theorem dp_same {K : PySem.W.Frag} {H H' : Hp} (s : Same H H') {x : V} {d : PyData} (h : Dp K H x d) : Dp K H' x d :=
  Dp.rec (motive_1 := fun x d _ => Dp K H' x d) (motive_2 := fun xs ds _ => DpAll K H' xs ds) .non (fun _ => .bl _) (fun _ => .int _) (fun _ => .str _)
    (fun hs _ ih => .lst (hs.ext s) ih) (fun hs _ ih => .tup (hs.elim (fun h => .inl (h.elim (fun h => .inl (s _ _ h)) fun ⟨o, h⟩ => .inr ⟨o, s _ _ h⟩)) fun h => .inr h) ih) .nil (fun _ _ i1 i2 => .cons i1 i2) h
theorem Ds.same {K : PySem.W.Frag} {H H' : Hp} (s : Same H H') {x : V} {d : PyData} (h : Ds K H x d) : Ds K H' x d := by
  rcases h with h | ⟨a, kvs, ds, e, ea, r⟩
  · exact .inl (dp_same s h)
  · exact .inr ⟨a, kvs, ds, e, s _ _ ea, r⟩
theorem Kp.toSame {p : Addr} {H H1 H2 : Hp} (k : Kp p H1 H2) (s : Same H H1) (h : H p = none) : Same H H2 := fun b o e => k b o (ne_of_none e h) (s b o e)
theorem sh_str {z : List Nat} (h : z.length ≤ 1000) (hc : ∀ c ∈ z, c < 200) : Sh (.str (S z)) := by
  refine sh_of (by simp only [PyData.showable]) (by simp only [PyData.depth]; omega) ?_ ?_
  · unfold PyData.leavesShort
    rw [List.all_eq_true]
    intro c hcm
    have : c ∈ z := by rw [← S_tl z]; exact hcm
    have := hc c this
    exact decide_eq_true (by omega)
  · unfold PyData.weight
    show (S z).length ≤ 100000
    rw [S_len]; omega
/-! ### data that is small enough to be shown -/
structure Fit (x : PyData) (k w : Nat) : Prop where
  s : x.showable = true
  d : x.depth ≤ k
  l : x.leavesShort 40 = true
  w : x.weight ≤ w
structure FitAll (ds : List PyData) (k w : Nat) : Prop where
  s : PyData.showableAll ds = true
  d : PyData.depthAll ds ≤ k
  l : PyData.leavesShortAll 40 ds = true
  w : PyData.weightAll ds ≤ w
structure FitKv (ds : List (PyData × PyData)) (k w : Nat) : Prop where
  s : PyData.showableKv ds = true
  d : PyData.depthKv ds ≤ k
  l : PyData.leavesShortKv 40 ds = true
  w : PyData.weightKv ds ≤ w
theorem Fit.sh {d : PyData} {k w : Nat} (h : Fit d k w) (hk : k ≤ 60) (hw : w ≤ 100000) : Sh d := sh_of h.s (Nat.le_trans h.d hk) h.l (Nat.le_trans h.w hw)
theorem Fit.mono {d : PyData} {k w k' w' : Nat} (h : Fit d k w) (hk : k ≤ k') (hw : w ≤ w') : Fit d k' w' := ⟨h.s, Nat.le_trans h.d hk, h.l, Nat.le_trans h.w hw⟩
theorem FitAll.mono {d : List PyData} {k w k' w' : Nat} (h : FitAll d k w) (hk : k ≤ k') (hw : w ≤ w') : FitAll d k' w' := ⟨h.s, Nat.le_trans h.d hk, h.l, Nat.le_trans h.w hw⟩
theorem FitAll.nil {k : Nat} : FitAll [] k 0 := ⟨rfl, Nat.zero_le _, rfl, Nat.le_refl _⟩
theorem FitAll.cons {d : PyData} {ds : List PyData} {k w1 w2 : Nat} (h : Fit d k w1) (t : FitAll ds k w2) : FitAll (d :: ds) k (w1 + 1 + w2) := by
  refine ⟨?_, ?_, ?_, ?_⟩
  · unfold PyData.showableAll; rw [h.s, t.s]; rfl
  · unfold PyData.depthAll; have := h.d; have := t.d; omega
  · unfold PyData.leavesShortAll; rw [h.l, t.l]; rfl
  · unfold PyData.weightAll; have := h.w; have := t.w; omega
theorem Fit.list {ds : List PyData} {k w : Nat} (t : FitAll ds k w) : Fit (.list ds) (k + 1) w := by
  refine ⟨?_, ?_, ?_, ?_⟩
  · unfold PyData.showable; exact t.s
  · unfold PyData.depth; have := t.d; omega
  · unfold PyData.leavesShort; exact t.l
  · unfold PyData.weight; exact t.w
theorem Fit.tuple {ds : List PyData} {k w : Nat} (t : FitAll ds k w) : Fit (.tuple ds) (k + 1) w := by
  refine ⟨?_, ?_, ?_, ?_⟩
  · unfold PyData.showable; exact t.s
  · unfold PyData.depth; have := t.d; omega
  · unfold PyData.leavesShort; exact t.l
  · unfold PyData.weight; exact t.w
theorem Fit.none {k : Nat} : Fit .none k 0 := ⟨by unfold PyData.showable; rfl, by unfold PyData.depth; omega, by decide +kernel, by unfold PyData.weight; exact Nat.le_refl _⟩
theorem Fit.bool {b : Bool} {k : Nat} : Fit (.bool b) k 0 := ⟨by unfold PyData.showable; rfl, by unfold PyData.depth; omega, by cases b <;> decide +kernel, by unfold PyData.weight; exact Nat.le_refl _⟩
theorem Fit.nat {r k : Nat} (h : r < 1048576) : Fit (.int r) k 21 := ⟨show_int h, by unfold PyData.depth; omega, short_int h, weight_int h⟩
theorem Fit.str {z : List Nat} {k w : Nat} (h : z.length ≤ w) (hc : ∀ c ∈ z, c < 200) : Fit (.str (S z)) k w := by
  refine ⟨by unfold PyData.showable; rfl, by unfold PyData.depth; omega, ?_, ?_⟩
  · unfold PyData.leavesShort
    rw [List.all_eq_true]
    intro c hcm
    have : c ∈ z := by rw [← S_tl z]; exact hcm
    have := hc c this
    exact decide_eq_true (by omega)
  · unfold PyData.weight
    show (S z).length ≤ w
    rw [S_len]; exact h
theorem FitKv.nil {k : Nat} : FitKv [] k 0 := ⟨rfl, Nat.zero_le _, rfl, Nat.le_refl _⟩
theorem FitKv.cons {a b : PyData} {ds : List (PyData × PyData)} {k w1 w2 w3 : Nat} (h : Fit a k w1) (g : Fit b k w2) (t : FitKv ds k w3) : FitKv ((a, b) :: ds) k (w1 + w2 + 2 + w3) := by
  refine ⟨?_, ?_, ?_, ?_⟩
  · unfold PyData.showableKv; rw [h.s, g.s, t.s]; rfl
  · unfold PyData.depthKv; have := h.d; have := g.d; have := t.d; omega
  · unfold PyData.leavesShortKv; rw [h.l, g.l, t.l]; rfl
  · unfold PyData.weightKv; have := h.w; have := g.w; have := t.w; omega
theorem Fit.dict {ds : List (PyData × PyData)} {k w : Nat} (t : FitKv ds k w) : Fit (.dict ds) (k + 1) w := by
  refine ⟨?_, ?_, ?_, ?_⟩
  · unfold PyData.showable; exact t.s
  · unfold PyData.depth; have := t.d; omega
  · unfold PyData.leavesShort; exact t.l
  · unfold PyData.weight; exact t.w
abbrev natsD (ns : List Nat) : List PyData := ns.map fun (n : Nat) => PyData.int n
theorem FitAll.nats {k : Nat} : ∀ {ns : List Nat}, (∀ n ∈ ns, n < 1048576) → FitAll (natsD ns) k (22 * ns.length)
  | [], _ => FitAll.nil
  | n :: ns, h => (FitAll.cons (Fit.nat (h n List.mem_cons_self)) (FitAll.nats fun m hm => h m (List.mem_cons_of_mem _ hm))).mono (Nat.le_refl _) (by rw [List.length_cons]; omega)
theorem Low.lt {t : List Nat} (h : Low t) : ∀ c ∈ t, c < 200 := fun c hc => by
  have := h c hc
  unfold low at this
  simp only [Bool.and_eq_true, decide_eq_true_eq] at this
  omega
theorem dp_nats {K : PySem.W.Frag} {H : Hp} : ∀ ns : List Nat, DpAll K H (ns.map fun n => V.int (n : Nat)) (natsD ns)
  | [] => .nil
  | n :: ns => .cons (.int _) (dp_nats ns)
theorem un0 {k : Nat} {A : Around} (hr : Room k A) : A.units < cLine := Nat.lt_of_le_of_lt (Nat.le_add_right _ 64) (un64 hr)
end My

set_option Elab.async false
set_option linter.all false
set_option maxRecDepth 100000
set_option maxHeartbeats 4000000
/-! Values as data, empty dicts among them: what they are, their classes, == with a text, shown. -/
namespace L2
open PySem PySem.Spec PyProof.Rows
def kvV (p : Int × Int) : Key × V := (Sum.inl p.1, .int p.2)
def kvD (p : Int × Int) : PyData × PyData := (.int p.1, .int p.2)
/-! x is the data d; m: dicts are let, and then no list lies where the modules lie -/
mutual
inductive Dg (K : PySem.W.Frag) (H : Hp) (m : Bool) : V → PyData → Prop
  | non : Dg K H m .non .none
  | bl (b : Bool) : Dg K H m (.bl b) (.bool b)
  | int (i : Int) : Dg K H m (.int i) (.int i)
  | str (x : Str) : Dg K H m (.str x) (.str x)
  | lst {a : Addr} {xs : List V} {ds : List PyData} : SqL K H a xs → (m = true → (a == sysModules) = false) → DgAll K H m xs ds → Dg K H m (.ref a) (.list ds)
  | tup {a : Addr} {xs : List V} {ds : List PyData} : SqT K H a xs → DgAll K H m xs ds → Dg K H m (.ref a) (.tuple ds)
  | emp {a : Addr} : m = true → H a = some (.dK []) → Dg K H m (.ref a) (.dict [])
  | dct {a : Addr} (l : List (Int × Int)) : m = true → H a = some (.dK (l.map kvV)) → Dg K H m (.ref a) (.dict (l.map kvD))
inductive DgAll (K : PySem.W.Frag) (H : Hp) (m : Bool) : List V → List PyData → Prop
  | nil : DgAll K H m [] []
  | cons {v : V} {vs : List V} {d : PyData} {ds : List PyData} : Dg K H m v d → DgAll K H m vs ds → DgAll K H m (v :: vs) (d :: ds)
end
theorem dct_reads {P : Program} {w : World} (h : Heap) : ∀ (l : List (Int × Int)) (vs : List (Key × Value)) (es : List DictEntry), KV (l.map kvV) vs → PySem.Pairs (mixKind P w) es vs →
    ReadsAll h (es.map (·.key)) ((l.map kvD).map (·.1)) [] ∧ ReadsAll h (es.map (·.val)) ((l.map kvD).map (·.2)) []
  | [], _, _, hk, hp => by
    cases hk
    cases hp
    exact ⟨.nil, .nil⟩
  | (k, i) :: l, _, _, hk, hp => by
    cases hk with
    | cons h1 h2 =>
      obtain ⟨e1, r1⟩ := h1
      cases hp with
      | cons p1 p2 p3 =>
        rename_i q qs e es
        obtain ⟨qk, qv⟩ := q
        obtain rfl : Sum.inl k = qk := e1
        obtain ⟨t, rfl⟩ : ∃ t, qv = .int i t := r1
        obtain ⟨ih1, ih2⟩ := dct_reads h l qs es h2 p3
        have k1 : Value.isInt k e.key = true := p1
        obtain ⟨u, eu⟩ := Value.isInt_shape k1
        refine ⟨?_, ?_⟩
        · show ReadsAll h (e.key :: _) (.int k :: _) _
          rw [eu]
          exact ReadsAll.cons (Reads.int k u) ih1
        · show ReadsAll h (e.val :: _) (.int i :: _) _
          rw [p2]
          exact ReadsAll.cons (Reads.int i t) ih2
section
variable {X : Cx} {pins : List (Addr × Obj)} {σ : St} {H : Hp} {s : Shared} {m : Bool}
mutual
theorem Dg.reads (I : Inv X pins σ H s) : ∀ (d : PyData) (v : V) (u : Value), Dg X.K H m v d → RelV v u → ∃ as, Reads s.heap u d as ∧ (m = true → sysModules ∉ as)
  | .none, _, _, h, r => by
    cases h
    cases r
    exact ⟨_, Reads.none, fun _ => List.not_mem_nil⟩
  | .bool b, _, _, h, r => by
    cases h
    cases r
    exact ⟨_, Reads.bool b, fun _ => List.not_mem_nil⟩
  | .int i, _, _, h, r => by
    cases h
    obtain ⟨t, rfl⟩ := r
    exact ⟨_, Reads.int i t, fun _ => List.not_mem_nil⟩
  | .str x, _, _, h, r => by
    cases h
    obtain ⟨t, rfl⟩ := r
    exact ⟨_, Reads.str x t, fun _ => List.not_mem_nil⟩
  | .list ds, _, _, h, r => by
    cases h with
    | lst hs hl ha =>
      cases r
      obtain ⟨its, rv, ⟨o, n, ho, hc, _, hd⟩, _⟩ := I.list hs
      obtain ⟨as, hr, hm⟩ := Dg.readsAll I ds _ its ha rv
      refine ⟨_, Reads.list ho hc hd hr, fun e hh => ?_⟩
      rcases List.mem_cons.mp hh with q | q
      · have := hl e
        rw [← q] at this
        exact absurd this (by decide)
      · exact hm e q
  | .tuple ds, _, _, h, r => by
    cases h with
    | tup hs ha =>
      cases r
      obtain ⟨its, rv, ⟨o, ho, hc, n, hd⟩, _⟩ := I.tuple hs
      obtain ⟨as, hr, hm⟩ := Dg.readsAll I ds _ its ha rv
      exact ⟨_, Reads.tuple ho hc hd hr, hm⟩
  | .dict _, _, _, h, r => by
    cases h with
    | @emp a hm ha =>
      cases r
      obtain ⟨_, hsys, vs, hkv, od, es, ep, hget, hcl, hdat, hko, hps, _⟩ : ObjOk X.prog X.w H s.heap a (.dK []) := I.hok a _ ha
      cases hkv
      have he : es.toList = [] := by
        generalize es.toList = l at hps
        cases hps; rfl
      refine ⟨a :: [] ++ [], .dict hget hcl.1 hdat (by rw [he]; exact .nil) (by rw [he]; exact .nil), fun _ hh => ?_⟩
      have e : sysModules = a := by simpa using hh
      rw [← e] at hsys
      exact absurd hsys (by decide)
    | @dct a l hm ha =>
      cases r
      obtain ⟨_, hsys, vs, hkv, od, es, ep, hget, hcl, hdat, hko, hps, _⟩ : ObjOk X.prog X.w H s.heap a (.dK (l.map kvV)) := I.hok a _ ha
      obtain ⟨r1, r2⟩ := dct_reads s.heap l vs es.toList hkv hps
      refine ⟨a :: [] ++ [], .dict hget hcl.1 hdat r1 r2, fun _ hh => ?_⟩
      have e : sysModules = a := by simpa using hh
      rw [← e] at hsys
      exact absurd hsys (by decide)
theorem Dg.readsAll (I : Inv X pins σ H s) : ∀ (ds : List PyData) (vs : List V) (us : List Value), DgAll X.K H m vs ds → Vals vs us → ∃ as, ReadsAll s.heap us ds as ∧ (m = true → sysModules ∉ as)
  | [], _, _, h, r => by
    cases h
    cases r
    exact ⟨_, ReadsAll.nil, fun _ => List.not_mem_nil⟩
  | d :: ds, _, _, h, r => by
    cases h with
    | cons h1 h2 =>
      cases r with
      | cons r1 r2 =>
        obtain ⟨as, q1, n1⟩ := Dg.reads I d _ _ h1 r1
        obtain ⟨bs, q2, n2⟩ := Dg.readsAll I ds _ _ h2 r2
        exact ⟨_, ReadsAll.cons q1 q2, fun e hh => by
          rcases List.mem_append.mp hh with q | q
          · exact n1 e q
          · exact n2 e q⟩
end
end
theorem Dg.noDict {K : PySem.W.Frag} {H : Hp} {x : V} {d : PyData} (h : Dg K H false x d) : d.hasDict = false :=
  Dg.rec (motive_1 := fun _ d _ => d.hasDict = false) (motive_2 := fun _ ds _ => PyData.hasDictAll ds = false) rfl (fun _ => rfl) (fun _ => rfl) (fun _ => rfl)
    (fun _ _ _ ih => by unfold PyData.hasDict; exact ih) (fun _ _ ih => by unfold PyData.hasDict; exact ih) (fun e => by cases e) (fun _ e => by cases e) rfl (fun _ _ i1 i2 => by unfold PyData.hasDictAll; rw [i1, i2]; rfl) h
theorem SqL.same {K : PySem.W.Frag} {H H' : Hp} {a : Addr} {xs : List V} (h : SqL K H a xs) (s : ∀ b o, H b = some o → H' b = some o) : SqL K H' a xs := h.ext s
theorem Dg.ext {K : PySem.W.Frag} {H H' : Hp} {m : Bool} (s : ∀ b o, H b = some o → H' b = some o) {x : V} {d : PyData} (h : Dg K H m x d) : Dg K H' m x d :=
  Dg.rec (motive_1 := fun x d _ => Dg K H' m x d) (motive_2 := fun xs ds _ => DgAll K H' m xs ds) .non (fun _ => .bl _) (fun _ => .int _) (fun _ => .str _)
    (fun hs hl _ ih => .lst (hs.ext s) hl ih) (fun hs _ ih => .tup (hs.elim (fun h => .inl (h.elim (fun h => .inl (s _ _ h)) fun ⟨o, h⟩ => .inr ⟨o, s _ _ h⟩)) fun h => .inr h) ih) (fun e h => .emp e (s _ _ h)) (fun l e h => .dct l e (s _ _ h)) .nil (fun _ _ i1 i2 => .cons i1 i2) h
theorem DgAll.ext {K : PySem.W.Frag} {H H' : Hp} {m : Bool} (s : ∀ b o, H b = some o → H' b = some o) : ∀ {xs : List V} {ds : List PyData}, DgAll K H m xs ds → DgAll K H' m xs ds
  | _, _, .nil => .nil
  | _, _, .cons h t => .cons (h.ext s) (DgAll.ext s t)
theorem DgAll.len {K : PySem.W.Frag} {H : Hp} {m : Bool} : ∀ {xs : List V} {ds : List PyData}, DgAll K H m xs ds → xs.length = ds.length
  | _, _, .nil => rfl
  | _, _, .cons _ t => by rw [List.length_cons, List.length_cons, DgAll.len t]
theorem DgAll.at {K : PySem.W.Frag} {H : Hp} {m : Bool} : ∀ {xs : List V} {ds : List PyData}, DgAll K H m xs ds → ∀ (i : Nat) (x : V), xs[i]? = some x → ∃ d, ds[i]? = some d ∧ Dg K H m x d
  | _, _, .nil, i, x, h => by cases h
  | _, _, .cons h t, 0, x, e => by
    obtain rfl := Option.some.inj e
    exact ⟨_, rfl, h⟩
  | _, _, .cons h t, i + 1, x, e => DgAll.at t i x e
theorem DgAll.append {K : PySem.W.Frag} {H : Hp} {m : Bool} : ∀ {xs ys : List V} {ds es : List PyData}, DgAll K H m xs ds → DgAll K H m ys es → DgAll K H m (xs ++ ys) (ds ++ es)
  | _, _, _, _, .nil, h => h
  | _, _, _, _, .cons h t, g => .cons h (DgAll.append t g)
theorem DgAll.take {K : PySem.W.Frag} {H : Hp} {m : Bool} : ∀ (n : Nat) {xs : List V} {ds : List PyData}, DgAll K H m xs ds → DgAll K H m (xs.take n) (ds.take n)
  | 0, _, _, _ => by simp; exact .nil
  | n + 1, _, _, .nil => by simp; exact .nil
  | n + 1, _, _, .cons h t => by simp only [List.take_succ_cons]; exact .cons h (DgAll.take n t)
theorem DgAll.drop {K : PySem.W.Frag} {H : Hp} {m : Bool} : ∀ (n : Nat) {xs : List V} {ds : List PyData}, DgAll K H m xs ds → DgAll K H m (xs.drop n) (ds.drop n)
  | 0, _, _, h => h
  | n + 1, _, _, .nil => by simp; exact .nil
  | n + 1, _, _, .cons h t => by simp only [List.drop_succ_cons]; exact DgAll.drop n t
theorem Dg.int_of {K : PySem.W.Frag} {H : Hp} {m : Bool} {x : V} {i : Int} (h : Dg K H m x (.int i)) : x = .int i := by cases h; rfl
theorem Dg.str_of {K : PySem.W.Frag} {H : Hp} {m : Bool} {x : V} {i : Str} (h : Dg K H m x (.str i)) : x = .str i := by cases h; rfl
theorem Dg.tup_of {K : PySem.W.Frag} {H : Hp} {m : Bool} {x : V} {ds : List PyData} (h : Dg K H m x (.tuple ds)) : ∃ a xs, x = .ref a ∧ SqT K H a xs ∧ DgAll K H m xs ds := by
  cases h with
  | tup h1 h2 => exact ⟨_, _, rfl, h1, h2⟩
theorem Dg.lst_of {K : PySem.W.Frag} {H : Hp} {m : Bool} {x : V} {ds : List PyData} (h : Dg K H m x (.list ds)) : ∃ a xs, x = .ref a ∧ SqL K H a xs ∧ (m = true → (a == sysModules) = false) ∧ DgAll K H m xs ds := by
  cases h with
  | lst h1 h2 h3 => exact ⟨_, _, rfl, h1, h2, h3⟩
theorem DgAll.cons_of {K : PySem.W.Frag} {H : Hp} {m : Bool} {xs : List V} {d : PyData} {ds : List PyData} (h : DgAll K H m xs (d :: ds)) : ∃ x ys, xs = x :: ys ∧ Dg K H m x d ∧ DgAll K H m ys ds := by
  cases h with
  | cons h1 h2 => exact ⟨_, _, rfl, h1, h2⟩
theorem DgAll.nil_of {K : PySem.W.Frag} {H : Hp} {m : Bool} {xs : List V} (h : DgAll K H m xs []) : xs = [] := by cases h; rfl
/-! ### the classes of data -/
def tyD : PyData → String
  | .none => "NoneType" | .bool _ => "bool" | .int _ => "int" | .str _ => "str" | .list _ => "list" | .tuple _ => "tuple" | .dict _ => "dict"
theorem Dg.ty {K : PySem.W.Frag} {H : Hp} {m : Bool} {x : V} {d : PyData} (h : Dg K H m x d) : TyX K H x (.type (tyD d)) := by
  cases h with
  | non => exact .base .non
  | bl b => exact .base (.bl b)
  | int i => exact .base (.int i)
  | str z => exact .base (.str z)
  | lst hs _ _ =>
    rcases hs with (h | ⟨o, h⟩) | ⟨o, its, n, e, c, _⟩
    · exact .base (.lst h)
    · exact .base (.frz h)
    · exact .kList e c
  | tup hs _ =>
    rcases hs with (h | ⟨o, h⟩) | ⟨o, its, n, e, c, _⟩
    · exact .base (.tup h)
    · exact .fTuple h
    · exact .kTuple e c
  | emp _ h => exact .base (.dK h)
  | dct l _ h => exact .base (.dK h)
def isTupD : PyData → Bool | .tuple _ => true | _ => false
def isLstD : PyData → Bool | .list _ => true | _ => false
def isStrD : PyData → Bool | .str _ => true | _ => false
def isBlD : PyData → Bool | .bool _ => true | _ => false
def isNumD : PyData → Bool | .bool _ => true | .int _ => true | _ => false
theorem kit_tupD {K : PySem.W.Frag} (d : PyData) : PySem.W.kitOne K (.type (tyD d)) (.type "tuple") = some (isTupD d) := by
  cases d with
  | none => exact kit_ty (by decide +kernel : kitB "NoneType" "tuple" = some false)
  | bool _ => exact kit_ty (by decide +kernel : kitB "bool" "tuple" = some false)
  | int _ => exact kit_ty (by decide +kernel : kitB "int" "tuple" = some false)
  | str _ => exact kit_ty (by decide +kernel : kitB "str" "tuple" = some false)
  | list _ => exact kit_ty (by decide +kernel : kitB "list" "tuple" = some false)
  | tuple _ => exact kit_ty (by decide +kernel : kitB "tuple" "tuple" = some true)
  | dict _ => exact kit_ty (by decide +kernel : kitB "dict" "tuple" = some false)
theorem kit_lstD {K : PySem.W.Frag} (d : PyData) : PySem.W.kitOne K (.type (tyD d)) (.type "list") = some (isLstD d) := by
  cases d with
  | none => exact kit_ty (by decide +kernel : kitB "NoneType" "list" = some false)
  | bool _ => exact kit_ty (by decide +kernel : kitB "bool" "list" = some false)
  | int _ => exact kit_ty (by decide +kernel : kitB "int" "list" = some false)
  | str _ => exact kit_ty (by decide +kernel : kitB "str" "list" = some false)
  | list _ => exact kit_ty (by decide +kernel : kitB "list" "list" = some true)
  | tuple _ => exact kit_ty (by decide +kernel : kitB "tuple" "list" = some false)
  | dict _ => exact kit_ty (by decide +kernel : kitB "dict" "list" = some false)
theorem kit_strD {K : PySem.W.Frag} (d : PyData) : PySem.W.kitOne K (.type (tyD d)) (.type "str") = some (isStrD d) := by
  cases d with
  | none => exact kit_ty (by decide +kernel : kitB "NoneType" "str" = some false)
  | bool _ => exact kit_ty (by decide +kernel : kitB "bool" "str" = some false)
  | int _ => exact kit_ty (by decide +kernel : kitB "int" "str" = some false)
  | str _ => exact kit_ty (by decide +kernel : kitB "str" "str" = some true)
  | list _ => exact kit_ty (by decide +kernel : kitB "list" "str" = some false)
  | tuple _ => exact kit_ty (by decide +kernel : kitB "tuple" "str" = some false)
  | dict _ => exact kit_ty (by decide +kernel : kitB "dict" "str" = some false)
theorem kit_blD {K : PySem.W.Frag} (d : PyData) : PySem.W.kitOne K (.type (tyD d)) (.type "bool") = some (isBlD d) := by
  cases d with
  | none => exact kit_ty (by decide +kernel : kitB "NoneType" "bool" = some false)
  | bool _ => exact kit_ty (by decide +kernel : kitB "bool" "bool" = some true)
  | int _ => exact kit_ty (by decide +kernel : kitB "int" "bool" = some false)
  | str _ => exact kit_ty (by decide +kernel : kitB "str" "bool" = some false)
  | list _ => exact kit_ty (by decide +kernel : kitB "list" "bool" = some false)
  | tuple _ => exact kit_ty (by decide +kernel : kitB "tuple" "bool" = some false)
  | dict _ => exact kit_ty (by decide +kernel : kitB "dict" "bool" = some false)
theorem kit_numD {K : PySem.W.Frag} (d : PyData) : PySem.W.kitOne K (.type (tyD d)) (.type "int") = some (isNumD d) := by
  cases d with
  | none => exact kit_ty (by decide +kernel : kitB "NoneType" "int" = some false)
  | bool _ => exact kit_ty (by decide +kernel : kitB "bool" "int" = some true)
  | int _ => exact kit_ty (by decide +kernel : kitB "int" "int" = some true)
  | str _ => exact kit_ty (by decide +kernel : kitB "str" "int" = some false)
  | list _ => exact kit_ty (by decide +kernel : kitB "list" "int" = some false)
  | tuple _ => exact kit_ty (by decide +kernel : kitB "tuple" "int" = some false)
  | dict _ => exact kit_ty (by decide +kernel : kitB "dict" "int" = some false)
/-! ### shown -/
def rReprG (K : PySem.W.Frag) : List V → Hp → VK → Prop := fun xs H Q => ∃ x d m, xs = [x] ∧ Dg K H m x d ∧ d.showable = true ∧ d.depth ≤ 60 ∧ d.shown.length ≤ sizeLine ∧ Q (.str d.shown) H
theorem call_reprG {X : Cx} (hc : X.A.guards = some []) (hu : X.A.units + 64 < cLine) : CallR X (.builtin "repr") (rReprG X.K) := by
  intro pins s σ H xs us Q I r h
  obtain ⟨x, d, m, rfl, hd, hs, hdp, hz, q⟩ := h
  obtain ⟨u, rfl, r1⟩ := vals1 r
  obtain ⟨as, rd, hn⟩ := Dg.reads I d x u hd r1
  have nd : d.hasDict = true → sysModules ∉ as := fun e => by
    cases m with
    | true => exact hn rfl
    | false => rw [hd.noDict] at e; cases e
  cases hd with
  | non => cases rd; exact P.repr_of_none ⟨.str _, H, I.tok _, ⟨_, rfl⟩, q⟩
  | bl b => cases rd; exact P.repr_of_bool ⟨.str _, H, I.tok _, ⟨_, rfl⟩, q⟩
  | int i =>
    cases rd
    have hi : i.natAbs.log2 < 1920 := of_decide_eq_true hs
    exact P.repr_of_int hi ⟨.str _, H, I.tok _, ⟨_, rfl⟩, q⟩
  | str z => cases rd; exact P.repr_of_str ⟨.str _, H, I.tok _, ⟨_, rfl⟩, q⟩ hz
  | lst h1 h2 h3 =>
    obtain rfl : u = Value.ref _ := r1
    exact repr_of_reads' rd hs nd hc (by omega) (fun _ _ e => e) (fun h' u tk k => ⟨.str _, H, I.kept k, ⟨_, rfl⟩, q⟩) hz
  | tup h1 h2 =>
    obtain rfl : u = Value.ref _ := r1
    exact repr_of_reads' rd hs nd hc (by omega) (fun _ _ e => e) (fun h' u tk k => ⟨.str _, H, I.kept k, ⟨_, rfl⟩, q⟩) hz
  | emp h1 h2 =>
    obtain rfl : u = Value.ref _ := r1
    exact repr_of_reads' rd hs nd hc (by omega) (fun _ _ e => e) (fun h' u tk k => ⟨.str _, H, I.kept k, ⟨_, rfl⟩, q⟩) hz
  | dct l h1 h2 =>
    obtain rfl : u = Value.ref _ := r1
    exact repr_of_reads' rd hs nd hc (by omega) (fun _ _ e => e) (fun h' u tk k => ⟨.str _, H, I.kept k, ⟨_, rfl⟩, q⟩) hz
end L2
namespace DataQ
open PySem PySem.Spec PyProof.Rows
/-! ### a dict is no text -/
section
variable {prog : Program} {w : World} {A : Around} {E : Value → Shared → Prop} {s : Shared}
theorem dict_eq_declines_str (l : Addr) (es : Array DictEntry) (n : Nat) (dd : Option Addr) (sl : Array (Option Value)) (b : Str) (u : Tok) :
    Meets (Builtin.«dict.__eq__» ⟨[.ref l, .str b u], []⟩) (fun _ R s => s.heap.get? l = some { cls := .type "dict", dict := dd, data := .dict es n, slots := sl } ∧ R (.ok (.ret .notImplemented)) s) :=
  .of_wp fun prog w A R s h => by obtain ⟨hp, g, d, tk, os⟩ := s; obtain ⟨hl, h⟩ := h; have f1 := F.sub_str_dict; wp_walk using wpAny_load hl; exact ⟨_, rfl, h⟩
theorem dict_ne_declines_str (l : Addr) (es : Array DictEntry) (n : Nat) (dd : Option Addr) (sl : Array (Option Value)) (b : Str) (u : Tok) :
    Meets (Builtin.«dict.__ne__» ⟨[.ref l, .str b u], []⟩) (fun _ R s => s.heap.get? l = some { cls := .type "dict", dict := dd, data := .dict es n, slots := sl } ∧ R (.ok (.ret .notImplemented)) s) :=
  .of_wp fun prog w A R s h => by obtain ⟨hp, g, d, tk, os⟩ := s; obtain ⟨hl, h⟩ := h; have f1 := F.sub_str_dict; wp_walk using wpAny_load hl; exact ⟨_, rfl, h⟩
theorem str_eq_declines_dict (b : Str) (u : Tok) (l : Addr) (es : Array DictEntry) (n : Nat) (dd : Option Addr) (sl : Array (Option Value)) :
    Meets (Builtin.«str.__eq__» ⟨[.str b u, .ref l], []⟩) (fun _ R s => s.heap.get? l = some { cls := .type "dict", dict := dd, data := .dict es n, slots := sl } ∧ R (.ok (.ret .notImplemented)) s) :=
  .of_wp fun prog w A R s h => by obtain ⟨hp, g, d, tk, os⟩ := s; obtain ⟨hl, h⟩ := h; wp_walk using wpAny_load hl; exact ⟨_, rfl, h⟩
theorem str_ne_declines_dict (b : Str) (u : Tok) (l : Addr) (es : Array DictEntry) (n : Nat) (dd : Option Addr) (sl : Array (Option Value)) :
    Meets (Builtin.«str.__ne__» ⟨[.str b u, .ref l], []⟩) (fun _ R s => s.heap.get? l = some { cls := .type "dict", dict := dd, data := .dict es n, slots := sl } ∧ R (.ok (.ret .notImplemented)) s) :=
  .of_wp fun prog w A R s h => by obtain ⟨hp, g, d, tk, os⟩ := s; obtain ⟨hl, h⟩ := h; wp_walk using wpAny_load hl; exact ⟨_, rfl, h⟩
theorem rc_dict_str {l : Addr} {dd : Option Addr} {es : Array DictEntry} {n : Nat} {sl : Array (Option Value)} (b : Str) (u : Tok) (ho : s.heap.get? l = some { cls := .type "dict", dict := dd, data := .dict es n, slots := sl }) (hu : A.units < cLine)
    {Q : Value → Shared → Prop} (h : Q (.bool false) s) : wpAny (model prog w) A (richCompare .Eq (.ref l) (.str b u)) Q E s :=
  PySem.SeqAt.rc_eq_decline_or (k := false) ⟨_, ho, rfl⟩ (typeIs_str s b u) (by decide) F.sub_str_dict F.slot_dict_eq F.slot_str_eq_refl
    (fun _ hq => call_meets F.slot_dict_eq ⟨_, ho, rfl⟩ F.entry_dict_eq (F.args_dict_eq_2 _ _) (dict_eq_declines_str l es n dd sl b u) ⟨ho, hq⟩)
    (fun _ hq => call_meets F.slot_str_eq_refl (typeIs_str s b u) F.entry_str_eq (F.args_str_eq_2 _ _) (str_eq_declines_dict b u l es n dd sl) ⟨ho, hq⟩)
    (fun _ hq => wpAny_of_eq (rfl : isSame (.ref l) (.str b u) = pure false) hq) (.inr hu) h
theorem rcNe_dict_str {l : Addr} {dd : Option Addr} {es : Array DictEntry} {n : Nat} {sl : Array (Option Value)} (b : Str) (u : Tok) (ho : s.heap.get? l = some { cls := .type "dict", dict := dd, data := .dict es n, slots := sl }) (hu : A.units < cLine)
    {Q : Value → Shared → Prop} (h : Q (.bool true) s) : wpAny (model prog w) A (richCompare .NotEq (.ref l) (.str b u)) Q E s :=
  PySem.SeqAt.rc_ne_decline_or (k := false) ⟨_, ho, rfl⟩ (typeIs_str s b u) (by decide) F.sub_str_dict F.slot_dict_ne F.slot_str_ne_refl
    (fun _ hq => call_meets F.slot_dict_ne ⟨_, ho, rfl⟩ F.entry_dict_ne (F.args_dict_ne_2 _ _) (dict_ne_declines_str l es n dd sl b u) ⟨ho, hq⟩)
    (fun _ hq => call_meets F.slot_str_ne_refl (typeIs_str s b u) F.entry_str_ne (F.args_str_ne_2 _ _) (str_ne_declines_dict b u l es n dd sl) ⟨ho, hq⟩)
    (fun _ hq => wpAny_of_eq (rfl : isSame (.ref l) (.str b u) = pure false) hq) (.inr hu) h
end
end DataQ
namespace L2
open PySem PySem.Spec PyProof.Rows
/-- the data is this text -/
def isS (z : Str) : PyData → Bool
  | .str y => decide (y = z)
  | _ => false
section
variable {X : Cx}
def rEqGS (K : PySem.W.Frag) : R2 := fun x y H Q => ∃ d m z, Dg K H m x d ∧ y = .str z ∧ Q (.bl (isS z d)) H
def rNeGS (K : PySem.W.Frag) : R2 := fun x y H Q => ∃ d m z, Dg K H m x d ∧ y = .str z ∧ Q (.bl (!isS z d)) H
theorem op_eqGS (hu : X.A.units + 64 < cLine) : OpR X (compareOp .Eq) (rEqGS X.K) := by
  intro pins s σ H x y v u Q I rx ry h
  obtain ⟨d, m, z, hd, rfl, q⟩ := h
  have hu' : X.A.units < cLine := by omega
  obtain ⟨as, rd, _⟩ := Dg.reads I d x v hd rx
  obtain ⟨t, rfl⟩ := ry
  cases hd with
  | non => exact op_eq pins s σ H .non (.str z) _ _ Q I rx ⟨t, rfl⟩ ⟨rfl, by rw [decide_eq_false (fun e => V.noConfusion e)]; exact q⟩
  | bl b => exact op_eq pins s σ H (.bl b) (.str z) _ _ Q I rx ⟨t, rfl⟩ ⟨rfl, by rw [decide_eq_false (fun e => V.noConfusion e)]; exact q⟩
  | int i => exact op_eq pins s σ H (.int i) (.str z) _ _ Q I rx ⟨t, rfl⟩ ⟨rfl, by rw [decide_eq_false (fun e => V.noConfusion e)]; exact q⟩
  | str y =>
    refine op_eq pins s σ H (.str y) (.str z) _ _ Q I rx ⟨t, rfl⟩ ⟨rfl, ?_⟩
    have e : decide (V.str y = V.str z) = isS z (.str y) := by
      show _ = decide (y = z)
      rw [Bool.eq_iff_iff]; simp
    rw [e]; exact q
  | lst h1 h2 h3 =>
    obtain rfl : v = Value.ref _ := rx
    obtain ⟨its, rv, ⟨o, n, ho, hc, _, hdd⟩, _⟩ := I.list h1
    exact PySem.SeqAt.RcAt.list_str z t ⟨o, ho, hc, n, hdd⟩ hu' X.prog X.w _ _ ⟨.bl _, H, I, rfl, q⟩
  | tup h1 h2 =>
    obtain rfl : v = Value.ref _ := rx
    obtain ⟨its, rv, ⟨o, ho, hc, n, hdd⟩, _⟩ := I.tuple h1
    exact PySem.SeqAt.RcAt.tuple_str z t ⟨o, ho, hc, n, hdd⟩ hu' X.prog X.w _ _ ⟨.bl _, H, I, rfl, q⟩
  | @emp a h1 ha =>
    obtain rfl : v = Value.ref _ := rx
    obtain ⟨_, hsys, vs, hkv, od, es, ep, hget, hcl, hdat, hko, hps, _⟩ : ObjOk X.prog X.w H s.heap a (.dK []) := I.hok a _ ha
    obtain ⟨oc, odd, odt, osl⟩ := od
    obtain ⟨hc1, hc2⟩ := hcl
    simp only at hc1 hdat
    subst hc1 hdat
    exact DataQ.rc_dict_str z t hget hu' ⟨.bl _, H, I, rfl, q⟩
  | @dct a l h1 ha =>
    obtain rfl : v = Value.ref _ := rx
    obtain ⟨_, hsys, vs, hkv, od, es, ep, hget, hcl, hdat, hko, hps, _⟩ : ObjOk X.prog X.w H s.heap a (.dK (l.map kvV)) := I.hok a _ ha
    obtain ⟨oc, odd, odt, osl⟩ := od
    obtain ⟨hc1, hc2⟩ := hcl
    simp only at hc1 hdat
    subst hc1 hdat
    exact DataQ.rc_dict_str z t hget hu' ⟨.bl _, H, I, rfl, q⟩
theorem op_neGS (hu : X.A.units + 64 < cLine) : OpR X (compareOp .NotEq) (rNeGS X.K) := by
  intro pins s σ H x y v u Q I rx ry h
  obtain ⟨d, m, z, hd, rfl, q⟩ := h
  have hu' : X.A.units < cLine := by omega
  obtain ⟨as, rd, _⟩ := Dg.reads I d x v hd rx
  obtain ⟨t, rfl⟩ := ry
  cases hd with
  | non => exact op_ne pins s σ H .non (.str z) _ _ Q I rx ⟨t, rfl⟩ ⟨rfl, by rw [decide_eq_false (fun e => V.noConfusion e)]; exact q⟩
  | bl b => exact op_ne pins s σ H (.bl b) (.str z) _ _ Q I rx ⟨t, rfl⟩ ⟨rfl, by rw [decide_eq_false (fun e => V.noConfusion e)]; exact q⟩
  | int i => exact op_ne pins s σ H (.int i) (.str z) _ _ Q I rx ⟨t, rfl⟩ ⟨rfl, by rw [decide_eq_false (fun e => V.noConfusion e)]; exact q⟩
  | str y =>
    refine op_ne pins s σ H (.str y) (.str z) _ _ Q I rx ⟨t, rfl⟩ ⟨rfl, ?_⟩
    have e : decide (V.str y = V.str z) = isS z (.str y) := by
      show _ = decide (y = z)
      rw [Bool.eq_iff_iff]; simp
    rw [e]; exact q
  | lst h1 h2 h3 =>
    obtain rfl : v = Value.ref _ := rx
    obtain ⟨its, rv, ⟨o, n, ho, hc, _, hdd⟩, _⟩ := I.list h1
    exact PySem.SeqAt.RcNeAt.list_str z t ⟨o, ho, hc, n, hdd⟩ hu' X.prog X.w _ _ ⟨.bl _, H, I, rfl, q⟩
  | tup h1 h2 =>
    obtain rfl : v = Value.ref _ := rx
    obtain ⟨its, rv, ⟨o, ho, hc, n, hdd⟩, _⟩ := I.tuple h1
    exact PySem.SeqAt.RcNeAt.tuple_str z t ⟨o, ho, hc, n, hdd⟩ hu' X.prog X.w _ _ ⟨.bl _, H, I, rfl, q⟩
  | @emp a h1 ha =>
    obtain rfl : v = Value.ref _ := rx
    obtain ⟨_, hsys, vs, hkv, od, es, ep, hget, hcl, hdat, hko, hps, _⟩ : ObjOk X.prog X.w H s.heap a (.dK []) := I.hok a _ ha
    obtain ⟨oc, odd, odt, osl⟩ := od
    obtain ⟨hc1, hc2⟩ := hcl
    simp only at hc1 hdat
    subst hc1 hdat
    exact DataQ.rcNe_dict_str z t hget hu' ⟨.bl _, H, I, rfl, q⟩
  | @dct a l h1 ha =>
    obtain rfl : v = Value.ref _ := rx
    obtain ⟨_, hsys, vs, hkv, od, es, ep, hget, hcl, hdat, hko, hps, _⟩ : ObjOk X.prog X.w H s.heap a (.dK (l.map kvV)) := I.hok a _ ha
    obtain ⟨oc, odd, odt, osl⟩ := od
    obtain ⟨hc1, hc2⟩ := hcl
    simp only at hc1 hdat
    subst hc1 hdat
    exact DataQ.rcNe_dict_str z t hget hu' ⟨.bl _, H, I, rfl, q⟩
/-- a list display, which does not lie where the modules lie -/
def tLstS (t : TA) : TE := fun σ H Q => t σ H fun xs H1 => xs.length ≤ sizeLine ∧ ∀ l, H1 l = none → (l == sysModules) = false → Q (.ref l) (upd H1 l (.lst xs))
theorem pe_lstS {es : List Expr} {pos : Pos} {t : TA} (h : PA X es t) : PE X (.List es pos) (tLstS t) := by
  refine ⟨fun pins s σ H Q I hq => ?_⟩
  refine wpAny_List_spliced (thn (h.run pos pins s σ H _ I hq) fun us s1 ⟨xs, H1, I1, r, z, q⟩ => ⟨by rw [← r.length]; exact z, ?_⟩)
  have hf : H1 s1.heap.objs.size = none := I1.hok.fresh (Nat.le_refl _)
  have hb := I1.big
  refine ⟨.ref s1.heap.objs.size, upd H1 s1.heap.objs.size (.lst xs), I1.laid (t' := s1.toks) (fun b u e => Heap.get?_push_of_some _ e) (Nat.le_refl _) ?_, rfl, q _ hf ?_⟩
  · exact ⟨z, us, 0, r, Heap.get?_push_size _ rfl⟩
  · rw [beq_eq_false_iff_ne]
    exact Ne.symm (Nat.ne_of_lt hb)
/-- xs != [] -/
def rNeNil : R2 := fun x y H Q => ∃ p q xs, x = .ref p ∧ y = .ref q ∧ H p = some (.lst xs) ∧ H q = some (.lst []) ∧ Q (.bl (!decide (xs = []))) H
theorem op_ne_nil (hu : X.A.units < cLine) : OpR X (compareOp .NotEq) rNeNil := by
  intro pins s σ H x y v u Q I rx ry h
  obtain ⟨p, q, xs, rfl, rfl, hp, hq, k⟩ := h
  cases (show v = Value.ref p from rx)
  cases (show u = Value.ref q from ry)
  obtain ⟨z1, its, n, r1, hl, e1⟩ := I.lstM hp
  obtain ⟨z2, its2, n2, r2, hl2, e2⟩ := I.lstM hq
  cases r2
  have L2 : s.heap.IsList q (#[] : Array Value) := ⟨_, e2, rfl, _, rfl⟩
  have L1 : s.heap.IsList p its.toArray := ⟨_, e1, rfl, _, rfl⟩
  by_cases e : xs = []
  · subst e
    cases r1
    have := PySem.SeqAt.RcNeAt.lists (e := fun _ => true) L1 L2 rfl hu (fun j h1 _ => absurd h1 (Nat.not_lt_zero j))
    exact this X.prog X.w _ _ ⟨.bl _, H, I, rfl, k⟩
  · rw [decide_eq_false e] at k
    have l := r1.length
    have := List.length_pos_iff.mpr e
    exact PySem.SeqAt.RcNeAt.lists_lengths L1 L2 (by simp only [List.size_toArray, bne_iff_ne, ne_eq]; show ¬ its.length = 0; omega) hu X.prog X.w _ _ ⟨.bl _, H, I, rfl, k⟩
/-- D is a dict of the module that tells numbers for texts -/
def KTab (K : PySem.W.Frag) (w : World) (D : Addr) (f : Str → Option Int) : Prop := (∃ es n, KDict K w D es n) ∧ ∀ z, match f z with | none => PySem.W.nsIn K D z = some none | some i => ∃ t, PySem.W.nsIn K D z = some (some (.int i t))
def rNotInTab (D : Addr) (f : Str → Option Int) : R2 := fun x y H Q => ∃ z, x = .str z ∧ y = .ref D ∧ Q (.bl (f z).isNone) H
theorem op_notIn_tab {D : Addr} {f : Str → Option Int} (T : KTab X.K X.w D f) : OpR X (compareOp .NotIn) (rNotInTab D f) := by
  obtain ⟨⟨es, n, kd⟩, hv⟩ := T
  intro pins s σ H x y v u Q I rx ry h
  obtain ⟨z, rfl, rfl, q⟩ := h
  have e := hv z
  cases hf : f z with
  | none =>
    rw [hf] at e q
    exact op_notIn_kd kd pins s σ H _ _ v u Q I rx ry ⟨z, none, rfl, rfl, e, q⟩
  | some i =>
    rw [hf] at e q
    obtain ⟨t, e⟩ := e
    exact op_notIn_kd kd pins s σ H _ _ v u Q I rx ry ⟨z, _, rfl, rfl, e, q⟩
def rIxTab (D : Addr) (f : Str → Option Int) : R2 := fun x y H Q => ∃ z i, x = .ref D ∧ y = .str z ∧ f z = some i ∧ Q (.int i) H
theorem ix_tab {D : Addr} {f : Str → Option Int} (T : KTab X.K X.w D f) : IxR X (rIxTab D f) := by
  obtain ⟨⟨es, n, kd⟩, hv⟩ := T
  intro value slice pins s σ H x y v u Q I rx ry h hs
  obtain ⟨z, i, rfl, rfl, hf, q⟩ := h
  have e := hv z
  rw [hf] at e
  obtain ⟨t, e⟩ := e
  exact ix_kdict value slice pins s σ H _ _ v u Q I rx ry ⟨D, z, .int i, rfl, rfl, ⟨es, n, _, kd.at_, kd.lit, e, ⟨t, rfl⟩⟩, q⟩ hs
theorem call_list_ofS : CallR X (.type "list") (fun xs H Q => ∃ p ys, xs = [.ref p] ∧ (SqL X.K H p ys ∨ SqT X.K H p ys) ∧ ∀ l, H l = none → (l == sysModules) = false → Q (.ref l) (upd H l (.lst ys))) := by
  intro pins s σ H xs us Q I r h
  obtain ⟨p, ys, rfl, hq, q⟩ := h
  obtain ⟨u, rfl, rx⟩ := vals1 r
  cases rx
  have hb := I.big
  have fin : ∀ (its : List Value), Vals ys its → ys.length ≤ sizeLine → ∀ (h' : Heap) (c' : Nat), (∀ b o', s.heap.get? b = some o' → h'.get? b = some o') →
      h'.get? s.heap.objs.size = some { cls := .type "list", dict := none, data := .seq its.toArray c', slots := #[] } → EP X pins σ Q (.ref s.heap.objs.size) { s with heap := h' } := fun its r' hz h' c' kp e =>
    ⟨.ref s.heap.objs.size, _, I.laid (t' := s.toks) kp (Nat.le_refl _) (show ObjOk X.prog X.w _ h' _ (.lst ys) from ⟨hz, its, c', r', e⟩), rfl, q _ (I.hok.fresh (Nat.le_refl _)) (beq_eq_false_iff_ne.mpr (Ne.symm (Nat.ne_of_lt hb)))⟩
  rcases hq with hq | hq
  · obtain ⟨its, r', pl, hz⟩ := I.list hq
    have hlen := r'.length
    obtain ⟨o, ho, hc, n, hd⟩ := pl.isList
    exact call_list_seq p (.inl rfl) ho hc hd (fun h' c' kp e => fin its r' hz h' c' kp e) (by simp only [List.size_toArray] <;> omega)
  · obtain ⟨its, r', pl, hz⟩ := I.tuple hq
    have hlen := r'.length
    obtain ⟨o, ho, hc, n, hd⟩ := pl
    exact call_list_seq p (.inr rfl) ho hc hd (fun h' c' kp e => fin its r' hz h' c' kp e) (by simp only [List.size_toArray] <;> omega)
theorem ix_tupK {K : PySem.W.Frag} (e : X.K = K) : IxR X (rIxT K) := by rw [← e]; exact ix_tup
theorem op_eqGSK {K : PySem.W.Frag} (e : X.K = K) (hu : X.A.units + 64 < cLine) : OpR X (compareOp .Eq) (rEqGS K) := by subst e; exact op_eqGS hu
theorem op_neGSK {K : PySem.W.Frag} (e : X.K = K) (hu : X.A.units + 64 < cLine) : OpR X (compareOp .NotEq) (rNeGS K) := by subst e; exact op_neGS hu
theorem sl_tupAK {K : PySem.W.Frag} (e : X.K = K) : SlR X (rSlA K) := by subst e; exact sl_tupA
end
theorem tab_keys {P : Params} {z : Str} : ∀ {l : List DictEntry} {ks : List Str}, l.map He.keyOf = He.keysIn P ks → z ∉ ks → l.find? (·.key.isStr z) = none ∧ l.any (·.refKey) = false
  | [], _, _, _ => ⟨rfl, rfl⟩
  | e :: r, [], h, _ => by cases h
  | e :: r, k :: ks, h, n => by
    have h1 : He.keyOf e :: r.map He.keyOf = some (k, PyData.keyHash P k) :: He.keysIn P ks := h
    injection h1 with h2 h3
    obtain ⟨i1, i2⟩ := tab_keys h3 (fun z => n (List.mem_cons_of_mem _ z))
    unfold He.keyOf at h2
    split at h2
    · rename_i x t q
      have h4 := Option.some.inj h2
      obtain ⟨h5, h6⟩ := Prod.mk.inj h4
      have e1 : e.key.isStr z = false := by
        rw [q, h5]
        show (k == z) = false
        exact beq_eq_false_iff_ne.mpr fun e => n (by rw [← e]; exact List.mem_cons_self)
      have e2 : e.refKey = false := by unfold DictEntry.refKey; rw [q]
      exact ⟨by rw [List.find?_cons_of_neg (by rw [e1]; exact Bool.false_ne_true)]; exact i1, by rw [List.any_cons, e2, i2]; rfl⟩
    · cases h2
theorem tab_none {K : PySem.W.Frag} {P : Params} {D : Addr} {ks : List Str} {z : Str} (h : He.dicW K D = some (He.keysIn P ks)) (hz : z ∉ ks) : PySem.W.nsIn K D z = some none := by
  unfold He.dicW at h
  unfold PySem.W.nsIn
  cases q : K.lookup D with
  | none => rw [q] at h; cases h
  | some o =>
    obtain ⟨oc, od, dt, osl⟩ := o
    rw [q] at h
    cases oc with
    | type c =>
      cases od with
      | none =>
        cases dt with
        | dict es n =>
          have h1 : (match decide (c = "dict") && (osl.isEmpty && !(D == sysModules)) with
            | true => some (es.toList.map He.keyOf)
            | false => none) = some (He.keysIn P ks) := h
          split at h1
          · obtain ⟨a, b⟩ := tab_keys (Option.some.inj h1) hz
            show (match es.toList.find? (·.key.isStr z) with
              | some e => some (some e.val)
              | none => if es.toList.any (·.refKey) then none else some none) = some none
            rw [a, b]; rfl
          · cases h1
        | _ => cases h
      | some _ => cases h
    | _ => cases h
end L2

set_option Elab.async false
set_option linter.all false
set_option maxRecDepth 100000
set_option maxHeartbeats 4000000
/-! Data beside the box of draws; displays of data. -/
namespace My
open PySem PySem.Spec PyProof.Rows L2
/-- the heap without p -/
def wo (H : Hp) (p : Addr) : Hp := fun b => if b = p then none else H b
theorem wo_ne {H : Hp} {p b : Addr} (h : b ≠ p) : wo H p b = H b := by unfold wo; rw [if_neg h]
theorem wo_at {H : Hp} {p : Addr} : wo H p p = none := by unfold wo; rw [if_pos rfl]
theorem wo_le {H : Hp} {p b : Addr} {o : HO} (h : wo H p b = some o) : H b = some o := by
  by_cases e : b = p
  · rw [e, wo_at] at h; cases h
  · rw [wo_ne e] at h; exact h
theorem wo_upd {H : Hp} {p : Addr} {o : HO} : wo (upd H p o) p = wo H p := by
  funext b
  by_cases e : b = p
  · rw [e, wo_at, wo_at]
  · rw [wo_ne e, wo_ne e, upd_ne e]
theorem Kp.wo {p : Addr} {H H' : Hp} (k : Kp p H H') : Same (wo H p) (wo H' p) := fun b o e => by
  have n : b ≠ p := fun z => by rw [z, wo_at] at e; cases e
  rw [wo_ne n] at e ⊢
  exact k b o n e
theorem wo_same (H : Hp) (p : Addr) : Same (wo H p) H := fun _ _ e => wo_le e
/-- data, of which p is no part -/
abbrev Dw (K : PySem.W.Frag) (p : Addr) (H : Hp) (m : Bool) (x : V) (d : PyData) : Prop := Dg K (wo H p) m x d
abbrev DwAll (K : PySem.W.Frag) (p : Addr) (H : Hp) (m : Bool) (xs : List V) (ds : List PyData) : Prop := DgAll K (wo H p) m xs ds
theorem _root_.L2.Dg.kp {K : PySem.W.Frag} {p : Addr} {H H' : Hp} {m : Bool} {x : V} {d : PyData} (h : Dw K p H m x d) (k : Kp p H H') : Dw K p H' m x d := h.ext k.wo
theorem _root_.L2.DgAll.kp {K : PySem.W.Frag} {p : Addr} {H H' : Hp} {m : Bool} {x : List V} {d : List PyData} (h : DwAll K p H m x d) (k : Kp p H H') : DwAll K p H' m x d := h.ext k.wo
theorem _root_.L2.Dg.dg {K : PySem.W.Frag} {p : Addr} {H : Hp} {m : Bool} {x : V} {d : PyData} (h : Dw K p H m x d) : Dg K H m x d := h.ext (wo_same H p)
theorem _root_.L2.DgAll.dg {K : PySem.W.Frag} {p : Addr} {H : Hp} {m : Bool} {x : List V} {d : List PyData} (h : DwAll K p H m x d) : DgAll K H m x d := h.ext (wo_same H p)
theorem wo_new {H : Hp} {p q : Addr} {o : HO} (h : q ≠ p) : wo (upd H q o) p = upd (wo H p) q o := by
  funext b
  by_cases e : b = p
  · rw [e, wo_at, upd_ne (Ne.symm h), wo_at]
  · rw [wo_ne e]
    by_cases e2 : b = q
    · rw [e2, upd_same, upd_same]
    · rw [upd_ne e2, upd_ne e2, wo_ne e]
/-- a part of the heap that keeps what stands beside p, and all new things -/
structure Res (p : Addr) (H : Hp) (w : Hp → Hp) : Prop where
  sub : ∀ G, Same (w G) G
  kp : ∀ {G G' : Hp}, Kp p G G' → Same (w G) (w G')
  new : ∀ {G : Hp} {r : Addr} {o : HO}, Kp p H G → G p ≠ none → G r = none → w (L2.upd G r o) r = some o
theorem Res.mono {p : Addr} {H H' : Hp} {w : Hp → Hp} (R : Res p H w) (k : Kp p H H') : Res p H' w := ⟨R.sub, R.kp, fun k' n hr => R.new (k.trans k') n hr⟩
theorem res_p {p : Addr} {H : Hp} : Res p H (fun G => wo G p) := ⟨fun G => wo_same G p, fun k => k.wo, fun {G r o} _ n hr => by
  have nr : r ≠ p := fun z => n (by rw [← z]; exact hr)
  show wo (L2.upd G r o) p r = some o
  rw [wo_ne nr]; exact upd_same⟩
theorem res_two {p D : Addr} {H : Hp} {ob : HO} (hD : H D = some ob) (n : D ≠ p) : Res p H (fun G => wo (wo G p) D) := ⟨fun G => fun b o e => wo_le (wo_le e), fun {G G'} k => fun b o e => by
  have n : b ≠ D := fun z => by rw [z, wo_at] at e; cases e
  rw [wo_ne n] at e ⊢
  exact k.wo b o e, fun {G r o} k np hr => by
  have nr : r ≠ p := fun z => np (by rw [← z]; exact hr)
  have nD : r ≠ D := fun z => by rw [z, k D ob n hD] at hr; cases hr
  show wo (wo (L2.upd G r o) p) D r = some o
  rw [wo_ne nD, wo_ne nr]; exact upd_same⟩
theorem _root_.L2.Dg.rk {K : PySem.W.Frag} {p : Addr} {H H' H0 : Hp} {w : Hp → Hp} {m : Bool} {x : V} {d : PyData} (h : Dg K (w H) m x d) (R : Res p H0 w) (k : Kp p H H') : Dg K (w H') m x d := h.ext (R.kp k)
theorem _root_.L2.DgAll.rk {K : PySem.W.Frag} {p : Addr} {H H' H0 : Hp} {w : Hp → Hp} {m : Bool} {x : List V} {d : List PyData} (h : DgAll K (w H) m x d) (R : Res p H0 w) (k : Kp p H H') : DgAll K (w H') m x d := h.ext (R.kp k)
/-! ### displays -/
section
variable {K : PySem.W.Frag} {m : Bool} {p : Addr} {σ : L2.St} {H : Hp} {w : Hp → Hp}
/-- an expression gives the data d, and what stood stands -/
def EvD (K : PySem.W.Frag) (m : Bool) (p : Addr) (w : Hp → Hp) (te : TE) (σ : L2.St) (H : Hp) (d : PyData) : Prop :=
  ∀ H1, Kp p H H1 → H1 p ≠ none → ∀ Q : VK, (∀ x H', Same H1 H' → Dg K (w H') m x d → Q x H') → te σ H1 Q
def EvDs (K : PySem.W.Frag) (m : Bool) (p : Addr) (w : Hp → Hp) (ta : TA) (σ : L2.St) (H : Hp) (ds : List PyData) : Prop :=
  ∀ H1, Kp p H H1 → H1 p ≠ none → ∀ Q : List V → Hp → Prop, (∀ xs H', Same H1 H' → DgAll K (w H') m xs ds → Q xs H') → ta σ H1 Q
def EvI (p : Addr) (te : TE) (σ : L2.St) (H : Hp) (i : Int) : Prop :=
  ∀ H1, Kp p H H1 → H1 p ≠ none → ∀ Q : VK, (∀ H', Same H1 H' → Q (.int i) H') → te σ H1 Q
theorem same_at {H H' : Hp} {p : Addr} (s : Same H H') (h : H p ≠ none) : H' p ≠ none := fun z => by
  cases e : H p with
  | none => exact h e
  | some o => rw [s _ _ e] at z; cases z
theorem evD_c {x : V} {d : PyData} (h : ∀ G, Dg K G m x d) : EvD K m p w (tC x) σ H d := fun H1 _ _ Q q => q x H1 (Same.refl _) (h _)
theorem evD_int (i : Int) : EvD K m p w (tC (.int i)) σ H (.int i) := evD_c fun _ => .int i
theorem evD_str (z : Str) : EvD K m p w (tC (.str z)) σ H (.str z) := evD_c fun _ => .str z
theorem evD_bl (b : Bool) : EvD K m p w (tC (.bl b)) σ H (.bool b) := evD_c fun _ => .bl b
theorem evD_non : EvD K m p w (tC .non) σ H .none := evD_c fun _ => .non
theorem evD_var (R : Res p H w) {i : Nat} {x : V} {d : PyData} (e : σ[i]? = some (some x)) (h : Dg K (w H) m x d) : EvD K m p w (tVar i) σ H d :=
  fun H1 k _ Q q => ⟨x, e, q x H1 (Same.refl _) (h.rk R k)⟩
theorem evI_var {i : Nat} {j : Int} (e : σ[i]? = some (some (.int j))) : EvI p (tVar i) σ H j := fun H1 _ _ Q q => ⟨_, e, q H1 (Same.refl _)⟩
theorem evI_c (j : Int) : EvI p (tC (.int j)) σ H j := fun H1 _ _ Q q => q H1 (Same.refl _)
theorem evD_I {te : TE} {j : Int} (h : EvI p te σ H j) : EvD K m p w te σ H (.int j) := fun H1 k n Q q => h H1 k n Q fun H' s => q _ _ s (.int j)
theorem evI_op {ta tb : TE} {i j : Int} {g : Int → Int → Int} (ha : EvI p ta σ H i) (hb : EvI p tb σ H j) : EvI p (tOp (rI0 fun i j => .int (g i j)) ta tb) σ H (g i j) :=
  fun H1 k n Q q => ha H1 k n _ fun H2 s2 => hb H2 (k.trans (Kp.of s2)) (same_at s2 n) _ fun H3 s3 => ⟨_, _, rfl, rfl, q _ (s2.trans s3)⟩
theorem evI_opC {ta tb : TE} {i j : Int} {C : Int → Int → Prop} {g : Int → Int → Int} (ha : EvI p ta σ H i) (hb : EvI p tb σ H j) (c : C i j) : EvI p (tOp (rI C fun i j => .int (g i j)) ta tb) σ H (g i j) :=
  fun H1 k n Q q => ha H1 k n _ fun H2 s2 => hb H2 (k.trans (Kp.of s2)) (same_at s2 n) _ fun H3 s3 => ⟨_, _, rfl, rfl, c, q _ (s2.trans s3)⟩
theorem evDs_nil : EvDs K m p w tNil σ H [] := fun H1 _ _ Q q => q [] H1 (Same.refl _) .nil
theorem evDs_cons (R : Res p H w) {te : TE} {ta : TA} {d : PyData} {ds : List PyData} (h : EvD K m p w te σ H d) (t : EvDs K m p w ta σ H ds) : EvDs K m p w (tCons te ta) σ H (d :: ds) :=
  fun H1 k n Q q => h H1 k n _ fun x H2 s2 dx => t H2 (k.trans (Kp.of s2)) (same_at s2 n) _ fun xs H3 s3 dxs => q _ _ (s2.trans s3) (.cons (dx.rk R (Kp.of s3)) dxs)
theorem evD_tup (R : Res p H w) {ta : TA} {ds : List PyData} (h : EvDs K m p w ta σ H ds) (l : ds.length ≤ 1000) : EvD K m p w (tTup ta) σ H (.tuple ds) :=
  fun H1 k n Q q => h H1 k n _ fun xs H2 s2 dxs => ⟨by rw [dxs.len]; exact Nat.le_trans l (by decide), fun r hr => by
    have nr : r ≠ p := fun z => same_at s2 n (by rw [← z]; exact hr)
    have s3 : Same H2 (upd H2 r (.tup xs)) := Same.new (Same.refl _) hr
    exact q _ _ (s2.trans s3) (.tup (SqT.of (R.new (k.trans (Kp.of s2)) (same_at s2 n) hr)) (dxs.rk R (Kp.of s3)))⟩
theorem evD_lst (R : Res p H w) {ta : TA} {ds : List PyData} (h : EvDs K false p w ta σ H ds) (l : ds.length ≤ 1000) : EvD K false p w (tLst ta) σ H (.list ds) :=
  fun H1 k n Q q => h H1 k n _ fun xs H2 s2 dxs => ⟨by rw [dxs.len]; exact Nat.le_trans l (by decide), fun r hr => by
    have nr : r ≠ p := fun z => same_at s2 n (by rw [← z]; exact hr)
    have s3 : Same H2 (upd H2 r (.lst xs)) := Same.new (Same.refl _) hr
    exact q _ _ (s2.trans s3) (.lst (SqL.of (R.new (k.trans (Kp.of s2)) (same_at s2 n) hr)) (fun z => by cases z) (dxs.rk R (Kp.of s3)))⟩
theorem evD_lstS (R : Res p H w) {ta : TA} {ds : List PyData} (h : EvDs K m p w ta σ H ds) (l : ds.length ≤ 1000) : EvD K m p w (tLstS ta) σ H (.list ds) :=
  fun H1 k n Q q => h H1 k n _ fun xs H2 s2 dxs => ⟨by rw [dxs.len]; exact Nat.le_trans l (by decide), fun r hr hl => by
    have nr : r ≠ p := fun z => same_at s2 n (by rw [← z]; exact hr)
    have s3 : Same H2 (upd H2 r (.lst xs)) := Same.new (Same.refl _) hr
    exact q _ _ (s2.trans s3) (.lst (SqL.of (R.new (k.trans (Kp.of s2)) (same_at s2 n) hr)) (fun _ => hl) (dxs.rk R (Kp.of s3)))⟩
theorem evD_emp (R : Res p H w) : EvD K true p w tDNewK σ H (.dict []) := fun H1 k n Q q r hr => by
  have nr : r ≠ p := fun z => n (by rw [← z]; exact hr)
  exact q _ _ (Same.new (Same.refl _) hr) (.emp rfl (R.new k n hr))
/-- a display that is assigned, or handed back -/
theorem EvD.here {te : TE} {d : PyData} (h : EvD K m p w te σ H d) (n : H p ≠ none) {Q : VK} (q : ∀ x H', Same H H' → Dg K (w H') m x d → Q x H') : te σ H Q := h H (Kp.refl p H) n Q q
end
theorem BoxAt.some {H : Hp} {p : Addr} {n : Nat} (h : BoxAt H p n) : H p ≠ none := by
  obtain ⟨o, e, _⟩ := h
  rw [e]; exact fun z => by cases z
section
variable {K : PySem.W.Frag} {p : Addr} {σ : L2.St} {H : Hp} {w : Hp → Hp}
theorem evD_listOf (R : Res p H w) {te : TE} {ds : List PyData} (h : EvD K true p w te σ H (.tuple ds)) :
    EvD K true p w (tCB (fun xs H Q => ∃ p ys, xs = [.ref p] ∧ (SqL K H p ys ∨ SqT K H p ys) ∧ ∀ l, H l = none → (l == sysModules) = false → Q (.ref l) (L2.upd H l (.lst ys))) (tCons te tNil)) σ H (.list ds) := fun H1 k n Q q => h H1 k n _ fun x H2 s2 dx => by
  obtain ⟨a, xs, rfl, hs, ha⟩ := dx.tup_of
  have hs' : SqT K H2 a xs := hs.ext (R.sub H2)
  refine ⟨a, xs, rfl, .inr hs', fun l hl low => ?_⟩
  have nl : l ≠ p := fun z => same_at s2 n (by rw [← z]; exact hl)
  have s3 : Same H2 (L2.upd H2 l (.lst xs)) := Same.new (Same.refl _) hl
  exact q _ _ (s2.trans s3) (.lst (SqL.of (R.new (k.trans (Kp.of s2)) (same_at s2 n) hl)) (fun _ => low) (ha.rk R (Kp.of s3)))
theorem evD_catA (R : Res p H w) {m : Bool} {ta tb : TE} {ds es : List PyData} (ha : EvD K m p w ta σ H (.tuple ds)) (hb : EvD K m p w tb σ H (.tuple es)) (l : ds.length + es.length ≤ 10000) : EvD K m p w (tOp (rCatA K) ta tb) σ H (.tuple (ds ++ es)) :=
  fun H1 k n Q q => ha H1 k n _ fun x H2 s2 dx => hb H2 (k.trans (Kp.of s2)) (same_at s2 n) _ fun y H3 s3 dy => by
    have dx := dx.rk R (Kp.of s3)
    obtain ⟨a, xs, rfl, hs, hx⟩ := dx.tup_of
    obtain ⟨b, ys, rfl, ht, hy⟩ := dy.tup_of
    have lx := hx.len
    have ly := hy.len
    refine ⟨a, b, xs, ys, rfl, rfl, hs.ext (R.sub H3), ht.ext (R.sub H3), by rw [lx, ly]; exact Nat.le_trans l (by decide), fun e => ?_, fun _ e => ?_, fun _ _ r hr => ?_⟩
    · subst e
      have : ds = [] := List.length_eq_zero_iff.mp (by rw [← lx]; rfl)
      subst this
      exact q _ _ (s2.trans s3) dy
    · subst e
      have : es = [] := List.length_eq_zero_iff.mp (by rw [← ly]; rfl)
      subst this
      exact q _ _ (s2.trans s3) (by rw [List.append_nil]; exact dx)
    · have nr : r ≠ p := fun z => same_at (s2.trans s3) n (by rw [← z]; exact hr)
      have s4 : Same H3 (L2.upd H3 r (.tup (xs ++ ys))) := Same.new (Same.refl _) hr
      exact q _ _ ((s2.trans s3).trans s4) (.tup (SqT.of (R.new ((k.trans (Kp.of s2)).trans (Kp.of s3)) (same_at (s2.trans s3) n) hr)) ((hx.append hy).rk R (Kp.of s4)))
/-- te[:k], k written -/
theorem evD_head (R : Res p H w) {m : Bool} {te : TE} {ds : List PyData} (h : EvD K m p w te σ H (.tuple ds)) (k : Nat) : EvD K m p w (tSl (rSlA K) te tNoPart (tPart (tC (.int (k : Int))))) σ H (.tuple (ds.take k)) :=
  fun H1 kp n Q q => h H1 kp n _ fun x H2 s2 dx => by
    obtain ⟨a, xs, rfl, hs, hx⟩ := dx.tup_of
    have lx := hx.len
    refine ⟨_, rfl, a, xs, rfl, hs.ext (R.sub H2), fun e => ?_, fun _ r hr => ?_⟩
    · have e2 : HT.sIx xs.length xs.length (some (k : Int)) = xs.length := e.2
      rw [sIx_some] at e2
      exact q _ _ s2 (by rw [List.take_of_length_le (by omega)]; exact dx)
    · have nr : r ≠ p := fun z => same_at s2 n (by rw [← z]; exact hr)
      have s4 : Same H2 (L2.upd H2 r (.tup (cutV xs none (some (k : Int))))) := Same.new (Same.refl _) hr
      refine q _ _ (s2.trans s4) (.tup (SqT.of (R.new (kp.trans (Kp.of s2)) (same_at s2 n) hr)) ?_)
      rw [cutV_to]
      rw [cutV_to] at s4
      exact (hx.take k).rk R (Kp.of s4)
theorem evD_strI {m : Bool} {te : TE} {i : Int} (h : EvI p te σ H i) (l : i.natAbs.log2 < 1920) : EvD K m p w (tCB (fun xs H Q => ∃ i, xs = [.int i] ∧ i.natAbs.log2 < 1920 ∧ Q (.str (toString i)) H) (tCons te tNil)) σ H (.str (toString i)) :=
  fun H1 k n Q q => h H1 k n _ fun H2 s2 => ⟨i, rfl, l, q _ _ s2 (.str _)⟩
theorem evI_int1 {te : TE} {i : Int} (h : EvI p te σ H i) : EvI p (tCB (fun xs H Q => (∃ i, xs = [.int i] ∧ Q (.int i) H) ∨ ∃ k, xs = [.bl k] ∧ Q (.int (if k then 1 else 0)) H) (tCons te tNil)) σ H i :=
  fun H1 k n Q q => h H1 k n _ fun H2 s2 => .inl ⟨i, rfl, q _ s2⟩
/-- a list display of data, so that its items can be drawn -/
theorem menu_here (R : Res p H w) {P : PyData → Prop} {ta : TA} {Q : VK} {ds : List PyData} (n : H p ≠ none) (hd : Res p H w → EvDs K true p w ta σ H ds) (hp : ∀ d ∈ ds, P d) (h0 : 0 < ds.length) (h4 : ds.length ≤ 40)
    (q : ∀ M H' xs, Same H H' → H M = none → M ≠ p → H' M = some (.lst xs) → (M == sysModules) = false → DgAll K (w H') true xs ds → (∀ d ∈ ds, P d) → 0 < ds.length → ds.length ≤ 40 → Q (.ref M) H') : tLstS ta σ H Q := by
  refine hd R H (Kp.refl p H) n _ fun xs H2 s2 dxs => ⟨by rw [dxs.len]; exact Nat.le_trans h4 (by decide), fun r hr low => ?_⟩
  have nr : r ≠ p := fun z => same_at s2 n (by rw [← z]; exact hr)
  have s3 : Same H2 (L2.upd H2 r (.lst xs)) := Same.new (Same.refl _) hr
  exact q r _ xs (s2.trans s3) (s2.free hr) nr upd_same low (dxs.rk R (Kp.of s3)) hp h0 h4
end
theorem cutV_fr (xs : List V) (n : Nat) : cutV xs (some (n : Int)) none = xs.drop n := by
  unfold cutV
  rw [HT.sIx_none, sIx_some]
  rcases Nat.le_total n xs.length with h | h
  · rw [Nat.min_eq_left h, List.take_of_length_le (by rw [List.length_drop]; exact Nat.le_refl _)]
  · rw [Nat.min_eq_right h, List.drop_of_length_le h, List.drop_of_length_le (Nat.le_refl _), List.take_nil]
section
variable {K : PySem.W.Frag} {p : Addr} {H : Hp} {m : Bool} {x : V} {ds : List PyData} {Q : VK}
theorem sl_take (n : H p ≠ none) (dx : Dw K p H m x (.tuple ds)) (k : Nat) (q : ∀ y H', Same H H' → Dw K p H' m y (.tuple (ds.take k)) → Q y H') : rSlA K x none (some (k : Int)) H Q := by
  obtain ⟨a, xs, rfl, hs, hx⟩ := dx.tup_of
  have lx := hx.len
  refine ⟨a, xs, rfl, hs.ext (wo_same H p), fun e => ?_, fun _ r hr => ?_⟩
  · have e2 : HT.sIx xs.length xs.length (some (k : Int)) = xs.length := e.2
    rw [sIx_some] at e2
    exact q _ _ (Same.refl _) (by rw [List.take_of_length_le (by omega)]; exact dx)
  · have nr : r ≠ p := fun z => n (by rw [← z]; exact hr)
    rw [cutV_to]
    have s4 : Same H (L2.upd H r (.tup (xs.take k))) := Same.new (Same.refl _) hr
    exact q _ _ s4 (.tup (SqT.of (by rw [wo_ne nr]; exact upd_same)) ((hx.take k).kp (Kp.of s4)))
theorem sl_drop (n : H p ≠ none) (dx : Dw K p H m x (.tuple ds)) (k : Nat) (q : ∀ y H', Same H H' → Dw K p H' m y (.tuple (ds.drop k)) → Q y H') : rSlA K x (some (k : Int)) none H Q := by
  obtain ⟨a, xs, rfl, hs, hx⟩ := dx.tup_of
  have lx := hx.len
  refine ⟨a, xs, rfl, hs.ext (wo_same H p), fun e => ?_, fun _ r hr => ?_⟩
  · have e2 : HT.sIx xs.length 0 (some (k : Int)) = 0 := e.1
    rw [sIx_some] at e2
    have : ds.drop k = ds := by
      rcases Nat.eq_zero_or_pos k with z | z
      · rw [z, List.drop_zero]
      · have : ds = [] := List.length_eq_zero_iff.mp (by omega)
        rw [this]; simp
    exact q _ _ (Same.refl _) (by rw [this]; exact dx)
  · have nr : r ≠ p := fun z => n (by rw [← z]; exact hr)
    rw [cutV_fr]
    have s4 : Same H (L2.upd H r (.tup (xs.drop k))) := Same.new (Same.refl _) hr
    exact q _ _ s4 (.tup (SqT.of (by rw [wo_ne nr]; exact upd_same)) ((hx.drop k).kp (Kp.of s4)))
theorem cat_tup {y : V} {es : List PyData} (n : H p ≠ none) (dx : Dw K p H m x (.tuple ds)) (dy : Dw K p H m y (.tuple es)) (l : ds.length + es.length ≤ 10000) (q : ∀ z H', Same H H' → Dw K p H' m z (.tuple (ds ++ es)) → Q z H') : rCatA K x y H Q := by
  obtain ⟨a, xs, rfl, hs, hx⟩ := dx.tup_of
  obtain ⟨b, ys, rfl, ht, hy⟩ := dy.tup_of
  have lx := hx.len
  have ly := hy.len
  refine ⟨a, b, xs, ys, rfl, rfl, hs.ext (wo_same H p), ht.ext (wo_same H p), by rw [lx, ly]; exact Nat.le_trans l (by decide), fun e => ?_, fun _ e => ?_, fun _ _ r hr => ?_⟩
  · subst e
    have : ds = [] := List.length_eq_zero_iff.mp (by rw [← lx]; rfl)
    subst this
    exact q _ _ (Same.refl _) dy
  · subst e
    have : es = [] := List.length_eq_zero_iff.mp (by rw [← ly]; rfl)
    subst this
    exact q _ _ (Same.refl _) (by rw [List.append_nil]; exact dx)
  · have nr : r ≠ p := fun z => n (by rw [← z]; exact hr)
    have s4 : Same H (L2.upd H r (.tup (xs ++ ys))) := Same.new (Same.refl _) hr
    exact q _ _ s4 (.tup (SqT.of (by rw [wo_ne nr]; exact upd_same)) ((hx.append hy).kp (Kp.of s4)))
/-- a new tuple of one -/
theorem one_tup {d : PyData} (n : H p ≠ none) (dx : Dw K p H m x d) : ∀ r, H r = none → Same H (L2.upd H r (.tup [x])) ∧ Dw K p (L2.upd H r (.tup [x])) m (.ref r) (.tuple [d]) := fun r hr => by
  have nr : r ≠ p := fun z => n (by rw [← z]; exact hr)
  have s4 : Same H (L2.upd H r (.tup [x])) := Same.new (Same.refl _) hr
  exact ⟨s4, .tup (SqT.of (by rw [wo_ne nr]; exact upd_same)) (.cons (dx.kp (Kp.of s4)) .nil)⟩
end
/-- an item of a list of data -/
theorem _root_.L2.DgAll.nth {K : PySem.W.Frag} {H : Hp} {m : Bool} {xs : List V} {ds : List PyData} (h : DgAll K H m xs ds) {i : Nat} (l : i < ds.length) : ∃ x d, xs[i]? = some x ∧ ds[i]? = some d ∧ Dg K H m x d := by
  have l' : i < xs.length := by rw [h.len]; exact l
  obtain ⟨d, e, g⟩ := h.at i xs[i] (List.getElem?_eq_getElem l')
  exact ⟨_, d, List.getElem?_eq_getElem l', e, g⟩
/-! ### small data -/
def wid (k : Nat) : Nat := 100 * 6 ^ k
def Lv (k : Nat) (d : PyData) : Prop := Fit d k (wid k)
theorem lv_up {k : Nat} {d : PyData} (h : Lv k d) : Lv (k + 1) d := Fit.mono h (Nat.le_succ _) (by unfold wid; rw [Nat.pow_succ]; omega)
theorem FitAll.all {k w : Nat} : ∀ {ds : List PyData}, (∀ d ∈ ds, Fit d k w) → FitAll ds k ((w + 1) * ds.length)
  | [], _ => FitAll.nil
  | d :: ds, h => (FitAll.cons (h d List.mem_cons_self) (FitAll.all fun e he => h e (List.mem_cons_of_mem _ he))).mono (Nat.le_refl _) (by rw [List.length_cons, Nat.mul_succ]; omega)
theorem lv_len {k n : Nat} (h : n ≤ 5) : (wid k + 1) * n ≤ wid (k + 1) := by
  have e : wid (k + 1) = 6 * wid k := by unfold wid; rw [Nat.pow_succ]; omega
  have p : 100 ≤ wid k := by unfold wid; exact Nat.le_mul_of_pos_right 100 (Nat.pow_pos (by decide))
  rw [e]
  have := Nat.mul_le_mul_left (wid k + 1) h
  omega
theorem lv_tup {k : Nat} {ds : List PyData} (h : ∀ d ∈ ds, Lv k d) (l : ds.length ≤ 5) : Lv (k + 1) (.tuple ds) := Fit.mono (Fit.tuple (FitAll.all h)) (Nat.le_refl _) (lv_len l)
theorem lv_lst {k : Nat} {ds : List PyData} (h : ∀ d ∈ ds, Lv k d) (l : ds.length ≤ 5) : Lv (k + 1) (.list ds) := Fit.mono (Fit.list (FitAll.all h)) (Nat.le_refl _) (lv_len l)
theorem lv0 {d : PyData} (k : Nat) (h : Lv 0 d) : Lv k d := by
  induction k with
  | zero => exact h
  | succ k ih => exact lv_up ih
theorem lv_non {k : Nat} : Lv k .none := lv0 k (Fit.none.mono (Nat.le_refl _) (Nat.zero_le _))
theorem lv_bl {k : Nat} {b : Bool} : Lv k (.bool b) := lv0 k (Fit.bool.mono (Nat.le_refl _) (Nat.zero_le _))
theorem fit_int {i : Int} {k : Nat} (h : i.natAbs < 10 ^ 30) : Fit (.int i) k 100 := by
  have lg : i.natAbs.log2 < 100 := PySem.Flt.log2_lt_of (by decide) (Nat.lt_of_lt_of_le h (by decide))
  refine ⟨?_, ?_, ?_, ?_⟩
  · simp only [PyData.showable, decide_eq_true_eq]
    exact Nat.lt_trans lg (by decide)
  · unfold PyData.depth; omega
  · have e := int_text_length_le10 (a := i) (k := 30) (by decide) h
    have e2 : (PyData.int i).shown = Str.ofString (toString i) := by simp only [PyData.shown]
    unfold PyData.leavesShort
    refine decide_eq_true ?_
    rw [e2, PySem.ofString_length]
    omega
  · simp only [PyData.weight]
    split <;> omega
theorem lv_int {k : Nat} {i : Int} (h : i.natAbs < 10 ^ 30) : Lv k (.int i) := lv0 k (fit_int h)
theorem lv_str {k : Nat} {z : List Nat} (h : z.length ≤ 100) (hc : ∀ c ∈ z, c < 200) : Lv k (.str (S z)) := lv0 k (Fit.str h hc)
theorem lv_emp {k : Nat} : Lv (k + 1) (.dict []) := Fit.mono (Fit.dict (k := k) FitKv.nil) (Nat.le_refl _) (Nat.zero_le _)
theorem all_nil {P : PyData → Prop} : ∀ d ∈ ([] : List PyData), P d := fun d h => by cases h
theorem all_cons {P : PyData → Prop} {e : PyData} {es : List PyData} (h : P e) (t : ∀ d ∈ es, P d) : ∀ d ∈ e :: es, P d := fun d hd => by
  rcases List.mem_cons.mp hd with q | q
  · rw [q]; exact h
  · exact t d q
theorem all_app {P : PyData → Prop} {a b : List PyData} (h : ∀ d ∈ a, P d) (g : ∀ d ∈ b, P d) : ∀ d ∈ a.append b, P d := fun d hd => (List.mem_append.mp hd).elim (h d) (g d)
theorem Lv.sh {k : Nat} {d : PyData} (h : Lv k d) (hk : k ≤ 3) : Sh d := by
  have : k = 0 ∨ k = 1 ∨ k = 2 ∨ k = 3 := by omega
  rcases this with rfl | rfl | rfl | rfl
  · exact Fit.sh h (by omega) (by decide)
  · exact Fit.sh h (by omega) (by decide)
  · exact Fit.sh h (by omega) (by decide)
  · exact Fit.sh h (by omega) (by decide)
theorem lv_any {k : Nat} {z : Str} (h : (cs z).length ≤ 100) (hc : (cs z).all (fun c => decide (c < 200)) = true) : Lv k (.str z) := by
  rw [← S_of z]
  exact lv_str h fun c hm => of_decide_eq_true (List.all_eq_true.mp hc c hm)
theorem lv_digit {k a : Nat} (h : a < 5) : Lv k (.str (Str.ofString (toString (a : Int)))) := by
  match a, h with
  | 0, _ => exact lv_any (by decide +kernel) (by decide +kernel)
  | 1, _ => exact lv_any (by decide +kernel) (by decide +kernel)
  | 2, _ => exact lv_any (by decide +kernel) (by decide +kernel)
  | 3, _ => exact lv_any (by decide +kernel) (by decide +kernel)
  | 4, _ => exact lv_any (by decide +kernel) (by decide +kernel)
end My

set_option Elab.async false
set_option linter.all false
set_option maxRecDepth 100000
set_option maxHeartbeats 4000000
/-! Comprehensions of two clauses over ranges; lists of new data that grow. -/
namespace L2
open PySem PySem.Spec PyProof.Rows
theorem lc2_range {lo : Int} {n : Nat} {g g1 : TG} {tt tt1 : TT} {te : TE} {wi1 : TI} {vs vs1 : List Nat} {σ : St} {H1 : Hp} {D : Addr} {Qd : Hp → Prop} (Pv : Nat → Hp → Prop) (h0 : Pv 0 (upd H1 D (.lst [])))
    (hs : ∀ i H, i < n → Pv i H → g (.int (lo + i)) (wipe σ vs) H fun σ2 H2 => wipe σ2 vs = wipe σ vs ∧ tt σ2 H2 fun b H3 =>
      if b = true then wi1 σ2 H3 fun J1 H4 => ∃ W1 : Nat → Nat → Hp → Prop, (∃ m, W1 0 m H4) ∧ ∀ j k H, W1 j k H →
        (J1.stop j H ∧ Pv (i + 1) H) ∨ (J1.go j H ∧ ∃ Nx1 : Hp → Prop, (∀ H', Nx1 H' → ∃ k', k' < k ∧ W1 (j + 1) k' H') ∧ ∀ x H', J1.yld j H x H' → g1 x (wipe σ2 vs1) H' fun σ3 H5 => wipe σ3 vs1 = wipe σ2 vs1 ∧ tt1 σ3 H5 fun b H6 =>
          if b = true then te σ3 H6 fun y H7 => ∃ acc, H7 D = some (.lst acc) ∧ acc.length < sizeLine ∧ Nx1 (upd H7 D (.lst (acc ++ [y]))) else Nx1 H6)
      else Pv (i + 1) H3) (hd : ∀ H, Pv n H → Qd H) :
    ∃ W : Nat → Nat → Hp → Prop, (∃ m, W 0 m (upd H1 D (.lst []))) ∧ ∀ i m H, W i m H →
      ((Itr lo n).stop i H ∧ Qd H) ∨ ((Itr lo n).go i H ∧ ∃ Nx : Hp → Prop, (∀ H', Nx H' → ∃ m', m' < m ∧ W (i + 1) m' H') ∧ ∀ x H', (Itr lo n).yld i H x H' → g x (wipe σ vs) H' fun σ2 H2 => wipe σ2 vs = wipe σ vs ∧ tt σ2 H2 fun b H3 =>
        if b = true then wi1 σ2 H3 fun J1 H4 => ∃ W1 : Nat → Nat → Hp → Prop, (∃ m, W1 0 m H4) ∧ ∀ j k H, W1 j k H →
          (J1.stop j H ∧ Nx H) ∨ (J1.go j H ∧ ∃ Nx1 : Hp → Prop, (∀ H', Nx1 H' → ∃ k', k' < k ∧ W1 (j + 1) k' H') ∧ ∀ x H', J1.yld j H x H' → g1 x (wipe σ2 vs1) H' fun σ3 H5 => wipe σ3 vs1 = wipe σ2 vs1 ∧ tt1 σ3 H5 fun b H6 =>
            if b = true then te σ3 H6 fun y H7 => ∃ acc, H7 D = some (.lst acc) ∧ acc.length < sizeLine ∧ Nx1 (upd H7 D (.lst (acc ++ [y]))) else Nx1 H6)
        else Nx H3) := by
  refine ⟨fun i m H => m = n - i ∧ i ≤ n ∧ Pv i H, ⟨n, by simp, Nat.zero_le _, h0⟩, ?_⟩
  rintro i m H ⟨rfl, hi, p⟩
  by_cases hlt : i < n
  · refine .inr ⟨hlt, Pv (i + 1), fun H' p' => ⟨n - (i + 1), by omega, rfl, hlt, p'⟩, fun x H' y => ?_⟩
    obtain ⟨e, y⟩ := y
    subst e y
    exact hs i _ hlt p
  · have e : i = n := by omega
    subst e
    exact .inl ⟨Nat.le_refl _, hd H p⟩
theorem lcr_inner {lo : Int} {n : Nat} {g : TG} {tt : TT} {te : TE} {vs : List Nat} {σ : St} {H4 : Hp} {D : Addr} {Qd : Hp → Prop} (Pv : Nat → Hp → Prop) (h0 : Pv 0 H4)
    (hs : ∀ i H, i < n → Pv i H → g (.int (lo + i)) (wipe σ vs) H fun σ2 H2 => wipe σ2 vs = wipe σ vs ∧ tt σ2 H2 fun b H3 =>
      if b = true then te σ2 H3 fun y H4 => ∃ acc, H4 D = some (.lst acc) ∧ acc.length < sizeLine ∧ Pv (i + 1) (upd H4 D (.lst (acc ++ [y]))) else Pv (i + 1) H3) (hd : ∀ H, Pv n H → Qd H) :
    ∃ W : Nat → Nat → Hp → Prop, (∃ m, W 0 m H4) ∧ ∀ i m H, W i m H →
      ((Itr lo n).stop i H ∧ Qd H) ∨ ((Itr lo n).go i H ∧ ∃ Nx : Hp → Prop, (∀ H', Nx H' → ∃ m', m' < m ∧ W (i + 1) m' H') ∧ ∀ x H', (Itr lo n).yld i H x H' → g x (wipe σ vs) H' fun σ2 H2 => wipe σ2 vs = wipe σ vs ∧ tt σ2 H2 fun b H3 =>
        if b = true then te σ2 H3 fun y H4 => ∃ acc, H4 D = some (.lst acc) ∧ acc.length < sizeLine ∧ Nx (upd H4 D (.lst (acc ++ [y]))) else Nx H3) := by
  refine ⟨fun i m H => m = n - i ∧ i ≤ n ∧ Pv i H, ⟨n, by simp, Nat.zero_le _, h0⟩, ?_⟩
  rintro i m H ⟨rfl, hi, p⟩
  by_cases hlt : i < n
  · refine .inr ⟨hlt, Pv (i + 1), fun H' p' => ⟨n - (i + 1), by omega, rfl, hlt, p'⟩, fun x H' y => ?_⟩
    obtain ⟨e, y⟩ := y
    subst e y
    exact hs i _ hlt p
  · have e : i = n := by omega
    subst e
    exact .inl ⟨Nat.le_refl _, hd H p⟩
end L2
namespace My
open PySem PySem.Spec PyProof.Rows L2
/-- the list at D, new since H1, holds the data ds, of which it is no part -/
def Ac (K : PySem.W.Frag) (H1 : Hp) (D : Addr) (ds : List PyData) (H : Hp) : Prop := Same H1 H ∧ ∃ acc, H D = some (.lst acc) ∧ DwAll K D H true acc ds
theorem Ac.start {K : PySem.W.Frag} {H1 : Hp} {D : Addr} (hD : H1 D = none) : Ac K H1 D [] (L2.upd H1 D (.lst [])) := ⟨Same.new (Same.refl _) hD, [], upd_same, .nil⟩
theorem Ac.snoc {K : PySem.W.Frag} {H1 H H2 : Hp} {D : Addr} {ds : List PyData} {y : V} {d : PyData} (h : Ac K H1 D ds H) (hD : H1 D = none) (l : ds.length ≤ 10000) (s : Same H H2) (dy : Dw K D H2 true y d) :
    ∃ acc, H2 D = some (.lst acc) ∧ acc.length < sizeLine ∧ Ac K H1 D (ds ++ [d]) (L2.upd H2 D (.lst (acc ++ [y]))) := by
  obtain ⟨s1, acc, e, ha⟩ := h
  refine ⟨acc, s _ _ e, by rw [ha.len]; exact Nat.lt_of_le_of_lt l (by decide), fun b o q => ?_, acc ++ [y], upd_same, ?_⟩
  · rw [upd_ne (ne_of_none q hD)]; exact s _ _ (s1 _ _ q)
  · show DgAll K (wo (L2.upd H2 D _) D) true _ _
    rw [wo_upd]
    exact (ha.kp (Kp.of s)).append (.cons dy .nil)
/-- a new tuple for it -/
theorem dw_tup {K : PySem.W.Frag} {H : Hp} {D q : Addr} {xs : List V} {es : List PyData} (e : H D ≠ none) (hq : H q = none) (h : DwAll K D H true xs es) : Dw K D (L2.upd H q (.tup xs)) true (.ref q) (.tuple es) := by
  have n : q ≠ D := fun z => e (by rw [← z]; exact hq)
  exact .tup (SqT.of (by rw [wo_ne n]; exact upd_same)) (h.kp ((Kp.refl D H).new hq))
theorem Ac.ne {K : PySem.W.Frag} {H1 H : Hp} {D : Addr} {ds : List PyData} (h : Ac K H1 D ds H) : H D ≠ none := by
  obtain ⟨_, acc, e, _⟩ := h
  rw [e]; exact fun z => by cases z
/-- one more tuple of known items -/
theorem Ac.tup {K : PySem.W.Frag} {H1 H : Hp} {D q : Addr} {ds es : List PyData} {xs : List V} (h : Ac K H1 D ds H) (hD : H1 D = none) (l : ds.length ≤ 10000) (hq : H q = none) (hx : ∀ G, DgAll K G true xs es) :
    ∃ acc, L2.upd H q (.tup xs) D = some (.lst acc) ∧ acc.length < sizeLine ∧ Ac K H1 D (ds ++ [.tuple es]) (L2.upd (L2.upd H q (.tup xs)) D (.lst (acc ++ [.ref q]))) :=
  h.snoc hD l (Same.new (Same.refl _) hq) (dw_tup h.ne hq (hx _))
theorem same_wo {H : Hp} {p : Addr} {o : HO} (h : H p = none) : Same H (wo (L2.upd H p o) p) := fun b ob e => by
  have n : b ≠ p := fun z => by rw [z, h] at e; cases e
  rw [wo_ne n, upd_ne n]; exact e
end My

set_option Elab.async false
set_option linter.all false
set_option maxRecDepth 100000
set_option maxHeartbeats 2000000
namespace PySem
open PyProof.Rows
theorem Walks.tupleOn {prog : Program} {w : World} {A : Around} (hh : A.handled = none) (I ax : Addr) (hne : ax ≠ I) (items : Array Value) (k : Nat) (hk : k ≤ items.size) :
    Walks prog w A I [I, ax] [I] (items.size - k) (fun i v => items[k + i]? = some v) (fun i h => h.IsTupleIter I ax (k + i) ∧ h.IsTuple ax items) where
  sub := fun b hb => by simp at hb; simp [hb]
  frame := fun _ _ _ st hk => ⟨st.1.at fun o e => hk I (by simp) o e, st.2.at fun o e => hk ax (by simp) o e⟩
  item := fun i s Q E hi st hQ => by
    have hi' : k + i < items.size := by omega
    refine wpAny_pyNext_tuple_item st.1 st.2 (x := items[k + i]) (by simp [hi']) fun h' hit' hs' => ?_
    exact hQ _ h' s.toks (by simp [hi']) ⟨hit', st.2.extBut hs'.extBut hne⟩ fun b o hb e => hs'.extBut b o (fun h => hb (by simp [h])) e
  done := fun s Q E st hQ => wpAny_pyNext_tuple_end hh st.1 st.2 (by simp; omega) fun h' he' => hQ h' s.toks fun b o hb e => he' b o (fun h => hb (by simp [h])) e
  self := fun _ _ _ _ st hQ => wpAny_pyIter_tupleiter st.1 hQ
section
variable {prog : Program} {w : World} {A : Around} {E : Value → Shared → Prop} {s : Shared}
theorem unpackStar {t : Addr} {items : Array Value} {Q : List Value → Shared → Prop} (hh : A.handled = none) (ht : s.heap.IsTuple t items) (h1 : 1 ≤ items.size) (hz : items.size ≤ sizeLine)
    (hQ : ∀ s', Moved [s.heap.objs.size] (fun a b => b = a) s s' → Q [items[0], .ref s'.heap.objs.size] { s' with heap := s'.heap.push { cls := .type "list", data := .seq (items.toList.drop 1).toArray } }) :
    wpAny (model prog w) A (unpackItems (.ref t) 2 (some 1)) Q E s := by
  have hlt : t ≠ s.heap.objs.size := by obtain ⟨o, ho, _⟩ := ht; exact Nat.ne_of_lt (Heap.lt_size ho)
  unfold unpackItems
  refine wpAny_bind ?_
  unfold notIterableAtAll
  refine wpAny_bind (wpAny_specialOf ht.typeIs F.slot_tuple_iter.lookup ?_)
  refine wpAny_pure ?_
  simp only [Bool.false_eq_true, if_false]
  refine wpAny_bind (wpAny_holding (wpAny_pyIter_tuple ht ?_))
  refine wpAny_bind (wpAny_holding (wpAny_draw_tuple hlt 1 0 _ _ ⟨_, Heap.get?_push_size _ rfl, rfl, rfl⟩ (ht.push _) (by omega) fun h₁ hit₁ hs₁ => ?_))
  have hone : List.take 1 (List.drop 0 items.toList) = [items[0]] := by
    rw [List.drop_zero]
    have : items.toList = items[0] :: items.toList.drop 1 := by
      have := List.drop_eq_getElem_cons (l := items.toList) (i := 0) (by rw [Array.length_toList]; omega)
      simpa using this
    rw [this]; rfl
  rw [hone, if_neg (by simp)]
  have W := (Walks.tupleOn (prog := prog) (w := w) (A := A.in1) hh s.heap.objs.size t hlt items 1 h1).toS
  have k0 : ∀ b o, b ∉ [s.heap.objs.size] → s.heap.get? b = some o → h₁.get? b = some o := fun b o hb e => hs₁.extBut b o (fun z => hb (by simp [z])) (Heap.get?_push_of_some _ e)
  have sz1 : s.heap.objs.size < h₁.objs.size := by
    obtain ⟨o, ho, _⟩ := hit₁
    exact Heap.lt_size ho
  refine wpAny_bind (wpAny_holding (wpAny_collect_iter (T := "tuple_iterator") (.inr (.inr (.inr rfl))) W (fun i s' st => st.1.typeIs) ⟨hit₁, (ht.push _).extBut hs₁.extBut hlt⟩ ?_ (by simp) (fun s' acc hm hacc => ?_) (by omega)))
  · intro b hb
    rcases List.mem_cons.mp hb with rfl | hb
    · exact sz1
    · rw [List.mem_singleton.mp hb]
      obtain ⟨o, ho, _⟩ := ht
      exact Nat.lt_trans (Heap.lt_size ho) sz1
  · have el : acc.toList = items.toList.drop 1 := by
      obtain ⟨e1, e2⟩ := hacc
      apply List.ext_getElem?
      intro i
      rw [List.getElem?_drop, Array.getElem?_toList, Array.getElem?_toList]
      by_cases hi : i < acc.size
      · have g : acc[i]? = some acc[i] := by simp [hi]
        rw [g]; exact (e2 i _ g).symm
      · have a1 : acc[i]? = none := by simp; omega
        have a2 : items[1 + i]? = none := by simp; omega
        rw [a1, a2]
    rw [el, if_neg (by simp)]
    have et : List.take ((items.toList.drop 1).length - (2 - 1 - 1)) (items.toList.drop 1) = items.toList.drop 1 := by rw [show 2 - 1 - 1 = 0 from rfl, Nat.sub_zero, List.take_length]
    have ed : List.drop ((items.toList.drop 1).length - (2 - 1 - 1)) (items.toList.drop 1) = [] := by rw [show 2 - 1 - 1 = 0 from rfl, Nat.sub_zero, List.drop_length]
    rw [et, ed]
    refine wpAny_bind (wpAny_newList (wpAny_pure ?_) ?_)
    · exact hQ s' ⟨fun b o hb e => hm.heap b o hb (k0 b o hb e), hm.gens, hm.drawn, hm.os, hm.toks⟩
    · simp; omega
end
end PySem
namespace L2
open PySem PySem.Spec PyProof.Rows
section
variable {X : Cx} {pos : Pos}
/-- x, *rest = v (v a tuple of one item or more): rest becomes a new list -/
def gStar (K : PySem.W.Frag) (t : TGs) : TG := fun v σ H Q => ∃ a x xs, v = .ref a ∧ SqT K H a (x :: xs) ∧ ∀ p, H p = none → t [x, .ref p] σ (upd H p (.lst xs)) Q
theorem pg_star {e1 e2 : Expr} {k : Nat} {p2 : Pos} {t : TGs} (hc : X.calm = true) (h : PGs X [e1, e2] t)
    (hn : (assignEach [e1, .Starred e2 p2] X.env).length = 2 := by rfl) (hst : (assignEach [e1, .Starred e2 p2] X.env).findIdx? (·.1) = some 1 := by rfl)
    (hm : (assignEach [e1, .Starred e2 p2] X.env).map (·.2) = (assignEach [e1, e2] X.env).map (·.2) := by rfl) : PG X (.Tuple [e1, .Starred e2 p2] k pos) (gStar X.K t) := by
  refine ⟨fun pins s σ H v u Q I r hw => ?_⟩
  obtain ⟨a, x, xs, e1', hq, hw⟩ := hw
  subst e1'
  cases r
  obtain ⟨its, rv, ht, hz⟩ := I.tuple hq
  rw [assign_Tuple]
  refine wpAny_bind (wpAny_standAt ?_)
  unfold unpack
  rw [hn, hst, hm]
  cases rv with
  | cons r0 rv =>
    rename_i u0 us
    refine wpAny_bind (wpAny_holding (unpackStar (items := (u0 :: us).toArray) (I.ok.hd hc) ht (by simp) (by simp; have := rv.length; simp at hz; omega) fun s' mv => ?_))
    have I1 : Inv X pins σ H s' := by
      rw [Moved.eq_with mv]
      exact I.kept (t' := s'.toks) fun b o e => mv.heap b o (fun z => by have h1 := Heap.lt_size e; rw [List.mem_singleton.mp z] at h1; exact Nat.lt_irrefl _ h1) e
    have hf : H s'.heap.objs.size = none := I1.hok.fresh (Nat.le_refl _)
    have I2 : Inv X pins σ (upd H s'.heap.objs.size (.lst xs)) { s' with heap := s'.heap.push { cls := .type "list", data := .seq ((u0 :: us).drop 1).toArray }, toks := s'.toks } := by
      refine I1.laid (t' := s'.toks) (fun b u e => Heap.get?_push_of_some _ e) (Nat.le_refl _) ?_
      exact ⟨by simp at hz; omega, us, 0, rv, Heap.get?_push_size _ rfl⟩
    exact h.run pins _ σ _ [x, .ref s'.heap.objs.size] [u0, .ref s'.heap.objs.size] Q I2 (.cons r0 (.cons rfl .nil)) (hw _ hf)
end
end L2

set_option Elab.async false
set_option linter.all false
set_option maxRecDepth 100000
set_option maxHeartbeats 4000000
/-! A value that is a list or a tuple: its items, a slice of it, walked through; a body behind a call that never comes back. -/
namespace L2
open PySem PySem.Spec PyProof.Rows
section
variable {X : Cx} {K : PySem.W.Frag}
def rIxQ (K : PySem.W.Frag) : R2 := fun x y H Q => rIxL K x y H Q ∨ rIxT K x y H Q
theorem ix_q : IxR X (rIxQ X.K) := by
  intro value slice pins s σ H x y v u Q I rx ry h hs
  rcases h with h | h
  · exact ix_list value slice pins s σ H x y v u Q I rx ry h hs
  · exact ix_tup value slice pins s σ H x y v u Q I rx ry h hs
theorem ix_qK (e : X.K = K) : IxR X (rIxQ K) := by rw [← e]; exact ix_q
def rSlQ (K : PySem.W.Frag) : V → Option Int → Option Int → Hp → VK → Prop := fun x lo hi H Q => rSlL K x lo hi H Q ∨ rSlA K x lo hi H Q
theorem sl_q : SlR X (rSlQ X.K) := SlR.or sl_list sl_tupA
def iSq (K : PySem.W.Frag) (tl : TE) : TI := fun σ H R => tl σ H fun x H1 => ∃ a, x = .ref a ∧ ((∃ xs, SqL K H1 a xs) ∧ R (Itl K a) H1 ∨ (∃ xs, SqT K H1 a xs) ∧ R (Itt K a) H1)
theorem pi_sq {tg l : Expr} {tl : TE} (hl : PE X l tl) : PI X tg l (iSq X.K tl) := by
  refine ⟨fun pins s σ H R I h => ?_⟩
  refine thn (hl.run pins s σ H _ I h) fun v s1 ⟨x, H1, I1, r1, q1⟩ => ?_
  obtain ⟨a, e, q1⟩ := q1
  subst e
  cases r1
  rcases q1 with ⟨⟨xs, hq⟩, q⟩ | ⟨⟨xs, hq⟩, q⟩
  · obtain ⟨its, rv, p, hz⟩ := I1.list hq
    refine wpAny_pyIter_list p.isList ?_
    refine ⟨s1.heap.objs.size, [s1.heap.objs.size], _, _, H1, rfl, I1.kept (t' := s1.toks) fun b o e => Heap.get?_push_of_some _ e, turn_list a _, ⟨_, Heap.get?_push_size _ rfl, rfl, rfl⟩, fun b hb => ?_, q⟩
    have e : b = s1.heap.objs.size := by simpa using hb
    subst e
    exact I1.fpOk (Nat.le_refl _) (I1.hok.fresh (Nat.le_refl _))
  · obtain ⟨its, rv, p, hz⟩ := I1.tuple hq
    refine wpAny_pyIter_tuple (show s1.heap.IsTuple a its.toArray from p) ?_
    refine ⟨s1.heap.objs.size, [s1.heap.objs.size], _, _, H1, rfl, I1.kept (t' := s1.toks) fun b o e => Heap.get?_push_of_some _ e, turn_tuple a _, ⟨_, Heap.get?_push_size _ rfl, rfl, rfl⟩, fun b hb => ?_, q⟩
    have e : b = s1.heap.objs.size := by simpa using hb
    subst e
    exact I1.fpOk (Nat.le_refl _) (I1.hok.fresh (Nat.le_refl _))
theorem pg_tupK {es : List Expr} {k : Nat} {t : TGs} {n : Nat} {pos : Pos} (e : X.K = K) (hc : X.calm = true) (h : PGs X es t)
    (hn : (assignEach es X.env).length = n := by rfl) (hst : (assignEach es X.env).findIdx? (·.1) = none := by rfl) : PG X (.Tuple es k pos) (gTup K n t) := by subst e; exact pg_tup hc h hn hst
/-- a statement behind which nothing is reached -/
theorem pss_dead {st : Stmt} {rest : List Stmt} {t : TS} (h1 : PS X st t) : PSs X (st :: rest) (fun D σ H => t { D with nx := fun _ _ => False } σ H) := by
  refine ⟨fun pins s σ H D I h => ?_⟩
  refine wpAny_execs_cons (thn (h1.run pins s σ H { D with nx := fun _ _ => False } I h) fun f s1 q => ?_)
  cases f with
  | next =>
    obtain ⟨_, _, _, q⟩ := q
    exact q.elim
  | ret v => exact q
  | brk => exact q
  | cont => exact q
end
end L2
namespace My
open PySem PySem.Spec PyProof.Rows L2
/-- a list, or a tuple -/
def SqQ (K : PySem.W.Frag) (H : Hp) (a : Addr) (xs : List V) : Prop := SqL K H a xs ∨ SqT K H a xs
theorem SqQ.same {K : PySem.W.Frag} {H H' : Hp} {a : Addr} {xs : List V} (h : SqQ K H a xs) (s : ∀ b o, H b = some o → H' b = some o) : SqQ K H' a xs := h.elim (fun h => .inl (h.ext s)) (fun h => .inr (h.ext s))
theorem SqQ.ix {K : PySem.W.Frag} {H : Hp} {a : Addr} {xs : List V} {i : Int} {v : V} {Q : VK} (h : SqQ K H a xs) (e : atI xs i = some v) (q : Q v H) : rIxQ K (.ref a) (.int i) H Q :=
  h.elim (fun h => .inl ⟨a, xs, i, v, rfl, rfl, h, e, q⟩) (fun h => .inr ⟨a, xs, i, v, rfl, rfl, h, e, q⟩)
/-- a comprehension over a list or a tuple -/
theorem lc_sq {K : PySem.W.Frag} {a : Addr} {xs : List V} {g : TG} {tt : TT} {te : TE} {vs : List Nat} {σ : L2.St} {H1 : Hp} {Qd : Addr → Hp → Prop} (hq : SqQ K H1 a xs)
    (h : ∀ D, H1 D = none → ∃ Pv : Nat → Hp → Prop, Pv 0 (upd H1 D (.lst [])) ∧ (∀ i H, Pv i H → Same H1 H) ∧
      (∀ i x H, xs[i]? = some x → Pv i H → g x (wipe σ vs) H fun σ2 H2 => wipe σ2 vs = wipe σ vs ∧ tt σ2 H2 fun b H3 =>
        if b = true then te σ2 H3 fun y H4 => ∃ acc, H4 D = some (.lst acc) ∧ acc.length < sizeLine ∧ Pv (i + 1) (upd H4 D (.lst (acc ++ [y]))) else Pv (i + 1) H3) ∧ ∀ H, Pv xs.length H → Qd D H) :
    ((∃ xs, SqL K H1 a xs) ∧ ∀ D, H1 D = none → ∃ W : Nat → Nat → Hp → Prop, (∃ m, W 0 m (upd H1 D (.lst []))) ∧ ∀ i m H, W i m H →
      ((Itl K a).stop i H ∧ Qd D H) ∨ ((Itl K a).go i H ∧ ∃ Nx : Hp → Prop, (∀ H', Nx H' → ∃ m', m' < m ∧ W (i + 1) m' H') ∧ ∀ x H', (Itl K a).yld i H x H' → g x (wipe σ vs) H' fun σ2 H2 => wipe σ2 vs = wipe σ vs ∧ tt σ2 H2 fun b H3 =>
        if b = true then te σ2 H3 fun y H4 => ∃ acc, H4 D = some (.lst acc) ∧ acc.length < sizeLine ∧ Nx (upd H4 D (.lst (acc ++ [y]))) else Nx H3)) ∨ ((∃ xs, SqT K H1 a xs) ∧ ∀ D, H1 D = none → ∃ W : Nat → Nat → Hp → Prop, (∃ m, W 0 m (upd H1 D (.lst []))) ∧ ∀ i m H, W i m H →
      ((Itt K a).stop i H ∧ Qd D H) ∨ ((Itt K a).go i H ∧ ∃ Nx : Hp → Prop, (∀ H', Nx H' → ∃ m', m' < m ∧ W (i + 1) m' H') ∧ ∀ x H', (Itt K a).yld i H x H' → g x (wipe σ vs) H' fun σ2 H2 => wipe σ2 vs = wipe σ vs ∧ tt σ2 H2 fun b H3 =>
        if b = true then te σ2 H3 fun y H4 => ∃ acc, H4 D = some (.lst acc) ∧ acc.length < sizeLine ∧ Nx (upd H4 D (.lst (acc ++ [y]))) else Nx H3)) := by
  rcases hq with hq | hq
  · exact .inl ⟨⟨xs, hq⟩, fun D hD => by obtain ⟨Pv, h0, hl, hs, hd⟩ := h D hD; exact lc_list (K := K) (a := a) (xs := xs) Pv h0 (fun i H hi h => hq.ext (hl i H h)) hs hd⟩
  · exact .inr ⟨⟨xs, hq⟩, fun D hD => by obtain ⟨Pv, h0, hl, hs, hd⟩ := h D hD; exact lc_tup (K := K) (a := a) (xs := xs) Pv h0 (fun i H hi h => hq.ext (hl i H h)) hs hd⟩
theorem walk_zipT {K : PySem.W.Frag} {a b : Addr} {xs ys : List V} {n : Nat} (hn : n = min xs.length ys.length) : Walk (RZ.ItzT K a b) n (fun H => SqT K H a xs ∧ SqT K H b ys) (YPair (fun i => xs[i]?) (fun i => ys[i]?)) := by
  subst hn
  refine ⟨fun i _ hi q => ?_, fun _ q => ⟨xs, ys, q.1, q.2, by omega⟩, fun i H v H' _ q y => ?_⟩
  · have h1 : i < xs.length := by omega
    have h2 : i < ys.length := by omega
    exact ⟨xs, ys, xs[i], ys[i], q.1, q.2, by simp [h1], by simp [h2]⟩
  · obtain ⟨T, x, z, h1, h2, h3, h4, h5⟩ := y
    exact ⟨T, x, z, h1, h2, h3, h4 xs q.1, h5 ys q.2⟩
/-- a comprehension over the pairs of two lists, or of two tuples -/
theorem lc_zipA {K : PySem.W.Frag} {a b : Addr} {xs ys : List V} {g : TG} {tt : TT} {te : TE} {vs : List Nat} {σ : L2.St} {H1 : Hp} {Qd : Addr → Hp → Prop} (hq : (SqL K H1 a xs ∧ SqL K H1 b ys) ∨ (SqT K H1 a xs ∧ SqT K H1 b ys))
    (h : ∀ D, H1 D = none → ∃ Pv : Nat → Hp → Prop, Pv 0 (upd H1 D (.lst [])) ∧ (∀ i H, Pv i H → Same H1 H) ∧
      (∀ i T x y H, xs[i]? = some x → ys[i]? = some y → Pv i H → H T = none → g (.ref T) (wipe σ vs) (upd H T (.tup [x, y])) fun σ2 H2 => wipe σ2 vs = wipe σ vs ∧ tt σ2 H2 fun b H3 =>
        if b = true then te σ2 H3 fun y H4 => ∃ acc, H4 D = some (.lst acc) ∧ acc.length < sizeLine ∧ Pv (i + 1) (upd H4 D (.lst (acc ++ [y]))) else Pv (i + 1) H3) ∧ ∀ H, Pv (min xs.length ys.length) H → Qd D H) :
    (SqL K H1 a xs ∧ SqL K H1 b ys ∧ ∀ D, H1 D = none → ∃ W : Nat → Nat → Hp → Prop, (∃ m, W 0 m (upd H1 D (.lst []))) ∧ ∀ i m H, W i m H →
      ((Itz K a b).stop i H ∧ Qd D H) ∨ ((Itz K a b).go i H ∧ ∃ Nx : Hp → Prop, (∀ H', Nx H' → ∃ m', m' < m ∧ W (i + 1) m' H') ∧ ∀ x H', (Itz K a b).yld i H x H' → g x (wipe σ vs) H' fun σ2 H2 => wipe σ2 vs = wipe σ vs ∧ tt σ2 H2 fun b H3 =>
        if b = true then te σ2 H3 fun y H4 => ∃ acc, H4 D = some (.lst acc) ∧ acc.length < sizeLine ∧ Nx (upd H4 D (.lst (acc ++ [y]))) else Nx H3)) ∨ (SqT K H1 a xs ∧ SqT K H1 b ys ∧ ∀ D, H1 D = none → ∃ W : Nat → Nat → Hp → Prop, (∃ m, W 0 m (upd H1 D (.lst []))) ∧ ∀ i m H, W i m H →
      ((RZ.ItzT K a b).stop i H ∧ Qd D H) ∨ ((RZ.ItzT K a b).go i H ∧ ∃ Nx : Hp → Prop, (∀ H', Nx H' → ∃ m', m' < m ∧ W (i + 1) m' H') ∧ ∀ x H', (RZ.ItzT K a b).yld i H x H' → g x (wipe σ vs) H' fun σ2 H2 => wipe σ2 vs = wipe σ vs ∧ tt σ2 H2 fun b H3 =>
        if b = true then te σ2 H3 fun y H4 => ∃ acc, H4 D = some (.lst acc) ∧ acc.length < sizeLine ∧ Nx (upd H4 D (.lst (acc ++ [y]))) else Nx H3)) := by
  rcases hq with ⟨h1, h2⟩ | ⟨h1, h2⟩
  · refine .inl ⟨h1, h2, fun D hD => ?_⟩
    obtain ⟨Pv, h0, hl, hs, hd⟩ := h D hD
    refine lc_it (walk_zip rfl) Pv h0 (fun i H _ p => ⟨h1.ext (hl i H p), h2.ext (hl i H p)⟩) ?_ hd
    rintro i v H H' hi p ⟨T, x, y, rfl, hT, rfl, ex, ey⟩
    exact hs i T x y H ex ey p hT
  · refine .inr ⟨h1, h2, fun D hD => ?_⟩
    obtain ⟨Pv, h0, hl, hs, hd⟩ := h D hD
    refine lc_it (walk_zipT rfl) Pv h0 (fun i H _ p => ⟨h1.ext (hl i H p), h2.ext (hl i H p)⟩) ?_ hd
    rintro i v H H' hi p ⟨T, x, y, rfl, hT, rfl, ex, ey⟩
    exact hs i T x y H ex ey p hT
theorem _root_.L2.Dg.lst_q {K : PySem.W.Frag} {H : Hp} {m : Bool} {x : V} {ds : List PyData} {d : PyData} (hd : d = .list ds ∨ d = .tuple ds) (h : Dg K H m x d) : ∃ a xs, x = .ref a ∧ SqQ K H a xs ∧ DgAll K H m xs ds := by
  rcases hd with rfl | rfl
  · obtain ⟨a, xs, rfl, hs, _, ha⟩ := h.lst_of
    exact ⟨a, xs, rfl, .inl hs, ha⟩
  · obtain ⟨a, xs, rfl, hs, ha⟩ := h.tup_of
    exact ⟨a, xs, rfl, .inr hs, ha⟩
end My

set_option Elab.async false
set_option linter.all false
set_option maxRecDepth 100000
set_option maxHeartbeats 4000000
/-! Instances of an own class with its own __eq__: == and != with an instance or with data. -/
namespace OwnC
open PySem PySem.Spec PyProof.Rows PySem.Builtin
section
variable {M : Model} {prog : Program} {w : World} {A : Around} {E : Value → Shared → Prop} {s : Shared} {K : PySem.W.Frag} {x C f : Addr} {ox : Obj} {od : Option Obj} {b tb : Value}
theorem ifBound_objNe {args : List Value} {Q : Option Value → Shared → Prop} (X : K.In s.heap) (I : PySem.W.InstAt s.heap x ox C od) (hs : PySem.W.findIn K (.ref C) "__ne__" = some (some (.builtin "object.__ne__")))
    (h : wpAny M A (call (.builtin "object.__ne__") (.ref x :: args)) (fun v => Q (some v)) E s) : wpAny M A (callSpecialIfBound? (.ref x) "__ne__" args) Q E s := by
  simp only [callSpecialIfBound?, bindSpecialIfBound?]
  refine wpAny_holding (wpAny_bind (wpAny_bind (wpAny_bind (I.type.here ((PySem.W.looks_findIn X hs).here ?_)))))
  refine wpAny_bind (wpAny_askSetting (wpAny_ite ?_))
  have fin : wpAny M A (call (.builtin "object.__ne__") ([.ref x] ++ args) >>= fun v => pure (some v)) Q E s := wpAny_bind (wpAny_mono h (fun v s' h' => wpAny_pure h') fun _ _ h' => h')
  split
  · exact wpAny_bind (wpAny_of_eq (F.cmp_object.ne.bind _) (wpAny_pure (by exact fin)))
  · exact wpAny_tryCatch (wpAny_bind (wpAny_of_eq (F.cmp_object.ne.bind _) (wpAny_pure (by exact fin))))
theorem entry_ne {Q : Fin → Shared → Prop} (hu : A.units < cLine) (X : K.In s.heap) (I : PySem.W.InstAt s.heap x ox C od) (hs : PySem.W.findIn K (.ref C) "__eq__" = some (some (.ref f))) (hf : PySem.W.isFn K (.ref f) = true)
    (h : wpAny (model prog w) A (call (.ref f) [.ref x, b]) (fun v s' => ∃ r, v = .bool r ∧ Q (.done (.ret (.bool (!r)))) s') E s) : wpAny (model prog w) A (Builtin.«object.__ne__» ⟨[.ref x, b], []⟩) Q E s := by
  unfold Builtin.«object.__ne__»
  refine wpAny_bind (m := slotArgs "__ne__" 1 _) (wpAny_pure ?_)
  refine wpAny_bind (m := cRoomFor _ _) (wpAny_cRoomFor hu ?_)
  refine wpAny_bind (m := callSpecialIfBound? (.ref x) (Str.ofString "__eq__") _) (PySem.W.ifBound_K X I hs hf (wpAny_mono h (fun r s' hq => ?_) fun _ _ y => y))
  obtain ⟨r, rfl, hq⟩ := hq
  refine wpAny_bind (wpAny_truthy_bool ?_)
  exact wpAny_pure hq
theorem call_ne {Q : Value → Shared → Prop} (hu : A.in1.units < cLine) (X : K.In s.heap) (I : PySem.W.InstAt s.heap x ox C od) (hm : PySem.W.mroIn K C (.type "object") = some true) (hs : PySem.W.findIn K (.ref C) "__eq__" = some (some (.ref f))) (hf : PySem.W.isFn K (.ref f) = true)
    (h : wpAny (model prog w) A.in1 (call (.ref f) [.ref x, b]) (fun v s' => ∃ r, v = .bool r ∧ Q (.bool (!r)) s') E s) : wpAny (model prog w) A (call (.builtin "object.__ne__") [.ref x, b]) Q E s :=
  wpAny_call (codeAny_call_builtin F.cmp_object.ne.plain F.cmpEntry_ne (PySem.W.check_slot F.cmpKind_ne F.cmpSplit_ne (I.type.andThen (PySem.W.looks_mroIn X hm)) (F.cmpArgs_ne _ _) (entry_ne hu X I hs hf h)))
theorem cmp_ne {Q : Value → Shared → Prop} (hu : A.units + 1 < cLine) (X : K.In s.heap) (I : PySem.W.InstAt s.heap x ox C od) (hb : PySem.W.Looks (model prog w) s.heap (typeOf b) tb) (hn : PySem.W.notFirst K C tb = true)
    (hm : PySem.W.mroIn K C (.type "object") = some true) (hN : PySem.W.findIn K (.ref C) "__ne__" = some (some (.builtin "object.__ne__"))) (hs : PySem.W.findIn K (.ref C) "__eq__" = some (some (.ref f))) (hf : PySem.W.isFn K (.ref f) = true)
    (h : wpAny (model prog w) A.in1 (call (.ref f) [.ref x, b]) (fun v s' => ∃ r, v = .bool r ∧ Q (.bool (!r)) s') E s) : wpAny (model prog w) A (richCompare .NotEq (.ref x) b) Q E s := by
  have one : wpAny (model prog w) A (tryCompare (.ref x) (cmpInfo .NotEq).2.1 b) (fun r s' => ∃ v, r = some v ∧ Q v s') E s := by
    rw [cmpInfo_NotEq]
    unfold tryCompare
    refine wpAny_bind (ifBound_objNe X I hN (call_ne (by show A.units + 1 < cLine; omega) X I hm hs hf (wpAny_mono h (fun v s' hv => ?_) fun _ _ e => e)))
    obtain ⟨r, rfl, hq⟩ := hv
    exact ⟨r, rfl, wpAny_pure ⟨_, rfl, hq⟩⟩
  unfold richCompare
  simp only [oneThing_ref]
  refine wpAny_holding (wpAny_bind (wpAny_cRoomFor (Nat.lt_of_succ_lt hu) ?_))
  refine wpAny_bind (I.type.here (wpAny_bind (hb.here ?_)))
  split
  · rename_i q
    have e : PySem.W.subIn K tb (.ref C) = some false := by
      rcases Bool.or_eq_true_iff.mp hn with e | e
      · rw [beq_iff_eq.mp e] at q; simp at q
      · exact beq_iff_eq.mp e
    refine wpAny_bind ((PySem.W.looks_subIn X e).here ?_)
    simp only [Bool.false_eq_true, if_false]
    refine wpAny_bind (wpAny_mono one (fun r s' z => ?_) fun _ _ e => e)
    obtain ⟨v, rfl, hq⟩ := z
    exact wpAny_pure hq
  · refine wpAny_bind (wpAny_pure ?_)
    simp only [Bool.false_eq_true, if_false]
    refine wpAny_bind (wpAny_mono one (fun r s' z => ?_) fun _ _ e => e)
    obtain ⟨v, rfl, hq⟩ := z
    exact wpAny_pure hq
theorem cmp_eq {Q : Value → Shared → Prop} (hu : A.units < cLine) (X : K.In s.heap) (I : PySem.W.InstAt s.heap x ox C od) (hb : PySem.W.Looks (model prog w) s.heap (typeOf b) tb) (hn : PySem.W.notFirst K C tb = true)
    (hs : PySem.W.findIn K (.ref C) "__eq__" = some (some (.ref f))) (hf : PySem.W.isFn K (.ref f) = true)
    (h : wpAny (model prog w) A (call (.ref f) [.ref x, b]) (fun v s' => ∃ r, v = .bool r ∧ Q (.bool r) s') E s) : wpAny (model prog w) A (richCompare .Eq (.ref x) b) Q E s := by
  have one : wpAny (model prog w) A (tryCompare (.ref x) (cmpInfo .Eq).2.1 b) (fun r s' => ∃ v, r = some v ∧ Q v s') E s := by
    rw [cmpInfo_Eq]
    unfold tryCompare
    refine wpAny_bind (PySem.W.ifBound_K X I hs hf (wpAny_mono h (fun v s' hv => ?_) fun _ _ e => e))
    obtain ⟨r, rfl, hq⟩ := hv
    exact wpAny_pure ⟨_, rfl, hq⟩
  unfold richCompare
  simp only [oneThing_ref]
  refine wpAny_holding (wpAny_bind (wpAny_cRoomFor hu ?_))
  refine wpAny_bind (I.type.here (wpAny_bind (hb.here ?_)))
  split
  · rename_i q
    have e : PySem.W.subIn K tb (.ref C) = some false := by
      rcases Bool.or_eq_true_iff.mp hn with e | e
      · rw [beq_iff_eq.mp e] at q; simp at q
      · exact beq_iff_eq.mp e
    refine wpAny_bind ((PySem.W.looks_subIn X e).here ?_)
    simp only [Bool.false_eq_true, if_false]
    refine wpAny_bind (wpAny_mono one (fun r s' z => ?_) fun _ _ e => e)
    obtain ⟨v, rfl, hq⟩ := z
    exact wpAny_pure hq
  · refine wpAny_bind (wpAny_pure ?_)
    simp only [Bool.false_eq_true, if_false]
    refine wpAny_bind (wpAny_mono one (fun r s' z => ?_) fun _ _ e => e)
    obtain ⟨v, rfl, hq⟩ := z
    exact wpAny_pure hq
end
end OwnC
namespace L2
open PySem PySem.Spec PyProof.Rows
/-- what the written part says of a class with an own __eq__ -/
structure OEq (K : PySem.W.Frag) (C f : Addr) : Prop where
  cl : Cls K C
  eq : PySem.W.findIn K (.ref C) "__eq__" = some (some (.ref f))
  fn : PySem.W.isFn K (.ref f) = true
  ne : PySem.W.findIn K (.ref C) "__ne__" = some (some (.builtin "object.__ne__"))
  mo : PySem.W.mroIn K C (.type "object") = some true
  ha : PySem.W.findIn K (.ref C) "__class__" = some (some (.builtin "object.__class__"))
  hn : PySem.W.specialIn K (.builtin "object.__class__") "__get__" = some (some (.builtin "getset_descriptor.__get__"))
  htk : PySem.W.takesIn K (.builtin "object.__class__") = some true
theorem OEq.ty {K : PySem.W.Frag} {C f : Addr} (T : OEq K C f) {H : Hp} {a dx : Addr} {fs : List (Str × V)} (e : H a = some (.ins C dx fs)) : TyX K H (.ref a) (.ref C) := .base (.ins e T.cl T.ha T.hn T.htk T.mo)
theorem OEq.first {K : PySem.W.Frag} {C f : Addr} (T : OEq K C f) : PySem.W.notFirst K C (.ref C) = true := by
  unfold PySem.W.notFirst
  rw [show (Value.ref C == Value.ref C) = true from by simp]
  rfl
section
variable {X : Cx} {pins : List (Addr × Obj)} {σ : St} {H : Hp} {s : Shared}
theorem looks_ref {M : Model} {h : Heap} {a : Addr} {o : Obj} (e : h.get? a = some o) : PySem.W.Looks M h (typeOf (.ref a)) o.cls := (PySem.W.Looks.ld e).andThen .now
theorem tyX_looks {x : V} {u t : Value} (I : Inv X pins σ H s) (rx : RelV x u) (ty : TyX X.K H x t) : PySem.W.Looks (model X.prog X.w) s.heap (typeOf u) t := by
  cases ty with
  | base b =>
    cases b with
    | non => cases (show u = Value.none from rx); exact PySem.W.Looks.of_pure rfl
    | bl y => cases (show u = Value.bool y from rx); exact PySem.W.Looks.of_pure rfl
    | int i => obtain ⟨t, q⟩ := (show ∃ t, u = Value.int i t from rx); cases q; exact PySem.W.Looks.of_pure rfl
    | str y => obtain ⟨t, q⟩ := (show ∃ t, u = Value.str y t from rx); cases q; exact PySem.W.Looks.of_pure rfl
    | flt y => obtain ⟨t, q⟩ := (show ∃ t, u = Value.float y t from rx); cases q; exact PySem.W.Looks.of_pure rfl
    | @lst a xs ea =>
      cases (show u = Value.ref a from rx)
      obtain ⟨_, _, n, _, h1⟩ := (show ObjOk X.prog X.w H s.heap a (.lst xs) from I.hok a _ ea)
      exact looks_ref h1
    | @frz a ob xs ea =>
      cases (show u = Value.ref a from rx)
      obtain ⟨_, _, _, n, _, h1⟩ := (show ObjOk X.prog X.w H s.heap a (.frz ob (.lst xs)) from I.hok a _ ea)
      exact looks_ref h1
    | @tup a xs ea =>
      cases (show u = Value.ref a from rx)
      obtain ⟨_, _, _, o, h1, h2, _⟩ := (show ObjOk X.prog X.w H s.heap a (.tup xs) from I.hok a _ ea)
      exact h2 ▸ looks_ref h1
    | @dK a kvs ea =>
      cases (show u = Value.ref a from rx)
      obtain ⟨_, _, vs, _, o, es, ep, h1, h2, _⟩ := (show ObjOk X.prog X.w H s.heap a (.dK kvs) from I.hok a _ ea)
      exact h2.1 ▸ looks_ref h1
    | @dT a kvs ea =>
      cases (show u = Value.ref a from rx)
      obtain ⟨_, _, xs, _, o, es, ep, h1, h2, _⟩ := (show ObjOk X.prog X.w H s.heap a (.dT kvs) from I.hok a _ ea)
      exact h2.1 ▸ looks_ref h1
    | @ins a C dx fs ea cl ha hn htk hm =>
      cases (show u = Value.ref a from rx)
      obtain ⟨mA, O, _⟩ := ins_get I.hok ea
      obtain ⟨od, J, _⟩ := O.look
      exact J.type
  | byt y => obtain ⟨t, q⟩ := (show ∃ t, u = Value.bytes y t from rx); cases q; exact PySem.W.Looks.of_pure rfl
  | @set a S n ea =>
    cases (show u = Value.ref a from rx)
    obtain ⟨o, _, _, _, e, ex, _⟩ := I.hok a _ ea
    exact ex.1 ▸ looks_ref e
  | @kList a o e c =>
    cases (show u = Value.ref a from rx)
    exact c ▸ looks_ref (I.kIn a o e)
  | @kTuple a o e c =>
    cases (show u = Value.ref a from rx)
    exact c ▸ looks_ref (I.kIn a o e)
  | @kDict a o e c =>
    cases (show u = Value.ref a from rx)
    exact c ▸ looks_ref (I.kIn a o e)
  | @fTuple a ob xs ea =>
    cases (show u = Value.ref a from rx)
    obtain ⟨_, _, _, _, o, h1, h2, _⟩ := (show ObjOk X.prog X.w H s.heap a (.frz ob (.tup xs)) from I.hok a _ ea)
    exact h2 ▸ looks_ref h1
  | @fDict a ob kvs ea =>
    cases (show u = Value.ref a from rx)
    obtain ⟨_, _, _, vs, _, o, es, ep, h1, h2, _⟩ := (show ObjOk X.prog X.w H s.heap a (.frz ob (.dK kvs)) from I.hok a _ ea)
    exact h2.1 ▸ looks_ref h1
/-- x == y, x an instance of the class at C with its own __eq__ (its promise sp) -/
def rEqO (K : PySem.W.Frag) (C : Addr) (sp : Sp) : R2 := fun x y H Q => (∃ a dx fs, x = .ref a ∧ H a = some (.ins C dx fs)) ∧ (∃ t, TyX K H y t ∧ PySem.W.notFirst K C t = true) ∧ sp [x, y] H (fun v H' => ∃ b, v = .bl b ∧ Q (.bl b) H') (fun _ _ _ => False)
def rNeO (K : PySem.W.Frag) (C : Addr) (sp : Sp) : R2 := fun x y H Q => (∃ a dx fs, x = .ref a ∧ H a = some (.ins C dx fs)) ∧ (∃ t, TyX K H y t ∧ PySem.W.notFirst K C t = true) ∧ sp [x, y] H (fun v H' => ∃ b, v = .bl b ∧ Q (.bl (!b)) H') (fun _ _ _ => False)
theorem run_own {CX : CXT} {n : Nat} {f : Addr} {fd : FuncData} {sp : Sp} {A : Around} {x y : V} {u v : Value} {Q : VK} (F : FnOk X.prog X.w X.K X.mg X.base CX n f fd ["self", "other"] sp) (hb : Binds X.K fd ["self", "other"] []) (hx : Passes CX X (fun _ _ _ => False))
    (hr : Room n A) (hfr : A.frames = X.A.frames) (I : Inv X pins σ H s) (rx : RelV x u) (ry : RelV y v) (h : sp [x, y] H Q (fun _ _ _ => False)) :
    wpAny (model X.prog X.w) A (call (.ref f) [u, v]) (EP X pins σ Q) X.xe s := by
  have e0 : Env0 X.prog X.w X.K X.mg X.base A X.stack s H := by
    have e := I.env0
    exact ⟨by rw [hfr]; exact e.frames, e.mod, e.bs, e.bsz, e.funs, e.frf, e.hok, e.bare⟩
  have r2 : Vals [x, y] [u, v] := .cons rx (.cons ry .nil)
  refine wpAny_call (codeAny_mono (F.run A X.stack s H ⟨[u, v], []⟩ [u, v] [x, y] Q _ hr e0 (by
    have := hb s [u, v] I.kIn rfl
    simpa using this) r2 h) fun r s' hq => ?_)
  cases r with
  | error e => exact hx pins σ H s e s' I hq
  | ok fl =>
    cases fl with
    | ret w => exact I.after hq
    | next => exact False.elim hq
    | brk => exact False.elim hq
    | cont => exact False.elim hq
theorem op_eqO {CX : CXT} {n : Nat} {C f : Addr} {fd : FuncData} {sp : Sp} (T : OEq X.K C f) (F : FnOk X.prog X.w X.K X.mg X.base CX n f fd ["self", "other"] sp) (hb : Binds X.K fd ["self", "other"] []) (hx : Passes CX X (fun _ _ _ => False)) (hr : Room n X.A) (hu : X.A.units + 64 < cLine) :
    OpR X (compareOp .Eq) (rEqO X.K C sp) := by
  intro pins s σ H x y v u Q I rx ry hq
  obtain ⟨⟨a, dx, fs, rfl, ha⟩, ⟨t, ty, hn⟩, q⟩ := hq
  obtain rfl : v = Value.ref a := rx
  obtain ⟨mA, J, _⟩ := ins_get I.hok ha
  obtain ⟨od, J, _⟩ := J.look
  show wpAny (model X.prog X.w) X.A (richCompare .Eq (.ref a) u) (EP X pins σ Q) X.xe s
  refine OwnC.cmp_eq (by omega) I.kIn J (tyX_looks I ry ty) hn T.eq T.fn (wpAny_mono (run_own F hb hx hr rfl I (x := .ref a) rfl ry q) (fun r s' z => ?_) fun _ _ e => e)
  obtain ⟨z, H', I', rz, b, rfl, q'⟩ := z
  cases rz
  exact ⟨b, rfl, .bl b, H', I', rfl, q'⟩
theorem op_neO {CX : CXT} {n : Nat} {C f : Addr} {fd : FuncData} {sp : Sp} (T : OEq X.K C f) (F : FnOk X.prog X.w X.K X.mg X.base CX n f fd ["self", "other"] sp) (hb : Binds X.K fd ["self", "other"] []) (hx : Passes CX X (fun _ _ _ => False)) (hr : Room n X.A.in1) (hu : X.A.units + 64 < cLine) :
    OpR X (compareOp .NotEq) (rNeO X.K C sp) := by
  intro pins s σ H x y v u Q I rx ry hq
  obtain ⟨⟨a, dx, fs, rfl, ha⟩, ⟨t, ty, hn⟩, q⟩ := hq
  obtain rfl : v = Value.ref a := rx
  obtain ⟨mA, J, _⟩ := ins_get I.hok ha
  obtain ⟨od, J, _⟩ := J.look
  show wpAny (model X.prog X.w) X.A (richCompare .NotEq (.ref a) u) (EP X pins σ Q) X.xe s
  refine OwnC.cmp_ne (by omega) I.kIn J (tyX_looks I ry ty) hn T.mo T.ne T.eq T.fn (wpAny_mono (run_own F hb hx hr rfl I (x := .ref a) rfl ry q) (fun r s' z => ?_) fun _ _ e => e)
  obtain ⟨z, H', I', rz, b, rfl, q'⟩ := z
  cases rz
  exact ⟨b, rfl, .bl (!b), H', I', rfl, q'⟩
end
section
variable {X : Cx} {K : PySem.W.Frag}
theorem call_len_seqK (e : X.K = K) : CallR X (.builtin "len") (fun xs H Q => ∃ p ys, xs = [.ref p] ∧ (SqL K H p ys ∨ SqT K H p ys) ∧ Q (.int ys.length) H) := by subst e; exact call_len_seq
theorem call_tuple_ofK (e : X.K = K) : CallR X (.type "tuple") (fun xs H Q => ∃ p ys, xs = [.ref p] ∧ (SqL K H p ys ∧ (∀ q, H q = none → Q (.ref q) (upd H q (.tup ys))) ∨ SqT K H p ys ∧ Q (.ref p) H)) := by subst e; exact call_tuple_of
end
end L2

set_option Elab.async false
set_option linter.all false
set_option maxRecDepth 100000
set_option maxHeartbeats 4000000
/-! Decoders as data: what the program asks of their parts; what they write. -/
namespace My
open PySem PySem.Spec PyProof.Rows L2
/-! ### what the program asks of data -/
def isI : PyData → Bool | .int _ => true | _ => false
def isCn : PyData → Bool | .int i => decide (0 ≤ i) | _ => false
def isSg : PyData → Bool | .int i => decide (1 ≤ i) && decide (i ≤ 5) | _ => false
def isBe (n : Int) : PyData → Bool | .int i => decide (0 ≤ i) && decide (i < n) | _ => false
def numD : PyData → Int | .int i => i | _ => 0
def isSqD : PyData → Bool | .list _ => true | .tuple _ => true | _ => false
def isNn : PyData → Bool | .none => true | _ => false
def isTx : PyData → Bool | .str z => isT z | _ => false
def isWd : PyData → Bool | .str z => isT z && decide ((z.length : Int) ≤ 3) | _ => false
def isStp (n : Int) : PyData → Bool | .tuple [a, b] => isBe n a && isWd b | _ => false
def isEn (n : Int) (d : PyData) : Bool := isNn d || isStp n d
def itsD : PyData → List PyData | .list es => es | .tuple es => es | _ => []
def entB (m n : Int) (d : PyData) : Bool := isSqD d && (decide (((itsD d).length : Int) = m) && (itsD d).all (isEn n))
def stepsB (m : Int) (d : PyData) : Bool := isSqD d && ((decide (1 ≤ ((itsD d).length : Int)) && decide (((itsD d).length : Int) ≤ 40)) && (itsD d).all (entB m ((itsD d).length : Int)))
def endB (d : PyData) : Bool := isNn d || isWd d
def endsB (n : Int) (d : PyData) : Bool := isSqD d && (decide (((itsD d).length : Int) = n) && (itsD d).all endB)
def isLn (n : Int) : PyData → Bool | .tuple ds => ds.all (isBe n) | _ => false
theorem kit_sqD {K : PySem.W.Frag} (d : PyData) : PySem.W.kitAny K (.type (tyD d)) [.type "list", .type "tuple"] = some (isSqD d) := by
  have h1 := kit_lstD (K := K) d
  have h2 := kit_tupD (K := K) d
  unfold PySem.W.kitAny
  rw [h1]
  cases d <;> simp [isLstD, isSqD, isTupD, PySem.W.kitAny, h2] <;> rfl
/-- an own class is none of data's -/
theorem kit_ownD {K : PySem.W.Frag} {C : Addr} (h2 : PySem.W.isClsIn K C = true) (h3 : PySem.W.typeIn K (.ref C) = some (.type "type")) (d : PyData) : PySem.W.kitOne K (.type (tyD d)) (.ref C) = some false := by
  have hs : ∀ T : String, (∃ l : List Value, fastBuiltinMro T = some l ∧ l.contains (.ref C) = false) → PySem.W.kitOne K (.type T) (.ref C) = some false := fun T ⟨l, e, hl⟩ => by
    unfold PySem.W.kitOne
    rw [if_neg (by simp)]
    have h2' : (PySem.W.clsIn K C).isSome = true := h2
    show (if ((PySem.W.clsIn K C).isSome && PySem.W.typeIn K (.ref C) == some (.type "type")) = true then PySem.W.subIn K (.type T) (.ref C) else none) = some false
    rw [if_pos (by rw [h2', h3] <;> rfl)]
    show (fastBuiltinMro T).map (·.contains (.ref C)) = some false
    rw [e]
    show some (l.contains (.ref C)) = some false
    rw [hl]
  cases d with
  | none => exact hs "NoneType" ⟨[.type "NoneType", .type "object"], by decide +kernel, by simp⟩
  | bool _ => exact hs "bool" ⟨[.type "bool", .type "int", .type "object"], by decide +kernel, by simp⟩
  | int _ => exact hs "int" ⟨[.type "int", .type "object"], by decide +kernel, by simp⟩
  | str _ => exact hs "str" ⟨[.type "str", .type "object"], by decide +kernel, by simp⟩
  | list _ => exact hs "list" ⟨[.type "list", .type "object"], by decide +kernel, by simp⟩
  | tuple _ => exact hs "tuple" ⟨[.type "tuple", .type "object"], by decide +kernel, by simp⟩
  | dict _ => exact hs "dict" ⟨[.type "dict", .type "object"], by decide +kernel, by simp⟩
theorem kit_same {K : PySem.W.Frag} {C : Addr} : PySem.W.kitOne K (.ref C) (.ref C) = some true := by
  unfold PySem.W.kitOne
  rw [if_pos (by simp)]
theorem notFirst_data {K : PySem.W.Frag} {C : Addr} (d : PyData) : PySem.W.notFirst K C (.type (tyD d)) = true := by
  have hs : ∀ T : String, (∃ l : List Value, fastBuiltinMro T = some l ∧ l.contains (.ref C) = false) → PySem.W.notFirst K C (.type T) = true := fun T ⟨l, e, hl⟩ => by
    unfold PySem.W.notFirst
    have : PySem.W.subIn K (.type T) (.ref C) = some false := by
      show (fastBuiltinMro T).map (·.contains (.ref C)) = some false
      rw [e]
      show some (l.contains (.ref C)) = some false
      rw [hl]
    rw [this]
    simp
  cases d with
  | none => exact hs "NoneType" ⟨[.type "NoneType", .type "object"], by decide +kernel, by simp⟩
  | bool _ => exact hs "bool" ⟨[.type "bool", .type "int", .type "object"], by decide +kernel, by simp⟩
  | int _ => exact hs "int" ⟨[.type "int", .type "object"], by decide +kernel, by simp⟩
  | str _ => exact hs "str" ⟨[.type "str", .type "object"], by decide +kernel, by simp⟩
  | list _ => exact hs "list" ⟨[.type "list", .type "object"], by decide +kernel, by simp⟩
  | tuple _ => exact hs "tuple" ⟨[.type "tuple", .type "object"], by decide +kernel, by simp⟩
  | dict _ => exact hs "dict" ⟨[.type "dict", .type "object"], by decide +kernel, by simp⟩
/-! ### the weight of data -/
theorem weight_len : ∀ ds : List PyData, ds.length ≤ PyData.weightAll ds
  | [] => Nat.zero_le _
  | d :: ds => by unfold PyData.weightAll; have := weight_len ds; rw [List.length_cons]; omega
theorem weight_mem : ∀ {ds : List PyData} {d : PyData}, d ∈ ds → d.weight ≤ PyData.weightAll ds
  | e :: ds, d, h => by
    unfold PyData.weightAll
    rcases List.mem_cons.mp h with z | z
    · rw [z]; omega
    · have := weight_mem z; omega
theorem weight_its {d : PyData} : (itsD d).length ≤ d.weight ∧ ∀ e ∈ itsD d, e.weight ≤ d.weight := by
  cases d with
  | list ds =>
    have e0 : (PyData.list ds).weight = PyData.weightAll ds := by rw [PyData.weight]
    rw [e0]
    exact ⟨weight_len ds, fun e he => weight_mem he⟩
  | tuple ds =>
    have e0 : (PyData.tuple ds).weight = PyData.weightAll ds := by rw [PyData.weight]
    rw [e0]
    exact ⟨weight_len ds, fun e he => weight_mem he⟩
  | _ => exact ⟨Nat.zero_le _, fun e he => by cases he⟩
theorem sq_its {d : PyData} (h : isSqD d = true) : d = .list (itsD d) ∨ d = .tuple (itsD d) := by
  cases d with
  | list ds => exact .inl rfl
  | tuple ds => exact .inr rfl
  | _ => cases h
theorem all_map {α : Type} {f : α → PyData} {p : PyData → Bool} {G : α → Prop} (h : ∀ d, p d = true → ∃ e, d = f e ∧ G e) : ∀ ds : List PyData, ds.all p = true → ∃ es : List α, ds = es.map f ∧ ∀ e ∈ es, G e
  | [], _ => ⟨[], rfl, fun e he => by cases he⟩
  | d :: ds, ha => by
    rw [List.all_cons, Bool.and_eq_true] at ha
    obtain ⟨e, rfl, g⟩ := h d ha.1
    obtain ⟨es, rfl, gs⟩ := all_map h ds ha.2
    exact ⟨e :: es, rfl, fun e' he => by
      rcases List.mem_cons.mp he with z | z
      · rw [z]; exact g
      · exact gs e' z⟩
/-! ### plain data: == is being the same -/
mutual
def plD : PyData → Bool
  | .none => true
  | .int _ => true
  | .str _ => true
  | .list ds => plAll ds
  | .tuple ds => plAll ds
  | .bool _ => false
  | .dict _ => false
def plAll : List PyData → Bool
  | [] => true
  | d :: ds => plD d && plAll ds
end
mutual
theorem eqv_pl : ∀ (x y : PyData), plD x = true → plD y = true → (PyData.eqv x y = true ↔ x = y)
  | .none, y, _, hy => by cases y <;> simp [PyData.eqv]
  | .int i, y, _, hy => by
    cases y with
    | bool b => simp [plD] at hy
    | _ => simp [PyData.eqv]
  | .str i, y, _, hy => by cases y <;> simp [PyData.eqv]
  | .list ds, y, hx, hy => by
    cases y with
    | list es =>
      have h1 : plAll ds = true := by simpa [plD] using hx
      have h2 : plAll es = true := by simpa [plD] using hy
      have := eqv_plAll ds es h1 h2
      unfold PyData.eqv
      rw [this]
      exact ⟨fun e => by rw [e], fun e => by injection e⟩
    | _ => simp [PyData.eqv]
  | .tuple ds, y, hx, hy => by
    cases y with
    | tuple es =>
      have h1 : plAll ds = true := by simpa [plD] using hx
      have h2 : plAll es = true := by simpa [plD] using hy
      have := eqv_plAll ds es h1 h2
      unfold PyData.eqv
      rw [this]
      exact ⟨fun e => by rw [e], fun e => by injection e⟩
    | _ => simp [PyData.eqv]
  | .bool _, _, hx, _ => by simp [plD] at hx
  | .dict _, _, hx, _ => by simp [plD] at hx
theorem eqv_plAll : ∀ (xs ys : List PyData), plAll xs = true → plAll ys = true → (PyData.eqvAll xs ys = true ↔ xs = ys)
  | [], [], _, _ => by simp [PyData.eqvAll]
  | [], y :: ys, _, _ => by simp [PyData.eqvAll]
  | x :: xs, [], _, _ => by simp [PyData.eqvAll]
  | x :: xs, y :: ys, hx, hy => by
    have h1 : plD x = true ∧ plAll xs = true := by simpa [plAll] using hx
    have h2 : plD y = true ∧ plAll ys = true := by simpa [plAll] using hy
    have i1 := eqv_pl x y h1.1 h2.1
    have i2 := eqv_plAll xs ys h1.2 h2.2
    unfold PyData.eqvAll
    rw [Bool.and_eq_true, i1, i2]
    exact ⟨fun ⟨a, b⟩ => by rw [a, b], fun e => by injection e with a b; exact ⟨a, b⟩⟩
end
theorem plAll_map {α : Type} {f : α → PyData} (h : ∀ a, plD (f a) = true) : ∀ l : List α, plAll (l.map f) = true
  | [] => by simp [plAll]
  | a :: l => by rw [List.map_cons]; unfold plAll; rw [h a, plAll_map h l]; rfl
theorem map_inj {α β : Type} {f : α → β} (h : ∀ a b, f a = f b → a = b) : ∀ {l l' : List α}, l.map f = l'.map f → l = l'
  | [], [], _ => rfl
  | [], _ :: _, e => by cases e
  | _ :: _, [], e => by cases e
  | a :: l, b :: l', e => by
    rw [List.map_cons, List.map_cons] at e
    injection e with e1 e2
    rw [h a b e1, map_inj h e2]
/-! ### decoders -/
abbrev Ent := Option (Nat × List Nat)
structure Dcd where
  sg : Nat
  st : List (List Ent)
  en : List (Option (List Nat))
deriving DecidableEq
def enD : Ent → PyData | none => .none | some (g, w) => .tuple [.int (g : Nat), .str (S w)]
def wdD : Option (List Nat) → PyData | none => .none | some w => .str (S w)
def okW (w : List Nat) : Prop := Low w ∧ w.length ≤ 3
def okE (n : Nat) (e : Ent) : Prop := ∀ g w, e = some (g, w) → g < n ∧ okW w
structure Dcd.ok (D : Dcd) : Prop where
  s1 : 1 ≤ D.sg
  s5 : D.sg ≤ 5
  n1 : 1 ≤ D.st.length
  n40 : D.st.length ≤ 40
  rows : ∀ r ∈ D.st, r.length = D.sg ∧ ∀ e ∈ r, okE D.st.length e
  ends : D.en.length = D.st.length
  words : ∀ e ∈ D.en, ∀ w, e = some w → okW w
def Dcd.stD (D : Dcd) : PyData := .tuple (D.st.map fun r => .tuple (r.map enD))
def Dcd.enD (D : Dcd) : PyData := .tuple (D.en.map wdD)
theorem enD_inj : ∀ a b : Ent, enD a = enD b → a = b
  | none, none, _ => rfl
  | none, some (g, w), e => by cases e
  | some (g, w), none, e => by cases e
  | some (g, w), some (g', w'), e => by
    unfold My.enD at e
    injection e with e
    injection e with e1 e2
    injection e1 with e1
    injection e2 with e2 _
    injection e2 with e2
    have : g = g' := by omega
    rw [this, S_inj e2]
theorem wdD_inj : ∀ a b : Option (List Nat), wdD a = wdD b → a = b
  | none, none, _ => rfl
  | none, some w, e => by cases e
  | some w, none, e => by cases e
  | some w, some w', e => by
    unfold wdD at e
    injection e with e
    rw [S_inj e]
theorem stD_inj {D D' : Dcd} (h : D.stD = D'.stD) : D.st = D'.st := by
  unfold Dcd.stD at h
  injection h with h
  exact map_inj (fun a b e => map_inj enD_inj (by injection e)) h
theorem dEn_inj {D D' : Dcd} (h : D.enD = D'.enD) : D.en = D'.en := by
  unfold Dcd.enD at h
  injection h with h
  exact map_inj wdD_inj h
theorem plD_enD (e : Ent) : plD (enD e) = true := by
  cases e with
  | none => rfl
  | some p => obtain ⟨g, w⟩ := p; rfl
theorem plD_wdD (e : Option (List Nat)) : plD (wdD e) = true := by cases e <;> rfl
theorem plD_stD (D : Dcd) : plD D.stD = true := by
  unfold Dcd.stD plD
  exact plAll_map (fun r => by unfold plD; exact plAll_map plD_enD r) _
theorem plD_dEn (D : Dcd) : plD D.enD = true := by
  unfold Dcd.enD plD
  exact plAll_map plD_wdD _
theorem isBe_int {n : Int} {d : PyData} (h : isBe n d = true) : ∃ i : Int, d = .int i ∧ 0 ≤ i ∧ i < n := by
  cases d with
  | int i =>
    have h' : (decide (0 ≤ i) && decide (i < n)) = true := h
    simp only [Bool.and_eq_true, decide_eq_true_eq] at h'
    exact ⟨i, rfl, h'.1, h'.2⟩
  | _ => cases h
theorem isWd_str {d : PyData} (h : isWd d = true) : ∃ w, d = .str (S w) ∧ okW w := by
  cases d with
  | str z =>
    have h' : (isT z && decide ((z.length : Int) ≤ 3)) = true := h
    simp only [Bool.and_eq_true, decide_eq_true_eq] at h'
    refine ⟨cs z, by rw [S_of], ?_, ?_⟩
    · intro c hc
      have := h'.1
      unfold isT at this
      exact List.all_eq_true.mp this c hc
    · have : z.length = (cs z).length := by rw [← S_len, S_of]
      omega
  | _ => cases h
theorem isWd_of {w : List Nat} (h : okW w) : isWd (.str (S w)) = true := by
  show (isT (S w) && decide (((S w).length : Int) ≤ 3)) = true
  rw [h.1.isT, S_len, decide_eq_true (by have := h.2; omega)]; rfl
theorem isEn_ent {n : Nat} {d : PyData} (h : isEn n d = true) : ∃ e : Ent, d = enD e ∧ okE n e := by
  unfold isEn at h
  rw [Bool.or_eq_true] at h
  rcases h with h | h
  · cases d with
    | none => exact ⟨none, rfl, fun g w e => by cases e⟩
    | _ => cases h
  · cases d with
    | tuple ds =>
      match ds, h with
      | [], h => cases h
      | [a], h => cases h
      | [a, b], h =>
        have h' : (isBe n a && isWd b) = true := h
        rw [Bool.and_eq_true] at h'
        obtain ⟨i, rfl, i0, i1⟩ := isBe_int h'.1
        obtain ⟨w, rfl, ow⟩ := isWd_str h'.2
        obtain ⟨k, rfl⟩ : ∃ k : Nat, i = k := ⟨i.toNat, by omega⟩
        exact ⟨some (k, w), rfl, fun g w' e => by injection e with e; injection e with e1 e2; subst e1 e2; exact ⟨by omega, ow⟩⟩
      | a :: b :: c :: r, h => cases h
    | _ => cases h
theorem isEn_of {n : Nat} {e : Ent} (h : okE n e) : isEn n (enD e) = true := by
  cases e with
  | none => rfl
  | some p =>
    obtain ⟨g, w⟩ := p
    obtain ⟨h1, h2⟩ := h g w rfl
    show (isNn _ || (isBe n (.int (g : Nat)) && isWd (.str (S w)))) = true
    rw [isWd_of h2]
    show (false || ((decide ((0 : Int) ≤ (g : Nat)) && decide (((g : Nat) : Int) < n)) && true)) = true
    rw [decide_eq_true (by omega), decide_eq_true (by omega)]; rfl
theorem endB_wd {d : PyData} (h : endB d = true) : ∃ e : Option (List Nat), d = wdD e ∧ ∀ w, e = some w → okW w := by
  unfold endB at h
  rw [Bool.or_eq_true] at h
  rcases h with h | h
  · cases d with
    | none => exact ⟨none, rfl, fun w e => by cases e⟩
    | _ => cases h
  · obtain ⟨w, rfl, o⟩ := isWd_str h
    exact ⟨some w, rfl, fun w' e => by injection e with e; rw [← e]; exact o⟩
theorem endB_of {e : Option (List Nat)} (h : ∀ w, e = some w → okW w) : endB (wdD e) = true := by
  cases e with
  | none => rfl
  | some w =>
    show (isNn _ || isWd (.str (S w))) = true
    rw [isWd_of (h w rfl)]; rfl
/-- data that are a decoder's parts -/
structure GoodD (D : Dcd) (d1 d2 d3 : PyData) : Prop where
  ok : D.ok
  e1 : d1 = .int (D.sg : Nat)
  s2 : isSqD d2 = true
  r2 : ∀ r ∈ itsD d2, isSqD r = true
  e2 : (itsD d2).map itsD = D.st.map (fun r => r.map enD)
  s3 : isSqD d3 = true
  e3 : itsD d3 = D.en.map wdD
theorem rows_of {m n : Nat} : ∀ rows : List PyData, rows.all (entB m n) = true → ∃ st : List (List Ent), rows.map itsD = st.map (fun r => r.map enD) ∧ (∀ r ∈ rows, isSqD r = true) ∧ ∀ r ∈ st, r.length = m ∧ ∀ e ∈ r, okE n e
  | [], _ => ⟨[], rfl, (fun r h => by cases h), (fun r h => by cases h)⟩
  | d :: rows, h => by
    rw [List.all_cons, Bool.and_eq_true] at h
    obtain ⟨st, e, h1, h2⟩ := rows_of rows h.2
    have hd := h.1
    unfold entB at hd
    rw [Bool.and_eq_true, Bool.and_eq_true, decide_eq_true_eq] at hd
    obtain ⟨es, ee, ge⟩ := all_map (f := enD) (G := okE n) (fun d h => isEn_ent h) _ hd.2.2
    refine ⟨es :: st, by rw [List.map_cons, List.map_cons, e, ee], fun r hr => ?_, fun r hr => ?_⟩
    · rcases List.mem_cons.mp hr with z | z
      · rw [z]; exact hd.1
      · exact h1 r z
    · rcases List.mem_cons.mp hr with z | z
      · rw [z]
        refine ⟨?_, ge⟩
        have := hd.2.1
        rw [ee, List.length_map] at this
        omega
      · exact h2 r z
theorem good_of {d1 d2 d3 : PyData} (h1 : isSg d1 = true) (h2 : stepsB (numD d1) d2 = true) (h3 : endsB ((itsD d2).length : Int) d3 = true) : ∃ D, GoodD D d1 d2 d3 := by
  cases d1 with
  | int i =>
    have h1' : (decide (1 ≤ i) && decide (i ≤ 5)) = true := h1
    simp only [Bool.and_eq_true, decide_eq_true_eq] at h1'
    obtain ⟨k, rfl⟩ : ∃ k : Nat, i = k := ⟨i.toNat, by omega⟩
    unfold stepsB at h2
    rw [Bool.and_eq_true, Bool.and_eq_true, Bool.and_eq_true, decide_eq_true_eq, decide_eq_true_eq] at h2
    obtain ⟨st, es, hq, hr⟩ := rows_of (m := k) (n := (itsD d2).length) (itsD d2) h2.2.2
    unfold endsB at h3
    rw [Bool.and_eq_true, Bool.and_eq_true, decide_eq_true_eq] at h3
    obtain ⟨en, ee, ge⟩ := all_map (f := wdD) (G := fun e => ∀ w, e = some w → okW w) (fun d h => endB_wd h) _ h3.2.2
    have ls : st.length = (itsD d2).length := by have := congrArg List.length es; rw [List.length_map, List.length_map] at this; exact this.symm
    have le : en.length = (itsD d3).length := by rw [ee, List.length_map]
    refine ⟨⟨k, st, en⟩, ⟨by show 1 ≤ k; omega, by show k ≤ 5; omega, by show 1 ≤ st.length; omega, by show st.length ≤ 40; omega, fun r hr' => ?_, by show en.length = st.length; omega, ge⟩, rfl, h2.1, hq, es, h3.1, ee⟩
    show r.length = k ∧ ∀ e ∈ r, okE st.length e
    rw [ls]; exact hr r hr'
  | _ => cases h1
theorem GoodD.sg {D : Dcd} {d1 d2 d3 : PyData} (g : GoodD D d1 d2 d3) : isSg d1 = true := by
  rw [g.e1]
  show (decide (1 ≤ ((D.sg : Nat) : Int)) && decide (((D.sg : Nat) : Int) ≤ 5)) = true
  have h1 := g.ok.s1
  have h5 := g.ok.s5
  rw [decide_eq_true (by omega), decide_eq_true (by omega)]; rfl
theorem GoodD.len2 {D : Dcd} {d1 d2 d3 : PyData} (g : GoodD D d1 d2 d3) : (itsD d2).length = D.st.length := by
  have := congrArg List.length g.e2
  rwa [List.length_map, List.length_map] at this
theorem rows_all {m n : Nat} : ∀ (rows : List PyData) (st : List (List Ent)), rows.map itsD = st.map (fun r => r.map enD) → (∀ r ∈ rows, isSqD r = true) → (∀ r ∈ st, r.length = m ∧ ∀ e ∈ r, okE n e) → rows.all (entB m n) = true
  | [], _, _, _, _ => rfl
  | d :: rows, [], e, _, _ => by cases e
  | d :: rows, r :: st, e, hq, hr => by
    rw [List.map_cons, List.map_cons] at e
    injection e with e1 e2
    rw [List.all_cons, rows_all rows st e2 (fun r' h => hq r' (List.mem_cons_of_mem _ h)) (fun r' h => hr r' (List.mem_cons_of_mem _ h)), Bool.and_true]
    obtain ⟨l, o⟩ := hr r List.mem_cons_self
    unfold entB
    rw [hq d List.mem_cons_self, e1, List.length_map, decide_eq_true (by omega), Bool.true_and, Bool.true_and, List.all_eq_true]
    intro x hx
    obtain ⟨en, hen, rfl⟩ := List.mem_map.mp hx
    exact isEn_of (o en hen)
theorem GoodD.steps {D : Dcd} {d1 d2 d3 : PyData} (g : GoodD D d1 d2 d3) : stepsB (D.sg : Nat) d2 = true := by
  unfold stepsB
  have n1 := g.ok.n1
  have n40 := g.ok.n40
  rw [g.s2, g.len2, rows_all _ _ g.e2 g.r2 g.ok.rows, decide_eq_true (by omega), decide_eq_true (by omega)]; rfl
theorem GoodD.ends {D : Dcd} {d1 d2 d3 : PyData} (g : GoodD D d1 d2 d3) : endsB ((itsD d2).length : Int) d3 = true := by
  unfold endsB
  rw [g.s3, g.e3, g.len2, List.length_map, g.ok.ends, decide_eq_true rfl, Bool.true_and, Bool.true_and, List.all_eq_true]
  intro x hx
  obtain ⟨en, hen, rfl⟩ := List.mem_map.mp hx
  exact endB_of fun w e => g.ok.words en hen w e
theorem GoodD.tup {D : Dcd} {d1 d2 d3 : PyData} (g : GoodD D d1 d2 d3) : PyData.tuple ((itsD d2).map fun r => .tuple (itsD r)) = D.stD := by
  unfold Dcd.stD
  have := congrArg (List.map PyData.tuple) g.e2
  rw [List.map_map, List.map_map] at this
  exact congrArg PyData.tuple this
theorem GoodD.tupE {D : Dcd} {d1 d2 d3 : PyData} (g : GoodD D d1 d2 d3) : PyData.tuple (itsD d3) = D.enD := by
  unfold Dcd.enD
  rw [g.e3]
/-- the parts of a decoder, as tuples -/
theorem Dcd.good {D : Dcd} (h : D.ok) : GoodD D (.int (D.sg : Nat)) D.stD D.enD :=
  ⟨h, rfl, rfl, fun r hr => by
    obtain ⟨x, _, rfl⟩ := List.mem_map.mp hr
    rfl, by show (D.st.map fun r => PyData.tuple (r.map My.enD)).map itsD = _; rw [List.map_map]; rfl, rfl, rfl⟩
/-! ### how large it is -/
theorem okW.fit {w : List Nat} (h : okW w) : Fit (.str (S w)) 1 4 := Fit.str (Nat.le_trans h.2 (by omega)) (fun c hc => h.1.lt c hc)
theorem fit_enD {n : Nat} {e : Ent} (h : okE n e) (hn : n ≤ 40) : Fit (enD e) 2 40 := by
  cases e with
  | none => exact Fit.none.mono (Nat.le_refl _) (Nat.zero_le _)
  | some p =>
    obtain ⟨g, w⟩ := p
    obtain ⟨h1, h2⟩ := h g w rfl
    exact (Fit.tuple (FitAll.cons (Fit.nat (by omega)) (FitAll.cons h2.fit FitAll.nil))).mono (Nat.le_refl _) (by omega)
theorem fit_stD {D : Dcd} (h : D.ok) : Fit D.stD 4 9000 := by
  have n40 := h.n40
  have s5 := h.s5
  refine (Fit.tuple (k := 3) (FitAll.all (w := 210) fun d hd => ?_)).mono (Nat.le_refl _) (by rw [List.length_map]; omega)
  obtain ⟨r, hr, rfl⟩ := List.mem_map.mp hd
  obtain ⟨l, o⟩ := h.rows r hr
  refine (Fit.tuple (k := 2) (FitAll.all (w := 40) fun x hx => ?_)).mono (Nat.le_refl _) (by rw [List.length_map]; omega)
  obtain ⟨e, he, rfl⟩ := List.mem_map.mp hx
  exact fit_enD (o e he) n40
theorem fit_wdD {e : Option (List Nat)} (h : ∀ w, e = some w → okW w) : Fit (wdD e) 1 4 := by
  cases e with
  | none => exact Fit.none.mono (Nat.le_refl _) (Nat.zero_le _)
  | some w => exact (h w rfl).fit
theorem fit_dEn {D : Dcd} (h : D.ok) : Fit D.enD 2 300 := by
  have n40 := h.n40
  have le := h.ends
  refine (Fit.tuple (k := 1) (FitAll.all (w := 4) fun d hd => ?_)).mono (Nat.le_refl _) (by rw [List.length_map]; omega)
  obtain ⟨e, he, rfl⟩ := List.mem_map.mp hd
  exact fit_wdD fun w q => h.words e he w q
/-! ### what it writes -/
def Dcd.at (D : Dcd) (s a : Nat) : Ent := ((D.st.getD s []).getD a none)
def Dcd.go (D : Dcd) : Nat → List Nat → Option (Nat × List Nat)
  | s, [] => some (s, [])
  | s, a :: l => match D.at s a with
    | none => none
    | some (g, w) => (D.go g l).map fun (p : Nat × List Nat) => (p.1, w ++ p.2)
def Dcd.wr (D : Dcd) (l : List Nat) : Option (List Nat) := match D.go 0 l with
  | none => none
  | some (s, u) => (D.en.getD s none).map fun w => u ++ w
theorem Dcd.go_snoc (D : Dcd) : ∀ (l : List Nat) (s a : Nat), D.go s (l ++ [a]) = match D.go s l with
    | none => none
    | some (t, u) => (D.at t a).map fun (p : Nat × List Nat) => (p.1, u ++ p.2)
  | [], s, a => by
    show (match D.at s a with | none => none | some (g, w) => (D.go g []).map fun (p : Nat × List Nat) => (p.1, w ++ p.2)) = _
    cases h : D.at s a with
    | none => show _ = (D.at s a).map _; rw [h]; rfl
    | some p =>
      obtain ⟨g, w⟩ := p
      show _ = (D.at s a).map _
      rw [h]
      show some (g, w ++ []) = some (g, [] ++ w)
      simp
  | b :: l, s, a => by
    show (match D.at s b with | none => none | some (g, w) => (D.go g (l ++ [a])).map fun (p : Nat × List Nat) => (p.1, w ++ p.2)) = match (match D.at s b with | none => none | some (g, w) => (D.go g l).map fun (p : Nat × List Nat) => (p.1, w ++ p.2)) with | none => none | some (t, u) => (D.at t a).map fun (p : Nat × List Nat) => (p.1, u ++ p.2)
    cases h : D.at s b with
    | none => rfl
    | some p =>
      obtain ⟨g, w⟩ := p
      show (D.go g (l ++ [a])).map _ = match (D.go g l).map (fun (p : Nat × List Nat) => (p.1, w ++ p.2)) with | none => none | some (t, u) => (D.at t a).map fun (p : Nat × List Nat) => (p.1, u ++ p.2)
      rw [D.go_snoc l g a]
      cases D.go g l with
      | none => rfl
      | some q =>
        obtain ⟨t, u⟩ := q
        show Option.map _ (Option.map _ (D.at t a)) = Option.map _ (D.at t a)
        rw [Option.map_map]
        cases D.at t a with
        | none => rfl
        | some r => obtain ⟨x, y⟩ := r; show some (x, w ++ (u ++ y)) = some (x, w ++ u ++ y); rw [List.append_assoc]
theorem Dcd.ok.at {D : Dcd} (h : D.ok) {s a : Nat} : okE D.st.length (D.at s a) := by
  intro g w e
  unfold Dcd.at at e
  by_cases hs : s < D.st.length
  · rw [List.getD_eq_getElem?_getD, List.getD_eq_getElem?_getD, List.getElem?_eq_getElem hs] at e
    show g < _ ∧ _
    have hr := h.rows D.st[s] (List.getElem_mem hs)
    by_cases ha : a < D.st[s].length
    · have e' : (D.st[s])[a]?.getD none = some (g, w) := e
      rw [List.getElem?_eq_getElem ha] at e'
      exact hr.2 _ (List.getElem_mem ha) g w e'
    · have e' : (D.st[s])[a]?.getD none = some (g, w) := e
      rw [List.getElem?_eq_none (Nat.le_of_not_lt ha)] at e'
      cases e'
  · have e0 : D.st.getD s [] = [] := by rw [List.getD_eq_getElem?_getD, List.getElem?_eq_none (by omega)]; rfl
    rw [e0] at e
    simp at e
theorem Dcd.ok.go {D : Dcd} (h : D.ok) : ∀ (l : List Nat) (s t : Nat) (u : List Nat), s < D.st.length → D.go s l = some (t, u) → t < D.st.length ∧ Low u ∧ u.length ≤ 3 * l.length
  | [], s, t, u, hs, e => by
    have e' : some (s, ([] : List Nat)) = some (t, u) := e
    injection e' with e'
    injection e' with e1 e2
    subst e1 e2
    exact ⟨hs, Low.nil, Nat.zero_le _⟩
  | a :: l, s, t, u, hs, e => by
    have e' : (match D.at s a with | none => none | some (g, w) => (D.go g l).map fun (p : Nat × List Nat) => (p.1, w ++ p.2)) = some (t, u) := e
    have oa : okE D.st.length (D.at s a) := h.at
    cases q : D.at s a with
    | none => rw [q] at e'; cases e'
    | some p =>
      obtain ⟨g, w⟩ := p
      rw [q] at e'
      obtain ⟨g1, g2⟩ := oa g w q
      have e2 : (D.go g l).map (fun (p : Nat × List Nat) => (p.1, w ++ p.2)) = some (t, u) := e'
      cases r : D.go g l with
      | none => rw [r] at e2; cases e2
      | some p =>
        obtain ⟨t', u'⟩ := p
        rw [r] at e2
        have e3 : some (t', w ++ u') = some (t, u) := e2
        injection e3 with e3
        injection e3 with a1 a2
        subst a1 a2
        obtain ⟨b1, b2, b3⟩ := h.go l g t' u' g1 r
        exact ⟨b1, g2.1.append b2, by rw [List.length_append, List.length_cons]; have := g2.2; omega⟩
theorem Dcd.ok.end_ {D : Dcd} (h : D.ok) {s : Nat} {w : List Nat} (e : D.en.getD s none = some w) : okW w := by
  by_cases hs : s < D.en.length
  · rw [List.getD_eq_getElem?_getD, List.getElem?_eq_getElem hs] at e
    exact h.words _ (List.getElem_mem hs) w e
  · rw [List.getD_eq_getElem?_getD, List.getElem?_eq_none (by omega)] at e
    cases e
theorem Dcd.ok.wr {D : Dcd} (h : D.ok) {l : List Nat} {u : List Nat} (e : D.wr l = some u) : Low u ∧ u.length ≤ 3 * l.length + 3 := by
  unfold Dcd.wr at e
  cases q : D.go 0 l with
  | none => rw [q] at e; cases e
  | some p =>
    obtain ⟨s, v⟩ := p
    rw [q] at e
    obtain ⟨_, lv, nv⟩ := h.go l 0 s v h.n1 q
    have e' : (D.en.getD s none).map (fun w => v ++ w) = some u := e
    cases r : D.en.getD s none with
    | none => rw [r] at e'; cases e'
    | some w =>
      rw [r] at e'
      have e2 : some (v ++ w) = some u := e'
      injection e2 with e2
      have ow := h.end_ r
      rw [← e2]
      exact ⟨lv.append ow.1, by rw [List.length_append]; have := ow.2; omega⟩
/-! ### a decoder in the heap -/
def dfs (m n : Int) (Sa Ea : Addr) : List (Str × V) := putF "ends" (.ref Ea) (putF "steps" (.ref Sa) (putF "states" (.int n) (putF "signs" (.int m) [])))
theorem dfs_signs {m n : Int} {Sa Ea : Addr} : (dfs m n Sa Ea).lookup ("signs" : Str) = some (V.int m) := by
  unfold dfs
  rw [lookup_putF, if_neg (by decide +kernel), lookup_putF, if_neg (by decide +kernel), lookup_putF, if_neg (by decide +kernel), lookup_putF, if_pos rfl]
theorem dfs_states {m n : Int} {Sa Ea : Addr} : (dfs m n Sa Ea).lookup ("states" : Str) = some (V.int n) := by
  unfold dfs
  rw [lookup_putF, if_neg (by decide +kernel), lookup_putF, if_neg (by decide +kernel), lookup_putF, if_pos rfl]
theorem dfs_steps {m n : Int} {Sa Ea : Addr} : (dfs m n Sa Ea).lookup ("steps" : Str) = some (V.ref Sa) := by
  unfold dfs
  rw [lookup_putF, if_neg (by decide +kernel), lookup_putF, if_pos rfl]
theorem dfs_ends {m n : Int} {Sa Ea : Addr} : (dfs m n Sa Ea).lookup ("ends" : Str) = some (V.ref Ea) := by
  unfold dfs
  rw [lookup_putF, if_pos rfl]
theorem dfs_no {m n : Int} {Sa Ea : Addr} {f : Str} (h1 : ¬ f = "ends") (h2 : ¬ f = "steps") (h3 : ¬ f = "states") (h4 : ¬ f = "signs") : (dfs m n Sa Ea).lookup f = none := by
  unfold dfs
  rw [lookup_putF, if_neg h1, lookup_putF, if_neg h2, lookup_putF, if_neg h3, lookup_putF, if_neg h4]
  all_goals rfl
structure DecAt (K : PySem.W.Frag) (C : Addr) (H : Hp) (p : Addr) (D : Dcd) : Prop where
  ob : ∃ dx Sa Ea, H p = some (.ins C dx (dfs (D.sg : Nat) (D.st.length : Nat) Sa Ea)) ∧ Dg K H false (.ref Sa) D.stD ∧ Dg K H false (.ref Ea) D.enD
  ok : D.ok
theorem DecAt.ext {K : PySem.W.Frag} {C : Addr} {H H' : Hp} {p : Addr} {D : Dcd} (h : DecAt K C H p D) (s : Same H H') : DecAt K C H' p D := by
  obtain ⟨⟨dx, Sa, Ea, e, h1, h2⟩, ok⟩ := h
  exact ⟨⟨dx, Sa, Ea, s _ _ e, h1.ext s, h2.ext s⟩, ok⟩
/-- beside b -/
def DecW (K : PySem.W.Frag) (C : Addr) (b : Addr) (H : Hp) (p : Addr) (D : Dcd) : Prop := DecAt K C (wo H b) p D
theorem DecW.kp {K : PySem.W.Frag} {C b : Addr} {H H' : Hp} {p : Addr} {D : Dcd} (h : DecW K C b H p D) (k : Kp b H H') : DecW K C b H' p D := DecAt.ext h k.wo
theorem DecW.at {K : PySem.W.Frag} {C b : Addr} {H : Hp} {p : Addr} {D : Dcd} (h : DecW K C b H p D) : DecAt K C H p D := DecAt.ext h (wo_same H b)
theorem DecAt.w {K : PySem.W.Frag} {C b : Addr} {H H' : Hp} {p : Addr} {D : Dcd} (h : DecAt K C H p D) (s : Same H (wo H' b)) : DecW K C b H' p D := DecAt.ext h s
end My

set_option Elab.async false
set_option linter.all false
set_option maxRecDepth 100000
set_option maxHeartbeats 4000000
/-! Comprehensions that make data: lists that grow beside p; rows as tuples. -/
namespace My
open PySem PySem.Spec PyProof.Rows L2
/-- the list at D, new since H1, holds the data ds; neither it nor p is part of them -/
def AcM (K : PySem.W.Frag) (m : Bool) (p : Addr) (H1 : Hp) (D : Addr) (ds : List PyData) (H : Hp) : Prop := Same H1 H ∧ ∃ acc, H D = some (.lst acc) ∧ DgAll K (wo (wo H p) D) m acc ds
section
variable {K : PySem.W.Frag} {m : Bool} {p D : Addr} {H1 H H2 : Hp} {ds : List PyData}
theorem AcM.start (hD : H1 D = none) : AcM K m p H1 D [] (L2.upd H1 D (.lst [])) := ⟨Same.new (Same.refl _) hD, [], upd_same, .nil⟩
theorem two_same (s : Same H H2) : Same (wo (wo H p) D) (wo (wo H2 p) D) := fun b o e => by
  have n : b ≠ D := fun z => by rw [z, wo_at] at e; cases e
  rw [wo_ne n] at e ⊢
  have n2 : b ≠ p := fun z => by rw [z, wo_at] at e; cases e
  rw [wo_ne n2] at e ⊢
  exact s b o e
theorem two_upd {o : HO} : wo (wo (L2.upd H D o) p) D = wo (wo H p) D := by
  funext b
  by_cases e : b = D
  · rw [e, wo_at, wo_at]
  · rw [wo_ne e, wo_ne e]
    by_cases e2 : b = p
    · rw [e2, wo_at, wo_at]
    · rw [wo_ne e2, wo_ne e2, upd_ne e]
theorem two_le : Same (wo (wo H p) D) (wo H p) := fun b o e => wo_le e
/-- one more -/
theorem AcM.snoc {y : V} {d : PyData} (h : AcM K m p H1 D ds H) (hD : H1 D = none) (l : ds.length ≤ 100000) (s : Same H H2) (dy : Dg K (wo (wo H2 p) D) m y d) :
    ∃ acc, H2 D = some (.lst acc) ∧ acc.length < sizeLine ∧ AcM K m p H1 D (ds ++ [d]) (L2.upd H2 D (.lst (acc ++ [y]))) := by
  obtain ⟨s1, acc, e, ha⟩ := h
  refine ⟨acc, s _ _ e, by rw [ha.len]; exact Nat.lt_of_le_of_lt l (by decide), fun b o q => ?_, acc ++ [y], upd_same, ?_⟩
  · rw [upd_ne (ne_of_none q hD)]; exact s _ _ (s1 _ _ q)
  · rw [two_upd]
    exact (ha.ext (two_same s)).append (.cons dy .nil)
theorem AcM.ne (h : AcM K m p H1 D ds H) : H D ≠ none := by
  obtain ⟨_, acc, e, _⟩ := h
  rw [e]; exact fun z => by cases z
/-- a new tuple of data -/
theorem two_tup {q : Addr} {xs : List V} {es : List PyData} (eD : H D ≠ none) (ep : H p ≠ none) (hq : H q = none) (h : DgAll K (wo (wo H p) D) m xs es) : Same H (L2.upd H q (.tup xs)) ∧ Dg K (wo (wo (L2.upd H q (.tup xs)) p) D) m (.ref q) (.tuple es) := by
  have n : q ≠ D := fun z => eD (by rw [← z]; exact hq)
  have n2 : q ≠ p := fun z => ep (by rw [← z]; exact hq)
  have s : Same H (L2.upd H q (.tup xs)) := Same.new (Same.refl _) hq
  exact ⟨s, .tup (SqT.of (by rw [wo_ne n, wo_ne n2]; exact upd_same)) (h.ext (two_same s))⟩
/-- what stood beside p when D was still free -/
theorem two_old {x : V} {d : PyData} (hD : H1 D = none) (s : Same H1 H) (h : Dg K (wo H1 p) m x d) : Dg K (wo (wo H p) D) m x d := h.ext fun b o e => by
  have n2 : b ≠ p := fun z => by rw [z, wo_at] at e; cases e
  have e' := e
  rw [wo_ne n2] at e'
  have n : b ≠ D := fun z => by rw [z, hD] at e'; cases e'
  rw [wo_ne n, wo_ne n2]
  exact s b o e'
theorem two_olds {x : List V} {d : List PyData} (hD : H1 D = none) (s : Same H1 H) (h : DgAll K (wo H1 p) m x d) : DgAll K (wo (wo H p) D) m x d := h.ext fun b o e => by
  have n2 : b ≠ p := fun z => by rw [z, wo_at] at e; cases e
  have e' := e
  rw [wo_ne n2] at e'
  have n : b ≠ D := fun z => by rw [z, hD] at e'; cases e'
  rw [wo_ne n, wo_ne n2]
  exact s b o e'
end
def tupD (r : PyData) : PyData := .tuple (itsD r)
theorem SqQ.le {K : PySem.W.Frag} {H H' : Hp} {a : Addr} {xs : List V} (h : SqQ K H a xs) (s : Same H H') : SqQ K H' a xs := h.same s
/-- tuple([tuple(row) for row in rows]) -/
theorem rows_tup {K : PySem.W.Frag} {H : Hp} {p a : Addr} {m : Bool} {ys : List V} {es : List PyData} {σ : L2.St} {te : TE} {i : Nat} {vs : List Nat} {Q : VK} {A : Type} {rT rT2 : List V → Hp → VK → Prop}
    (e1 : rT = fun xs H Q => ∃ p ys, xs = [.ref p] ∧ ((SqL K H p ys ∧ ∀ l, H l = none → Q (.ref l) (L2.upd H l (.tup ys))) ∨ (SqT K H p ys ∧ Q (.ref p) H)))
    (e2 : rT2 = fun xs H Q => ∃ p ys, xs = [.ref p] ∧ (SqL K H p ys ∧ (∀ l, H l = none → Q (.ref l) (L2.upd H l (.tup ys))) ∨ SqT K H p ys ∧ Q (.ref p) H))
    (hte : ∀ R : VK, R (.ref a) H → te σ H R) (hq : SqQ K H a ys) (hes : DgAll K (wo H p) m ys es) (hr : ∀ r ∈ es, isSqD r = true) (hl : es.length ≤ 1000) (np : H p ≠ none)
    (hw : ∀ x, wipe ((wipe σ vs).set i (some x)) vs = wipe σ vs) (hi : ∀ x, ((wipe σ vs).set i (some x))[i]? = some (some x))
    (q : ∀ r zs H', Same H H' → H' r = some (.tup zs) → r ≠ p → DgAll K (wo H' p) m zs (es.map tupD) → Q (.ref r) H') :
    tCB rT (tCons (tLc (iSq K te) (gName i) tYes (tCB rT2 (tCons (tVar i) tNil)) vs) tNil) σ H Q := by
  refine hte _ ⟨a, rfl, lc_sq hq fun D hD => ⟨fun j H' => AcM K m p H D ((es.take j).map tupD) H', AcM.start hD, fun j H' h => h.1, ?_, ?_⟩⟩
  · rintro j x H' hx hA
    obtain ⟨d, hd, dx⟩ := hes.at j x hx
    have hm : d ∈ es := List.mem_of_getElem? hd
    have s' := hA.1
    have dx' : Dg K (wo (wo H' p) D) m x d := two_old hD s' dx
    have eD := hA.ne
    have ep : H' p ≠ none := same_at s' np
    refine ⟨hw x, tYesT ⟨_, hi x, ?_⟩⟩
    have len : ((es.take j).map tupD).length ≤ 100000 := by rw [List.length_map]; exact Nat.le_trans (List.length_take_le' _ _) (by omega)
    have fin : ∀ y H2, Same H' H2 → Dg K (wo (wo H2 p) D) m y (tupD d) → ∃ acc, H2 D = some (.lst acc) ∧ acc.length < sizeLine ∧ AcM K m p H D ((es.take (j + 1)).map tupD) (L2.upd H2 D (.lst (acc ++ [y]))) := fun y H2 s2 dy => by
      have := hA.snoc hD len s2 dy
      rw [List.take_add_one, hd, List.map_append]
      exact this
    rw [e2]
    obtain ⟨r, zs, rfl, hz, hzs⟩ := dx'.lst_q (sq_its (hr d hm))
    rcases hz with hz | hz
    · refine ⟨r, zs, rfl, .inl ⟨hz.ext (fun b o e => wo_le (wo_le e)), fun q' hq' => ?_⟩⟩
      obtain ⟨s2, dy⟩ := two_tup eD ep hq' hzs
      exact fin _ _ s2 dy
    · exact ⟨r, zs, rfl, .inr ⟨hz.ext (fun b o e => wo_le (wo_le e)), fin _ _ (Same.refl _) (.tup hz hzs)⟩⟩
  · rintro H' ⟨s', acc, e, ha⟩
    rw [hes.len, List.take_length] at ha
    rw [e1]
    refine ⟨D, acc, rfl, .inl ⟨SqL.of e, fun l hl' => ?_⟩⟩
    have nl : l ≠ p := fun z => (same_at s' np) (by rw [← z]; exact hl')
    have s2 : Same H' (L2.upd H' l (.tup acc)) := Same.new (Same.refl _) hl'
    refine q l acc _ (s'.trans s2) upd_same nl ?_
    exact ha.ext (fun b o e => (Kp.of s2).wo b o (wo_le e))
/-! ### data without lists and dicts -/
mutual
def lfD : PyData → Bool
  | .none => true
  | .int _ => true
  | .str _ => true
  | .bool _ => true
  | .tuple ds => lfAll ds
  | .list _ => false
  | .dict _ => false
def lfAll : List PyData → Bool
  | [] => true
  | d :: ds => lfD d && lfAll ds
end
mutual
theorem dg_lf {K : PySem.W.Frag} {H : Hp} {m m' : Bool} : ∀ (d : PyData) (x : V), lfD d = true → Dg K H m x d → Dg K H m' x d
  | .none, _, _, h => by cases h; exact .non
  | .int _, _, _, h => by cases h; exact .int _
  | .str _, _, _, h => by cases h; exact .str _
  | .bool _, _, _, h => by cases h; exact .bl _
  | .tuple ds, _, e, h => by
    have e' : lfAll ds = true := by simpa [lfD] using e
    cases h with
    | tup hs ha => exact .tup hs (dg_lfAll ds _ e' ha)
  | .list _, _, e, _ => by simp [lfD] at e
  | .dict _, _, e, _ => by simp [lfD] at e
theorem dg_lfAll {K : PySem.W.Frag} {H : Hp} {m m' : Bool} : ∀ (ds : List PyData) (xs : List V), lfAll ds = true → DgAll K H m xs ds → DgAll K H m' xs ds
  | [], _, _, h => by cases h; exact .nil
  | d :: ds, _, e, h => by
    have e' : lfD d = true ∧ lfAll ds = true := by simpa [lfAll] using e
    cases h with
    | cons h1 h2 => exact .cons (dg_lf d _ e'.1 h1) (dg_lfAll ds _ e'.2 h2)
end
theorem lfAll_map {α : Type} {f : α → PyData} (h : ∀ a, lfD (f a) = true) : ∀ l : List α, lfAll (l.map f) = true
  | [] => by simp [lfAll]
  | a :: l => by rw [List.map_cons]; unfold lfAll; rw [h a, lfAll_map h l]; rfl
theorem lf_enD (e : Ent) : lfD (enD e) = true := by
  cases e with
  | none => rfl
  | some p => obtain ⟨g, w⟩ := p; rfl
theorem lf_stD (D : Dcd) : lfD D.stD = true := by
  unfold Dcd.stD lfD
  exact lfAll_map (fun r => by unfold lfD; exact lfAll_map lf_enD r) _
theorem lf_dEn (D : Dcd) : lfD D.enD = true := by
  unfold Dcd.enD lfD
  exact lfAll_map (fun e => by cases e <;> rfl) _
mutual
theorem dg_dp {K : PySem.W.Frag} {H : Hp} : ∀ (d : PyData) (x : V), Dg K H false x d → Dp K H x d
  | .none, _, h => by cases h; exact .non
  | .int _, _, h => by cases h; exact .int _
  | .str _, _, h => by cases h; exact .str _
  | .bool _, _, h => by cases h; exact .bl _
  | .tuple ds, _, h => by
    cases h with
    | tup hs ha => exact .tup hs (dg_dpAll ds _ ha)
  | .list ds, _, h => by
    cases h with
    | lst hs _ ha => exact .lst hs (dg_dpAll ds _ ha)
  | .dict _, _, h => by
    cases h with
    | emp e => cases e
    | dct _ e => cases e
theorem dg_dpAll {K : PySem.W.Frag} {H : Hp} : ∀ (ds : List PyData) (xs : List V), DgAll K H false xs ds → DpAll K H xs ds
  | [], _, h => by cases h; exact .nil
  | d :: ds, _, h => by
    cases h with
    | cons h1 h2 => exact .cons (dg_dp d _ h1) (dg_dpAll ds _ h2)
end
end My
namespace My
open PySem PySem.Spec PyProof.Rows L2
theorem strOk_of {w : List Nat} (h : ∀ c ∈ w, c < 200) : PyData.strOk (S w) = true := by
  show (S w).cps.all (· < 0x110000) = true
  rw [← Array.all_toList, List.all_eq_true]
  intro c hc
  have hc' : c ∈ w := by rw [← S_tl w]; exact hc
  exact decide_eq_true (by have := h c hc'; omega)
theorem canAll {α : Type} {f : α → PyData} : ∀ (l : List α), (∀ a ∈ l, (f a).canLay0 = true) → PyData.canLayAll0 (l.map f) = true
  | [], _ => by simp [PyData.canLayAll0]
  | a :: l, h => by
    rw [List.map_cons]
    unfold PyData.canLayAll0
    rw [h a List.mem_cons_self, canAll l fun b hb => h b (List.mem_cons_of_mem _ hb)]; rfl
theorem shaped_of {d : PyData} (h1 : d.canLay0 = true) (h2 : d.depth ≤ 64) : SeqAt.shaped d = true := by
  unfold SeqAt.shaped
  rw [h1, decide_eq_true h2]; rfl
theorem shaped_stD {D : Dcd} (h : D.ok) : SeqAt.shaped D.stD = true := by
  refine shaped_of ?_ (Nat.le_trans (fit_stD h).d (by omega))
  unfold Dcd.stD PyData.canLay0
  refine canAll _ fun r hr => ?_
  unfold PyData.canLay0
  refine canAll _ fun e he => ?_
  have o := (h.rows r hr).2 e he
  cases e with
  | none => unfold enD PyData.canLay0; rfl
  | some p =>
    obtain ⟨g, w⟩ := p
    unfold enD PyData.canLay0 PyData.canLayAll0 PyData.canLayAll0 PyData.canLayAll0 PyData.canLay0
    rw [strOk_of fun c hc => (o g w rfl).2.1.lt c hc]; rfl
theorem shaped_dEn {D : Dcd} (h : D.ok) : SeqAt.shaped D.enD = true := by
  refine shaped_of ?_ (Nat.le_trans (fit_dEn h).d (by omega))
  unfold Dcd.enD PyData.canLay0
  refine canAll _ fun e he => ?_
  cases e with
  | none => unfold wdD PyData.canLay0; rfl
  | some w =>
    unfold wdD
    rw [show PyData.canLay0 (.str (S w)) = PyData.strOk (S w) by unfold PyData.canLay0; rfl, strOk_of fun c hc => (h.words _ he w rfl).1.lt c hc]
theorem dcd_eq {D D' : Dcd} : D = D' ↔ D.sg = D'.sg ∧ D.st = D'.st ∧ D.en = D'.en := by
  obtain ⟨a, b, c⟩ := D
  obtain ⟨a', b', c'⟩ := D'
  exact ⟨fun e => by injection e with e1 e2 e3; exact ⟨e1, e2, e3⟩, fun ⟨e1, e2, e3⟩ => by simp at e1 e2 e3; rw [e1, e2, e3]⟩
theorem eqv_stD {D D' : Dcd} : PyData.eqv D.stD D'.stD = decide (D.st = D'.st) := by
  rw [Bool.eq_iff_iff, eqv_pl _ _ (plD_stD D) (plD_stD D'), decide_eq_true_eq]
  exact ⟨stD_inj, fun e => by unfold Dcd.stD; rw [e]⟩
theorem eqv_dEn {D D' : Dcd} : PyData.eqv D.enD D'.enD = decide (D.en = D'.en) := by
  rw [Bool.eq_iff_iff, eqv_pl _ _ (plD_dEn D) (plD_dEn D'), decide_eq_true_eq]
  exact ⟨dEn_inj, fun e => by unfold Dcd.enD; rw [e]⟩
/-- a line of signs -/
abbrev lnD (l : List Nat) : PyData := .tuple (l.map fun (a : Nat) => PyData.int a)
theorem isLn_of {n : Nat} {l : List Nat} (h : ∀ a ∈ l, a < n) : isLn n (lnD l) = true := by
  show (l.map fun (a : Nat) => PyData.int a).all (isBe n) = true
  rw [List.all_eq_true]
  intro d hd
  obtain ⟨a, ha, rfl⟩ := List.mem_map.mp hd
  show (decide ((0 : Int) ≤ (a : Nat)) && decide (((a : Nat) : Int) < n)) = true
  rw [decide_eq_true (by omega), decide_eq_true (by have := h a ha; omega)]; rfl
theorem joinL_nil : ∀ ws : List (List Nat), TL.joinL [] ws = ws.flatten
  | [] => rfl
  | [w] => by simp [TL.joinL]
  | w :: v :: r => by
    show w ++ ([] ++ TL.joinL [] (v :: r)) = _
    rw [joinL_nil (v :: r)]; rfl
theorem join_words (ws : List (List Nat)) : Txt.join (Str.ofString "") (ws.map S) = S ws.flatten := by
  rw [TL.join_eq]
  have e : cs (Str.join (Str.ofString "") (ws.map S)) = ws.flatten := by
    rw [show cs (Str.join (Str.ofString "") (ws.map S)) = TL.tl (Str.join (Str.ofString "") (ws.map S)) from rfl, TL.tl_join, List.map_map]
    have : (ws.map (TL.tl ∘ S)) = ws := by
      rw [show (TL.tl ∘ S) = id from funext fun l => S_tl l]; simp
    rw [this]
    exact joinL_nil ws
  rw [← S_of (Str.join _ _), e]
theorem sum_words (ws : List (List Nat)) : ((ws.map S).map (·.length)).sum = ws.flatten.length := by
  induction ws with
  | nil => rfl
  | cons w r ih => rw [List.map_cons, List.map_cons, List.sum_cons, ih, List.flatten_cons, List.length_append, S_len]
end My
namespace My
open PySem PySem.Spec PyProof.Rows L2
theorem Dcd.go_app (D : Dcd) (l2 : List Nat) : ∀ (l1 : List Nat) (s : Nat), D.go s (l1 ++ l2) = match D.go s l1 with
    | none => none
    | some (t, u) => (D.go t l2).map fun (p : Nat × List Nat) => (p.1, u ++ p.2)
  | [], s => by
    show D.go s l2 = (D.go s l2).map fun (p : Nat × List Nat) => (p.1, [] ++ p.2)
    cases D.go s l2 with
    | none => rfl
    | some p => rfl
  | b :: l, s => by
    show (match D.at s b with | none => none | some (g, w) => (D.go g (l ++ l2)).map fun (p : Nat × List Nat) => (p.1, w ++ p.2)) = match (match D.at s b with | none => none | some (g, w) => (D.go g l).map fun (p : Nat × List Nat) => (p.1, w ++ p.2)) with | none => none | some (t, u) => (D.go t l2).map fun (p : Nat × List Nat) => (p.1, u ++ p.2)
    cases h : D.at s b with
    | none => rfl
    | some p =>
      obtain ⟨g, w⟩ := p
      show (D.go g (l ++ l2)).map _ = match (D.go g l).map (fun (p : Nat × List Nat) => (p.1, w ++ p.2)) with | none => none | some (t, u) => (D.go t l2).map fun (p : Nat × List Nat) => (p.1, u ++ p.2)
      rw [D.go_app l2 l g]
      cases D.go g l with
      | none => rfl
      | some q =>
        obtain ⟨t, u⟩ := q
        show Option.map _ (Option.map _ (D.go t l2)) = Option.map _ (D.go t l2)
        rw [Option.map_map]
        cases D.go t l2 with
        | none => rfl
        | some r => obtain ⟨x, y⟩ := r; show some (x, w ++ (u ++ y)) = some (x, w ++ u ++ y); rw [List.append_assoc]
theorem Dcd.go_none (D : Dcd) {l : List Nat} {s i : Nat} (h : D.go s (l.take i) = none) : D.go s l = none := by
  have := D.go_app (l.drop i) (l.take i) s
  rw [List.take_append_drop, h] at this
  exact this
theorem Dcd.wr_none (D : Dcd) {l : List Nat} {i : Nat} (h : D.go 0 (l.take i) = none) : D.wr l = none := by
  unfold Dcd.wr
  rw [D.go_none h]
theorem take_snoc {l : List Nat} {i a : Nat} (h : l[i]? = some a) : l.take (i + 1) = l.take i ++ [a] := by rw [List.take_add_one, h]; rfl
end My
namespace My
open PySem PySem.Spec PyProof.Rows L2
theorem wo_wo {H : Hp} {D : Addr} : wo (wo H D) D = wo H D := by
  funext b
  by_cases e : b = D
  · rw [e, wo_at, wo_at]
  · rw [wo_ne e]
/-- a comprehension over a range whose items are data -/
theorem lc_range_data {K : PySem.W.Frag} {m : Bool} {p : Addr} {lo : Int} {n : Nat} {g : TG} {tt : TT} {te : TE} {vs : List Nat} {σ : L2.St} {H1 : Hp} {D : Addr} {Qd : Hp → Prop} (f : Nat → PyData) (hD : H1 D = none) (hn : n ≤ 100000)
    (step : ∀ j H' (R : VK) (N : Hp → Prop), j < n → Same H1 H' → H' D ≠ none → (∀ y H4, Same H' H4 → Dg K (wo (wo H4 p) D) m y (f j) → R y H4) →
      g (.int (lo + j)) (wipe σ vs) H' fun σ2 H2 => wipe σ2 vs = wipe σ vs ∧ tt σ2 H2 fun b H3 => if b = true then te σ2 H3 R else N H3)
    (done : ∀ H' xs, Same H1 H' → H' D = some (.lst xs) → DgAll K (wo (wo H' p) D) m xs ((List.range n).map f) → Qd H') :
    ∃ W : Nat → Nat → Hp → Prop, (∃ m, W 0 m (L2.upd H1 D (.lst []))) ∧ ∀ i m H, W i m H →
      ((Itr lo n).stop i H ∧ Qd H) ∨ ((Itr lo n).go i H ∧ ∃ Nx : Hp → Prop, (∀ H', Nx H' → ∃ m', m' < m ∧ W (i + 1) m' H') ∧ ∀ x H', (Itr lo n).yld i H x H' → g x (wipe σ vs) H' fun σ2 H2 => wipe σ2 vs = wipe σ vs ∧ tt σ2 H2 fun b H3 =>
        if b = true then te σ2 H3 fun y H4 => ∃ acc, H4 D = some (.lst acc) ∧ acc.length < sizeLine ∧ Nx (L2.upd H4 D (.lst (acc ++ [y]))) else Nx H3) := by
  refine lc_range (lo := lo) (n := n) (fun i H' => AcM K m p H1 D ((List.range i).map f) H') (AcM.start hD) ?_ ?_
  · rintro i H' hi hA
    refine step i H' _ _ hi hA.1 hA.ne fun y H4 s4 dy => ?_
    have := hA.snoc hD (by rw [List.length_map, List.length_range]; omega) s4 dy
    rw [List.range_succ, List.map_append]
    exact this
  · rintro H' ⟨s', acc, e, ha⟩
    exact done H' acc s' e ha
/-- over a list of known values -/
theorem lc_list_data {K : PySem.W.Frag} {m : Bool} {p a : Addr} {xs : List V} {g : TG} {tt : TT} {te : TE} {vs : List Nat} {σ : L2.St} {H1 : Hp} {D : Addr} {Qd : Hp → Prop} (f : Nat → PyData) (hL : SqL K H1 a xs) (hD : H1 D = none) (hn : xs.length ≤ 100000)
    (step : ∀ j x H' (R : VK) (N : Hp → Prop), xs[j]? = some x → Same H1 H' → H' D ≠ none → (∀ y H4, Same H' H4 → Dg K (wo (wo H4 p) D) m y (f j) → R y H4) →
      g x (wipe σ vs) H' fun σ2 H2 => wipe σ2 vs = wipe σ vs ∧ tt σ2 H2 fun b H3 => if b = true then te σ2 H3 R else N H3)
    (done : ∀ H' ys, Same H1 H' → H' D = some (.lst ys) → DgAll K (wo (wo H' p) D) m ys ((List.range xs.length).map f) → Qd H') :
    ∃ W : Nat → Nat → Hp → Prop, (∃ m, W 0 m (L2.upd H1 D (.lst []))) ∧ ∀ i m H, W i m H →
      ((Itl K a).stop i H ∧ Qd H) ∨ ((Itl K a).go i H ∧ ∃ Nx : Hp → Prop, (∀ H', Nx H' → ∃ m', m' < m ∧ W (i + 1) m' H') ∧ ∀ x H', (Itl K a).yld i H x H' → g x (wipe σ vs) H' fun σ2 H2 => wipe σ2 vs = wipe σ vs ∧ tt σ2 H2 fun b H3 =>
        if b = true then te σ2 H3 fun y H4 => ∃ acc, H4 D = some (.lst acc) ∧ acc.length < sizeLine ∧ Nx (L2.upd H4 D (.lst (acc ++ [y]))) else Nx H3) := by
  refine lc_list (K := K) (a := a) (xs := xs) (fun i H' => AcM K m p H1 D ((List.range i).map f) H') (AcM.start hD) (fun i H' _ h => hL.ext h.1) ?_ ?_
  · rintro i x H' hx hA
    have hi := (List.getElem?_eq_some_iff.mp hx).1
    refine step i x H' _ _ hx hA.1 hA.ne fun y H4 s4 dy => ?_
    have := hA.snoc hD (by rw [List.length_map, List.length_range]; omega) s4 dy
    rw [List.range_succ, List.map_append]
    exact this
  · rintro H' ⟨s', acc, e, ha⟩
    exact done H' acc s' e ha
/-- what the list at D holds, told without D -/
theorem own_list {K : PySem.W.Frag} {m : Bool} {p D : Addr} {H : Hp} {xs : List V} {ds : List PyData} (h : DgAll K (wo (wo H p) D) m xs ds) : DgAll K (wo H p) m xs ds := h.ext fun _ _ e => wo_le e
theorem own_list0 {K : PySem.W.Frag} {m : Bool} {D : Addr} {H : Hp} {xs : List V} {ds : List PyData} (h : DgAll K (wo (wo H D) D) m xs ds) : DgAll K H m xs ds := h.ext fun _ _ e => wo_le (wo_le e)
/-- a decoder's parts as lists -/
def Dcd.stL (D : Dcd) : PyData := .list (D.st.map fun r => .list (r.map My.enD))
def Dcd.enL (D : Dcd) : PyData := .list (D.en.map wdD)
theorem Dcd.goodL {D : Dcd} (h : D.ok) : GoodD D (.int (D.sg : Nat)) D.stL D.enL :=
  ⟨h, rfl, rfl, fun r hr => by
    obtain ⟨x, _, rfl⟩ := List.mem_map.mp hr
    rfl, by show (D.st.map fun r => PyData.list (r.map My.enD)).map itsD = _; rw [List.map_map]; rfl, rfl, rfl⟩
theorem weight_all {α : Type} {f : α → PyData} {k : Nat} : ∀ l : List α, (∀ a ∈ l, (f a).weight ≤ k) → PyData.weightAll (l.map f) ≤ (k + 1) * l.length
  | [], _ => by simp [PyData.weightAll]
  | a :: l, h => by
    rw [List.map_cons]
    unfold PyData.weightAll
    have h1 := h a List.mem_cons_self
    have h2 := weight_all l fun b hb => h b (List.mem_cons_of_mem _ hb)
    rw [List.length_cons, Nat.mul_succ]; omega
theorem weight_stL {D : Dcd} (h : D.ok) : D.stL.weight ≤ 100000 := by
  have n40 := h.n40
  have s5 := h.s5
  unfold Dcd.stL
  rw [PyData.weight]
  refine Nat.le_trans (weight_all (k := 210) _ fun r hr => ?_) (by omega)
  rw [PyData.weight]
  obtain ⟨l, o⟩ := h.rows r hr
  refine Nat.le_trans (weight_all (k := 40) _ fun e he => (fit_enD (o e he) n40).w) (by omega)
theorem weight_enL {D : Dcd} (h : D.ok) : D.enL.weight ≤ 100000 := by
  have n40 := h.n40
  have le := h.ends
  unfold Dcd.enL
  rw [PyData.weight]
  refine Nat.le_trans (weight_all (k := 4) _ fun e he => (fit_wdD fun w q => h.words e he w q).w) (by omega)
/-- where a new instance is made, the data stand beside it -/
theorem made_dw {K : PySem.W.Frag} {H : Hp} {x dx : Addr} {o : HO} {C : Addr} {m : Bool} {v : V} {d : PyData} (hx : H x = none) (hdx : H dx = none) (h : Dg K H m v d) : Dw K x (L2.upd (L2.upd H dx o) x (.ins C dx [])) m v d := by
  refine h.ext fun b ob e => ?_
  have n1 : b ≠ x := fun z => by rw [z, hx] at e; cases e
  have n2 : b ≠ dx := fun z => by rw [z, hdx] at e; cases e
  rw [wo_ne n1, upd_ne n1, upd_ne n2]; exact e
theorem made_same {H H' : Hp} {x dx : Addr} {o : HO} {C : Addr} (hx : H x = none) (hdx : H dx = none) (k : Kp x (L2.upd (L2.upd H dx o) x (.ins C dx [])) H') : Same H H' := fun b ob e => by
  have n1 : b ≠ x := fun z => by rw [z, hx] at e; cases e
  have n2 : b ≠ dx := fun z => by rw [z, hdx] at e; cases e
  exact k b ob n1 (by rw [upd_ne n1, upd_ne n2]; exact e)
end My
namespace My
open PySem PySem.Spec PyProof.Rows L2
/-- a new tuple of known items, in a comprehension -/
theorem tup_new {K : PySem.W.Frag} {m : Bool} {p D t : Addr} {H : Hp} {xs : List V} {ds : List PyData} (eD : H D ≠ none) (ep : H p ≠ none) (ht : H t = none) (h : ∀ G, DgAll K G m xs ds) : Same H (L2.upd H t (.tup xs)) ∧ Dg K (wo (wo (L2.upd H t (.tup xs)) p) D) m (.ref t) (.tuple ds) := by
  have n1 : t ≠ D := fun z => eD (by rw [← z]; exact ht)
  have n2 : t ≠ p := fun z => ep (by rw [← z]; exact ht)
  exact ⟨Same.new (Same.refl _) ht, .tup (SqT.of (by rw [wo_ne n1, wo_ne n2]; exact upd_same)) (h _)⟩
end My

set_option Elab.async false
set_option linter.all false
set_option maxRecDepth 100000
set_option maxHeartbeats 2000000
namespace My
open PySem PySem.Spec PyProof.Rows L2
def topS (i : Nat) : Stmt := PySem.Challenge.pw_spoiltline_k53_codecs_of_usual_kinds.main.body.getD i (.Pass ⟨0, 0, 0, 0⟩)
abbrev s_is_integer : Stmt := topS 4
abbrev N_is_integer : List Str := ["value"]
theorem sc_is_integer : FnScope N_is_integer ["value"] (defScope s_is_integer) := ⟨rfl, rfl, rfl, by decide +kernel, rfl, by decide +kernel, by decide +kernel⟩
abbrev s_is_count : Stmt := topS 5
abbrev N_is_count : List Str := ["value"]
theorem sc_is_count : FnScope N_is_count ["value"] (defScope s_is_count) := ⟨rfl, rfl, rfl, by decide +kernel, rfl, by decide +kernel, by decide +kernel⟩
abbrev s_is_list : Stmt := topS 6
abbrev N_is_list : List Str := ["value"]
theorem sc_is_list : FnScope N_is_list ["value"] (defScope s_is_list) := ⟨rfl, rfl, rfl, by decide +kernel, rfl, by decide +kernel, by decide +kernel⟩
abbrev s_is_text : Stmt := topS 7
abbrev N_is_text : List Str := ["value"]
theorem sc_is_text : FnScope N_is_text ["value"] (defScope s_is_text) := ⟨rfl, rfl, rfl, by decide +kernel, rfl, by decide +kernel, by decide +kernel⟩
abbrev s_is_word : Stmt := topS 8
abbrev N_is_word : List Str := ["value"]
theorem sc_is_word : FnScope N_is_word ["value"] (defScope s_is_word) := ⟨rfl, rfl, rfl, by decide +kernel, rfl, by decide +kernel, by decide +kernel⟩
abbrev s_is_number_of_signs : Stmt := topS 9
abbrev N_is_number_of_signs : List Str := ["value"]
theorem sc_is_number_of_signs : FnScope N_is_number_of_signs ["value"] (defScope s_is_number_of_signs) := ⟨rfl, rfl, rfl, by decide +kernel, rfl, by decide +kernel, by decide +kernel⟩
abbrev s_is_below : Stmt := topS 10
abbrev N_is_below : List Str := ["value", "limit"]
theorem sc_is_below : FnScope N_is_below ["value", "limit"] (defScope s_is_below) := ⟨rfl, rfl, rfl, by decide +kernel, rfl, by decide +kernel, by decide +kernel⟩
abbrev s_is_line : Stmt := topS 11
abbrev N_is_line : List Str := ["value", "signs", "sign"]
theorem sc_is_line : FnScope N_is_line ["value", "signs"] (defScope s_is_line) := ⟨rfl, rfl, rfl, by decide +kernel, rfl, by decide +kernel, by decide +kernel⟩
abbrev s_are_steps : Stmt := topS 22
abbrev N_are_steps : List Str := ["value", "signs", "row"]
theorem sc_are_steps : FnScope N_are_steps ["value", "signs"] (defScope s_are_steps) := ⟨rfl, rfl, rfl, by decide +kernel, rfl, by decide +kernel, by decide +kernel⟩
abbrev s_are_entries : Stmt := topS 23
abbrev N_are_entries : List Str := ["value", "signs", "states", "entry"]
theorem sc_are_entries : FnScope N_are_entries ["value", "signs", "states"] (defScope s_are_entries) := ⟨rfl, rfl, rfl, by decide +kernel, rfl, by decide +kernel, by decide +kernel⟩
abbrev s_is_step : Stmt := topS 24
abbrev N_is_step : List Str := ["value", "states"]
theorem sc_is_step : FnScope N_is_step ["value", "states"] (defScope s_is_step) := ⟨rfl, rfl, rfl, by decide +kernel, rfl, by decide +kernel, by decide +kernel⟩
abbrev s_are_ends : Stmt := topS 25
abbrev N_are_ends : List Str := ["value", "states", "end"]
theorem sc_are_ends : FnScope N_are_ends ["value", "states"] (defScope s_are_ends) := ⟨rfl, rfl, rfl, by decide +kernel, rfl, by decide +kernel, by decide +kernel⟩
abbrev s_check_signs : Stmt := topS 27
abbrev N_check_signs : List Str := ["value"]
theorem sc_check_signs : FnScope N_check_signs ["value"] (defScope s_check_signs) := ⟨rfl, rfl, rfl, by decide +kernel, rfl, by decide +kernel, by decide +kernel⟩
abbrev s_copier : Stmt := topS 30
abbrev N_copier : List Str := ["signs", "sign"]
theorem sc_copier : FnScope N_copier ["signs"] (defScope s_copier) := ⟨rfl, rfl, rfl, by decide +kernel, rfl, by decide +kernel, by decide +kernel⟩
abbrev s_escaped : Stmt := topS 31
abbrev N_escaped : List Str := ["signs", "mark", "plain", "sign", "marked"]
theorem sc_escaped : FnScope N_escaped ["signs", "mark"] (defScope s_escaped) := ⟨rfl, rfl, rfl, by decide +kernel, rfl, by decide +kernel, by decide +kernel⟩
abbrev s_shifted : Stmt := topS 32
abbrev N_shifted : List Str := ["signs", "one", "sign", "other"]
theorem sc_shifted : FnScope N_shifted ["signs"] (defScope s_shifted) := ⟨rfl, rfl, rfl, by decide +kernel, rfl, by decide +kernel, by decide +kernel⟩
abbrev s_run_lengths : Stmt := topS 33
abbrev N_run_lengths : List Str := ["signs", "first", "sign", "others", "times"]
theorem sc_run_lengths : FnScope N_run_lengths ["signs"] (defScope s_run_lengths) := ⟨rfl, rfl, rfl, by decide +kernel, rfl, by decide +kernel, by decide +kernel⟩
abbrev s_law_cell : Stmt := topS 35
abbrev N_law_cell : List Str := ["script", "k"]
theorem sc_law_cell : FnScope N_law_cell ["script", "k"] (defScope s_law_cell) := ⟨rfl, rfl, rfl, by decide +kernel, rfl, by decide +kernel, by decide +kernel⟩
abbrev s_law_box : Stmt := topS 36
abbrev N_law_box : List Str := ["great"]
theorem sc_law_box : FnScope N_law_box ["great"] (defScope s_law_box) := ⟨rfl, rfl, rfl, by decide +kernel, rfl, by decide +kernel, by decide +kernel⟩
abbrev s_law_take : Stmt := topS 37
abbrev N_law_take : List Str := ["box", "many", "digit", "mixed"]
theorem sc_law_take : FnScope N_law_take ["box", "many"] (defScope s_law_take) := ⟨rfl, rfl, rfl, by decide +kernel, rfl, by decide +kernel, by decide +kernel⟩
abbrev s_law_whole : Stmt := topS 38
abbrev N_law_whole : List Str := ["thing", "least", "most"]
theorem sc_law_whole : FnScope N_law_whole ["thing", "least", "most"] (defScope s_law_whole) := ⟨rfl, rfl, rfl, by decide +kernel, rfl, by decide +kernel, by decide +kernel⟩
abbrev s_law_odd : Stmt := topS 39
abbrev N_law_odd : List Str := ["box", "most", "menu"]
theorem sc_law_odd : FnScope N_law_odd ["box", "most"] (defScope s_law_odd) := ⟨rfl, rfl, rfl, by decide +kernel, rfl, by decide +kernel, by decide +kernel⟩
abbrev s_law_copy : Stmt := topS 40
abbrev N_law_copy : List Str := ["thing"]
theorem sc_law_copy : FnScope N_law_copy ["thing"] (defScope s_law_copy) := ⟨rfl, rfl, rfl, by decide +kernel, rfl, by decide +kernel, by decide +kernel⟩
abbrev s_law_made : Stmt := topS 41
abbrev N_law_made : List Str := ["way", "named", "many", "special"]
theorem sc_law_made : FnScope N_law_made ["way", "named", "many", "special"] (defScope s_law_made) := ⟨rfl, rfl, rfl, by decide +kernel, rfl, by decide +kernel, by decide +kernel⟩
abbrev s_law_told : Stmt := topS 42
abbrev N_law_told : List Str := ["way", "named", "many", "special", "e"]
theorem sc_law_told : FnScope N_law_told ["way", "named", "many", "special"] (defScope s_law_told) := ⟨rfl, rfl, rfl, by decide +kernel, rfl, by decide +kernel, by decide +kernel⟩
abbrev s_law_parts : Stmt := topS 43
abbrev N_law_parts : List Str := ["way", "many", "special", "names", "name", "plain", "small", "steps", "k"]
theorem sc_law_parts : FnScope N_law_parts ["way", "many", "special"] (defScope s_law_parts) := ⟨rfl, rfl, rfl, by decide +kernel, rfl, by decide +kernel, by decide +kernel⟩
abbrev s_law_read : Stmt := topS 44
abbrev N_law_read : List Str := ["way", "many", "special", "line", "found", "held", "mode", "sign", "name"]
theorem sc_law_read : FnScope N_law_read ["way", "many", "special", "line"] (defScope s_law_read) := ⟨rfl, rfl, rfl, by decide +kernel, rfl, by decide +kernel, by decide +kernel⟩
abbrev s_law_made_right : Stmt := topS 45
abbrev N_law_made_right : List Str := ["box", "way", "many", "special", "made", "steps", "ends", "due", "row", "turn", "line", "k"]
theorem sc_law_made_right : FnScope N_law_made_right ["box", "way", "many", "special", "made"] (defScope s_law_made_right) := ⟨rfl, rfl, rfl, by decide +kernel, rfl, by decide +kernel, by decide +kernel⟩
abbrev s_law_one_right : Stmt := topS 46
abbrev N_law_one_right : List Str := ["box", "way", "named", "slip", "many", "good", "special", "right", "told", "again", "due"]
theorem sc_law_one_right : FnScope N_law_one_right ["box"] (defScope s_law_one_right) := ⟨rfl, rfl, rfl, by decide +kernel, rfl, by decide +kernel, by decide +kernel⟩
abbrev s_law : Stmt := topS 47
abbrev N_law : List Str := ["script", "k"]
theorem sc_law : FnScope N_law ["script"] (defScope s_law) := ⟨rfl, rfl, rfl, by decide +kernel, rfl, by decide +kernel, by decide +kernel⟩
abbrev s_Decoder_init : Stmt := inClass (topS 21) 0
abbrev N_Decoder_init : List Str := ["self", "signs", "steps", "ends", "row"]
theorem sc_Decoder_init : FnScope N_Decoder_init ["self", "signs", "steps", "ends"] (defScope s_Decoder_init) := ⟨rfl, rfl, rfl, by decide +kernel, rfl, by decide +kernel, by decide +kernel⟩
abbrev s_Decoder_eq : Stmt := inClass (topS 21) 1
abbrev N_Decoder_eq : List Str := ["self", "other"]
theorem sc_Decoder_eq : FnScope N_Decoder_eq ["self", "other"] (defScope s_Decoder_eq) := ⟨rfl, rfl, rfl, by decide +kernel, rfl, by decide +kernel, by decide +kernel⟩
abbrev s_Decoder_written : Stmt := inClass (topS 21) 2
abbrev N_Decoder_written : List Str := ["self", "line", "state", "words", "sign", "entry", "word"]
theorem sc_Decoder_written : FnScope N_Decoder_written ["self", "line"] (defScope s_Decoder_written) := ⟨rfl, rfl, rfl, by decide +kernel, rfl, by decide +kernel, by decide +kernel⟩
structure Txt (K : PySem.W.Frag) (mg : Str → Option Value) where
  f_is_integer : Addr
  fd_is_integer : FuncData
  F_is_integer : Fun K "is_integer" "is_integer" s_is_integer f_is_integer fd_is_integer
  b_is_integer : Binds K fd_is_integer ["value"] []
  g_is_integer : mg "is_integer" = some (.ref f_is_integer)
  f_is_count : Addr
  fd_is_count : FuncData
  F_is_count : Fun K "is_count" "is_count" s_is_count f_is_count fd_is_count
  b_is_count : Binds K fd_is_count ["value"] []
  g_is_count : mg "is_count" = some (.ref f_is_count)
  f_is_list : Addr
  fd_is_list : FuncData
  F_is_list : Fun K "is_list" "is_list" s_is_list f_is_list fd_is_list
  b_is_list : Binds K fd_is_list ["value"] []
  g_is_list : mg "is_list" = some (.ref f_is_list)
  f_is_text : Addr
  fd_is_text : FuncData
  F_is_text : Fun K "is_text" "is_text" s_is_text f_is_text fd_is_text
  b_is_text : Binds K fd_is_text ["value"] []
  g_is_text : mg "is_text" = some (.ref f_is_text)
  f_is_word : Addr
  fd_is_word : FuncData
  F_is_word : Fun K "is_word" "is_word" s_is_word f_is_word fd_is_word
  b_is_word : Binds K fd_is_word ["value"] []
  g_is_word : mg "is_word" = some (.ref f_is_word)
  f_is_number_of_signs : Addr
  fd_is_number_of_signs : FuncData
  F_is_number_of_signs : Fun K "is_number_of_signs" "is_number_of_signs" s_is_number_of_signs f_is_number_of_signs fd_is_number_of_signs
  b_is_number_of_signs : Binds K fd_is_number_of_signs ["value"] []
  g_is_number_of_signs : mg "is_number_of_signs" = some (.ref f_is_number_of_signs)
  f_is_below : Addr
  fd_is_below : FuncData
  F_is_below : Fun K "is_below" "is_below" s_is_below f_is_below fd_is_below
  b_is_below : Binds K fd_is_below ["value", "limit"] []
  g_is_below : mg "is_below" = some (.ref f_is_below)
  f_is_line : Addr
  fd_is_line : FuncData
  F_is_line : Fun K "is_line" "is_line" s_is_line f_is_line fd_is_line
  b_is_line : Binds K fd_is_line ["value", "signs"] []
  g_is_line : mg "is_line" = some (.ref f_is_line)
  f_are_steps : Addr
  fd_are_steps : FuncData
  F_are_steps : Fun K "are_steps" "are_steps" s_are_steps f_are_steps fd_are_steps
  b_are_steps : Binds K fd_are_steps ["value", "signs"] []
  g_are_steps : mg "are_steps" = some (.ref f_are_steps)
  f_are_entries : Addr
  fd_are_entries : FuncData
  F_are_entries : Fun K "are_entries" "are_entries" s_are_entries f_are_entries fd_are_entries
  b_are_entries : Binds K fd_are_entries ["value", "signs", "states"] []
  g_are_entries : mg "are_entries" = some (.ref f_are_entries)
  f_is_step : Addr
  fd_is_step : FuncData
  F_is_step : Fun K "is_step" "is_step" s_is_step f_is_step fd_is_step
  b_is_step : Binds K fd_is_step ["value", "states"] []
  g_is_step : mg "is_step" = some (.ref f_is_step)
  f_are_ends : Addr
  fd_are_ends : FuncData
  F_are_ends : Fun K "are_ends" "are_ends" s_are_ends f_are_ends fd_are_ends
  b_are_ends : Binds K fd_are_ends ["value", "states"] []
  g_are_ends : mg "are_ends" = some (.ref f_are_ends)
  f_check_signs : Addr
  fd_check_signs : FuncData
  F_check_signs : Fun K "check_signs" "check_signs" s_check_signs f_check_signs fd_check_signs
  b_check_signs : Binds K fd_check_signs ["value"] []
  g_check_signs : mg "check_signs" = some (.ref f_check_signs)
  f_copier : Addr
  fd_copier : FuncData
  F_copier : Fun K "copier" "copier" s_copier f_copier fd_copier
  b_copier : Binds K fd_copier ["signs"] []
  g_copier : mg "copier" = some (.ref f_copier)
  f_escaped : Addr
  fd_escaped : FuncData
  F_escaped : Fun K "escaped" "escaped" s_escaped f_escaped fd_escaped
  b_escaped : Binds K fd_escaped ["signs", "mark"] []
  g_escaped : mg "escaped" = some (.ref f_escaped)
  f_shifted : Addr
  fd_shifted : FuncData
  F_shifted : Fun K "shifted" "shifted" s_shifted f_shifted fd_shifted
  b_shifted : Binds K fd_shifted ["signs"] []
  g_shifted : mg "shifted" = some (.ref f_shifted)
  f_run_lengths : Addr
  fd_run_lengths : FuncData
  F_run_lengths : Fun K "run_lengths" "run_lengths" s_run_lengths f_run_lengths fd_run_lengths
  b_run_lengths : Binds K fd_run_lengths ["signs"] []
  g_run_lengths : mg "run_lengths" = some (.ref f_run_lengths)
  f_law_cell : Addr
  fd_law_cell : FuncData
  F_law_cell : Fun K "_law_cell" "_law_cell" s_law_cell f_law_cell fd_law_cell
  b_law_cell : Binds K fd_law_cell ["script", "k"] []
  g_law_cell : mg "_law_cell" = some (.ref f_law_cell)
  f_law_box : Addr
  fd_law_box : FuncData
  F_law_box : Fun K "_law_box" "_law_box" s_law_box f_law_box fd_law_box
  b_law_box : Binds K fd_law_box ["great"] []
  g_law_box : mg "_law_box" = some (.ref f_law_box)
  f_law_take : Addr
  fd_law_take : FuncData
  F_law_take : Fun K "_law_take" "_law_take" s_law_take f_law_take fd_law_take
  b_law_take : Binds K fd_law_take ["box", "many"] []
  g_law_take : mg "_law_take" = some (.ref f_law_take)
  f_law_whole : Addr
  fd_law_whole : FuncData
  F_law_whole : Fun K "_law_whole" "_law_whole" s_law_whole f_law_whole fd_law_whole
  b_law_whole : Binds K fd_law_whole ["thing", "least", "most"] []
  g_law_whole : mg "_law_whole" = some (.ref f_law_whole)
  f_law_odd : Addr
  fd_law_odd : FuncData
  F_law_odd : Fun K "_law_odd" "_law_odd" s_law_odd f_law_odd fd_law_odd
  b_law_odd : Binds K fd_law_odd ["box", "most"] []
  g_law_odd : mg "_law_odd" = some (.ref f_law_odd)
  f_law_copy : Addr
  fd_law_copy : FuncData
  F_law_copy : Fun K "_law_copy" "_law_copy" s_law_copy f_law_copy fd_law_copy
  b_law_copy : Binds K fd_law_copy ["thing"] []
  g_law_copy : mg "_law_copy" = some (.ref f_law_copy)
  f_law_made : Addr
  fd_law_made : FuncData
  F_law_made : Fun K "_law_made" "_law_made" s_law_made f_law_made fd_law_made
  b_law_made : Binds K fd_law_made ["way", "named", "many", "special"] []
  g_law_made : mg "_law_made" = some (.ref f_law_made)
  f_law_told : Addr
  fd_law_told : FuncData
  F_law_told : Fun K "_law_told" "_law_told" s_law_told f_law_told fd_law_told
  b_law_told : Binds K fd_law_told ["way", "named", "many", "special"] []
  g_law_told : mg "_law_told" = some (.ref f_law_told)
  f_law_parts : Addr
  fd_law_parts : FuncData
  F_law_parts : Fun K "_law_parts" "_law_parts" s_law_parts f_law_parts fd_law_parts
  b_law_parts : Binds K fd_law_parts ["way", "many", "special"] []
  g_law_parts : mg "_law_parts" = some (.ref f_law_parts)
  f_law_read : Addr
  fd_law_read : FuncData
  F_law_read : Fun K "_law_read" "_law_read" s_law_read f_law_read fd_law_read
  b_law_read : Binds K fd_law_read ["way", "many", "special", "line"] []
  g_law_read : mg "_law_read" = some (.ref f_law_read)
  f_law_made_right : Addr
  fd_law_made_right : FuncData
  F_law_made_right : Fun K "_law_made_right" "_law_made_right" s_law_made_right f_law_made_right fd_law_made_right
  b_law_made_right : Binds K fd_law_made_right ["box", "way", "many", "special", "made"] []
  g_law_made_right : mg "_law_made_right" = some (.ref f_law_made_right)
  f_law_one_right : Addr
  fd_law_one_right : FuncData
  F_law_one_right : Fun K "_law_one_right" "_law_one_right" s_law_one_right f_law_one_right fd_law_one_right
  b_law_one_right : Binds K fd_law_one_right ["box"] []
  g_law_one_right : mg "_law_one_right" = some (.ref f_law_one_right)
  f_law : Addr
  fd_law : FuncData
  F_law : Fun K "law" "law" s_law f_law fd_law
  b_law : Binds K fd_law ["script"] []
  g_law : mg "law" = some (.ref f_law)
  C_Decoder : Addr
  f_Decoder_init : Addr
  fd_Decoder_init : FuncData
  F_Decoder_init : Fun K "__init__" "Decoder.__init__" s_Decoder_init f_Decoder_init fd_Decoder_init
  b_Decoder_init : Binds K fd_Decoder_init ["self", "signs", "steps", "ends"] []
  f_Decoder_eq : Addr
  fd_Decoder_eq : FuncData
  F_Decoder_eq : Fun K "__eq__" "Decoder.__eq__" s_Decoder_eq f_Decoder_eq fd_Decoder_eq
  b_Decoder_eq : Binds K fd_Decoder_eq ["self", "other"] []
  f_Decoder_written : Addr
  fd_Decoder_written : FuncData
  F_Decoder_written : Fun K "written" "Decoder.written" s_Decoder_written f_Decoder_written fd_Decoder_written
  b_Decoder_written : Binds K fd_Decoder_written ["self", "line"] []
  m_Decoder_written : Meth K C_Decoder "written" f_Decoder_written
  z_abs : mg "abs" = none
  z_all : mg "all" = none
  z_bool : mg "bool" = none
  z_dict : mg "dict" = none
  z_int : mg "int" = none
  z_isinstance : mg "isinstance" = none
  z_len : mg "len" = none
  z_list : mg "list" = none
  z_max : mg "max" = none
  z_min : mg "min" = none
  z_range : mg "range" = none
  z_repr : mg "repr" = none
  z_str : mg "str" = none
  z_sum : mg "sum" = none
  z_tuple : mg "tuple" = none
  g_Decoder : mg "Decoder" = some (.ref C_Decoder)
  cl_Decoder : Cls K C_Decoder
  mk_Decoder : Mk K C_Decoder f_Decoder_init
  oe_Decoder : OEq K C_Decoder f_Decoder_eq
  na_Decoder_signs : NoAttr K C_Decoder "signs"
  na_Decoder_states : NoAttr K C_Decoder "states"
  na_Decoder_steps : NoAttr K C_Decoder "steps"
  na_Decoder_ends : NoAttr K C_Decoder "ends"
  ii_Decoder : PySem.W.isClsIn K C_Decoder = true
  it_Decoder : PySem.W.typeIn K (.ref C_Decoder) = some (.type "type")
  is_Decoder : PySem.W.subIn K (.ref C_Decoder) (.ref C_Decoder) = some true
  t_MOST_SIGNS : Tok
  c_MOST_SIGNS : mg "MOST_SIGNS" = some (.int (5) t_MOST_SIGNS)
  t_MOST_LETTERS : Tok
  c_MOST_LETTERS : mg "MOST_LETTERS" = some (.int (3) t_MOST_LETTERS)
  t_MOST_STATES : Tok
  c_MOST_STATES : mg "MOST_STATES" = some (.int (40) t_MOST_STATES)
  t_LETTERS : Tok
  c_LETTERS : mg "LETTERS" = some (.str (Str.ofString "abcde") t_LETTERS)
  C_InvalidEnds : Addr
  i_InvalidEnds : Addr
  e_InvalidEnds : ErrX.ETxt K mg "InvalidEnds" "InvalidEnds.__init__" C_InvalidEnds i_InvalidEnds
  x_InvalidEnds : PySem.W.exmOne K (.ref C_InvalidEnds) (.ref C_InvalidEnds) = some true
  C_InvalidLine : Addr
  i_InvalidLine : Addr
  e_InvalidLine : ErrX.ETxt K mg "InvalidLine" "InvalidLine.__init__" C_InvalidLine i_InvalidLine
  x_InvalidLine : PySem.W.exmOne K (.ref C_InvalidLine) (.ref C_InvalidLine) = some true
  C_InvalidSign : Addr
  i_InvalidSign : Addr
  e_InvalidSign : ErrX.ETxt K mg "InvalidSign" "InvalidSign.__init__" C_InvalidSign i_InvalidSign
  x_InvalidSign : PySem.W.exmOne K (.ref C_InvalidSign) (.ref C_InvalidSign) = some true
  C_InvalidSigns : Addr
  i_InvalidSigns : Addr
  e_InvalidSigns : ErrX.ETxt K mg "InvalidSigns" "InvalidSigns.__init__" C_InvalidSigns i_InvalidSigns
  x_InvalidSigns : PySem.W.exmOne K (.ref C_InvalidSigns) (.ref C_InvalidSigns) = some true
  C_InvalidSteps : Addr
  i_InvalidSteps : Addr
  e_InvalidSteps : ErrX.ETxt K mg "InvalidSteps" "InvalidSteps.__init__" C_InvalidSteps i_InvalidSteps
  x_InvalidSteps : PySem.W.exmOne K (.ref C_InvalidSteps) (.ref C_InvalidSteps) = some true
  no_InvalidEnds_InvalidLine : PySem.W.exmOne K (.ref C_InvalidEnds) (.ref C_InvalidLine) = some false
  no_InvalidEnds_InvalidSign : PySem.W.exmOne K (.ref C_InvalidEnds) (.ref C_InvalidSign) = some false
  no_InvalidEnds_InvalidSigns : PySem.W.exmOne K (.ref C_InvalidEnds) (.ref C_InvalidSigns) = some false
  no_InvalidEnds_InvalidSteps : PySem.W.exmOne K (.ref C_InvalidEnds) (.ref C_InvalidSteps) = some false
  no_InvalidLine_InvalidEnds : PySem.W.exmOne K (.ref C_InvalidLine) (.ref C_InvalidEnds) = some false
  no_InvalidLine_InvalidSign : PySem.W.exmOne K (.ref C_InvalidLine) (.ref C_InvalidSign) = some false
  no_InvalidLine_InvalidSigns : PySem.W.exmOne K (.ref C_InvalidLine) (.ref C_InvalidSigns) = some false
  no_InvalidLine_InvalidSteps : PySem.W.exmOne K (.ref C_InvalidLine) (.ref C_InvalidSteps) = some false
  no_InvalidSign_InvalidEnds : PySem.W.exmOne K (.ref C_InvalidSign) (.ref C_InvalidEnds) = some false
  no_InvalidSign_InvalidLine : PySem.W.exmOne K (.ref C_InvalidSign) (.ref C_InvalidLine) = some false
  no_InvalidSign_InvalidSigns : PySem.W.exmOne K (.ref C_InvalidSign) (.ref C_InvalidSigns) = some false
  no_InvalidSign_InvalidSteps : PySem.W.exmOne K (.ref C_InvalidSign) (.ref C_InvalidSteps) = some false
  no_InvalidSigns_InvalidEnds : PySem.W.exmOne K (.ref C_InvalidSigns) (.ref C_InvalidEnds) = some false
  no_InvalidSigns_InvalidLine : PySem.W.exmOne K (.ref C_InvalidSigns) (.ref C_InvalidLine) = some false
  no_InvalidSigns_InvalidSign : PySem.W.exmOne K (.ref C_InvalidSigns) (.ref C_InvalidSign) = some false
  no_InvalidSigns_InvalidSteps : PySem.W.exmOne K (.ref C_InvalidSigns) (.ref C_InvalidSteps) = some false
  no_InvalidSteps_InvalidEnds : PySem.W.exmOne K (.ref C_InvalidSteps) (.ref C_InvalidEnds) = some false
  no_InvalidSteps_InvalidLine : PySem.W.exmOne K (.ref C_InvalidSteps) (.ref C_InvalidLine) = some false
  no_InvalidSteps_InvalidSign : PySem.W.exmOne K (.ref C_InvalidSteps) (.ref C_InvalidSign) = some false
  no_InvalidSteps_InvalidSigns : PySem.W.exmOne K (.ref C_InvalidSteps) (.ref C_InvalidSigns) = some false
end My

set_option Elab.async false
set_option linter.all false
set_option maxRecDepth 100000
set_option maxHeartbeats 8000000
namespace My
open PySem PySem.Spec PyProof.Rows L2
section
variable {P : Program} {w : World} {K : PySem.W.Frag} {mg : Str → Option Value} {base : Heap}
def spD (K : PySem.W.Frag) (f : PyData → Bool) : Sp := fun vs H Q _ => ∃ x d m, vs = [x] ∧ Dg K H m x d ∧ Q (.bl (f d)) H
def spDn (K : PySem.W.Frag) (f : Int → PyData → Bool) : Sp := fun vs H Q _ => ∃ x d m n, vs = [x, .int n] ∧ Dg K H m x d ∧ Q (.bl (f n d)) H
def spDw (K : PySem.W.Frag) (f : PyData → Bool) : Sp := fun vs H Q _ => ∃ x d m, vs = [x] ∧ Dg K H m x d ∧ d.weight ≤ 100000 ∧ Q (.bl (f d)) H
def spDnw (K : PySem.W.Frag) (f : Int → PyData → Bool) : Sp := fun vs H Q _ => ∃ x d m n, vs = [x, .int n] ∧ Dg K H m x d ∧ d.weight ≤ 100000 ∧ Q (.bl (f n d)) H
def spDns (K : PySem.W.Frag) (f : Int → PyData → Bool) : Sp := fun vs H Q _ => ∃ x d m n, vs = [x, .int n] ∧ Dg K H m x d ∧ d.weight ≤ 100000 ∧ ∀ H', Same H H' → Q (.bl (f n d)) H'
theorem all_id {f : PyData → Bool} (l : List PyData) : (l.map f).all id = l.all f := by rw [List.all_map]; rfl
theorem ok_is_integer (T : Txt K mg) : FnOk P w K mg base CX0 1 T.f_is_integer T.fd_is_integer ["value"] (spD K isI) := by
  refine T.F_is_integer.ok sc_is_integer (fun vs H Q E h => ?_) (fun cdv A outer s H vs Q E hr h => ?_)
  · obtain ⟨x, d, m, rfl, _⟩ := h; rfl
  · obtain ⟨x, d, m, rfl, hd, q⟩ := h
    refine ⟨_, (pss_one (ps_ret (pe_and (pe_callB call_isi (by rfl) T.z_isinstance (by decide +kernel) (pa_cons (pv 0) (pa_cons (pe_bltn (v := .ty "int") (u := .type "int") (by rfl) T.z_int (by decide +kernel) rfl) pa_nil))) (pe_one (pe_not (pe_callB call_isi (by rfl) T.z_isinstance (by decide +kernel) (pa_cons (pv 0) (pa_cons (pe_bltn (v := .ty "bool") (u := .type "bool") (by rfl) T.z_bool (by decide +kernel) rfl) pa_nil)))))))), ?_⟩
    have e : (isNumD d && !isBlD d) = isI d := by cases d <;> rfl
    rw [← e] at q
    refine ⟨_, rfl, _, _, _, _, isNumD d, rfl, .ty _, hd.ty, kit_numD d, _, rfl, ?_⟩
    cases h1 : isNumD d with
    | false => rw [h1] at q; exact iteF q
    | true =>
      rw [h1, Bool.true_and] at q
      exact iteT ⟨_, rfl, _, _, _, _, isBlD d, rfl, .ty _, hd.ty, kit_blD d, _, rfl, q⟩
theorem ok_is_count (T : Txt K mg) : FnOk P w K mg base CX0 2 T.f_is_count T.fd_is_count ["value"] (spD K isCn) := by
  refine T.F_is_count.ok sc_is_count (fun vs H Q E h => ?_) (fun cdv A outer s H vs Q E hr h => ?_)
  · obtain ⟨x, d, m, rfl, _⟩ := h; rfl
  · obtain ⟨x, d, m, rfl, hd, q⟩ := h
    refine ⟨_, (pss_one (ps_ret (pe_and (pe_call (ok_is_integer T) (hr.mono (by decide)) rfl T.g_is_integer T.F_is_integer.kp T.b_is_integer .nil pass0 (pa_cons (pv 0) pa_nil)) (pe_one (pe_cmpR op_ge (pv 0) pe_int (nomark _)))))), ?_⟩
    refine ⟨_, rfl, x, d, m, rfl, hd, _, rfl, ?_⟩
    cases d with
    | int i =>
      obtain rfl := hd.int_of
      exact iteT ⟨_, rfl, _, _, rfl, rfl, q⟩
    | _ => exact iteF q
theorem ok_is_list (T : Txt K mg) : FnOk P w K mg base CX0 1 T.f_is_list T.fd_is_list ["value"] (fun vs H Q _ => ∃ x d m, vs = [x] ∧ Dg K H m x d ∧ ∀ H', Same H H' → Q (.bl (isSqD d)) H') := by
  refine T.F_is_list.ok sc_is_list (fun vs H Q E h => ?_) (fun cdv A outer s H vs Q E hr h => ?_)
  · obtain ⟨x, d, m, rfl, _⟩ := h; rfl
  · obtain ⟨x, d, m, rfl, hd, q⟩ := h
    refine ⟨_, (pss_one (ps_ret (pe_callB call_isiT (by rfl) T.z_isinstance (by decide +kernel) (pa_cons (pv 0) (pa_cons (pe_tup (pa_cons (pe_bltn (v := .ty "list") (u := .type "list") (by rfl) T.z_list (by decide +kernel) rfl) (pa_cons (pe_bltn (v := .ty "tuple") (u := .type "tuple") (by rfl) T.z_tuple (by decide +kernel) rfl) pa_nil))) pa_nil))))), ?_⟩
    exact ⟨_, rfl, (by show 2 ≤ sizeLine; decide), fun tp htp => ⟨_, tp, _, _, [.type "list", .type "tuple"], isSqD d, rfl, upd_same, .cons (.ty _) (.cons (.ty _) .nil), (hd.ext (Same.new (Same.refl H) htp)).ty, kit_sqD d, q _ (Same.new (Same.refl H) htp)⟩⟩
theorem ok_is_number_of_signs (T : Txt K mg) : FnOk P w K mg base CX0 2 T.f_is_number_of_signs T.fd_is_number_of_signs ["value"] (spD K isSg) := by
  refine T.F_is_number_of_signs.ok sc_is_number_of_signs (fun vs H Q E h => ?_) (fun cdv A outer s H vs Q E hr h => ?_)
  · obtain ⟨x, d, m, rfl, _⟩ := h; rfl
  · obtain ⟨x, d, m, rfl, hd, q⟩ := h
    refine ⟨_, (pss_one (ps_ret (pe_and (pe_call (ok_is_integer T) (hr.mono (by decide)) rfl T.g_is_integer T.F_is_integer.kp T.b_is_integer .nil pass0 (pa_cons (pv 0) pa_nil)) (pe_one (pe_chain op_le op_le pe_int (pv 0) (pe_glob (v := .int (5)) rfl T.c_MOST_SIGNS ⟨_, rfl⟩)))))), ?_⟩
    refine ⟨_, rfl, x, d, m, rfl, hd, _, rfl, ?_⟩
    cases d with
    | int i =>
      obtain rfl := hd.int_of
      refine iteT ⟨_, rfl, _, _, rfl, rfl, _, rfl, ?_⟩
      have q' : Q (.bl (decide (1 ≤ i) && decide (i ≤ 5))) H := q
      refine ite2 (fun c => ?_) (fun c => ?_)
      · rw [c, Bool.true_and] at q'
        exact ⟨_, _, rfl, rfl, q'⟩
      · rw [Bool.not_eq_true] at c
        rw [c, Bool.false_and] at q'
        exact q'
    | _ => exact iteF q
theorem ok_is_below (T : Txt K mg) : FnOk P w K mg base CX0 3 T.f_is_below T.fd_is_below ["value", "limit"] (spDn K isBe) := by
  refine T.F_is_below.ok sc_is_below (fun vs H Q E h => ?_) (fun cdv A outer s H vs Q E hr h => ?_)
  · obtain ⟨x, d, m, n, rfl, _⟩ := h; rfl
  · obtain ⟨x, d, m, n, rfl, hd, q⟩ := h
    refine ⟨_, (pss_one (ps_ret (pe_and (pe_call (ok_is_count T) (hr.mono (by decide)) rfl T.g_is_count T.F_is_count.kp T.b_is_count .nil pass0 (pa_cons (pv 0) pa_nil)) (pe_one (pe_cmpR op_lt (pv 0) (pv 1) (nomark _)))))), ?_⟩
    refine ⟨_, rfl, x, d, m, rfl, hd, _, rfl, ?_⟩
    cases d with
    | int i =>
      obtain rfl := hd.int_of
      have q' : Q (.bl (decide (0 ≤ i) && decide (i < n))) H := q
      show if decide (0 ≤ i) = true then _ else _
      refine ite2 (fun c => ?_) (fun c => ?_)
      · rw [c, Bool.true_and] at q'
        exact ⟨_, rfl, _, rfl, _, _, rfl, rfl, q'⟩
      · rw [Bool.not_eq_true] at c
        rw [c, Bool.false_and] at q'
        exact q'
    | _ => exact iteF q
theorem ok_is_text (T : Txt K mg) : FnOk P w K mg base CX0 1 T.f_is_text T.fd_is_text ["value"] (spD K isTx) := by
  refine T.F_is_text.ok sc_is_text (fun vs H Q E h => ?_) (fun cdv A outer s H vs Q E hr h => ?_)
  · obtain ⟨x, d, m, rfl, _⟩ := h; rfl
  · obtain ⟨x, d, m, rfl, hd, q⟩ := h
    refine ⟨_, (pss_cons (ps_if (pt_not (pt_val (pe_callB call_isi (by rfl) T.z_isinstance (by decide +kernel) (pa_cons (pv 0) (pa_cons (pe_bltn (v := .ty "str") (u := .type "str") (by rfl) T.z_str (by decide +kernel) rfl) pa_nil))))) (pss_one (ps_ret pe_bl)) pss_nil)
      (pss_one (ps_ret (pe_or (pe_cmpR op_eq (pv 0) pe_str (nomark _)) (pe_one (pe_and (pe_bm0 PySem.F.plainAttrs_str PySem.F.slot_str_isascii PySem.F.type_str_isascii mt_isascii (pv 0)) (pe_and (pe_bm0 PySem.F.plainAttrs_str PySem.F.slot_str_isalpha PySem.F.type_str_isalpha mt_isalpha (pv 0)) (pe_one (pe_bm0 PySem.F.plainAttrs_str PySem.F.slot_str_islower PySem.F.type_str_islower mt_islower (pv 0)))))))))), ?_⟩
    refine ⟨_, rfl, _, _, _, _, isStrD d, rfl, .ty _, hd.ty, kit_strD d, _, rfl, ?_⟩
    cases d with
    | str z =>
      obtain rfl := hd.str_of
      have q : Q (.bl (isT z)) H := q
      refine iteF ⟨_, rfl, rfl, _, rfl, ?_⟩
      have e := istext_eq z
      cases h0 : decide (V.str z = V.str (Str.ofString "")) with
      | true =>
        rw [h0, Bool.true_or] at e
        refine iteT ?_
        unfold isT at q
        rw [← e] at q
        exact q
      | false =>
        rw [h0, Bool.false_or] at e
        have e2 : (Txt.isascii z && (Txt.isalpha z && Txt.islower z)) = isT z := by rw [← Bool.and_assoc]; exact e
        refine iteF ⟨_, rfl, rfl, z, rfl, rfl, trivial, _, rfl, ?_⟩
        cases h1 : Txt.isascii z with
        | false => rw [h1] at e2; rw [← e2] at q; exact iteF q
        | true =>
          rw [h1, Bool.true_and] at e2
          refine iteT ⟨_, rfl, rfl, z, rfl, rfl, trivial, _, rfl, ?_⟩
          cases h2 : Txt.isalpha z with
          | false => rw [h2] at e2; rw [← e2] at q; exact iteF q
          | true =>
            rw [h2, Bool.true_and] at e2
            rw [← e2] at q
            exact iteT ⟨_, rfl, rfl, z, rfl, rfl, trivial, q⟩
    | _ => exact iteT q
theorem ok_is_word (T : Txt K mg) : FnOk P w K mg base CX0 2 T.f_is_word T.fd_is_word ["value"] (spDw K isWd) := by
  refine T.F_is_word.ok sc_is_word (fun vs H Q E h => ?_) (fun cdv A outer s H vs Q E hr h => ?_)
  · obtain ⟨x, d, m, rfl, _⟩ := h; rfl
  · obtain ⟨x, d, m, rfl, hd, hw, q⟩ := h
    refine ⟨_, (pss_one (ps_ret (pe_and (pe_call (ok_is_text T) (hr.mono (by decide)) rfl T.g_is_text T.F_is_text.kp T.b_is_text .nil pass0 (pa_cons (pv 0) pa_nil)) (pe_one (pe_cmpR op_le (pe_callB call_len_str (by rfl) T.z_len (by decide +kernel) (pa_cons (pv 0) pa_nil)) (pe_glob (v := .int (3)) rfl T.c_MOST_LETTERS ⟨_, rfl⟩) (nomark _)))))), ?_⟩
    refine ⟨_, rfl, x, d, m, rfl, hd, _, rfl, ?_⟩
    cases d with
    | str z =>
      obtain rfl := hd.str_of
      have q' : Q (.bl (isT z && decide ((z.length : Int) ≤ 3))) H := q
      have hz : z.length ≤ sizeLine := by
        rw [PyData.weight] at hw
        exact Nat.le_trans hw (by decide)
      show if isT z = true then _ else _
      refine ite2 (fun c => ?_) (fun c => ?_)
      · rw [c, Bool.true_and] at q'
        exact ⟨_, rfl, z, rfl, hz, _, _, rfl, rfl, q'⟩
      · rw [Bool.not_eq_true] at c
        rw [c, Bool.false_and] at q'
        exact q'
    | _ => exact iteF q
theorem ok_is_step (T : Txt K mg) : FnOk P w K mg base CX0 4 T.f_is_step T.fd_is_step ["value", "states"] (spDnw K isStp) := by
  refine T.F_is_step.ok sc_is_step (fun vs H Q E h => ?_) (fun cdv A outer s H vs Q E hr h => ?_)
  · obtain ⟨x, d, m, n, rfl, _⟩ := h; rfl
  · obtain ⟨x, d, m, n, rfl, hd, hw, q⟩ := h
    refine ⟨_, (pss_cons (ps_if (PW.pt (pw_or (pt_not (pt_val (pe_callB call_isi (by rfl) T.z_isinstance (by decide +kernel) (pa_cons (pv 0) (pa_cons (pe_bltn (v := .ty "tuple") (u := .type "tuple") (by rfl) T.z_tuple (by decide +kernel) rfl) pa_nil))))) (pw_or1 (pt_cmpR op_ne (pe_callB call_len_seq (by rfl) T.z_len (by decide +kernel) (pa_cons (pv 0) pa_nil)) pe_int (nomark _))))) (pss_one (ps_ret pe_bl)) pss_nil)
      (pss_one (ps_ret (pe_and (pe_call (ok_is_below T) (hr.mono (by decide)) rfl T.g_is_below T.F_is_below.kp T.b_is_below .nil pass0 (pa_cons (pe_ix ix_tup (pv 0) pe_int (fun _ _ => rfl)) (pa_cons (pv 1) pa_nil))) (pe_one (pe_call (ok_is_word T) (hr.mono (by decide)) rfl T.g_is_word T.F_is_word.kp T.b_is_word .nil pass0 (pa_cons (pe_ix ix_tup (pv 0) pe_int (fun _ _ => rfl)) pa_nil))))))), ?_⟩
    refine ⟨_, rfl, _, _, _, _, isTupD d, rfl, .ty _, hd.ty, kit_tupD d, _, rfl, ?_⟩
    cases d with
    | tuple ds =>
      obtain ⟨a, xs, rfl, hs, ha⟩ := hd.tup_of
      have wt := (weight_its (d := .tuple ds)).2
      refine iteF ⟨_, rfl, a, xs, rfl, .inr hs, rfl, _, rfl, ?_⟩
      have hl := ha.len
      match ds, ha, q, hl, wt, hw with
      | [a1, b1], ha, q, hl, wt, hw =>
        rw [decide_eq_true (show V.int (xs.length : Int) = V.int 2 by rw [hl]; rfl)]
        obtain ⟨x0, ys, rfl, h0, ht⟩ := ha.cons_of
        obtain ⟨x1, zs, rfl, h1, ht'⟩ := ht.cons_of
        refine iteF ⟨_, rfl, a, _, _, _, rfl, rfl, hs, atI_nat (j := 0) rfl, _, rfl, x0, a1, m, n, rfl, h0, _, rfl, ?_⟩
        have q' : Q (.bl (isBe n a1 && isWd b1)) H := q
        show if isBe n a1 = true then _ else _
        refine ite2 (fun c => ?_) (fun c => ?_)
        · rw [c, Bool.true_and] at q'
          exact ⟨_, rfl, a, _, _, _, rfl, rfl, hs, atI_nat (j := 1) rfl, x1, b1, m, rfl, h1, Nat.le_trans (wt b1 (by show b1 ∈ [a1, b1]; simp)) hw, q'⟩
        · rw [Bool.not_eq_true] at c
          rw [c, Bool.false_and] at q'
          exact q'
      | [], ha, q, hl, _, _ =>
        rw [decide_eq_false (show ¬ V.int (xs.length : Int) = V.int 2 by rw [hl]; simp)]
        exact iteT q
      | [a1], ha, q, hl, _, _ =>
        rw [decide_eq_false (show ¬ V.int (xs.length : Int) = V.int 2 by rw [hl]; simp)]
        exact iteT q
      | a1 :: b1 :: c1 :: r, ha, q, hl, _, _ =>
        rw [decide_eq_false (show ¬ V.int (xs.length : Int) = V.int 2 from fun z => by have := V.int.inj z; rw [hl, List.length_cons, List.length_cons, List.length_cons] at this; omega)]
        exact iteT q
    | _ => exact iteT (iteT q)
theorem dg_non {K : PySem.W.Frag} {H : Hp} {m : Bool} {x : V} {d : PyData} (h : Dg K H m x d) : decide (x = .non) = isNn d := by
  cases h <;> simp [isNn]
theorem ok_are_entries (T : Txt K mg) : FnOk P w K mg base CX0 5 T.f_are_entries T.fd_are_entries ["value", "signs", "states"] (fun vs H Q _ => ∃ x d m k n, vs = [x, .int k, .int n] ∧ Dg K H m x d ∧ d.weight ≤ 100000 ∧ ∀ H', Same H H' → Q (.bl (entB k n d)) H') := by
  refine T.F_are_entries.ok sc_are_entries (fun vs H Q E h => ?_) (fun cdv A outer s H vs Q E hr h => ?_)
  · obtain ⟨x, d, m, k, n, rfl, _⟩ := h; rfl
  · obtain ⟨x, d, m, k, n, rfl, hd, hw, q⟩ := h
    refine ⟨_, (pss_cons (ps_if (PW.pt (pw_or (pt_not (pt_val (pe_call (ok_is_list T) (hr.mono (by decide)) rfl T.g_is_list T.F_is_list.kp T.b_is_list .nil pass0 (pa_cons (pv 0) pa_nil)))) (pw_or1 (pt_cmpR op_ne (pe_callB call_len_seq (by rfl) T.z_len (by decide +kernel) (pa_cons (pv 0) pa_nil)) (pv 1) (nomark _))))) (pss_one (ps_ret pe_bl)) pss_nil)
      (pss_one (ps_ret (pe_callB (cr_all rfl) (by rfl) T.z_all (by decide +kernel) (pa_cons (pe_lc (own := [("entry", 3)]) (g := gName 3) (by rfl) sc_are_entries.nd (pi_sq (pv 0)) (blkOk_by (own := [("entry", 3)]) (N := N_are_entries) (sc := defScope s_are_entries) (by decide +kernel)) (fun _ _ _ _ _ => pg_name (i := 3) sc_are_entries.nd rfl (Or.inl rfl)) (fun _ _ _ _ _ => pts_nil) (fun _ _ _ _ _ => (pe_or (pe_cmp (pc_isN (pv 3)) rfl) (pe_one (pe_call (ok_is_step T) (hr.mono (by decide)) rfl T.g_is_step T.F_is_step.kp T.b_is_step .nil pass0 (pa_cons (pv 3) (pa_cons (pv 2) pa_nil))))))) pa_nil))))), ?_⟩
    refine ⟨_, rfl, x, d, m, rfl, hd, fun H1 s1 => ⟨_, rfl, ?_⟩⟩
    have q' : ∀ H', Same H H' → Q (.bl (isSqD d && (decide (((itsD d).length : Int) = k) && (itsD d).all (isEn n)))) H' := q
    obtain ⟨hlen, hwt⟩ := weight_its (d := d)
    cases hf : isSqD d with
    | false => rw [hf] at q'; exact iteT (iteT (q' _ s1))
    | true =>
      rw [hf, Bool.true_and] at q'
      obtain ⟨a, ys, rfl, hq, hes⟩ := (hd.ext s1).lst_q (sq_its hf)
      generalize itsD d = es at *
      have le := hes.len
      refine iteF ⟨_, rfl, a, ys, rfl, hq, _, rfl, rfl, _, rfl, ?_⟩
      by_cases c : (es.length : Int) = k
      · rw [decide_eq_true (show V.int (ys.length : Int) = V.int k by rw [le, c])]
        rw [decide_eq_true c, Bool.true_and] at q'
        refine iteF ⟨_, rfl, a, rfl, lc_sq hq fun D hD => ⟨fun i H' => Same H1 H' ∧ H' D = some (.lst (((es.take i).map (isEn n)).map V.bl)), ⟨Same.new (Same.refl _) hD, upd_same⟩, fun i H' h => h.1, ?_, ?_⟩⟩
        · rintro i x H' hx ⟨s', e'⟩
          obtain ⟨d', hd', dx⟩ := hes.at i x hx
          have hm : d' ∈ es := List.mem_of_getElem? hd'
          refine ⟨rfl, tYesT ?_⟩
          have fin : ∀ H2, Same H' H2 → ∃ acc, H2 D = some (.lst acc) ∧ acc.length < sizeLine ∧ Same H1 (upd H2 D (.lst (acc ++ [.bl (isEn n d')]))) ∧ (upd H2 D (.lst (acc ++ [.bl (isEn n d')]))) D = some (.lst (((es.take (i + 1)).map (isEn n)).map V.bl)) := fun H2 s2 => by
            refine ⟨_, s2 _ _ e', ?_, fun b o e => ?_, ?_⟩
            · rw [List.length_map, List.length_map]
              exact Nat.lt_of_le_of_lt (List.length_take_le' _ _) (Nat.lt_of_le_of_lt (by omega : es.length ≤ 100000) (by decide))
            · rw [upd_ne (ne_of_none e hD)]; exact s2 _ _ (s' b o e)
            · rw [upd_same, List.take_add_one, hd', List.map_append, List.map_append]; rfl
          have dn := dg_non dx
          refine ⟨_, rfl, _, rfl, ?_⟩
          rw [dn]
          unfold isEn at fin
          cases hn : isNn d' with
          | true => rw [hn] at fin; exact iteT (fin H' (Same.refl _))
          | false =>
            rw [hn] at fin
            exact iteF ⟨_, rfl, _, rfl, x, d', m, n, rfl, dx.ext s', Nat.le_trans (hwt d' hm) hw, fin H' (Same.refl _)⟩
        · rintro H2 ⟨s', e'⟩
          rw [le, List.take_length] at e'
          refine ⟨D, _, rfl, SqL.of e', ?_⟩
          rw [all_id]
          exact q' _ (s1.trans s')
      · rw [decide_eq_false (show ¬ V.int (ys.length : Int) = V.int k from fun z => c (by rw [← le]; exact V.int.inj z))]
        rw [decide_eq_false c, Bool.false_and] at q'
        exact iteT (q' _ s1)
theorem ok_are_steps (T : Txt K mg) : FnOk P w K mg base CX0 6 T.f_are_steps T.fd_are_steps ["value", "signs"] (spDns K stepsB) := by
  refine T.F_are_steps.ok sc_are_steps (fun vs H Q E h => ?_) (fun cdv A outer s H vs Q E hr h => ?_)
  · obtain ⟨x, d, m, n, rfl, _⟩ := h; rfl
  · obtain ⟨x, d, m, n, rfl, hd, hw, q⟩ := h
    refine ⟨_, (pss_cons (ps_if (PW.pt (pw_or (pt_not (pt_val (pe_call (ok_is_list T) (hr.mono (by decide)) rfl T.g_is_list T.F_is_list.kp T.b_is_list .nil pass0 (pa_cons (pv 0) pa_nil)))) (pw_or1 (pt_not (pt_chain op_le op_le pe_int (pe_callB call_len_seq (by rfl) T.z_len (by decide +kernel) (pa_cons (pv 0) pa_nil)) (pe_glob (v := .int (40)) rfl T.c_MOST_STATES ⟨_, rfl⟩)))))) (pss_one (ps_ret pe_bl)) pss_nil)
      (pss_one (ps_ret (pe_callB (cr_all rfl) (by rfl) T.z_all (by decide +kernel) (pa_cons (pe_lc (own := [("row", 2)]) (g := gName 2) (by rfl) sc_are_steps.nd (pi_sq (pv 0)) (blkOk_by (own := [("row", 2)]) (N := N_are_steps) (sc := defScope s_are_steps) (by decide +kernel)) (fun _ _ _ _ _ => pg_name (i := 2) sc_are_steps.nd rfl (Or.inl rfl)) (fun _ _ _ _ _ => pts_nil) (fun _ _ _ _ _ => (pe_call (ok_are_entries T) (hr.mono (by decide)) rfl T.g_are_entries T.F_are_entries.kp T.b_are_entries .nil pass0 (pa_cons (pv 2) (pa_cons (pv 1) (pa_cons (pe_callB (call_len_seqK (K := K) rfl) (by rfl) T.z_len (by decide +kernel) (pa_cons (pv 0) pa_nil)) pa_nil)))))) pa_nil))))), ?_⟩
    refine ⟨_, rfl, x, d, m, rfl, hd, fun H1 s1 => ⟨_, rfl, ?_⟩⟩
    have q' : ∀ H', Same H H' → Q (.bl (isSqD d && ((decide (1 ≤ ((itsD d).length : Int)) && decide (((itsD d).length : Int) ≤ 40)) && (itsD d).all (entB n ((itsD d).length : Int))))) H' := q
    obtain ⟨hlen, hwt⟩ := weight_its (d := d)
    cases hf : isSqD d with
    | false => rw [hf] at q'; exact iteT (iteT (q' _ s1))
    | true =>
      rw [hf, Bool.true_and] at q'
      obtain ⟨a, ys, rfl, hq, hes⟩ := (hd.ext s1).lst_q (sq_its hf)
      generalize itsD d = es at *
      have le := hes.len
      refine iteF ⟨_, rfl, a, ys, rfl, hq, _, _, rfl, rfl, _, rfl, ?_⟩
      refine ite2 (fun c1 => ?_) (fun c1 => ?_)
      · have c1' : (1 : Int) ≤ (ys.length : Int) := of_decide_eq_true c1
        refine ⟨_, _, rfl, rfl, _, rfl, ?_⟩
        show if (!decide ((ys.length : Int) ≤ 40)) = true then _ else _
        rw [decide_eq_true (show (1 : Int) ≤ (es.length : Int) by omega), Bool.true_and] at q'
        cases c2 : decide ((ys.length : Int) ≤ 40) with
        | false =>
          rw [← le, c2, Bool.false_and] at q'
          exact iteT (q' _ s1)
        | true =>
          rw [← le, c2, Bool.true_and, le] at q'
          refine iteF ⟨_, rfl, a, rfl, lc_sq hq fun D hD => ⟨fun i H' => Same H1 H' ∧ H' D = some (.lst (((es.take i).map (entB n (es.length : Int))).map V.bl)), ⟨Same.new (Same.refl _) hD, upd_same⟩, fun i H' h => h.1, ?_, ?_⟩⟩
          · rintro i x H' hx ⟨s', e'⟩
            obtain ⟨d', hd', dx⟩ := hes.at i x hx
            have hm : d' ∈ es := List.mem_of_getElem? hd'
            refine ⟨rfl, tYesT ⟨_, rfl, _, rfl, _, rfl, a, ys, rfl, hq.same s', x, d', m, n, (ys.length : Int), rfl, dx.ext s', Nat.le_trans (hwt d' hm) hw, fun H2 s2 => ⟨_, s2 _ _ e', ?_, fun b o e => ?_, ?_⟩⟩⟩
            · rw [List.length_map, List.length_map]
              exact Nat.lt_of_le_of_lt (List.length_take_le' _ _) (Nat.lt_of_le_of_lt (by omega : es.length ≤ 100000) (by decide))
            · rw [upd_ne (ne_of_none e hD)]; exact s2 _ _ (s' b o e)
            · rw [upd_same, List.take_add_one, hd', List.map_append, List.map_append, le]; rfl
          · rintro H2 ⟨s', e'⟩
            rw [le, List.take_length] at e'
            refine ⟨D, _, rfl, SqL.of e', ?_⟩
            rw [all_id]
            exact q' _ (s1.trans s')
      · have c1' : ¬ (1 : Int) ≤ (ys.length : Int) := fun z => c1 (decide_eq_true z)
        rw [decide_eq_false (show ¬ (1 : Int) ≤ (es.length : Int) by omega), Bool.false_and, Bool.false_and] at q'
        exact ⟨_, rfl, iteT (q' _ s1)⟩
theorem ok_are_ends (T : Txt K mg) : FnOk P w K mg base CX0 3 T.f_are_ends T.fd_are_ends ["value", "states"] (spDns K endsB) := by
  refine T.F_are_ends.ok sc_are_ends (fun vs H Q E h => ?_) (fun cdv A outer s H vs Q E hr h => ?_)
  · obtain ⟨x, d, m, n, rfl, _⟩ := h; rfl
  · obtain ⟨x, d, m, n, rfl, hd, hw, q⟩ := h
    refine ⟨_, (pss_cons (ps_if (PW.pt (pw_or (pt_not (pt_val (pe_call (ok_is_list T) (hr.mono (by decide)) rfl T.g_is_list T.F_is_list.kp T.b_is_list .nil pass0 (pa_cons (pv 0) pa_nil)))) (pw_or1 (pt_cmpR op_ne (pe_callB call_len_seq (by rfl) T.z_len (by decide +kernel) (pa_cons (pv 0) pa_nil)) (pv 1) (nomark _))))) (pss_one (ps_ret pe_bl)) pss_nil)
      (pss_one (ps_ret (pe_callB (cr_all rfl) (by rfl) T.z_all (by decide +kernel) (pa_cons (pe_lc (own := [("end", 2)]) (g := gName 2) (by rfl) sc_are_ends.nd (pi_sq (pv 0)) (blkOk_by (own := [("end", 2)]) (N := N_are_ends) (sc := defScope s_are_ends) (by decide +kernel)) (fun _ _ _ _ _ => pg_name (i := 2) sc_are_ends.nd rfl (Or.inl rfl)) (fun _ _ _ _ _ => pts_nil) (fun _ _ _ _ _ => (pe_or (pe_cmp (pc_isN (pv 2)) rfl) (pe_one (pe_call (ok_is_word T) (hr.mono (by decide)) rfl T.g_is_word T.F_is_word.kp T.b_is_word .nil pass0 (pa_cons (pv 2) pa_nil)))))) pa_nil))))), ?_⟩
    refine ⟨_, rfl, x, d, m, rfl, hd, fun H1 s1 => ⟨_, rfl, ?_⟩⟩
    have q' : ∀ H', Same H H' → Q (.bl (isSqD d && (decide (((itsD d).length : Int) = n) && (itsD d).all endB))) H' := q
    obtain ⟨hlen, hwt⟩ := weight_its (d := d)
    cases hf : isSqD d with
    | false => rw [hf] at q'; exact iteT (iteT (q' _ s1))
    | true =>
      rw [hf, Bool.true_and] at q'
      obtain ⟨a, ys, rfl, hq, hes⟩ := (hd.ext s1).lst_q (sq_its hf)
      generalize itsD d = es at *
      have le := hes.len
      refine iteF ⟨_, rfl, a, ys, rfl, hq, _, rfl, rfl, _, rfl, ?_⟩
      by_cases c : (es.length : Int) = n
      · rw [decide_eq_true (show V.int (ys.length : Int) = V.int n by rw [le, c])]
        rw [decide_eq_true c, Bool.true_and] at q'
        refine iteF ⟨_, rfl, a, rfl, lc_sq hq fun D hD => ⟨fun i H' => Same H1 H' ∧ H' D = some (.lst (((es.take i).map endB).map V.bl)), ⟨Same.new (Same.refl _) hD, upd_same⟩, fun i H' h => h.1, ?_, ?_⟩⟩
        · rintro i x H' hx ⟨s', e'⟩
          obtain ⟨d', hd', dx⟩ := hes.at i x hx
          have hm : d' ∈ es := List.mem_of_getElem? hd'
          refine ⟨rfl, tYesT ?_⟩
          have fin : ∀ H2, Same H' H2 → ∃ acc, H2 D = some (.lst acc) ∧ acc.length < sizeLine ∧ Same H1 (upd H2 D (.lst (acc ++ [.bl (endB d')]))) ∧ (upd H2 D (.lst (acc ++ [.bl (endB d')]))) D = some (.lst (((es.take (i + 1)).map endB).map V.bl)) := fun H2 s2 => by
            refine ⟨_, s2 _ _ e', ?_, fun b o e => ?_, ?_⟩
            · rw [List.length_map, List.length_map]
              exact Nat.lt_of_le_of_lt (List.length_take_le' _ _) (Nat.lt_of_le_of_lt (by omega : es.length ≤ 100000) (by decide))
            · rw [upd_ne (ne_of_none e hD)]; exact s2 _ _ (s' b o e)
            · rw [upd_same, List.take_add_one, hd', List.map_append, List.map_append]; rfl
          have dn := dg_non dx
          refine ⟨_, rfl, _, rfl, ?_⟩
          rw [dn]
          unfold endB at fin
          cases hn : isNn d' with
          | true => rw [hn] at fin; exact iteT (fin H' (Same.refl _))
          | false =>
            rw [hn] at fin
            exact iteF ⟨_, rfl, x, d', m, rfl, dx.ext s', Nat.le_trans (hwt d' hm) hw, fin H' (Same.refl _)⟩
        · rintro H2 ⟨s', e'⟩
          rw [le, List.take_length] at e'
          refine ⟨D, _, rfl, SqL.of e', ?_⟩
          rw [all_id]
          exact q' _ (s1.trans s')
      · rw [decide_eq_false (show ¬ V.int (ys.length : Int) = V.int n from fun z => c (by rw [← le]; exact V.int.inj z))]
        rw [decide_eq_false c, Bool.false_and] at q'
        exact iteT (q' _ s1)
theorem ok_is_line (T : Txt K mg) : FnOk P w K mg base CX0 4 T.f_is_line T.fd_is_line ["value", "signs"] (spDns K isLn) := by
  refine T.F_is_line.ok sc_is_line (fun vs H Q E h => ?_) (fun cdv A outer s H vs Q E hr h => ?_)
  · obtain ⟨x, d, m, n, rfl, _⟩ := h; rfl
  · obtain ⟨x, d, m, n, rfl, hd, hw, q⟩ := h
    refine ⟨_, (pss_one (ps_ret (pe_and (pe_callB call_isi (by rfl) T.z_isinstance (by decide +kernel) (pa_cons (pv 0) (pa_cons (pe_bltn (v := .ty "tuple") (u := .type "tuple") (by rfl) T.z_tuple (by decide +kernel) rfl) pa_nil))) (pe_one (pe_callB (cr_all rfl) (by rfl) T.z_all (by decide +kernel) (pa_cons (pe_lc (own := [("sign", 2)]) (g := gName 2) (by rfl) sc_is_line.nd (pi_tup (pv 0)) (blkOk_by (own := [("sign", 2)]) (N := N_is_line) (sc := defScope s_is_line) (by decide +kernel)) (fun _ _ _ _ _ => pg_name (i := 2) sc_is_line.nd rfl (Or.inl rfl)) (fun _ _ _ _ _ => pts_nil) (fun _ _ _ _ _ => (pe_call (ok_is_below T) (hr.mono (by decide)) rfl T.g_is_below T.F_is_below.kp T.b_is_below .nil pass0 (pa_cons (pv 2) (pa_cons (pv 1) pa_nil))))) pa_nil)))))), ?_⟩
    refine ⟨_, rfl, _, _, _, _, isTupD d, rfl, .ty _, hd.ty, kit_tupD d, _, rfl, ?_⟩
    cases d with
    | tuple es =>
      obtain ⟨a, ys, rfl, hs, hes⟩ := hd.tup_of
      obtain ⟨hlen, hwt⟩ := weight_its (d := .tuple es)
      have hlen : es.length ≤ _ := hlen
      have le := hes.len
      refine iteT ⟨_, rfl, a, rfl, ⟨_, hs⟩, fun D hD => ?_⟩
      refine lc_tup (K := K) (a := a) (xs := ys) (fun i H' => Same H H' ∧ H' D = some (.lst (((es.take i).map (isBe n)).map V.bl))) ⟨Same.new (Same.refl _) hD, upd_same⟩ (fun i H' _ h => hs.ext h.1) ?_ ?_
      · rintro i x H' hx ⟨s', e'⟩
        obtain ⟨d', hd', dx⟩ := hes.at i x hx
        refine ⟨rfl, tYesT ⟨_, rfl, _, rfl, x, d', m, n, rfl, dx.ext s', _, e', ?_, fun b o e => ?_, ?_⟩⟩
        · rw [List.length_map, List.length_map]
          exact Nat.lt_of_le_of_lt (List.length_take_le' _ _) (Nat.lt_of_le_of_lt (by omega : es.length ≤ 100000) (by decide))
        · rw [upd_ne (ne_of_none e hD)]; exact s' b o e
        · rw [upd_same, List.take_add_one, hd', List.map_append, List.map_append]; rfl
      · rintro H2 ⟨s', e'⟩
        rw [le, List.take_length] at e'
        refine ⟨D, _, rfl, SqL.of e', ?_⟩
        rw [all_id]
        exact q _ s'
    | _ => exact iteF (q _ (Same.refl _))
end
end My

set_option Elab.async false
set_option linter.all false
set_option maxRecDepth 100000
set_option maxHeartbeats 8000000
namespace My
open PySem PySem.Spec PyProof.Rows L2
section
variable {P : Program} {w : World} {K : PySem.W.Frag} {mg : Str → Option Value} {base : Heap}
def spInit (T : Txt K mg) : Sp := fun vs H Q E => ∃ p dx x1 x2 x3 d1 d2 d3 m1 m2 m3, vs = [.ref p, x1, x2, x3] ∧ H p = some (.ins T.C_Decoder dx []) ∧ Dw K p H m1 x1 d1 ∧ Dw K p H m2 x2 d2 ∧ Dw K p H m3 x3 d3 ∧ d2.weight ≤ 100000 ∧ d3.weight ≤ 100000 ∧
  ((isSg d1 = false ∧ Bad T.C_InvalidSigns H x1 E) ∨ (isSg d1 = true ∧ stepsB (numD d1) d2 = false ∧ Bad T.C_InvalidSteps H x2 E) ∨ (isSg d1 = true ∧ stepsB (numD d1) d2 = true ∧ endsB ((itsD d2).length : Int) d3 = false ∧ Bad T.C_InvalidEnds H x3 E) ∨
   ∃ D, GoodD D d1 d2 d3 ∧ ∀ H', Kp p H H' → DecAt K T.C_Decoder H' p D → Q .non H')
theorem ok_Decoder_init (T : Txt K mg) : FnOk P w K mg base (L2.CX P w) 7 T.f_Decoder_init T.fd_Decoder_init ["self", "signs", "steps", "ends"] (spInit T) := by
  refine T.F_Decoder_init.okX sc_Decoder_init (fun vs H Q E h => ?_) (fun cdv A outer s H vs Q E hr h => ?_)
  · obtain ⟨p, dx, x1, x2, x3, d1, d2, d3, m1, m2, m3, rfl, _⟩ := h; rfl
  · obtain ⟨p, dx, x1, x2, x3, d1, d2, d3, m1, m2, m3, rfl, hp, h1, h2, h3, w2, w3, hh⟩ := h
    refine ⟨_, (pss_cons (ps_if (pt_not (pt_val (pe_call (ok_is_number_of_signs T) (hr.mono (by decide)) rfl T.g_is_number_of_signs T.F_is_number_of_signs.kp T.b_is_number_of_signs .nil pass0 (pa_cons (pv 1) pa_nil)))) (pss_one (ps_raiseE rfl T.e_InvalidSigns hr (takes_of rfl rfl rfl rfl) (pa_cons (pv 1) pa_nil))) pss_nil)
      (pss_cons (ps_if (pt_not (pt_val (pe_call (ok_are_steps T) (hr.mono (by decide)) rfl T.g_are_steps T.F_are_steps.kp T.b_are_steps .nil pass0 (pa_cons (pv 2) (pa_cons (pv 1) pa_nil))))) (pss_one (ps_raiseE rfl T.e_InvalidSteps hr (takes_of rfl rfl rfl rfl) (pa_cons (pv 2) pa_nil))) pss_nil)
      (pss_cons (ps_if (pt_not (pt_val (pe_call (ok_are_ends T) (hr.mono (by decide)) rfl T.g_are_ends T.F_are_ends.kp T.b_are_ends .nil pass0 (pa_cons (pv 3) (pa_cons (pe_callB call_len_seq (by rfl) T.z_len (by decide +kernel) (pa_cons (pv 2) pa_nil)) pa_nil))))) (pss_one (ps_raiseE rfl T.e_InvalidEnds hr (takes_of rfl rfl rfl rfl) (pa_cons (pv 3) pa_nil))) pss_nil)
      (pss_cons (ps_fld (pv 0) (pv 1) rfl)
      (pss_cons (ps_fld (pv 0) (pe_callB call_len_seq (by rfl) T.z_len (by decide +kernel) (pa_cons (pv 2) pa_nil)) rfl)
      (pss_cons (ps_fld (pv 0) (pe_callTy call_tuple_of (by rfl) T.z_tuple (by decide +kernel) (pa_cons (pe_lc (own := [("row", 4)]) (g := gName 4) (by rfl) sc_Decoder_init.nd (pi_sq (pv 2)) (blkOk_by (own := [("row", 4)]) (N := N_Decoder_init) (sc := defScope s_Decoder_init) (by decide +kernel)) (fun _ _ _ _ _ => pg_name (i := 4) sc_Decoder_init.nd rfl (Or.inl rfl)) (fun _ _ _ _ _ => pts_nil) (fun _ _ _ _ _ => (pe_callTy (call_tuple_ofK (K := K) rfl) (by rfl) T.z_tuple (by decide +kernel) (pa_cons (pv 4) pa_nil)))) pa_nil)) rfl)
      (pss_one (ps_fld (pv 0) (pe_callTy call_tuple_of (by rfl) T.z_tuple (by decide +kernel) (pa_cons (pv 3) pa_nil)) rfl)))))))), ?_⟩
    have g1 : isSg d1 = false → Bad T.C_InvalidSigns H x1 E := fun z => by
      rcases hh with h | h | h | h
      · exact h.2
      · rw [z] at h; cases h.1
      · rw [z] at h; cases h.1
      · obtain ⟨D, g, _⟩ := h; rw [g.sg] at z; cases z
    have g2 : isSg d1 = true → stepsB (numD d1) d2 = false → Bad T.C_InvalidSteps H x2 E := fun z0 z => by
      rcases hh with h | h | h | h
      · rw [h.1] at z0; cases z0
      · exact h.2.2
      · rw [z] at h; cases h.2.1
      · obtain ⟨D, g, _⟩ := h
        have := g.steps
        rw [g.e1] at z
        rw [show numD (.int (D.sg : Nat)) = ((D.sg : Nat) : Int) from rfl, this] at z; cases z
    have g3 : isSg d1 = true → stepsB (numD d1) d2 = true → endsB ((itsD d2).length : Int) d3 = false → Bad T.C_InvalidEnds H x3 E := fun z0 z1 z => by
      rcases hh with h | h | h | h
      · rw [h.1] at z0; cases z0
      · rw [h.2.1] at z1; cases z1
      · exact h.2.2.2
      · obtain ⟨D, g, _⟩ := h
        rw [g.ends] at z; cases z
    have raise_ : ∀ {C : Addr} {x : V} {H' : Hp}, Bad C H x E → Same H H' → ∀ d, H' d = none → E (.ref C) (some d) (upd H' d (.xd (gvn x))) := fun kb s d hd =>
      kb d _ (Same.new s hd) (s.free hd) upd_same
    refine ⟨_, rfl, x1, d1, m1, rfl, h1.dg, _, rfl, ?_⟩
    cases c1 : isSg d1 with
    | false =>
      exact iteT ⟨_, rfl, x1, rfl, fun d hd => raise_ (g1 c1) (Same.refl _) d hd⟩
    | true =>
    obtain ⟨i, rfl⟩ : ∃ i, d1 = .int i := by cases d1 <;> first | exact ⟨_, rfl⟩ | cases c1
    obtain rfl := h1.int_of
    refine iteF ⟨_, rfl, _, rfl, x2, d2, m2, i, rfl, h2.dg, w2, fun H1 s1 => ⟨_, rfl, ?_⟩⟩
    cases c2 : stepsB i d2 with
    | false =>
      exact iteT ⟨_, rfl, x2, rfl, fun d hd => raise_ (g2 c1 c2) s1 d hd⟩
    | true =>
    have c2' := c2
    unfold stepsB at c2'
    rw [Bool.and_eq_true] at c2'
    have hsq := c2'.1
    have k1 : Kp p H H1 := Kp.of s1
    obtain ⟨a, ys, rfl, hq, hes⟩ := (h2.kp k1).lst_q (sq_its hsq)
    have le := hes.len
    have hq1 : SqQ K H1 a ys := hq.same (wo_same H1 p)
    refine iteF ⟨_, rfl, _, rfl, a, ys, rfl, hq1, x3, d3, m3, (ys.length : Int), rfl, (h3.kp k1).dg, w3, fun H2 s2 => ⟨_, rfl, ?_⟩⟩
    have s12 := s1.trans s2
    rw [le]
    cases c3 : endsB ((itsD d2).length : Int) d3 with
    | false =>
      exact iteT ⟨_, rfl, x3, rfl, fun d hd => raise_ (g3 c1 c2 c3) s12 d hd⟩
    | true =>
    obtain ⟨D, good, kQ⟩ : ∃ D, GoodD D (.int i) d2 d3 ∧ ∀ H', Kp p H H' → DecAt K T.C_Decoder H' p D → Q .non H' := by
      rcases hh with h | h | h | h
      · rw [h.1] at c1; cases c1
      · have := h.2.1; rw [show numD (.int i) = i from rfl, c2] at this; cases this
      · have := h.2.2.1; rw [c3] at this; cases this
      · exact h
    have ei : i = (D.sg : Nat) := by have := good.e1; injection this
    have l2 := good.len2
    have n40 := good.ok.n40
    have hp2 : H2 p = some (.ins T.C_Decoder dx []) := s12 _ _ hp
    have k2 : Kp p H H2 := Kp.of s12
    have lt0 : ∀ n : Nat, n ≤ 10 → n < 1000 := fun n h => by omega
    refine iteF ⟨_, rfl, _, rfl, p, T.C_Decoder, dx, _, rfl, hp2, T.cl_Decoder, T.na_Decoder_signs, (by show 0 < 1000; omega), ?_⟩
    have hq3 : SqQ K (upd H2 p (.ins T.C_Decoder dx (putF "signs" (.int i) []))) a ys := (hq.same ((Kp.of s2).wo.trans (by rw [← wo_upd (H := H2) (p := p) (o := .ins T.C_Decoder dx (putF "signs" (.int i) []))]; exact Same.refl _))).same (wo_same _ p)
    refine ⟨_, rfl, a, ys, rfl, hq3, _, rfl, p, T.C_Decoder, dx, _, rfl, upd_same, T.cl_Decoder, T.na_Decoder_states, (by show 1 < 1000; omega), ?_⟩
    rw [upd_upd]
    have k3 : Kp p H2 (upd H2 p (.ins T.C_Decoder dx (putF "states" (.int (ys.length : Int)) (putF "signs" (.int i) [])))) := (Kp.refl p H2).upd
    have e3 : (upd H2 p (.ins T.C_Decoder dx (putF "states" (.int (ys.length : Int)) (putF "signs" (.int i) [])))) p = some (.ins T.C_Decoder dx (putF "states" (.int (ys.length : Int)) (putF "signs" (.int i) []))) := upd_same
    generalize upd H2 p (.ins T.C_Decoder dx (putF "states" (.int (ys.length : Int)) (putF "signs" (.int i) []))) = H3 at k3 e3 ⊢
    have kH3 := k2.trans k3
    have hq4 : SqQ K H3 a ys := (hq.same ((Kp.of s2).wo.trans k3.wo)).same (wo_same H3 p)
    have he4 : DgAll K (wo H3 p) m2 ys (itsD d2) := hes.ext ((Kp.of s2).wo.trans k3.wo)
    dsimp only [L2.tSeq]
    unfold L2.sFld
    refine rows_tup (A := Unit) (p := p) (a := a) (i := 4) rfl rfl (fun R h => ⟨_, rfl, h⟩) hq4 he4 good.r2 (by omega) (by rw [e3]; exact fun z => by cases z) (fun _ => rfl) (fun _ => rfl) (fun r zs H4 s4 er nr hz => ?_)
    have e4 := s4 _ _ e3
    refine ⟨_, rfl, p, T.C_Decoder, dx, _, rfl, e4, T.cl_Decoder, T.na_Decoder_steps, (by show 2 < 1000; omega), ?_⟩
    have st4 : Dg K (wo H4 p) false (.ref r) D.stD := by
      refine dg_lf _ _ (lf_stD D) ?_ (m := m2)
      rw [← good.tup]
      exact .tup (SqT.of (by rw [wo_ne nr]; exact er)) hz
    have k4 : Kp p H3 H4 := Kp.of s4
    have hd4 : Dg K (wo H4 p) m3 x3 d3 := h3.kp (kH3.trans k4)
    obtain ⟨b, zs3, rfl, hq3', hes3⟩ := hd4.lst_q (sq_its good.s3)
    have k5 : Kp p H4 (upd H4 p (.ins T.C_Decoder dx (putF "steps" (.ref r) (putF "states" (.int (ys.length : Int)) (putF "signs" (.int i) []))))) := (Kp.refl p H4).upd
    have e5 : (upd H4 p (.ins T.C_Decoder dx (putF "steps" (.ref r) (putF "states" (.int (ys.length : Int)) (putF "signs" (.int i) []))))) p = some (.ins T.C_Decoder dx (putF "steps" (.ref r) (putF "states" (.int (ys.length : Int)) (putF "signs" (.int i) [])))) := upd_same
    generalize upd H4 p (.ins T.C_Decoder dx (putF "steps" (.ref r) (putF "states" (.int (ys.length : Int)) (putF "signs" (.int i) [])))) = H5 at k5 e5 ⊢
    have fin : ∀ t H6, Same H5 H6 → H6 p = some (.ins T.C_Decoder dx (putF "steps" (.ref r) (putF "states" (.int (ys.length : Int)) (putF "signs" (.int i) [])))) → Dg K (wo H6 p) m3 (.ref t) (.tuple (itsD d3)) →
        tVar 0 (L2.start N_Decoder_init [V.ref p, V.int i, V.ref a, V.ref b]) H6 fun x H2 => ∃ a C dx fs, x = V.ref a ∧ H2 a = some (HO.ins C dx fs) ∧ Cls K C ∧ NoAttr K C (Str.ofString "ends") ∧ fs.length < 1000 ∧ Q .non (upd H2 a (HO.ins C dx (putF (Str.ofString "ends") (.ref t) fs))) := fun t H6 s6 e6 ht => by
      refine ⟨_, rfl, p, T.C_Decoder, dx, _, rfl, e6, T.cl_Decoder, T.na_Decoder_ends, (by show 3 < 1000; omega), ?_⟩
      have k6 : Kp p H6 (upd H6 p (.ins T.C_Decoder dx (putF (Str.ofString "ends") (.ref t) (putF "steps" (.ref r) (putF "states" (.int (ys.length : Int)) (putF "signs" (.int i) [])))))) := (Kp.refl p H6).upd
      have ka : Kp p H4 (upd H6 p (.ins T.C_Decoder dx (putF (Str.ofString "ends") (.ref t) (putF "steps" (.ref r) (putF "states" (.int (ys.length : Int)) (putF "signs" (.int i) [])))))) := (k5.trans (Kp.of s6)).trans k6
      refine kQ _ ((kH3.trans k4).trans ka) ⟨⟨dx, r, t, ?_, (st4.ext ka.wo).ext (wo_same _ p), ?_⟩, good.ok⟩
      · rw [upd_same, ei, le, l2]; rfl
      · have : Dg K (wo H6 p) false (.ref t) D.enD := by
          refine dg_lf _ _ (lf_dEn D) ?_ (m := m3)
          rw [← good.tupE]; exact ht
        exact (this.ext k6.wo).ext (wo_same _ p)
    have hq5 : SqQ K H5 b zs3 := (hq3'.same k5.wo).same (wo_same H5 p)
    have hes5 : DgAll K (wo H5 p) m3 zs3 (itsD d3) := hes3.ext k5.wo
    rcases hq3' with hq6 | hq6
    · refine ⟨_, rfl, b, zs3, rfl, .inl ⟨(hq6.ext k5.wo).ext (wo_same H5 p), fun t ht => ?_⟩⟩
      have nt : t ≠ p := fun z => by rw [z, e5] at ht; cases ht
      have s6 : Same H5 (upd H5 t (.tup zs3)) := Same.new (Same.refl _) ht
      exact fin t _ s6 (s6 _ _ e5) (.tup (SqT.of (by rw [wo_ne nt]; exact upd_same)) (hes5.ext (Kp.of s6).wo))
    · exact ⟨_, rfl, b, zs3, rfl, .inr ⟨(hq6.ext k5.wo).ext (wo_same H5 p), fin b H5 (Same.refl _) e5 (.tup (hq6.ext k5.wo) hes5)⟩⟩
def spDeq (T : Txt K mg) : Sp := fun vs H Q _ => ∃ p y D, vs = [.ref p, y] ∧ DecAt K T.C_Decoder H p D ∧ ((∃ q D', y = .ref q ∧ DecAt K T.C_Decoder H q D' ∧ Q (.bl (decide (D = D'))) H) ∨ (∃ d m, Dg K H m y d ∧ Q (.bl false) H))
theorem ok_Decoder_eq (T : Txt K mg) : FnOk P w K mg base CX0 1 T.f_Decoder_eq T.fd_Decoder_eq ["self", "other"] (spDeq T) := by
  refine T.F_Decoder_eq.ok sc_Decoder_eq (fun vs H Q E h => ?_) (fun cdv A outer s H vs Q E hr h => ?_)
  · obtain ⟨p, y, D, rfl, _⟩ := h; rfl
  · obtain ⟨p, y, D, rfl, ⟨⟨dx, Sa, Ea, ep, hs, he⟩, ok⟩, hh⟩ := h
    refine ⟨_, (pss_one (ps_ret (pe_and (pe_callB call_isi (by rfl) T.z_isinstance (by decide +kernel) (pa_cons (pv 1) (pa_cons (pe_glob (v := .ref T.C_Decoder) rfl T.g_Decoder rfl) pa_nil))) (pe_and (pe_cmpR op_eq (pe_fld (pv 0) rfl) (pe_fld (pv 1) rfl) (nomark _)) (pe_and (pe_cmpR (op_eqD (un64 hr)) (pe_fld (pv 0) rfl) (pe_fld (pv 1) rfl) (nomark _)) (pe_one (pe_cmpR (op_eqD (un64 hr)) (pe_fld (pv 0) rfl) (pe_fld (pv 1) rfl) (nomark _)))))))), ?_⟩
    rcases hh with ⟨q, D', rfl, ⟨⟨dy, Sb, Eb, eq, hs', he'⟩, ok'⟩, kQ⟩ | ⟨d, m, hd, kQ⟩
    · refine ⟨_, rfl, _, _, _, _, true, rfl, .own _, T.oe_Decoder.ty eq, kit_same, _, rfl, iteT ?_⟩
      have e : decide (D = D') = (decide (D.sg = D'.sg) && (decide (D.st = D'.st) && decide (D.en = D'.en))) := by
        rw [Bool.eq_iff_iff]; simp [dcd_eq]
      rw [e] at kQ
      refine ⟨_, rfl, p, _, dx, _, _, rfl, ep, T.cl_Decoder, T.na_Decoder_signs, dfs_signs, _, rfl, q, _, dy, _, _, rfl, eq, T.cl_Decoder, T.na_Decoder_signs, dfs_signs, rfl, _, rfl, ?_⟩
      have e1 : decide (V.int (D.sg : Nat) = V.int (D'.sg : Nat)) = decide (D.sg = D'.sg) := by
        rw [Bool.eq_iff_iff, decide_eq_true_eq, decide_eq_true_eq]
        exact ⟨fun z => by have := V.int.inj z; omega, fun z => by rw [z]⟩
      rw [e1]
      cases c1 : decide (D.sg = D'.sg) with
      | false => rw [c1, Bool.false_and] at kQ; exact iteF kQ
      | true =>
        rw [c1, Bool.true_and] at kQ
        refine iteT ⟨_, rfl, p, _, dx, _, _, rfl, ep, T.cl_Decoder, T.na_Decoder_steps, dfs_steps, _, rfl, q, _, dy, _, _, rfl, eq, T.cl_Decoder, T.na_Decoder_steps, dfs_steps, D.stD, D'.stD, dg_dp _ _ hs, dg_dp _ _ hs', shaped_stD ok, shaped_stD ok', _, rfl, ?_⟩
        rw [eqv_stD]
        cases c2 : decide (D.st = D'.st) with
        | false => rw [c2, Bool.false_and] at kQ; exact iteF kQ
        | true =>
          rw [c2, Bool.true_and] at kQ
          refine iteT ⟨_, rfl, p, _, dx, _, _, rfl, ep, T.cl_Decoder, T.na_Decoder_ends, dfs_ends, _, rfl, q, _, dy, _, _, rfl, eq, T.cl_Decoder, T.na_Decoder_ends, dfs_ends, D.enD, D'.enD, dg_dp _ _ he, dg_dp _ _ he', shaped_dEn ok, shaped_dEn ok', ?_⟩
          rw [eqv_dEn]
          exact kQ
    · exact ⟨_, rfl, _, _, _, _, false, rfl, .own _, hd.ty, kit_ownD T.ii_Decoder T.it_Decoder d, _, rfl, iteF kQ⟩
theorem dg_row {K : PySem.W.Frag} {H : Hp} {Sa : Addr} {D : Dcd} (ok : D.ok) (h : Dg K H false (.ref Sa) D.stD) {s : Nat} (hs : s < D.st.length) : ∃ xs r zs, SqT K H Sa xs ∧ xs[s]? = some (.ref r) ∧ SqT K H r zs ∧
    ∀ a, a < D.sg → ∃ e, zs[a]? = some e ∧ Dg K H false e (enD (D.at s a)) := by
  obtain ⟨a, xs, e, hx, ha⟩ := h.tup_of
  injection e with e
  subst e
  obtain ⟨x, d, ex, ed, dx⟩ := ha.nth (i := s) (by rw [List.length_map]; exact hs)
  rw [List.getElem?_map, List.getElem?_eq_getElem hs] at ed
  have ed := Option.some.inj ed
  subst ed
  obtain ⟨r, zs, rfl, hz, hzs⟩ := dx.tup_of
  refine ⟨xs, r, zs, hx, ex, hz, fun a ha => ?_⟩
  have lr := (ok.rows _ (List.getElem_mem hs)).1
  obtain ⟨e, de, ee, ede, dge⟩ := hzs.nth (i := a) (by rw [List.length_map, lr]; exact ha)
  rw [List.getElem?_map, List.getElem?_eq_getElem (by rw [lr]; exact ha)] at ede
  have ede := Option.some.inj ede
  subst ede
  refine ⟨e, ee, ?_⟩
  unfold Dcd.at
  rw [List.getD_eq_getElem?_getD, List.getD_eq_getElem?_getD, List.getElem?_eq_getElem hs]
  show Dg K H false e (enD ((D.st[s])[a]?.getD none))
  rw [List.getElem?_eq_getElem (by rw [lr]; exact ha)]
  exact dge
theorem dg_end {K : PySem.W.Frag} {H : Hp} {Ea : Addr} {D : Dcd} (ok : D.ok) (h : Dg K H false (.ref Ea) D.enD) {s : Nat} (hs : s < D.st.length) : ∃ xs e, SqT K H Ea xs ∧ xs[s]? = some e ∧ Dg K H false e (wdD (D.en.getD s none)) := by
  obtain ⟨a, xs, e, hx, ha⟩ := h.tup_of
  injection e with e
  subst e
  have hs' : s < D.en.length := by rw [ok.ends]; exact hs
  obtain ⟨x, d, ex, ed, dx⟩ := ha.nth (i := s) (by rw [List.length_map]; exact hs')
  rw [List.getElem?_map, List.getElem?_eq_getElem hs'] at ed
  have ed := Option.some.inj ed
  subst ed
  exact ⟨xs, x, hx, ex, by rw [List.getD_eq_getElem?_getD, List.getElem?_eq_getElem hs']; exact dx⟩
def txV : Option (List Nat) → V | none => .non | some u => .str (S u)
def spWri (T : Txt K mg) : Sp := fun vs H Q E => ∃ p x D d m, vs = [.ref p, x] ∧ DecAt K T.C_Decoder H p D ∧ Dg K H m x d ∧ d.weight ≤ 100000 ∧
  ((isLn (D.sg : Nat) d = false ∧ Bad T.C_InvalidLine H x E) ∨ ∃ l : List Nat, d = lnD l ∧ (∀ a ∈ l, a < D.sg) ∧ ∀ H', Same H H' → Q (txV (D.wr l)) H')
theorem ok_Decoder_written (T : Txt K mg) : FnOk P w K mg base (L2.CX P w) 5 T.f_Decoder_written T.fd_Decoder_written ["self", "line"] (spWri T) := by
  refine T.F_Decoder_written.okX sc_Decoder_written (fun vs H Q E h => ?_) (fun cdv A outer s H vs Q E hr h => ?_)
  · obtain ⟨p, x, D, d, m, rfl, _⟩ := h; rfl
  · obtain ⟨p, x, D, d, m, rfl, ⟨⟨dx, Sa, Ea, ep, hs, he⟩, ok⟩, hd, hw, hh⟩ := h
    refine ⟨_, (pss_cons (ps_if (pt_not (pt_val (pe_call (ok_is_line T) (hr.mono (by decide)) rfl T.g_is_line T.F_is_line.kp T.b_is_line .nil pass0 (pa_cons (pv 1) (pa_cons (pe_fld (pv 0) rfl) pa_nil))))) (pss_one (ps_raiseE rfl T.e_InvalidLine hr (takes_of rfl rfl rfl rfl) (pa_cons (pv 1) pa_nil))) pss_nil)
      (pss_cons (ps_set (i := 2) sc_Decoder_written.nd rfl (Or.inl rfl) pe_int)
      (pss_cons (ps_set (i := 3) sc_Decoder_written.nd rfl (Or.inl rfl) (pe_lst pa_nil))
      (pss_cons (ps_for (passes_of rfl) rfl (pi_tup (pv 1)) (pg_name (i := 4) sc_Decoder_written.nd rfl (Or.inl rfl)) (pss_cons (ps_set (i := 5) sc_Decoder_written.nd rfl (Or.inl rfl) (pe_ix ix_tup (pe_ix ix_tup (pe_fld (pv 0) rfl) (pv 2) (fun _ _ => rfl)) (pv 4) (fun _ _ => rfl)))
      (pss_cons (ps_if (pt_cmp (pc_isN (pv 5))) (pss_one (ps_ret pe_non)) pss_nil)
      (pss_cons (ps_asg (pv 5) (pg_tup rfl (pgs_cons (pg_name (i := 2) sc_Decoder_written.nd rfl (Or.inl rfl)) (pgs_cons (pg_name (i := 6) sc_Decoder_written.nd rfl (Or.inl rfl)) pgs_nil))))
      (pss_one (ps_expr (pe_bm PySem.F.plainAttrs_list PySem.F.slot_list_append PySem.F.type_list_append mt_append (pv 3) (pa_cons (pv 6) pa_nil))))))))
      (pss_cons (ps_if (pt_cmp (pc_isN (pe_ix ix_tup (pe_fld (pv 0) rfl) (pv 2) (fun _ _ => rfl)))) (pss_one (ps_ret pe_non)) pss_nil)
      (pss_cons (ps_expr (pe_bm PySem.F.plainAttrs_list PySem.F.slot_list_append PySem.F.type_list_append mt_append (pv 3) (pa_cons (pe_ix ix_tup (pe_fld (pv 0) rfl) (pv 2) (fun _ _ => rfl)) pa_nil)))
      (pss_one (ps_ret (pe_bm PySem.F.plainAttrs_str PySem.F.slot_str_join PySem.F.type_str_join mt_join pe_str (pa_cons (pv 3) pa_nil)))))))))), ?_⟩
    refine ⟨_, rfl, _, rfl, p, _, dx, _, _, rfl, ep, T.cl_Decoder, T.na_Decoder_signs, dfs_signs, x, d, m, _, rfl, hd, hw, fun H1 s1 => ⟨_, rfl, ?_⟩⟩
    rcases hh with ⟨hf, kB⟩ | ⟨l, rfl, hl, kQ⟩
    · rw [hf]
      exact iteT ⟨_, rfl, x, rfl, fun d' hd' => kB d' _ (Same.new s1 hd') (s1.free hd') upd_same⟩
    rw [isLn_of hl]
    obtain ⟨a, xs, rfl, hx, hxs⟩ := (hd.ext s1).tup_of
    have lx := hxs.len
    rw [List.length_map] at lx
    have hlen : l.length ≤ 100000 := by
      have := (weight_its (d := lnD l)).1
      rw [show itsD (lnD l) = l.map fun (a : Nat) => PyData.int a from rfl, List.length_map] at this
      omega
    refine iteF ⟨(by show 0 ≤ sizeLine; decide), fun L hL => ?_⟩
    have s2 : Same H1 (upd H1 L (.lst [])) := Same.new (Same.refl _) hL
    have eL : (upd H1 L (.lst [])) L = some (.lst []) := upd_same
    have hLH : H L = none := s1.free hL
    generalize upd H1 L (.lst []) = H2 at s2 eL ⊢
    have s02 := s1.trans s2
    have at_ : ∀ {i : Nat} {x : V}, xs[i]? = some x → ∃ b : Nat, l[i]? = some b ∧ x = .int (b : Nat) := fun {i x} h => by
      obtain ⟨d, e, dx⟩ := hxs.at i x h
      rw [List.getElem?_map] at e
      cases q : l[i]? with
      | none => rw [q] at e; cases e
      | some b =>
        rw [q] at e
        have e := Option.some.inj e
        subst e
        exact ⟨b, rfl, dx.int_of⟩
    refine ⟨_, rfl, a, rfl, ⟨_, hx.ext s2⟩, for_tup (K := K) (a := a) (xs := xs) (fun i σ H' => ∃ (s : Nat) (ws : List (List Nat)) (x4 x5 x6 : Option V), σ = [some (.ref p), some (.ref a), some (.int (s : Nat)), some (.ref L), x4, x5, x6] ∧ Same H1 H' ∧ H' L = some (.lst ((ws.map S).map V.str)) ∧ D.go 0 (l.take i) = some (s, ws.flatten) ∧ ws.length ≤ i ∧ s < D.st.length)
      ⟨0, [], _, _, _, rfl, s2, eL, rfl, Nat.le_refl _, ok.n1⟩ (fun i σ H' _ ⟨_, _, _, _, _, _, s', _⟩ => hx.ext s') ?_ ?_⟩
    · rintro i x σ H' hxi ⟨s, ws, x4, x5, x6, rfl, s', e', hgo, hle, hst⟩
      obtain ⟨b, hb, rfl⟩ := at_ hxi
      have hbl := hl b (List.mem_of_getElem? hb)
      have s'' : Same H H' := s1.trans s'
      obtain ⟨rows, r, zs, hr1, hr2, hz, hent⟩ := dg_row ok (hs.ext s'') hst
      obtain ⟨ev, he1, he2⟩ := hent b hbl
      have step := D.go_snoc (l.take i) 0 b
      rw [← take_snoc hb, hgo] at step
      have step : D.go 0 (l.take (i + 1)) = (D.at s b).map fun (q : Nat × List Nat) => (q.1, ws.flatten ++ q.2) := step
      have oe : okE D.st.length (D.at s b) := ok.at
      have hi : i < l.length := (List.getElem?_eq_some_iff.mp hb).1
      refine ⟨_, rfl, p, _, dx, _, _, rfl, s'' _ _ ep, T.cl_Decoder, T.na_Decoder_steps, dfs_steps, _, rfl, Sa, _, _, _, rfl, rfl, hr1, atI_nat hr2, _, rfl, r, _, _, _, rfl, rfl, hz, atI_nat he1, ?_⟩
      refine ⟨_, rfl, _, rfl, ?_⟩
      cases hat : D.at s b with
      | none =>
        rw [hat] at he2 step
        have ev0 : ev = .non := by cases he2; rfl
        subst ev0
        have q0 := kQ H' s''
        rw [D.wr_none step] at q0
        exact iteT q0
      | some gw =>
        obtain ⟨g, w⟩ := gw
        rw [hat] at he2 step
        have step : D.go 0 (l.take (i + 1)) = some (g, ws.flatten ++ w) := step
        obtain ⟨og, ow⟩ := oe g w hat
        obtain ⟨t, us, rfl, ht, hus⟩ := he2.tup_of
        obtain ⟨y0, vs1, rfl, hy0, hv1⟩ := hus.cons_of
        obtain ⟨y1, vs2, rfl, hy1, hv2⟩ := hv1.cons_of
        obtain rfl := hv2.nil_of
        obtain rfl := hy0.int_of
        obtain rfl := hy1.str_of
        refine iteF ⟨_, rfl, t, _, rfl, ht, rfl, _, _, rfl, _, _, rfl, rfl, ?_⟩
        refine ⟨_, rfl, .inl ⟨rfl, _, SqL.of e'⟩, _, rfl, L, _, _, rfl, rfl, e', ?_, ?_⟩
        · rw [List.length_map, List.length_map]; exact Nat.lt_of_le_of_lt (by omega : ws.length ≤ 100000) (by decide)
        · refine ⟨g, ws ++ [w], _, _, _, rfl, fun bb o e => by rw [upd_ne (ne_of_none e hL)]; exact s' bb o e, ?_, ?_, ?_, og⟩
          · rw [upd_same, List.map_append, List.map_append]; rfl
          · rw [step, List.flatten_append]; simp
          · rw [List.length_append]; simp; omega
    · rintro σ H' ⟨s, ws, x4, x5, x6, rfl, s', e', hgo, hle, hst⟩
      have s'' : Same H H' := s1.trans s'
      rw [lx, List.take_length] at hgo
      obtain ⟨exs, ev, hx1, hx2, hx3⟩ := dg_end ok (he.ext s'') hst
      have fld : (∀ R : VK, R ev H' → tOp (rIxT K) (tFld K (tVar 0) (Str.ofString "ends")) (tVar 2) [some (.ref p), some (.ref a), some (.int (s : Nat)), some (.ref L), x4, x5, x6] H' R) := fun R h =>
        ⟨_, rfl, p, _, dx, _, _, rfl, s'' _ _ ep, T.cl_Decoder, T.na_Decoder_ends, dfs_ends, _, rfl, Ea, _, _, _, rfl, rfl, hx1, atI_nat hx2, h⟩
      have q0 := kQ
      unfold Dcd.wr at q0
      rw [hgo] at q0
      have q0 : ∀ H2, Same H H2 → Q (txV ((D.en.getD s none).map fun w => ws.flatten ++ w)) H2 := q0
      refine fld _ ⟨_, rfl, ?_⟩
      cases hen : D.en.getD s none with
      | none =>
        rw [hen] at hx3 q0
        have ev0 : ev = .non := by cases hx3; rfl
        subst ev0
        exact iteT (q0 H' s'')
      | some w =>
        rw [hen] at hx3 q0
        have ow := ok.end_ hen
        have ev0 : ev = .str (S w) := hx3.str_of
        subst ev0
        have ⟨_, _, lu⟩ := ok.go l 0 s _ ok.n1 hgo
        refine iteF ⟨_, rfl, .inl ⟨rfl, _, SqL.of e'⟩, fld _ ⟨L, _, _, rfl, rfl, e', ?_, ?_⟩⟩
        · rw [List.length_map, List.length_map]; exact Nat.lt_of_le_of_lt (by omega : ws.length ≤ 100000) (by decide)
        · have eU : (upd H' L (.lst ((ws.map S).map V.str ++ [.str (S w)]))) L = some (.lst (((ws ++ [w]).map S).map V.str)) := by rw [upd_same, List.map_append, List.map_append]; rfl
          have sU : Same H (upd H' L (.lst ((ws.map S).map V.str ++ [.str (S w)]))) := fun bb o e => by rw [upd_ne (ne_of_none e hLH)]; exact s'' bb o e
          generalize upd H' L (.lst ((ws.map S).map V.str ++ [.str (S w)])) = H5 at eU sU ⊢
          refine ⟨rfl, _, rfl, _, L, (ws ++ [w]).map S, rfl, rfl, .inl (SqL.of eU), ?_, ?_⟩
          · rw [sum_words, List.flatten_append, List.length_append]
            rw [show [w].flatten = w by simp]
            show _ + ((ws ++ [w]).map S).length * 0 ≤ _
            have := ow.2
            omega
          · rw [join_words, List.flatten_append]
            have := q0 H5 sU
            simpa [txV] using this
end
end My

set_option Elab.async false
set_option linter.all false
set_option maxRecDepth 100000
set_option maxHeartbeats 8000000
namespace My
open PySem PySem.Spec PyProof.Rows L2
/-! ### the usual codecs -/
def lt (a : Nat) : Nat := 97 + a
def rng {α : Type} (n : Nat) (f : Nat → α) : List α := (List.range n).map f
theorem rng_len {α : Type} {n : Nat} {f : Nat → α} : (rng n f).length = n := by unfold rng; rw [List.length_map, List.length_range]
theorem rng_mem {α : Type} {n : Nat} {f : Nat → α} {x : α} (h : x ∈ rng n f) : ∃ a, a < n ∧ x = f a := by
  unfold rng at h
  obtain ⟨a, ha, rfl⟩ := List.mem_map.mp h
  exact ⟨a, List.mem_range.mp ha, rfl⟩
def copD (n : Nat) : Dcd := ⟨n, [rng n fun a => some (0, [lt a])], [some []]⟩
def escD (n k : Nat) : Dcd := ⟨n, [rng n fun a => if a = k then some (1, []) else some (0, [lt a]), rng n fun a => some (0, [lt a, lt a])], [some [], none]⟩
def shiD (n : Nat) : Dcd := ⟨n, [(rng (n - 1) fun a => some (0, [lt a])) ++ [some (1, [])], (rng (n - 1) fun a => some (1, [lt a, 120])) ++ [some (0, [])]], [some [], some []]⟩
def runD (n : Nat) : Dcd := ⟨n, (rng n fun a => some (a + 1, [])) :: rng n fun a => rng n fun t => some (0, List.replicate (min t 2 + 1) (lt a)), some [] :: List.replicate n none⟩
theorem low_lt {a : Nat} (h : a < 26) : low (lt a) = true := by unfold low lt; simp; omega
theorem okW_nil : okW [] := ⟨Low.nil, by simp⟩
theorem okW_one {a : Nat} (h : a < 26) : okW [lt a] := ⟨Low.one (low_lt h), by simp⟩
theorem okW_two {a b : Nat} (h : low a = true) (g : low b = true) : okW [a, b] := ⟨Low.append (Low.one h) (Low.one g), by simp⟩
theorem okE_some {n g : Nat} {w : List Nat} (h : g < n) (o : okW w) : okE n (some (g, w)) := fun g' w' e => by injection e with e; injection e with e1 e2; subst e1 e2; exact ⟨h, o⟩
theorem copD_ok {n : Nat} (h1 : 1 ≤ n) (h5 : n ≤ 5) : (copD n).ok := by
  refine ⟨h1, h5, by show 1 ≤ 1; omega, by show 1 ≤ 40; omega, fun r hr => ?_, rfl, fun e he w q => ?_⟩
  · rw [show (copD n).st = [rng n fun a => some (0, [lt a])] from rfl, List.mem_singleton] at hr
    rw [hr]
    refine ⟨rng_len, fun e he => ?_⟩
    obtain ⟨a, ha, rfl⟩ := rng_mem he
    exact okE_some (by show 0 < 1; omega) (okW_one (by omega))
  · rw [show (copD n).en = [some []] from rfl, List.mem_singleton] at he
    rw [he] at q; injection q with q; rw [← q]; exact okW_nil
theorem escD_ok {n k : Nat} (h1 : 1 ≤ n) (h5 : n ≤ 5) : (escD n k).ok := by
  refine ⟨h1, h5, by show 1 ≤ 2; omega, by show 2 ≤ 40; omega, fun r hr => ?_, rfl, fun e he w q => ?_⟩
  · rw [show (escD n k).st = [rng n fun a => if a = k then some (1, []) else some (0, [lt a]), rng n fun a => some (0, [lt a, lt a])] from rfl] at hr
    simp only [List.mem_cons, List.not_mem_nil, or_false] at hr
    rcases hr with rfl | rfl
    · refine ⟨rng_len, fun e he => ?_⟩
      obtain ⟨a, ha, rfl⟩ := rng_mem he
      split
      · exact okE_some (by show 1 < 2; omega) okW_nil
      · exact okE_some (by show 0 < 2; omega) (okW_one (by omega))
    · refine ⟨rng_len, fun e he => ?_⟩
      obtain ⟨a, ha, rfl⟩ := rng_mem he
      exact okE_some (by show 0 < 2; omega) (okW_two (low_lt (by omega)) (low_lt (by omega)))
  · rw [show (escD n k).en = [some [], none] from rfl] at he
    simp only [List.mem_cons, List.not_mem_nil, or_false] at he
    rcases he with rfl | rfl
    · injection q with q; rw [← q]; exact okW_nil
    · cases q
theorem shiD_ok {n : Nat} (h1 : 2 ≤ n) (h5 : n ≤ 5) : (shiD n).ok := by
  refine ⟨by show 1 ≤ n; omega, h5, by show 1 ≤ 2; omega, by show 2 ≤ 40; omega, fun r hr => ?_, rfl, fun e he w q => ?_⟩
  · rw [show (shiD n).st = [(rng (n - 1) fun a => some (0, [lt a])) ++ [some (1, [])], (rng (n - 1) fun a => some (1, [lt a, 120])) ++ [some (0, [])]] from rfl] at hr
    simp only [List.mem_cons, List.not_mem_nil, or_false] at hr
    rcases hr with rfl | rfl
    · refine ⟨by rw [List.length_append, rng_len]; show n - 1 + 1 = n; omega, fun e he => ?_⟩
      rcases List.mem_append.mp he with z | z
      · obtain ⟨a, ha, rfl⟩ := rng_mem z
        exact okE_some (by show 0 < 2; omega) (okW_one (by omega))
      · rw [List.mem_singleton.mp z]; exact okE_some (by show 1 < 2; omega) okW_nil
    · refine ⟨by rw [List.length_append, rng_len]; show n - 1 + 1 = n; omega, fun e he => ?_⟩
      rcases List.mem_append.mp he with z | z
      · obtain ⟨a, ha, rfl⟩ := rng_mem z
        exact okE_some (by show 1 < 2; omega) (okW_two (low_lt (by omega)) (by decide))
      · rw [List.mem_singleton.mp z]; exact okE_some (by show 0 < 2; omega) okW_nil
  · rw [show (shiD n).en = [some [], some []] from rfl] at he
    simp only [List.mem_cons, List.not_mem_nil, or_false] at he
    rcases he with rfl | rfl
    · injection q with q; rw [← q]; exact okW_nil
    · injection q with q; rw [← q]; exact okW_nil
theorem runD_ok {n : Nat} (h1 : 1 ≤ n) (h5 : n ≤ 5) : (runD n).ok := by
  have ls : (runD n).st.length = n + 1 := by
    show (((rng n fun a => some (a + 1, ([] : List Nat))) :: rng n fun a => rng n fun t => some (0, List.replicate (min t 2 + 1) (lt a))) : List (List Ent)).length = n + 1
    rw [List.length_cons, rng_len]
  refine ⟨h1, h5, by rw [ls]; omega, by rw [ls]; omega, fun r hr => ?_, ?_, fun e he w q => ?_⟩
  · rw [ls]
    have hr' : r ∈ (((rng n fun a => some (a + 1, ([] : List Nat))) :: rng n fun a => rng n fun t => some (0, List.replicate (min t 2 + 1) (lt a))) : List (List Ent)) := hr
    rcases List.mem_cons.mp hr' with z | z
    · rw [z]
      refine ⟨rng_len, fun e he => ?_⟩
      obtain ⟨a, ha, rfl⟩ := rng_mem he
      exact okE_some (by omega) okW_nil
    · obtain ⟨a, ha, rfl⟩ := rng_mem z
      refine ⟨rng_len, fun e he => ?_⟩
      obtain ⟨t, ht, rfl⟩ := rng_mem he
      refine okE_some (by omega) ⟨fun c hc => ?_, by rw [List.length_replicate]; omega⟩
      rw [List.eq_of_mem_replicate hc]; exact low_lt (by omega)
  · rw [ls]
    show (some ([] : List Nat) :: List.replicate n none).length = n + 1
    rw [List.length_cons, List.length_replicate]
  · have he' : e ∈ (some ([] : List Nat) :: List.replicate n none) := he
    rcases List.mem_cons.mp he' with z | z
    · rw [z] at q; injection q with q; rw [← q]; exact okW_nil
    · rw [List.eq_of_mem_replicate z] at q; cases q
theorem abcde_at {a : Nat} (h : a < 5) : atI (Str.ofString "abcde").cps.toList (a : Int) = some (lt a) := by
  have e : (Str.ofString "abcde").cps.toList = (List.range 5).map (97 + ·) := by decide +kernel
  rw [e]
  exact atI_nat (by rw [List.getElem?_map, List.getElem?_range h]; rfl)
theorem str_nil : Str.ofString "" = S [] := by decide +kernel
section
variable {P : Program} {w : World} {K : PySem.W.Frag} {mg : Str → Option Value} {base : Heap}
def spChk (K : PySem.W.Frag) (C : Addr) : Sp := fun vs H Q E => ∃ x d m, vs = [x] ∧ Dg K H m x d ∧ (isSg d = false → Bad C H x E) ∧ (isSg d = true → Q .non H)
theorem ok_check_signs (T : Txt K mg) : FnOk P w K mg base (L2.CX P w) 3 T.f_check_signs T.fd_check_signs ["value"] (spChk K T.C_InvalidSigns) := by
  refine T.F_check_signs.okX sc_check_signs (fun vs H Q E h => ?_) (fun cdv A outer s H vs Q E hr h => ?_)
  · obtain ⟨x, d, m, rfl, _⟩ := h; rfl
  · obtain ⟨x, d, m, rfl, hd, kB, kQ⟩ := h
    refine ⟨_, (pss_one (ps_if (pt_not (pt_val (pe_call (ok_is_number_of_signs T) (hr.mono (by decide)) rfl T.g_is_number_of_signs T.F_is_number_of_signs.kp T.b_is_number_of_signs .nil pass0 (pa_cons (pv 0) pa_nil)))) (pss_one (ps_raiseE rfl T.e_InvalidSigns hr (takes_of rfl rfl rfl rfl) (pa_cons (pv 0) pa_nil))) pss_nil)), ?_⟩
    refine ⟨_, rfl, x, d, m, rfl, hd, _, rfl, ?_⟩
    cases c : isSg d with
    | false => exact iteT ⟨_, rfl, x, rfl, fun d' hd' => kB c d' _ (Same.new (Same.refl _) hd') hd' upd_same⟩
    | true => exact iteF (kQ c)
/-- a codec is made -/
def Made (K : PySem.W.Frag) (C : Addr) (D : Dcd) (H : Hp) (Q : VK) : Prop := ∀ r H', Same H H' → DecAt K C H' r D → Q (.ref r) H'
def spCop (T : Txt K mg) : Sp := fun vs H Q E => ∃ x d m, vs = [x] ∧ Dg K H m x d ∧ (isSg d = false → Bad T.C_InvalidSigns H x E) ∧ (∀ n : Nat, d = .int n → 1 ≤ n → n ≤ 5 → Made K T.C_Decoder (copD n) H Q)
theorem isSg_nat {d : PyData} (h : isSg d = true) : ∃ n : Nat, d = .int n ∧ 1 ≤ n ∧ n ≤ 5 := by
  cases d with
  | int i =>
    have h1' : (decide (1 ≤ i) && decide (i ≤ 5)) = true := h
    simp only [Bool.and_eq_true, decide_eq_true_eq] at h1'
    exact ⟨i.toNat, by congr 1; omega, by omega, by omega⟩
  | _ => cases h
theorem mk_dec (T : Txt K mg) {D : Dcd} {H H3 : Hp} {n : Nat} {v2 v3 : V} {d2 d3 : PyData} {m2 m3 : Bool} {Q : VK} {E : XK} (s : Same H H3) (g : GoodD D (.int n) d2 d3) (h2 : Dg K H3 m2 v2 d2) (h3 : Dg K H3 m3 v3 d3) (w2 : d2.weight ≤ 100000) (w3 : d3.weight ≤ 100000) (kQ : Made K T.C_Decoder D H Q) :
    ∀ x dx, H3 x = none → H3 dx = none → dx ≠ x → spInit T [.ref x, .int n, v2, v3] (upd (upd H3 dx (.own x)) x (.ins T.C_Decoder dx [])) (fun v H2 => v = .non ∧ Q (.ref x) H2) E := fun x dx hx hdx _ =>
  ⟨x, dx, _, _, _, .int n, d2, d3, false, m2, m3, rfl, upd_same, .int _, made_dw hx hdx h2, made_dw hx hdx h3, w2, w3, .inr (.inr (.inr ⟨D, g, fun H' k dec => ⟨rfl, kQ x H' (s.trans (made_same hx hdx k)) dec⟩⟩))⟩
/-- a list of one text, of one list -/
theorem ok_copier (T : Txt K mg) : FnOk P w K mg base (L2.CX P w) 9 T.f_copier T.fd_copier ["signs"] (spCop T) := by
  refine T.F_copier.okX sc_copier (fun vs H Q E h => ?_) (fun cdv A outer s H vs Q E hr h => ?_)
  · obtain ⟨x, d, m, rfl, _⟩ := h; rfl
  · obtain ⟨x, d, m, rfl, hd, kB, kQ⟩ := h
    refine ⟨_, (pss_cons (ps_expr (pe_call (ok_check_signs T) (hr.mono (by decide)) rfl T.g_check_signs T.F_check_signs.kp T.b_check_signs .nil (passes_call (takes_of rfl rfl rfl rfl) (fun _ _ _ _ z => z)) (pa_cons (pv 0) pa_nil)))
      (pss_one (ps_ret (pe_make T.mk_Decoder (ok_Decoder_init T) (hr.mono (by decide)) rfl T.g_Decoder T.b_Decoder_init .nil (passes_call (takes_of rfl rfl rfl rfl) (fun _ _ _ _ z => z)) (pa_cons (pv 0) (pa_cons (pe_lst (pa_cons (pe_lc (own := [("sign", 1)]) (g := gName 1) (by rfl) sc_copier.nd (pi_range1 rfl T.z_range (pa_cons (pv 0) pa_nil)) (blkOk_by (own := [("sign", 1)]) (N := N_copier) (sc := defScope s_copier) (by decide +kernel)) (fun _ _ _ _ _ => pg_name (i := 1) sc_copier.nd rfl (Or.inl rfl)) (fun _ _ _ _ _ => pts_nil) (fun _ _ _ _ _ => (pe_tup (pa_cons pe_int (pa_cons (pe_ix ix_str (pe_glob (v := .str (Str.ofString "abcde")) rfl T.c_LETTERS ⟨_, rfl⟩) (pv 1) (fun _ _ => rfl)) pa_nil))))) pa_nil)) (pa_cons (pe_lst (pa_cons pe_str pa_nil)) pa_nil))))))), ?_⟩
    refine ⟨_, rfl, x, d, m, rfl, hd, kB, fun c => ?_⟩
    obtain ⟨n, rfl, n1, n5⟩ := isSg_nat c
    obtain rfl := hd.int_of
    have one : 1 ≤ sizeLine := by decide
    have two : 2 ≤ sizeLine := by decide
    have five : (Str.ofString "abcde").length ≤ sizeLine := by decide +kernel
    refine ⟨_, rfl, ⟨_, rfl, (n : Int), rfl, by omega, by omega, fun D hD => ?_⟩⟩
    rw [Int.toNat_natCast]
    refine lc_range_data (K := K) (m := false) (p := D) (lo := 0) (n := n) (fun a => enD (some (0, [lt a]))) hD (by omega) (fun j H' R N hj s' eD k => ⟨rfl, tYesT ⟨_, rfl, _, (j : Int), lt j, rfl, congrArg V.int (by omega), five, abcde_at (by omega), two, fun t ht => ?_⟩⟩) (fun H1 xs s1 e1 h1 => ?_)
    · obtain ⟨s4, dt⟩ := tup_new (K := K) (m := false) eD eD ht (ds := [.int 0, .str (S [lt j])]) fun G => .cons (.int _) (.cons (.str _) .nil)
      exact k _ _ s4 dt
    have h1' := own_list0 h1
    refine ⟨one, fun L hL => ?_⟩
    have s2 : Same H1 (upd H1 L (.lst [.ref D])) := Same.new (Same.refl _) hL
    have dL : Dg K (upd H1 L (.lst [.ref D])) false (.ref L) (copD n).stL := .lst (SqL.of upd_same) (fun z => by cases z) (.cons (.lst (SqL.of (s2 _ _ e1)) (fun z => by cases z) (by
      have := h1'.ext s2
      unfold rng
      rw [List.map_map]
      exact this)) .nil)
    refine ⟨one, fun M hM => ?_⟩
    have s3 : Same (upd H1 L (.lst [.ref D])) (upd (upd H1 L (.lst [.ref D])) M (.lst [.str (Str.ofString "")])) := Same.new (Same.refl _) hM
    have ok := copD_ok n1 n5
    exact mk_dec T (m2 := false) (m3 := false) ((s1.trans s2).trans s3) (Dcd.goodL ok) (dL.ext s3) (.lst (SqL.of upd_same) (fun z => by cases z) (by rw [str_nil]; exact .cons (.str _) .nil)) (weight_stL ok) (weight_enL ok) (kQ n rfl n1 n5)
end
end My

set_option Elab.async false
set_option linter.all false
set_option maxRecDepth 100000
set_option maxHeartbeats 8000000
namespace My
open PySem PySem.Spec PyProof.Rows L2
theorem rounds_one (c : Nat) : ∀ k, Lev.rounds k [c] = List.replicate k c
  | 0 => rfl
  | k + 1 => by rw [List.replicate_succ, ← rounds_one c k]; simp [Lev.rounds]
theorem rep_non : ∀ j : Nat, (List.replicate j [V.non]).flatten = List.replicate j V.non
  | 0 => rfl
  | j + 1 => by rw [List.replicate_succ, List.flatten_cons, rep_non j, List.replicate_succ]; rfl
theorem dg_nons {K : PySem.W.Frag} {H : Hp} : ∀ j : Nat, DgAll K H false (List.replicate j V.non) ((List.replicate j (none : Option (List Nat))).map wdD)
  | 0 => .nil
  | j + 1 => by rw [List.replicate_succ, List.replicate_succ, List.map_cons]; exact .cons .non (dg_nons j)
section
variable {P : Program} {w : World} {K : PySem.W.Frag} {mg : Str → Option Value} {base : Heap}
def spEsc (T : Txt K mg) : Sp := fun vs H Q E => ∃ x d m y e m2, vs = [x, y] ∧ Dg K H m x d ∧ Dg K H m2 y e ∧ (isSg d = false → Bad T.C_InvalidSigns H x E) ∧ (isSg d = true → isBe (numD d) e = false → Bad T.C_InvalidSign H y E) ∧
  (∀ n k : Nat, d = .int n → e = .int k → 1 ≤ n → n ≤ 5 → k < n → Made K T.C_Decoder (escD n k) H Q)
theorem ok_escaped (T : Txt K mg) : FnOk P w K mg base (L2.CX P w) 9 T.f_escaped T.fd_escaped ["signs", "mark"] (spEsc T) := by
  refine T.F_escaped.okX sc_escaped (fun vs H Q E h => ?_) (fun cdv A outer s H vs Q E hr h => ?_)
  · obtain ⟨x, d, m, y, e, m2, rfl, _⟩ := h; rfl
  · obtain ⟨x, d, m, y, e, m2, rfl, hd, he, kB, kC, kQ⟩ := h
    refine ⟨_, (pss_cons (ps_expr (pe_call (ok_check_signs T) (hr.mono (by decide)) rfl T.g_check_signs T.F_check_signs.kp T.b_check_signs .nil (passes_call (takes_of rfl rfl rfl rfl) (fun _ _ _ _ z => z)) (pa_cons (pv 0) pa_nil)))
      (pss_cons (ps_if (pt_not (pt_val (pe_call (ok_is_below T) (hr.mono (by decide)) rfl T.g_is_below T.F_is_below.kp T.b_is_below .nil pass0 (pa_cons (pv 1) (pa_cons (pv 0) pa_nil))))) (pss_one (ps_raiseE rfl T.e_InvalidSign hr (takes_of rfl rfl rfl rfl) (pa_cons (pv 1) pa_nil))) pss_nil)
      (pss_cons (ps_setLc (i := 2) (own := [("sign", 3)]) (g := gName 3) (by rfl) sc_escaped.nd rfl rfl (sw_true rfl rfl rfl (by decide +kernel)) (pi_range1 rfl T.z_range (pa_cons (pv 0) pa_nil)) (blkOk_by (own := [("sign", 3)]) (N := N_escaped) (sc := defScope s_escaped) (by decide +kernel)) (fun _ _ _ _ _ => pg_name (i := 3) sc_escaped.nd rfl (Or.inl rfl)) (fun _ _ _ _ _ => pts_nil) (fun _ _ _ _ _ => (pe_ifExp (pt_cmpR op_eq (pv 3) (pv 1) (nomark _)) (pe_tup (pa_cons pe_int (pa_cons pe_str pa_nil))) (pe_tup (pa_cons pe_int (pa_cons (pe_ix ix_str (pe_glob (v := .str (Str.ofString "abcde")) rfl T.c_LETTERS ⟨_, rfl⟩) (pv 3) (fun _ _ => rfl)) pa_nil))))))
      (pss_cons (ps_setLc (i := 4) (own := [("sign", 3)]) (g := gName 3) (by rfl) sc_escaped.nd rfl rfl (sw_true rfl rfl rfl (by decide +kernel)) (pi_range1 rfl T.z_range (pa_cons (pv 0) pa_nil)) (blkOk_by (own := [("sign", 3)]) (N := N_escaped) (sc := defScope s_escaped) (by decide +kernel)) (fun _ _ _ _ _ => pg_name (i := 3) sc_escaped.nd rfl (Or.inl rfl)) (fun _ _ _ _ _ => pts_nil) (fun _ _ _ _ _ => (pe_tup (pa_cons pe_int (pa_cons (pe_op op_mul_str (pe_ix ix_str (pe_glob (v := .str (Str.ofString "abcde")) rfl T.c_LETTERS ⟨_, rfl⟩) (pv 3) (fun _ _ => rfl)) pe_int) pa_nil)))))
      (pss_one (ps_ret (pe_make T.mk_Decoder (ok_Decoder_init T) (hr.mono (by decide)) rfl T.g_Decoder T.b_Decoder_init .nil (passes_call (takes_of rfl rfl rfl rfl) (fun _ _ _ _ z => z)) (pa_cons (pv 0) (pa_cons (pe_lst (pa_cons (pv 2) (pa_cons (pv 4) pa_nil))) (pa_cons (pe_lst (pa_cons pe_str (pa_cons pe_non pa_nil))) pa_nil)))))))))), ?_⟩
    have two : 2 ≤ sizeLine := by decide
    have five : (Str.ofString "abcde").length ≤ sizeLine := by decide +kernel
    refine ⟨_, rfl, x, d, m, rfl, hd, kB, fun c => ?_⟩
    obtain ⟨n, rfl, n1, n5⟩ := isSg_nat c
    obtain rfl := hd.int_of
    refine ⟨_, rfl, _, rfl, y, e, m2, _, rfl, he, _, rfl, ?_⟩
    cases cb : isBe (n : Int) e with
    | false => exact iteT ⟨_, rfl, y, rfl, fun d' hd' => kC c cb d' _ (Same.new (Same.refl _) hd') hd' upd_same⟩
    | true =>
      obtain ⟨i, rfl, i0, i1⟩ := isBe_int cb
      obtain ⟨k, rfl⟩ : ∃ k : Nat, i = k := ⟨i.toNat, by omega⟩
      obtain rfl := he.int_of
      refine iteF ?_
      refine ⟨_, rfl, (n : Int), rfl, by omega, by omega, fun D hD => ?_⟩
      rw [Int.toNat_natCast]
      refine lc_range_data (K := K) (m := false) (p := D) (lo := 0) (n := n) (fun a => enD (if a = k then some (1, []) else some (0, [lt a]))) hD (by omega) (fun j H' R N hj s' eD kk => ⟨rfl, tYesT ⟨_, rfl, _, rfl, rfl, _, rfl, ?_⟩⟩) (fun H1 xs s1 e1 h1 => ?_)
      · by_cases e : j = k
        · rw [if_pos e] at kk
          rw [decide_eq_true (show V.int ((0 : Int) + (j : Int)) = V.int (k : Int) by congr 1; omega)]
          refine iteT ⟨two, fun t ht => ?_⟩
          obtain ⟨s4, dt⟩ := tup_new (K := K) (m := false) eD eD ht (ds := [.int 1, .str (S [])]) (xs := [.int 1, .str (Str.ofString "")]) fun G => .cons (.int _) (.cons (by rw [str_nil]; exact .str _) .nil)
          exact kk _ _ s4 dt
        · rw [if_neg e] at kk
          rw [decide_eq_false (show ¬ V.int ((0 : Int) + (j : Int)) = V.int (k : Int) from fun z => e (by have := V.int.inj z; omega))]
          refine iteF ⟨_, rfl, _, (j : Int), lt j, rfl, congrArg V.int (by omega), five, abcde_at (by omega), two, fun t ht => ?_⟩
          obtain ⟨s4, dt⟩ := tup_new (K := K) (m := false) eD eD ht (ds := [.int 0, .str (S [lt j])]) fun G => .cons (.int _) (.cons (.str _) .nil)
          exact kk _ _ s4 dt
      have h1' := own_list0 h1
      refine ⟨_, rfl, (n : Int), rfl, by omega, by omega, fun D2 hD2 => ?_⟩
      rw [Int.toNat_natCast]
      refine lc_range_data (K := K) (m := false) (p := D2) (lo := 0) (n := n) (fun a => enD (some (0, [lt a, lt a]))) hD2 (by omega) (fun j H' R N hj s' eD kk => ⟨rfl, tYesT ⟨_, rfl, _, (j : Int), lt j, rfl, congrArg V.int (by omega), five, abcde_at (by omega), S [lt j], 2, rfl, rfl, mulOk_S (n := 2) (by simp) (by omega), two, fun t ht => ?_⟩⟩) (fun H2 ys s2 e2 h2 => ?_)
      · rw [show Txt.mul (S [lt j]) 2 = S [lt j, lt j] from mul_S [lt j] 2]
        obtain ⟨s4, dt⟩ := tup_new (K := K) (m := false) eD eD ht (ds := [.int 0, .str (S [lt j, lt j])]) fun G => .cons (.int _) (.cons (.str _) .nil)
        exact kk _ _ s4 dt
      have h2' := own_list0 h2
      have h12 := h1'.ext s2
      refine ⟨_, rfl, _, rfl, _, rfl, two, fun L hL => ?_⟩
      have s3 : Same H2 (upd H2 L (.lst [.ref D, .ref D2])) := Same.new (Same.refl _) hL
      have dL : Dg K (upd H2 L (.lst [.ref D, .ref D2])) false (.ref L) (escD n k).stL := .lst (SqL.of upd_same) (fun z => by cases z) (.cons (.lst (SqL.of (s3 _ _ (s2 _ _ e1))) (fun z => by cases z) (by
        have := h12.ext s3
        unfold rng
        rw [List.map_map]
        exact this)) (.cons (.lst (SqL.of (s3 _ _ e2)) (fun z => by cases z) (by
        have := h2'.ext s3
        unfold rng
        rw [List.map_map]
        exact this)) .nil))
      refine ⟨two, fun M hM => ?_⟩
      have s4 : Same (upd H2 L (.lst [.ref D, .ref D2])) (upd (upd H2 L (.lst [.ref D, .ref D2])) M (.lst [.str (Str.ofString ""), .non])) := Same.new (Same.refl _) hM
      have ok := escD_ok (k := k) n1 n5
      exact mk_dec T (m2 := false) (m3 := false) (((s1.trans s2).trans s3).trans s4) (Dcd.goodL ok) (dL.ext s4) (.lst (SqL.of upd_same) (fun z => by cases z) (by rw [str_nil]; exact .cons (.str _) (.cons .non .nil))) (weight_stL ok) (weight_enL ok) (kQ n k rfl rfl n1 n5 (by omega))
def spShi (T : Txt K mg) : Sp := fun vs H Q E => ∃ x d m, vs = [x] ∧ Dg K H m x d ∧ ((isSg d = false ∨ d = .int 1) → Bad T.C_InvalidSigns H x E) ∧ (∀ n : Nat, d = .int n → 2 ≤ n → n ≤ 5 → Made K T.C_Decoder (shiD n) H Q)
theorem ok_shifted (T : Txt K mg) : FnOk P w K mg base (L2.CX P w) 9 T.f_shifted T.fd_shifted ["signs"] (spShi T) := by
  refine T.F_shifted.okX sc_shifted (fun vs H Q E h => ?_) (fun cdv A outer s H vs Q E hr h => ?_)
  · obtain ⟨x, d, m, rfl, _⟩ := h; rfl
  · obtain ⟨x, d, m, rfl, hd, kB, kQ⟩ := h
    refine ⟨_, (pss_cons (ps_expr (pe_call (ok_check_signs T) (hr.mono (by decide)) rfl T.g_check_signs T.F_check_signs.kp T.b_check_signs .nil (passes_call (takes_of rfl rfl rfl rfl) (fun _ _ _ _ z => z)) (pa_cons (pv 0) pa_nil)))
      (pss_cons (ps_if (pt_cmpR op_lt (pv 0) pe_int (nomark _)) (pss_one (ps_raiseE rfl T.e_InvalidSigns hr (takes_of rfl rfl rfl rfl) (pa_cons (pv 0) pa_nil))) pss_nil)
      (pss_cons (ps_setLc (i := 1) (own := [("sign", 2)]) (g := gName 2) (by rfl) sc_shifted.nd rfl rfl (sw_true rfl rfl rfl (by decide +kernel)) (pi_range1 rfl T.z_range (pa_cons (pe_op op_sub (pv 0) pe_int) pa_nil)) (blkOk_by (own := [("sign", 2)]) (N := N_shifted) (sc := defScope s_shifted) (by decide +kernel)) (fun _ _ _ _ _ => pg_name (i := 2) sc_shifted.nd rfl (Or.inl rfl)) (fun _ _ _ _ _ => pts_nil) (fun _ _ _ _ _ => (pe_tup (pa_cons pe_int (pa_cons (pe_ix ix_str (pe_glob (v := .str (Str.ofString "abcde")) rfl T.c_LETTERS ⟨_, rfl⟩) (pv 2) (fun _ _ => rfl)) pa_nil)))))
      (pss_cons (ps_setLc (i := 3) (own := [("sign", 2)]) (g := gName 2) (by rfl) sc_shifted.nd rfl rfl (sw_true rfl rfl rfl (by decide +kernel)) (pi_range1 rfl T.z_range (pa_cons (pe_op op_sub (pv 0) pe_int) pa_nil)) (blkOk_by (own := [("sign", 2)]) (N := N_shifted) (sc := defScope s_shifted) (by decide +kernel)) (fun _ _ _ _ _ => pg_name (i := 2) sc_shifted.nd rfl (Or.inl rfl)) (fun _ _ _ _ _ => pts_nil) (fun _ _ _ _ _ => (pe_tup (pa_cons pe_int (pa_cons (pe_op op_add_str (pe_ix ix_str (pe_glob (v := .str (Str.ofString "abcde")) rfl T.c_LETTERS ⟨_, rfl⟩) (pv 2) (fun _ _ => rfl)) pe_str) pa_nil)))))
      (pss_one (ps_ret (pe_make T.mk_Decoder (ok_Decoder_init T) (hr.mono (by decide)) rfl T.g_Decoder T.b_Decoder_init .nil (passes_call (takes_of rfl rfl rfl rfl) (fun _ _ _ _ z => z)) (pa_cons (pv 0) (pa_cons (pe_lst (pa_cons (pe_lst (StX.pa_star (pv 1) (pa_cons (pe_tup (pa_cons pe_int (pa_cons pe_str pa_nil))) pa_nil))) (pa_cons (pe_lst (StX.pa_star (pv 3) (pa_cons (pe_tup (pa_cons pe_int (pa_cons pe_str pa_nil))) pa_nil))) pa_nil))) (pa_cons (pe_lst (pa_cons pe_str (pa_cons pe_str pa_nil))) pa_nil)))))))))), ?_⟩
    have two : 2 ≤ sizeLine := by decide
    have five : (Str.ofString "abcde").length ≤ sizeLine := by decide +kernel
    refine ⟨_, rfl, x, d, m, rfl, hd, fun z => kB (.inl z), fun c => ?_⟩
    obtain ⟨n, rfl, n1, n5⟩ := isSg_nat c
    obtain rfl := hd.int_of
    refine ⟨_, rfl, _, _, rfl, rfl, _, rfl, ite2 (fun c2 => ?_) (fun c2 => ?_)⟩
    · have c2' := of_decide_eq_true c2
      have n1' : n = 1 := by omega
      subst n1'
      exact ⟨_, rfl, _, rfl, fun d' hd' => kB (.inr rfl) d' _ (Same.new (Same.refl _) hd') hd' upd_same⟩
    have c2' : ¬ (n : Int) < 2 := fun z => c2 (decide_eq_true z)
    obtain ⟨k, rfl⟩ : ∃ k, n = k + 1 := ⟨n - 1, by omega⟩
    refine ⟨_, rfl, _, _, rfl, rfl, (k : Int), congrArg (fun z => [V.int z]) (by omega), by omega, by omega, fun D hD => ?_⟩
    rw [Int.toNat_natCast]
    refine lc_range_data (K := K) (m := false) (p := D) (lo := 0) (n := k) (fun a => enD (some (0, [lt a]))) hD (by omega) (fun j H' R N hj s' eD kk => ⟨rfl, tYesT ⟨_, rfl, _, (j : Int), lt j, rfl, congrArg V.int (by omega), five, abcde_at (by omega), two, fun t ht => ?_⟩⟩) (fun H1 xs s1 e1 h1 => ?_)
    · obtain ⟨s4, dt⟩ := tup_new (K := K) (m := false) eD eD ht (ds := [.int 0, .str (S [lt j])]) fun G => .cons (.int _) (.cons (.str _) .nil)
      exact kk _ _ s4 dt
    have h1' := own_list0 h1
    refine ⟨_, rfl, _, _, rfl, rfl, (k : Int), congrArg (fun z => [V.int z]) (by omega), by omega, by omega, fun D2 hD2 => ?_⟩
    rw [Int.toNat_natCast]
    refine lc_range_data (K := K) (m := false) (p := D2) (lo := 0) (n := k) (fun a => enD (some (1, [lt a, 120]))) hD2 (by omega) (fun j H' R N hj s' eD kk => ⟨rfl, tYesT ⟨_, rfl, _, (j : Int), lt j, rfl, congrArg V.int (by omega), five, abcde_at (by omega), S [lt j], Str.ofString "x", rfl, rfl, ?_, two, fun t ht => ?_⟩⟩) (fun H2 ys s2 e2 h2 => ?_)
    · rw [S_len, show (Str.ofString "x").length = 1 by decide +kernel]; exact two
    · rw [show S [lt j] ++ Str.ofString "x" = S [lt j, 120] from by rw [show Str.ofString "x" = S [120] by decide +kernel, S_app]; rfl]
      obtain ⟨s4, dt⟩ := tup_new (K := K) (m := false) eD eD ht (ds := [.int 1, .str (S [lt j, 120])]) fun G => .cons (.int _) (.cons (.str _) .nil)
      exact kk _ _ s4 dt
    have h2' := own_list0 h2
    have lx := h1'.len
    have ly := h2'.len
    rw [List.length_map, List.length_range] at lx ly
    have e12 := s2 _ _ e1
    have h12 := h1'.ext s2
    have big : ∀ (zs : List V) (t : Addr), zs.length = k → (zs ++ [V.ref t]).length ≤ sizeLine := fun zs t h => by rw [List.length_append, h]; exact Nat.le_trans (show k + 1 ≤ 5 by omega) (by decide)
    refine ⟨_, rfl, _, rfl, D, xs, rfl, .inr (SqL.of e12), two, fun t ht => ⟨big xs t lx, fun L1 hL1 => ?_⟩⟩
    have s3 : Same H2 (upd H2 t (.tup [.int 1, .str (Str.ofString "")])) := Same.new (Same.refl _) ht
    have et : (upd H2 t (.tup [.int 1, .str (Str.ofString "")])) t = some (.tup [.int 1, .str (Str.ofString "")]) := upd_same
    generalize upd H2 t (.tup [.int 1, .str (Str.ofString "")]) = H3 at s3 et hL1 ⊢
    have s4 : Same H3 (upd H3 L1 (.lst (xs ++ [.ref t]))) := Same.new (Same.refl _) hL1
    have eL1 : (upd H3 L1 (.lst (xs ++ [.ref t]))) L1 = some (.lst (xs ++ [.ref t])) := upd_same
    generalize upd H3 L1 (.lst (xs ++ [.ref t])) = H4 at s4 eL1 ⊢
    have s34 := s3.trans s4
    have r1 : DgAll K H4 false (xs ++ [.ref t]) ((List.range k).map (fun a => enD (some (0, [lt a]))) ++ [enD (some (1, []))]) := (h12.ext s34).append (.cons (.tup (SqT.of (s4 _ _ et)) (.cons (.int _) (.cons (by rw [str_nil]; exact .str _) .nil))) .nil)
    refine ⟨_, rfl, D2, ys, rfl, .inr (SqL.of (s34 _ _ e2)), two, fun t2 ht2 => ⟨big ys t2 ly, fun L2 hL2 => ?_⟩⟩
    have s5 : Same H4 (upd H4 t2 (.tup [.int 0, .str (Str.ofString "")])) := Same.new (Same.refl _) ht2
    have et2 : (upd H4 t2 (.tup [.int 0, .str (Str.ofString "")])) t2 = some (.tup [.int 0, .str (Str.ofString "")]) := upd_same
    generalize upd H4 t2 (.tup [.int 0, .str (Str.ofString "")]) = H5 at s5 et2 hL2 ⊢
    have s6 : Same H5 (upd H5 L2 (.lst (ys ++ [.ref t2]))) := Same.new (Same.refl _) hL2
    have eL2 : (upd H5 L2 (.lst (ys ++ [.ref t2]))) L2 = some (.lst (ys ++ [.ref t2])) := upd_same
    generalize upd H5 L2 (.lst (ys ++ [.ref t2])) = H6 at s6 eL2 ⊢
    have s56 := s5.trans s6
    have r2 : DgAll K H6 false (ys ++ [.ref t2]) ((List.range k).map (fun a => enD (some (1, [lt a, 120]))) ++ [enD (some (0, []))]) := (h2'.ext (s34.trans s56)).append (.cons (.tup (SqT.of (s6 _ _ et2)) (.cons (.int _) (.cons (by rw [str_nil]; exact .str _) .nil))) .nil)
    refine ⟨two, fun L hL => ?_⟩
    have s7 : Same H6 (upd H6 L (.lst [.ref L1, .ref L2])) := Same.new (Same.refl _) hL
    have dL : Dg K (upd H6 L (.lst [.ref L1, .ref L2])) false (.ref L) (shiD (k + 1)).stL := .lst (SqL.of upd_same) (fun z => by cases z) (.cons (.lst (SqL.of (s7 _ _ (s56 _ _ eL1))) (fun z => by cases z) (by
        have := (r1.ext s56).ext s7
        unfold rng
        rw [List.map_append, List.map_map]
        exact this)) (.cons (.lst (SqL.of (s7 _ _ eL2)) (fun z => by cases z) (by
        have := r2.ext s7
        unfold rng
        rw [List.map_append, List.map_map]
        exact this)) .nil))
    refine ⟨two, fun M hM => ?_⟩
    have s8 : Same (upd H6 L (.lst [.ref L1, .ref L2])) (upd (upd H6 L (.lst [.ref L1, .ref L2])) M (.lst [.str (Str.ofString ""), .str (Str.ofString "")])) := Same.new (Same.refl _) hM
    have ok := shiD_ok (n := k + 1) (by omega) n5
    exact mk_dec T (m2 := false) (m3 := false) (((s1.trans s2).trans (s34.trans s56)).trans (s7.trans s8)) (Dcd.goodL ok) (dL.ext s8) (.lst (SqL.of upd_same) (fun z => by cases z) (by rw [str_nil]; exact .cons (.str _) (.cons (.str _) .nil))) (weight_stL ok) (weight_enL ok) (kQ (k + 1) rfl (by omega) n5)
def spRun (T : Txt K mg) : Sp := fun vs H Q E => ∃ x d m, vs = [x] ∧ Dg K H m x d ∧ (isSg d = false → Bad T.C_InvalidSigns H x E) ∧ (∀ n : Nat, d = .int n → 1 ≤ n → n ≤ 5 → Made K T.C_Decoder (runD n) H Q)
theorem ok_run_lengths (T : Txt K mg) : FnOk P w K mg base (L2.CX P w) 9 T.f_run_lengths T.fd_run_lengths ["signs"] (spRun T) := by
  refine T.F_run_lengths.okX sc_run_lengths (fun vs H Q E h => ?_) (fun cdv A outer s H vs Q E hr h => ?_)
  · obtain ⟨x, d, m, rfl, _⟩ := h; rfl
  · obtain ⟨x, d, m, rfl, hd, kB, kQ⟩ := h
    refine ⟨_, (pss_cons (ps_expr (pe_call (ok_check_signs T) (hr.mono (by decide)) rfl T.g_check_signs T.F_check_signs.kp T.b_check_signs .nil (passes_call (takes_of rfl rfl rfl rfl) (fun _ _ _ _ z => z)) (pa_cons (pv 0) pa_nil)))
      (pss_cons (ps_setLc (i := 1) (own := [("sign", 2)]) (g := gName 2) (by rfl) sc_run_lengths.nd rfl rfl (sw_true rfl rfl rfl (by decide +kernel)) (pi_range1 rfl T.z_range (pa_cons (pv 0) pa_nil)) (blkOk_by (own := [("sign", 2)]) (N := N_run_lengths) (sc := defScope s_run_lengths) (by decide +kernel)) (fun _ _ _ _ _ => pg_name (i := 2) sc_run_lengths.nd rfl (Or.inl rfl)) (fun _ _ _ _ _ => pts_nil) (fun _ _ _ _ _ => (pe_tup (pa_cons (pe_op op_add (pv 2) pe_int) (pa_cons pe_str pa_nil)))))
      (pss_cons (ps_setLc (i := 3) (own := [("sign", 2)]) (g := gName 2) (by rfl) sc_run_lengths.nd rfl rfl (sw_true rfl rfl rfl (by decide +kernel)) (pi_range1 rfl T.z_range (pa_cons (pv 0) pa_nil)) (blkOk_by (own := [("sign", 2)]) (N := N_run_lengths) (sc := defScope s_run_lengths) (by decide +kernel)) (fun _ _ _ _ _ => pg_name (i := 2) sc_run_lengths.nd rfl (Or.inr rfl)) (fun _ _ _ _ _ => pts_nil) (fun _ _ _ _ _ => (pe_lc (own := [("times", 4)]) (g := gName 4) (by rfl) sc_run_lengths.nd (pi_range1 rfl T.z_range (pa_cons (pv 0) pa_nil)) (blkOk_by (own := [("times", 4)]) (N := N_run_lengths) (sc := relS _ (defScope s_run_lengths)) (by decide +kernel)) (fun _ _ _ _ _ => pg_name (i := 4) sc_run_lengths.nd rfl (Or.inl rfl)) (fun _ _ _ _ _ => pts_nil) (fun _ _ _ _ _ => (pe_tup (pa_cons pe_int (pa_cons (pe_op op_mul_str (pe_ix ix_str (pe_glob (v := .str (Str.ofString "abcde")) rfl T.c_LETTERS ⟨_, rfl⟩) (pv 2) (fun _ _ => rfl)) (pe_op op_add (pe_callB (call_min2 rfl) (by rfl) T.z_min (by decide +kernel) (pa_cons (pv 4) (pa_cons pe_int pa_nil))) pe_int)) pa_nil)))))))
      (pss_one (ps_ret (pe_make T.mk_Decoder (ok_Decoder_init T) (hr.mono (by decide)) rfl T.g_Decoder T.b_Decoder_init .nil (passes_call (takes_of rfl rfl rfl rfl) (fun _ _ _ _ z => z)) (pa_cons (pv 0) (pa_cons (pe_lst (pa_cons (pv 1) (StX.pa_star (pv 3) pa_nil))) (pa_cons (pe_lst (pa_cons pe_str (StX.pa_star (pe_op op_rep (pe_lst (pa_cons pe_non pa_nil)) (pv 0)) pa_nil))) pa_nil))))))))), ?_⟩
    have two : 2 ≤ sizeLine := by decide
    have five : (Str.ofString "abcde").length ≤ sizeLine := by decide +kernel
    refine ⟨_, rfl, x, d, m, rfl, hd, kB, fun c => ?_⟩
    obtain ⟨n, rfl, n1, n5⟩ := isSg_nat c
    obtain rfl := hd.int_of
    refine ⟨_, rfl, (n : Int), rfl, by omega, by omega, fun D hD => ?_⟩
    rw [Int.toNat_natCast]
    refine lc_range_data (K := K) (m := false) (p := D) (lo := 0) (n := n) (fun a => enD (some (a + 1, []))) hD (by omega) (fun j H' R N hj s' eD kk => ⟨rfl, tYesT ⟨_, rfl, _, _, rfl, rfl, two, fun t ht => ?_⟩⟩) (fun H1 xs s1 e1 h1 => ?_)
    · obtain ⟨s4, dt⟩ := tup_new (K := K) (m := false) eD eD ht (ds := [.int ((j + 1 : Nat) : Int), .str (S [])]) (xs := [.int ((0 : Int) + (j : Int) + 1), .str (Str.ofString "")]) fun G => .cons (by rw [show (0 : Int) + (j : Int) + 1 = ((j + 1 : Nat) : Int) by omega]; exact .int _) (.cons (by rw [str_nil]; exact .str _) .nil)
      exact kk _ _ s4 dt
    have h1' := own_list0 h1
    refine ⟨_, rfl, (n : Int), rfl, by omega, by omega, fun D2 hD2 => ?_⟩
    rw [Int.toNat_natCast]
    refine lc_range_data (K := K) (m := false) (p := D2) (lo := 0) (n := n) (fun a => .list ((List.range n).map fun t => enD (some (0, List.replicate (min t 2 + 1) (lt a))))) hD2 (by omega) (fun a H' R N ha s' eD kk => ⟨rfl, tYesT ⟨_, rfl, (n : Int), rfl, by omega, by omega, fun D3 hD3 => ?_⟩⟩) (fun H2 ys s2 e2 h2 => ?_)
    · rw [Int.toNat_natCast]
      refine lc_range_data (K := K) (m := false) (p := D2) (lo := 0) (n := n) (fun t => enD (some (0, List.replicate (min t 2 + 1) (lt a)))) hD3 (by omega) (fun j H'' R' N' hj s'' eD' kk' => ⟨rfl, tYesT ⟨_, rfl, _, (a : Int), lt a, rfl, congrArg V.int (by omega), five, abcde_at (by omega), _, rfl, _, _, rfl, _, _, rfl, rfl, S [lt a], ((min j 2 + 1 : Nat) : Int), rfl, congrArg V.int ?_, mulOk_S (by simp) (by omega), two, fun t ht => ?_⟩⟩) (fun H'' zs s'' e'' h'' => ?_)
      · split <;> omega
      · rw [mul_S, rounds_one]
        obtain ⟨s4, dt⟩ := tup_new (K := K) (m := false) eD' (same_at s'' eD) ht (ds := [.int 0, .str (S (List.replicate (min j 2 + 1) (lt a)))]) fun G => .cons (.int _) (.cons (.str _) .nil)
        exact kk' _ _ s4 dt
      · have n3 : D3 ≠ D2 := fun z => eD (by rw [← z]; exact hD3)
        refine kk _ _ s'' (.lst (SqL.of (by rw [wo_wo, wo_ne n3]; exact e'')) (fun z => by cases z) (h''.ext fun b o e => by rw [wo_wo]; exact wo_le e))
    have h2' := own_list0 h2
    have ly := h2'.len
    rw [List.length_map, List.length_range] at ly
    have e12 := s2 _ _ e1
    have h12 := h1'.ext s2
    refine ⟨_, rfl, _, rfl, _, rfl, D2, ys, rfl, .inr (SqL.of e2), ?_, fun L hL => ?_⟩
    · rw [List.append_nil, List.length_cons, ly]; exact Nat.le_trans (show n + 1 ≤ 6 by omega) (by decide)
    rw [List.append_nil]
    have s3 : Same H2 (upd H2 L (.lst (.ref D :: ys))) := Same.new (Same.refl _) hL
    have dL : Dg K (upd H2 L (.lst (.ref D :: ys))) false (.ref L) (runD n).stL := .lst (SqL.of upd_same) (fun z => by cases z) (.cons (.lst (SqL.of (s3 _ _ e12)) (fun z => by cases z) (by
        have := h12.ext s3
        unfold rng
        rw [List.map_map]
        exact this)) (by
        have := h2'.ext s3
        have e : (rng n fun a => rng n fun t => (some (0, List.replicate (min t 2 + 1) (lt a)) : Ent)).map (fun r => PyData.list (r.map My.enD)) = (List.range n).map (fun a => PyData.list ((List.range n).map fun t => enD (some (0, List.replicate (min t 2 + 1) (lt a))))) := by
          unfold rng
          rw [List.map_map]
          refine List.map_congr_left fun a _ => ?_
          show PyData.list (List.map My.enD _) = _
          rw [List.map_map]; rfl
        show DgAll K _ false ys ((rng n fun a => rng n fun t => (some (0, List.replicate (min t 2 + 1) (lt a)) : Ent)).map (fun r => PyData.list (r.map My.enD)))
        rw [e]
        exact this))
    generalize upd H2 L (.lst (.ref D :: ys)) = H3 at s3 dL ⊢
    refine ⟨(by show 1 ≤ sizeLine; decide), fun N0 hN0 => ⟨_, rfl, N0, (n : Int), [.non], rfl, rfl, upd_same, by omega, by omega, ?_, fun N1 hN1 => ?_⟩⟩
    · rw [Int.toNat_natCast]; simp; exact Nat.le_trans n5 (by decide)
    rw [Int.toNat_natCast, rep_non]
    have s4 : Same H3 (upd H3 N0 (.lst [.non])) := Same.new (Same.refl _) hN0
    generalize upd H3 N0 (.lst [.non]) = H4 at s4 hN1 ⊢
    have s5 : Same H4 (upd H4 N1 (.lst (List.replicate n .non))) := Same.new (Same.refl _) hN1
    have e5 : (upd H4 N1 (.lst (List.replicate n .non))) N1 = some (.lst (List.replicate n .non)) := upd_same
    generalize upd H4 N1 (.lst (List.replicate n .non)) = H5 at s5 e5 ⊢
    refine ⟨N1, _, rfl, .inr (SqL.of e5), ?_, fun M hM => ?_⟩
    · rw [List.append_nil, List.length_cons, List.length_replicate]; exact Nat.le_trans (show n + 1 ≤ 6 by omega) (by decide)
    rw [List.append_nil]
    have s6 : Same H5 (upd H5 M (.lst (.str (Str.ofString "") :: List.replicate n .non))) := Same.new (Same.refl _) hM
    have ok := runD_ok n1 n5
    exact mk_dec T (m2 := false) (m3 := false) (((s1.trans s2).trans s3).trans ((s4.trans s5).trans s6)) (Dcd.goodL ok) (dL.ext ((s4.trans s5).trans s6)) (.lst (SqL.of upd_same) (fun z => by cases z) (by rw [str_nil]; exact .cons (.str _) (dg_nons n))) (weight_stL ok) (weight_enL ok) (kQ n rfl n1 n5)
end
end My

set_option Elab.async false
set_option linter.all false
set_option maxRecDepth 100000
set_option maxHeartbeats 8000000
namespace My
open PySem PySem.Spec PyProof.Rows L2
def isWh (lo hi : Int) : PyData → Bool | .int i => decide (lo ≤ i) && decide (i ≤ hi) | _ => false
section
variable {P : Program} {w : World} {K : PySem.W.Frag} {mg : Str → Option Value} {base : Heap}
def spCell (K : PySem.W.Frag) : Sp := fun vs H Q _ => ∃ (a : Addr) (ns : List Int) (k : Nat), vs = [.ref a, .int k] ∧ SqL K H a (ns.map V.int) ∧ ∀ c H', Same H H' → Q (.int c) H'
theorem ok_law_cell (T : Txt K mg) : FnOk P w K mg base CX0 1 T.f_law_cell T.fd_law_cell ["script", "k"] (spCell K) := by
  refine T.F_law_cell.ok sc_law_cell (fun vs H Q E h => ?_) (fun cdv A outer s H vs Q E hr h => ?_)
  · obtain ⟨a, ns, k, rfl, _⟩ := h; rfl
  · obtain ⟨a, ns, k, rfl, hS, q⟩ := h
    refine ⟨_, (pss_one (ps_ret (pe_ifExp (pt_cmpR op_lt (pv 1) (pe_callB call_len_seq (by rfl) T.z_len (by decide +kernel) (pa_cons (pv 0) pa_nil)) (nomark _)) (pe_ix ix_list (pv 0) (pv 1) (fun _ _ => rfl)) (pe_op op_add (pe_op op_mul pe_int (pv 1)) (pe_op op_mod (pe_callB (cr_sum rfl) (by rfl) T.z_sum (by decide +kernel) (pa_cons (pe_slice sl_list (pv 0) po_none (po_some pe_int)) pa_nil)) pe_int))))), ?_⟩
    refine ⟨_, rfl, _, rfl, a, _, rfl, .inl hS, _, _, rfl, rfl, _, rfl, ite2 (fun c => ?_) (fun c => ?_)⟩
    · have c' := of_decide_eq_true c
      have hk : k < ns.length := by rw [List.length_map] at c'; omega
      exact ⟨_, rfl, _, rfl, a, _, _, _, rfl, rfl, hS, atI_nat (j := k) (v := V.int ns[k]) (by rw [List.getElem?_map, List.getElem?_eq_getElem hk]; rfl), q _ H (Same.refl H)⟩
    · refine ⟨_, rfl, _, _, rfl, rfl, .inl (by decide), _, rfl, 1, rfl, a, _, rfl, hS, fun p hp => ?_⟩
      rw [show cutV (ns.map V.int) none (some 1) = (ns.take 1).map V.int by rw [show (some (1 : Int)) = some ((1 : Nat) : Int) from rfl, cutV_to, List.map_take]]
      exact ⟨p, ns.take 1, rfl, SqL.of upd_same, _, _, rfl, rfl, (by show (0 : Int) < 1000081; decide), _, _, rfl, rfl, q _ _ (Same.new (Same.refl H) hp)⟩
def spBox : Sp := fun vs H Q _ => ∃ c : Int, vs = [.int c] ∧ ∀ p o, H p = none → BoxO 0 o → Q (.ref p) (upd H p o)
theorem ok_law_box (T : Txt K mg) : FnOk P w K mg base CX0 1 T.f_law_box T.fd_law_box ["great"] spBox := by
  refine T.F_law_box.ok sc_law_box (fun vs H Q E h => ?_) (fun cdv A outer s H vs Q E hr h => ?_)
  · obtain ⟨c, rfl, _⟩ := h; rfl
  · obtain ⟨c, rfl, q⟩ := h
    refine ⟨_, (pss_one (ps_ret (pe_lst (pa_cons (pe_callB call_abs (by rfl) T.z_abs (by decide +kernel) (pa_cons (pv 0) pa_nil)) (pa_cons (pe_cmpR op_ge (pe_callB call_abs (by rfl) T.z_abs (by decide +kernel) (pa_cons (pv 0) pa_nil)) (pe_op op_pow pe_int pe_int) (nomark _)) (pa_cons (pe_op op_mod (pe_callTy call_int1 (by rfl) T.z_int (by decide +kernel) (pa_cons (pe_callB call_abs (by rfl) T.z_abs (by decide +kernel) (pa_cons (pv 0) pa_nil)) pa_nil)) pe_int) (pa_cons pe_int pa_nil))))))), ?_⟩
    refine ⟨_, rfl, _, rfl, _, rfl, _, rfl, _, _, rfl, rfl, ⟨by decide, by decide, by decide⟩, _, _, rfl, rfl, _, rfl, _, rfl, .inl ⟨_, rfl, _, _, rfl, rfl, (by show (0 : Int) < 2147483629; decide), (by show 4 ≤ sizeLine; decide), fun p hp => q p _ hp ⟨_, _, _, _, rfl, ?_, ?_, Int.le_refl 0, Int.le_refl 0⟩⟩⟩
    · exact Int.emod_nonneg _ (by decide)
    · have := Int.emod_lt_of_pos (if c < 0 then -c else c) (by decide : (0 : Int) < 2147483629)
      omega
/-- a draw below many; the box goes on -/
def spTake : Sp := fun vs H Q _ => ∃ (p : Addr) (n : Nat) (many : Int), vs = [.ref p, .int many] ∧ BoxAt H p n ∧ n < 1000000000 ∧ 0 < many ∧ many < 1000000 ∧
  ∀ (d : Nat) o, (d : Int) < many → BoxO (n + 1) o → Q (.int d) (upd H p o)
theorem ok_law_take (T : Txt K mg) : FnOk P w K mg base CX0 1 T.f_law_take T.fd_law_take ["box", "many"] spTake := by
  refine T.F_law_take.ok sc_law_take (fun vs H Q E h => ?_) (fun cdv A outer s H vs Q E hr h => ?_)
  · obtain ⟨p, n, m, rfl, _⟩ := h; rfl
  · obtain ⟨p, n, many, rfl, ⟨o, ho, a, m, c, b, rfl, m0, m1, c0, c1⟩, hn, p0, p1, q⟩ := h
    refine ⟨_, (pss_cons (ps_if (PW.pt (pw_and (pt_val (pe_ix ix_list (pv 0) pe_int (fun _ _ => rfl))) (pw_and1 (pt_cmpR op_gt (pe_ix ix_list (pv 0) pe_int (fun _ _ => rfl)) pe_int (nomark _))))) (pss_cons (ps_set (i := 2) sc_law_take.nd rfl (Or.inl rfl) (pe_op op_mod (pe_callTy call_int1 (by rfl) T.z_int (by decide +kernel) (pa_cons (pe_ix ix_list (pv 0) pe_int (fun _ _ => rfl)) pa_nil)) (pv 1)))
      (pss_cons (ps_asg (pe_op op_fdivW (pe_ix ix_list (pv 0) pe_int (fun _ _ => rfl)) (pv 1)) (pg_sub (pv 0) pe_int set_list))
      (pss_one (ps_ret (pv 2))))) pss_nil)
      (pss_cons (ps_asg (pe_op op_add (pe_ix ix_list (pv 0) pe_int (fun _ _ => rfl)) pe_int) (pg_sub (pv 0) pe_int set_list))
      (pss_cons (ps_set (i := 3) sc_law_take.nd rfl (Or.inl rfl) (pe_op op_mod (pe_callTy call_int1 (by rfl) T.z_int (by decide +kernel) (pa_cons (pe_op op_pow (pe_op op_add (pe_op op_add (pe_ix ix_list (pv 0) pe_int (fun _ _ => rfl)) (pe_op op_mul pe_int (pe_ix ix_list (pv 0) pe_int (fun _ _ => rfl)))) pe_int) pe_int) pa_nil)) pe_int))
      (pss_one (ps_ret (pe_op op_mod (pe_op op_fdivW (pe_op op_mod (pe_callTy call_int1 (by rfl) T.z_int (by decide +kernel) (pa_cons (pe_op op_pow (pe_op op_add (pe_op op_mul (pv 3) pe_int) (pe_op op_mul pe_int (pe_ix ix_list (pv 0) pe_int (fun _ _ => rfl)))) pe_int) pa_nil)) pe_int) pe_int) (pv 1))))))), ?_⟩
    have at0 : atI [V.int a, .bl b, .int m, .int c] 0 = some (.int a) := atI_nat (j := 0) rfl
    have at1 : atI [V.int a, .bl b, .int m, .int c] 1 = some (.bl b) := atI_nat (j := 1) rfl
    have at3 : atI [V.int a, .bl b, .int m, .int c] 3 = some (.int c) := atI_nat (j := 3) rfl
    have lm : CDivW a many := ⟨p0, by
      have : many.natAbs < 2 ^ 20 := by omega
      exact Nat.lt_of_lt_of_le (PySem.Flt.log2_lt_of (by decide) this) (by decide)⟩
    have second : tSeq (tAsg (tOp (rI0 fun i j => .int (i + j)) (tOp (rIxL K) (tVar 0) (tC (.int 3))) (tC (.int 1))) (gSub (tVar 0) (tC (.int 3)) rSetL))
        (tSeq (tAsg (tOp (rI (fun _ j => 0 < j) fun i j => .int (i % j)) (tCB (fun xs H Q => (∃ i, xs = [.int i] ∧ Q (.int i) H) ∨ ∃ k, xs = [.bl k] ∧ Q (.int (if k then 1 else 0)) H) (tCons (tOp (rI CPow fun i j => .int (i ^ j.toNat)) (tOp (rI0 fun i j => .int (i + j)) (tOp (rI0 fun i j => .int (i + j)) (tOp (rIxL K) (tVar 0) (tC (.int 2))) (tOp (rI CMul fun i j => .int (i * j)) (tC (.int 15485863)) (tOp (rIxL K) (tVar 0) (tC (.int 3))))) (tC (.int 179424697))) (tC (.int 5))) tNil)) (tC (.int 2147483647))) (gName 3))
        (tRet (tOp (rI (fun _ j => 0 < j) fun i j => .int (i % j)) (tOp (rI CDivW fun i j => .int (i / j)) (tOp (rI (fun _ j => 0 < j) fun i j => .int (i % j)) (tCB (fun xs H Q => (∃ i, xs = [.int i] ∧ Q (.int i) H) ∨ ∃ k, xs = [.bl k] ∧ Q (.int (if k then 1 else 0)) H) (tCons (tOp (rI CPow fun i j => .int (i ^ j.toNat)) (tOp (rI0 fun i j => .int (i + j)) (tOp (rI CMul fun i j => .int (i * j)) (tVar 3) (tC (.int 48271))) (tOp (rI CMul fun i j => .int (i * j)) (tC (.int 104723)) (tOp (rIxL K) (tVar 0) (tC (.int 3))))) (tC (.int 3))) tNil)) (tC (.int 2147483587))) (tC (.int 64))) (tVar 1))))
        { nx := fun _ H' => Q .non H', rt := Q } [some (.ref p), some (.int many), none, none] H := by
      refine ⟨_, rfl, p, _, _, _, rfl, rfl, SqL.of ho, at3, _, _, rfl, rfl, _, rfl, p, _, 3, 3, rfl, rfl, ho, rfl, ?_⟩
      have hu : upd H p (.lst [.int a, .bl b, .int m, .int (c + 1)]) p = some (.lst [.int a, .bl b, .int m, .int (c + 1)]) := upd_same
      refine ⟨_, rfl, p, _, _, _, rfl, rfl, SqL.of hu, atI_nat (j := 2) rfl, _, rfl, p, _, _, _, rfl, rfl, SqL.of hu, atI_nat (j := 3) rfl, _, _, rfl, rfl, .inl (by decide), _, _, rfl, rfl, _, _, rfl, rfl, _, _, rfl, rfl, ⟨by decide, by decide, by omega⟩, .inl ⟨_, rfl, _, _, rfl, rfl, (by show (0 : Int) < 2147483647; decide), ?_⟩⟩
      refine ⟨_, rfl, _, _, rfl, rfl, .inr (by decide), _, rfl, p, _, _, _, rfl, rfl, SqL.of hu, atI_nat (j := 3) rfl, _, _, rfl, rfl, .inl (by decide), _, _, rfl, rfl, _, _, rfl, rfl, ⟨by decide, by decide, by omega⟩, .inl ⟨_, rfl, _, _, rfl, rfl, (by show (0 : Int) < 2147483587; decide), _, _, rfl, rfl, ⟨by decide, by decide⟩, _, rfl, _, _, rfl, rfl, p0, ?_⟩⟩
      have y0 := Int.emod_nonneg ((((m + 15485863 * (c + 1) + 179424697) ^ (5 : Int).toNat % 2147483647) * 48271 + 104723 * (c + 1)) ^ (3 : Int).toNat % 2147483587 / 64) (by omega : many ≠ 0)
      have y1 := Int.emod_lt_of_pos ((((m + 15485863 * (c + 1) + 179424697) ^ (5 : Int).toNat % 2147483647) * 48271 + 104723 * (c + 1)) ^ (3 : Int).toNat % 2147483587 / 64) p0
      show Q (.int ((((m + 15485863 * (c + 1) + 179424697) ^ (5 : Int).toNat % 2147483647) * 48271 + 104723 * (c + 1)) ^ (3 : Int).toNat % 2147483587 / 64 % many)) _
      generalize (((m + 15485863 * (c + 1) + 179424697) ^ (5 : Int).toNat % 2147483647) * 48271 + 104723 * (c + 1)) ^ (3 : Int).toNat % 2147483587 / 64 % many = y at *
      obtain ⟨d, rfl⟩ : ∃ d : Nat, y = d := ⟨y.toNat, by omega⟩
      exact q d _ y1 ⟨a, m, c + 1, b, rfl, m0, m1, by omega, by omega⟩
    refine ⟨_, rfl, p, _, _, _, rfl, rfl, SqL.of ho, at1, b, rfl, ?_⟩
    cases b with
    | false => exact iteF (iteF second)
    | true =>
      refine iteT ⟨_, rfl, p, _, _, _, rfl, rfl, SqL.of ho, at0, _, _, rfl, rfl, _, rfl, ite2 (fun z => ?_) (fun z => second)⟩
      refine ⟨_, rfl, p, _, _, _, rfl, rfl, SqL.of ho, at0, .inl ⟨_, rfl, _, rfl, _, _, rfl, rfl, p0, ?_⟩⟩
      refine ⟨_, rfl, p, _, _, _, rfl, rfl, SqL.of ho, at0, _, rfl, _, _, rfl, rfl, lm, _, rfl, p, _, 0, 0, rfl, rfl, ho, rfl, _, rfl, ?_⟩
      have y0 := Int.emod_nonneg a (by omega : many ≠ 0)
      have y1 := Int.emod_lt_of_pos a p0
      show Q (.int (a % many)) _
      generalize a % many = y at *
      obtain ⟨d, rfl⟩ : ∃ d : Nat, y = d := ⟨y.toNat, by omega⟩
      exact q d _ y1 ⟨a / many, m, c, true, rfl, m0, m1, c0, by omega⟩
def spWh (K : PySem.W.Frag) : Sp := fun vs H Q _ => ∃ x d m lo hi, vs = [x, .int lo, .int hi] ∧ Dg K H m x d ∧ Q (.bl (isWh lo hi d)) H
theorem ok_law_whole (T : Txt K mg) : FnOk P w K mg base CX0 1 T.f_law_whole T.fd_law_whole ["thing", "least", "most"] (spWh K) := by
  refine T.F_law_whole.ok sc_law_whole (fun vs H Q E h => ?_) (fun cdv A outer s H vs Q E hr h => ?_)
  · obtain ⟨x, d, m, lo, hi, rfl, _⟩ := h; rfl
  · obtain ⟨x, d, m, lo, hi, rfl, hd, q⟩ := h
    refine ⟨_, (pss_one (ps_ret (pe_and (pe_callB call_isi (by rfl) T.z_isinstance (by decide +kernel) (pa_cons (pv 0) (pa_cons (pe_bltn (v := .ty "int") (u := .type "int") (by rfl) T.z_int (by decide +kernel) rfl) pa_nil))) (pe_and (pe_not (pe_callB call_isi (by rfl) T.z_isinstance (by decide +kernel) (pa_cons (pv 0) (pa_cons (pe_bltn (v := .ty "bool") (u := .type "bool") (by rfl) T.z_bool (by decide +kernel) rfl) pa_nil)))) (pe_one (pe_chain op_le op_le (pv 1) (pv 0) (pv 2))))))), ?_⟩
    refine ⟨_, rfl, _, _, _, _, isNumD d, rfl, .ty _, hd.ty, kit_numD d, _, rfl, ?_⟩
    cases d with
    | int i =>
      obtain rfl := hd.int_of
      refine iteT ⟨_, rfl, _, _, _, _, false, rfl, .ty _, hd.ty, kit_blD _, _, rfl, _, rfl, iteT ⟨_, rfl, _, rfl, _, _, rfl, rfl, _, rfl, ?_⟩⟩
      have q' : Q (.bl (decide (lo ≤ i) && decide (i ≤ hi))) H := q
      refine ite2 (fun c => ?_) (fun c => ?_)
      · rw [c, Bool.true_and] at q'
        exact ⟨_, rfl, _, _, rfl, rfl, q'⟩
      · rw [Bool.not_eq_true] at c
        rw [c, Bool.false_and] at q'
        exact q'
    | bool b => exact iteT ⟨_, rfl, _, _, _, _, true, rfl, .ty _, hd.ty, kit_blD _, _, rfl, _, rfl, iteF q⟩
    | _ => exact iteF q
theorem evI_pow {p : Addr} {σ : L2.St} {H : Hp} {a b : Int} (c : CPow a b) : EvI p (tOp (rI CPow fun i j => .int (i ^ j.toNat)) (tC (.int a)) (tC (.int b))) σ H (a ^ b.toNat) := evI_opC (evI_c _) (evI_c _) c
theorem evI_neg {p : Addr} {σ : L2.St} {H : Hp} {ti : TE} {i : Int} (h : EvI p ti σ H i) : EvI p (tUn (rU fun i => .int (-i)) ti) σ H (-i) := fun H1 k n Q q => h H1 k n _ fun H2 s2 => ⟨i, rfl, q _ s2⟩
def oddL (most : Int) : List PyData := [.int (most + 1), .int (-1), .bool true, .bool false, .none, .str (Str.ofString "1"), .tuple [.int 1], .list [.int 1], .list [], .int (10 ^ 30), .int (-10 ^ 30), .str (Str.ofString ""), .dict [(.int 1, .int 1)], .int 0]
def spOdd (K : PySem.W.Frag) : Sp := fun vs H Q _ => ∃ p n most, vs = [.ref p, .int most] ∧ BoxAt H p n ∧ n < 100000000 ∧ -10 ≤ most ∧ most ≤ 10 ∧ ∀ x d H', Kp p H H' → BoxAt H' p (n + 1) → Dw K p H' true x d → d ∈ oddL most → (∀ es, d = .list es → ∃ F xs, x = .ref F ∧ F ≠ p ∧ H F = none ∧ H' F = some (.lst xs) ∧ ((xs = [] ∧ es = []) ∨ (xs = [V.int 1] ∧ es = [PyData.int 1]))) → Q x H'
theorem ok_law_odd (T : Txt K mg) : FnOk P w K mg base CX0 2 T.f_law_odd T.fd_law_odd ["box", "most"] (spOdd K) := by
  refine T.F_law_odd.ok sc_law_odd (fun vs H Q E h => ?_) (fun cdv A outer s H vs Q E hr h => ?_)
  · obtain ⟨p, n, most, rfl, _⟩ := h; rfl
  · obtain ⟨p, n, most, rfl, hb, hn, m0, m1, kQ⟩ := h
    refine ⟨_, (pss_cons (ps_set (i := 2) sc_law_odd.nd rfl (Or.inl rfl) (pe_lstS (pa_cons (pe_op op_add (pv 1) pe_int) (pa_cons (pe_un un_neg pe_int) (pa_cons pe_bl (pa_cons pe_bl (pa_cons pe_non (pa_cons pe_str (pa_cons (pe_tup (pa_cons pe_int pa_nil)) (pa_cons (pe_lstS (pa_cons pe_int pa_nil)) (pa_cons (pe_lstS pa_nil) (pa_cons (pe_op op_pow pe_int pe_int) (pa_cons (pe_un un_neg (pe_op op_pow pe_int pe_int)) (pa_cons pe_str (pa_cons (pe_callTy (call_dictP rfl) (by rfl) T.z_dict (by decide +kernel) (pa_cons (pe_lstS (pa_cons (pe_tup (pa_cons pe_int (pa_cons pe_int pa_nil))) pa_nil)) pa_nil)) (pa_cons pe_int pa_nil))))))))))))))))
      (pss_one (ps_ret (pe_ix ix_list (pv 2) (pe_call (ok_law_take T) (hr.mono (by decide)) rfl T.g_law_take T.F_law_take.kp T.b_law_take .nil pass0 (pa_cons (pv 0) (pa_cons pe_int pa_nil))) (fun _ _ => rfl))))), ?_⟩
    have one : 1 ≤ sizeLine := by decide
    have two : 2 ≤ sizeLine := by decide
    have cp : CPow 10 30 := ⟨by decide, by decide, by decide⟩
    refine ⟨_, rfl, _, _, rfl, rfl, 1, rfl, one, fun t ht => ⟨one, fun l1 hl1 low1 => ⟨(by show 0 ≤ sizeLine; decide), fun l2 hl2 low2 => ⟨_, _, rfl, rfl, cp, _, _, rfl, rfl, cp, _, rfl, ?_⟩⟩⟩⟩
    have s1 : Same H (upd H t (.tup [.int 1])) := Same.new (Same.refl _) ht
    have et : (upd H t (.tup [.int 1])) t = some (.tup [.int 1]) := upd_same
    generalize upd H t (.tup [.int 1]) = H1 at s1 et hl1 hl2 ⊢
    have s2 : Same H1 (upd H1 l1 (.lst [.int 1])) := Same.new (Same.refl _) hl1
    have e1 : (upd H1 l1 (.lst [.int 1])) l1 = some (.lst [.int 1]) := upd_same
    generalize upd H1 l1 (.lst [.int 1]) = H2 at s2 e1 hl2 ⊢
    have s3 : Same H2 (upd H2 l2 (.lst [])) := Same.new (Same.refl _) hl2
    have e2 : (upd H2 l2 (.lst [])) l2 = some (.lst []) := upd_same
    generalize upd H2 l2 (.lst []) = H3 at s3 e2 ⊢
    refine ⟨two, fun t2 ht2 => ⟨one, fun l3 hl3 low3 => ?_⟩⟩
    have s4 : Same H3 (upd H3 t2 (.tup [.int 1, .int 1])) := Same.new (Same.refl _) ht2
    have et2 : (upd H3 t2 (.tup [.int 1, .int 1])) t2 = some (.tup [.int 1, .int 1]) := upd_same
    generalize upd H3 t2 (.tup [.int 1, .int 1]) = H4 at s4 et2 hl3 ⊢
    have s5 : Same H4 (upd H4 l3 (.lst [.ref t2])) := Same.new (Same.refl _) hl3
    have e3 : (upd H4 l3 (.lst [.ref t2])) l3 = some (.lst [.ref t2]) := upd_same
    generalize upd H4 l3 (.lst [.ref t2]) = H5 at s5 e3 ⊢
    refine ⟨l3, [t2], [(Sum.inl 1, .int 1)], rfl, SqL.of e3, .cons (SqT.of (s5 _ _ et2)) .nil, fun r hr => ?_⟩
    rw [show mergeK [] [((Sum.inl 1 : Key), V.int 1)] = [(Sum.inl 1, V.int 1)] from rfl]
    have s6 : Same H5 (upd H5 r (.dK [(Sum.inl 1, .int 1)])) := Same.new (Same.refl _) hr
    have er : (upd H5 r (.dK [(Sum.inl 1, .int 1)])) r = some (.dK [(Sum.inl 1, .int 1)]) := upd_same
    generalize upd H5 r (.dK [(Sum.inl 1, .int 1)]) = H6 at s6 er ⊢
    have s16 : Same H1 H6 := (((s2.trans s3).trans s4).trans s5).trans s6
    have s26 : Same H2 H6 := ((s3.trans s4).trans s5).trans s6
    have s36 : Same H3 H6 := (s4.trans s5).trans s6
    refine ⟨(by show 14 ≤ sizeLine; decide), fun M hM low => ?_⟩
    have s7 : Same H6 (upd H6 M (.lst [.int (most + 1), .int (-1), .bl true, .bl false, .non, .str (Str.ofString "1"), .ref t, .ref l1, .ref l2, .int (10 ^ (30 : Int).toNat), .int (-10 ^ (30 : Int).toNat), .str (Str.ofString ""), .ref r, .int 0])) := Same.new (Same.refl _) hM
    have eM : (upd H6 M (.lst [.int (most + 1), .int (-1), .bl true, .bl false, .non, .str (Str.ofString "1"), .ref t, .ref l1, .ref l2, .int (10 ^ (30 : Int).toNat), .int (-10 ^ (30 : Int).toNat), .str (Str.ofString ""), .ref r, .int 0])) M = some (.lst [.int (most + 1), .int (-1), .bl true, .bl false, .non, .str (Str.ofString "1"), .ref t, .ref l1, .ref l2, .int (10 ^ (30 : Int).toNat), .int (-10 ^ (30 : Int).toNat), .str (Str.ofString ""), .ref r, .int 0]) := upd_same
    generalize upd H6 M (.lst [.int (most + 1), .int (-1), .bl true, .bl false, .non, .str (Str.ofString "1"), .ref t, .ref l1, .ref l2, .int (10 ^ (30 : Int).toNat), .int (-10 ^ (30 : Int).toNat), .str (Str.ofString ""), .ref r, .int 0]) = H7 at s7 eM ⊢
    have sH : Same H H7 := (s1.trans s16).trans s7
    have nb : ∀ {b : Addr} {G : Hp}, Same H G → G b = none → b ≠ p := fun {b G} sg hb' z => (same_at sg hb.some) (by rw [← z]; exact hb')
    have np : ∀ {b : Addr} {o : HO}, H7 b = some o → H b = none → b ≠ p := fun {b o} _ hn z => hb.some (by rw [← z]; exact hn)
    have nM : M ≠ p := nb (s1.trans s16) hM
    have nt : t ≠ p := nb (Same.refl _) ht
    have n1 : l1 ≠ p := nb s1 hl1
    have n2 : l2 ≠ p := nb (s1.trans s2) hl2
    have nr : r ≠ p := nb (s1.trans (((s2.trans s3).trans s4).trans s5)) hr
    refine ⟨_, rfl, _, rfl, p, n, 14, rfl, hb.same sH, by omega, by omega, by omega, fun d o hd ho => ?_⟩
    have kp : Kp p H (upd H7 p o) := (Kp.of sH).trans (Kp.refl p H7).upd
    have eM' := (show (upd H7 p o) M = H7 M by rw [upd_ne nM]).trans eM
    have el1 : (upd H7 p o) l1 = some (.lst [.int 1]) := by rw [upd_ne n1]; exact s7 _ _ (s26 _ _ e1)
    have el2 : (upd H7 p o) l2 = some (.lst []) := by rw [upd_ne n2]; exact s7 _ _ (s36 _ _ e2)
    have ett : (upd H7 p o) t = some (.tup [.int 1]) := by rw [upd_ne nt]; exact s7 _ _ (s16 _ _ et)
    have err : (upd H7 p o) r = some (.dK [(Sum.inl 1, .int 1)]) := by rw [upd_ne nr]; exact s7 _ _ er
    have go : ∀ (x : V) (e : PyData), ([V.int (most + 1), .int (-1), .bl true, .bl false, .non, .str (Str.ofString "1"), .ref t, .ref l1, .ref l2, .int (10 ^ (30 : Int).toNat), .int (-10 ^ (30 : Int).toNat), .str (Str.ofString ""), .ref r, .int 0])[d]? = some x → Dw K p (upd H7 p o) true x e → e ∈ oddL most → (∀ es, e = .list es → ∃ F xs, x = .ref F ∧ F ≠ p ∧ H F = none ∧ (upd H7 p o) F = some (.lst xs) ∧ ((xs = [] ∧ es = []) ∨ (xs = [V.int 1] ∧ es = [PyData.int 1]))) → rIxL K (.ref M) (.int (d : Nat)) (upd H7 p o) Q := fun x e hx hd' hm hl =>
      ⟨M, _, d, x, rfl, rfl, SqL.of eM', atI_nat hx, kQ x e _ kp ho.at hd' hm hl⟩
    have hd' : d < 14 := by omega
    match d, hd', go with
    | 0, _, go => exact go _ _ rfl (.int _) (by simp [oddL]) (fun es e => by cases e)
    | 1, _, go => exact go _ _ rfl (.int _) (by simp [oddL]) (fun es e => by cases e)
    | 2, _, go => exact go _ _ rfl (.bl _) (by simp [oddL]) (fun es e => by cases e)
    | 3, _, go => exact go _ _ rfl (.bl _) (by simp [oddL]) (fun es e => by cases e)
    | 4, _, go => exact go _ _ rfl .non (by simp [oddL]) (fun es e => by cases e)
    | 5, _, go => exact go _ _ rfl (.str _) (by simp [oddL]) (fun es e => by cases e)
    | 6, _, go => exact go _ (.tuple [.int 1]) rfl (.tup (SqT.of (by rw [wo_ne nt]; exact ett)) (.cons (.int _) .nil)) (by simp [oddL]) (fun es e => by cases e)
    | 7, _, go => exact go _ (.list [.int 1]) rfl (.lst (SqL.of (by rw [wo_ne n1]; exact el1)) (fun _ => low1) (.cons (.int _) .nil)) (by simp [oddL]) (fun es e => ⟨l1, _, rfl, n1, s1.free hl1, el1, .inr ⟨rfl, by injection e with e; exact e.symm⟩⟩)
    | 8, _, go => exact go _ (.list []) rfl (.lst (SqL.of (by rw [wo_ne n2]; exact el2)) (fun _ => low2) .nil) (by simp [oddL]) (fun es e => ⟨l2, _, rfl, n2, (s1.trans s2).free hl2, el2, .inl ⟨rfl, by injection e with e; exact e.symm⟩⟩)
    | 9, _, go => exact go _ (.int (10 ^ 30)) rfl (.int _) (by simp [oddL]) (fun es e => by cases e)
    | 10, _, go => exact go _ (.int (-10 ^ 30)) rfl (.int _) (by simp [oddL]) (fun es e => by cases e)
    | 11, _, go => exact go _ _ rfl (.str _) (by simp [oddL]) (fun es e => by cases e)
    | 12, _, go => exact go _ (.dict [(.int 1, .int 1)]) rfl (.dct [(1, 1)] rfl (by show wo _ p r = _; rw [wo_ne nr]; exact err)) (by simp [oddL]) (fun es e => by cases e)
    | 13, _, go => exact go _ _ rfl (.int _) (by simp [oddL]) (fun es e => by cases e)
def spCopy (K : PySem.W.Frag) : Sp := fun vs H Q _ => ∃ x d m, vs = [x] ∧ Dg K H m x d ∧ ∀ y H', Same H H' → Dg K H' m y d → (∀ es, d = .list es → ∃ F xs, y = .ref F ∧ H F = none ∧ H' F = some (.lst xs) ∧ xs.length = es.length) → Q y H'
theorem ok_law_copy (T : Txt K mg) : FnOk P w K mg base CX0 1 T.f_law_copy T.fd_law_copy ["thing"] (spCopy K) := by
  refine T.F_law_copy.ok sc_law_copy (fun vs H Q E h => ?_) (fun cdv A outer s0 H vs Q E hr h => ?_)
  · obtain ⟨x, d, m, rfl, _⟩ := h; rfl
  · obtain ⟨x, d, m, rfl, hd, q⟩ := h
    refine ⟨_, (pss_one (ps_ret (pe_ifExp (pt_val (pe_callB call_isi (by rfl) T.z_isinstance (by decide +kernel) (pa_cons (pv 0) (pa_cons (pe_bltn (v := .ty "list") (u := .type "list") (by rfl) T.z_list (by decide +kernel) rfl) pa_nil)))) (pe_callTy call_list_ofS (by rfl) T.z_list (by decide +kernel) (pa_cons (pv 0) pa_nil)) (pv 0)))), ?_⟩
    refine ⟨_, rfl, _, _, _, _, isLstD d, rfl, .ty _, hd.ty, kit_lstD d, _, rfl, ?_⟩
    cases d with
    | list es =>
      obtain ⟨a, xs, rfl, hsq, low, ha⟩ := hd.lst_of
      exact iteT ⟨_, rfl, a, xs, rfl, .inl hsq, fun F hF lowF => q (.ref F) _ (Same.new (Same.refl _) hF) (.lst (SqL.of upd_same) (fun _ => lowF) (ha.ext (Same.new (Same.refl _) hF))) (fun es' e => ⟨F, xs, rfl, hF, upd_same, by rw [ha.len, PyData.list.inj e]⟩)⟩
    | _ => exact iteF ⟨_, rfl, q x H (Same.refl _) hd (fun es e => by cases e)⟩
/-! ### made -/
def codD (way n k : Nat) : Dcd := if way = 0 then copD n else if way = 1 then escD n k else if way = 2 then shiD n else runD n
def loW (way : Nat) : Int := if way = 2 then 2 else 1
def spMade (T : Txt K mg) : Sp := fun vs H Q E => ∃ (way : Nat) (b : Bool) (x : V) (d : PyData) (m : Bool) (y : V) (e : PyData) (m2 : Bool), vs = [.int (way : Nat), .bl b, x, y] ∧ way < 4 ∧ Dg K H m x d ∧ Dg K H m2 y e ∧
  (isWh (loW way) 5 d = false → Bad T.C_InvalidSigns H x E) ∧ (isWh (loW way) 5 d = true → way = 1 → isBe (numD d) e = false → Bad T.C_InvalidSign H y E) ∧
  (∀ n k : Nat, d = .int n → loW way ≤ n → n ≤ 5 → (way = 1 → e = .int k ∧ k < n) → Made K T.C_Decoder (codD way n k) H Q)
theorem kb_copier_signs (T : Txt K mg) : KBinds K T.fd_copier ["signs"] ["signs"] (fun us ws => match us, ws with | [], [x0] => [x0] | _, _ => []) (fun us ws => match us, ws with | [], [x0] => [x0] | _, _ => []) := by
  obtain ⟨oc, od, kV, doc, pm, an, cdv, ct, osl, e, _, _⟩ := T.F_copier.ex
  refine ⟨fun s us ws _ hl => ?_, fun r rz => ?_⟩
  · match us, ws, hl with
    | [], [x0], _ =>
      rw [e]
      exact .of_eq rfl
  · match r, rz with
    | .nil, .cons r0 (.nil) => exact .cons r0 (.nil)
    | .nil, .nil => exact .nil
    | .nil, .cons _ (.cons _ _) => exact .nil
    | .cons _ _, _ => exact .nil

theorem kb_escaped_mark_signs (T : Txt K mg) : KBinds K T.fd_escaped ["signs", "mark"] ["mark", "signs"] (fun us ws => match us, ws with | [], [x1, x0] => [x0, x1] | _, _ => []) (fun us ws => match us, ws with | [], [x1, x0] => [x0, x1] | _, _ => []) := by
  obtain ⟨oc, od, kV, doc, pm, an, cdv, ct, osl, e, _, _⟩ := T.F_escaped.ex
  refine ⟨fun s us ws _ hl => ?_, fun r rz => ?_⟩
  · match us, ws, hl with
    | [], [x1, x0], _ =>
      rw [e]
      exact .of_eq rfl
  · match r, rz with
    | .nil, .cons r1 (.cons r0 (.nil)) => exact .cons r0 (.cons r1 (.nil))
    | .nil, .nil => exact .nil
    | .nil, .cons _ (.nil) => exact .nil
    | .nil, .cons _ (.cons _ (.cons _ _)) => exact .nil
    | .cons _ _, _ => exact .nil

theorem kb_shifted_signs (T : Txt K mg) : KBinds K T.fd_shifted ["signs"] ["signs"] (fun us ws => match us, ws with | [], [x0] => [x0] | _, _ => []) (fun us ws => match us, ws with | [], [x0] => [x0] | _, _ => []) := by
  obtain ⟨oc, od, kV, doc, pm, an, cdv, ct, osl, e, _, _⟩ := T.F_shifted.ex
  refine ⟨fun s us ws _ hl => ?_, fun r rz => ?_⟩
  · match us, ws, hl with
    | [], [x0], _ =>
      rw [e]
      exact .of_eq rfl
  · match r, rz with
    | .nil, .cons r0 (.nil) => exact .cons r0 (.nil)
    | .nil, .nil => exact .nil
    | .nil, .cons _ (.cons _ _) => exact .nil
    | .cons _ _, _ => exact .nil

theorem kb_run_lengths_signs (T : Txt K mg) : KBinds K T.fd_run_lengths ["signs"] ["signs"] (fun us ws => match us, ws with | [], [x0] => [x0] | _, _ => []) (fun us ws => match us, ws with | [], [x0] => [x0] | _, _ => []) := by
  obtain ⟨oc, od, kV, doc, pm, an, cdv, ct, osl, e, _, _⟩ := T.F_run_lengths.ex
  refine ⟨fun s us ws _ hl => ?_, fun r rz => ?_⟩
  · match us, ws, hl with
    | [], [x0], _ =>
      rw [e]
      exact .of_eq rfl
  · match r, rz with
    | .nil, .cons r0 (.nil) => exact .cons r0 (.nil)
    | .nil, .nil => exact .nil
    | .nil, .cons _ (.cons _ _) => exact .nil
    | .cons _ _, _ => exact .nil

theorem ok_law_made (T : Txt K mg) : FnOk P w K mg base (L2.CX P w) 10 T.f_law_made T.fd_law_made ["way", "named", "many", "special"] (spMade T) := by
  refine T.F_law_made.okX sc_law_made (fun vs H Q E h => ?_) (fun cdv A outer s H vs Q E hr h => ?_)
  · obtain ⟨way, b, x, d, m, y, e, m2, rfl, _⟩ := h; rfl
  · obtain ⟨way, b, x, d, m, y, e, m2, rfl, hw, hd, he, kB, kC, kQ⟩ := h
    refine ⟨_, (pss_cons (ps_if (pt_cmpR op_eq (pv 0) pe_int (nomark _)) (pss_one (ps_ret (pe_ifExp (pt_val (pv 1)) (pe_callKS (E := fun _ => E) (ok_copier T) (hr.mono (by decide)) rfl T.g_copier T.F_copier.kp (kb_copier_signs T) (fun σ pins H s e s2 I c => passes_call (takes_of rfl rfl rfl rfl) (fun _ _ _ _ z => z) pins σ H s e s2 I c) (pk_cons (pv 2) pk_nil)) (pe_call (ok_copier T) (hr.mono (by decide)) rfl T.g_copier T.F_copier.kp T.b_copier .nil (passes_call (takes_of rfl rfl rfl rfl) (fun _ _ _ _ z => z)) (pa_cons (pv 2) pa_nil))))) pss_nil)
      (pss_cons (ps_if (pt_cmpR op_eq (pv 0) pe_int (nomark _)) (pss_one (ps_ret (pe_ifExp (pt_val (pv 1)) (pe_callKS (E := fun _ => E) (ok_escaped T) (hr.mono (by decide)) rfl T.g_escaped T.F_escaped.kp (kb_escaped_mark_signs T) (fun σ pins H s e s2 I c => passes_call (takes_of rfl rfl rfl rfl) (fun _ _ _ _ z => z) pins σ H s e s2 I c) (pk_cons (pv 3) (pk_cons (pv 2) pk_nil))) (pe_call (ok_escaped T) (hr.mono (by decide)) rfl T.g_escaped T.F_escaped.kp T.b_escaped .nil (passes_call (takes_of rfl rfl rfl rfl) (fun _ _ _ _ z => z)) (pa_cons (pv 2) (pa_cons (pv 3) pa_nil)))))) pss_nil)
      (pss_cons (ps_if (pt_cmpR op_eq (pv 0) pe_int (nomark _)) (pss_one (ps_ret (pe_ifExp (pt_val (pv 1)) (pe_callKS (E := fun _ => E) (ok_shifted T) (hr.mono (by decide)) rfl T.g_shifted T.F_shifted.kp (kb_shifted_signs T) (fun σ pins H s e s2 I c => passes_call (takes_of rfl rfl rfl rfl) (fun _ _ _ _ z => z) pins σ H s e s2 I c) (pk_cons (pv 2) pk_nil)) (pe_call (ok_shifted T) (hr.mono (by decide)) rfl T.g_shifted T.F_shifted.kp T.b_shifted .nil (passes_call (takes_of rfl rfl rfl rfl) (fun _ _ _ _ z => z)) (pa_cons (pv 2) pa_nil))))) pss_nil)
      (pss_one (ps_ret (pe_ifExp (pt_val (pv 1)) (pe_callKS (E := fun _ => E) (ok_run_lengths T) (hr.mono (by decide)) rfl T.g_run_lengths T.F_run_lengths.kp (kb_run_lengths_signs T) (fun σ pins H s e s2 I c => passes_call (takes_of rfl rfl rfl rfl) (fun _ _ _ _ z => z) pins σ H s e s2 I c) (pk_cons (pv 2) pk_nil)) (pe_call (ok_run_lengths T) (hr.mono (by decide)) rfl T.g_run_lengths T.F_run_lengths.kp T.b_run_lengths .nil (passes_call (takes_of rfl rfl rfl rfl) (fun _ _ _ _ z => z)) (pa_cons (pv 2) pa_nil)))))))), ?_⟩
    have sgd : ∀ {d : PyData}, isWh 1 5 d = isSg d := fun {d} => by cases d <;> rfl
    have w0 : way = 0 → (isSg d = false → Bad T.C_InvalidSigns H x E) := fun e z => kB (by rw [show loW way = 1 by unfold loW; rw [if_neg (by omega)], sgd]; exact z)
    refine ⟨_, rfl, rfl, _, rfl, ite2 (fun c => ?_) (fun c0 => ⟨_, rfl, rfl, _, rfl, ite2 (fun c => ?_) (fun c1 => ⟨_, rfl, rfl, _, rfl, ite2 (fun c => ?_) (fun c2 => ?_)⟩)⟩)⟩
    · obtain rfl : way = 0 := by have := V.int.inj (of_decide_eq_true c); omega
      have k1 : isSg d = false → Bad T.C_InvalidSigns H x E := fun z => kB (by rw [show loW 0 = 1 from rfl, sgd]; exact z)
      have k2 : ∀ n : Nat, d = .int n → 1 ≤ n → n ≤ 5 → Made K T.C_Decoder (copD n) H Q := fun n e1 h1 h5 => kQ n 0 e1 (by show (1 : Int) ≤ n; omega) h5 (fun z => by cases z)
      refine ⟨_, rfl, _, rfl, ?_⟩
      cases b with
      | true => exact iteT ⟨_, rfl, x, d, m, rfl, hd, k1, k2⟩
      | false => exact iteF ⟨_, rfl, x, d, m, rfl, hd, k1, k2⟩
    · obtain rfl : way = 1 := by have := V.int.inj (of_decide_eq_true c); omega
      have k1 : isSg d = false → Bad T.C_InvalidSigns H x E := fun z => kB (by rw [show loW 1 = 1 from rfl, sgd]; exact z)
      have k2 : isSg d = true → isBe (numD d) e = false → Bad T.C_InvalidSign H y E := fun z => kC (by rw [show loW 1 = 1 from rfl, sgd]; exact z) rfl
      have k3 : ∀ n k : Nat, d = .int n → e = .int k → 1 ≤ n → n ≤ 5 → k < n → Made K T.C_Decoder (escD n k) H Q := fun n k e1 e2 h1 h5 hk => kQ n k e1 (by show (1 : Int) ≤ n; omega) h5 (fun _ => ⟨e2, hk⟩)
      refine ⟨_, rfl, _, rfl, ?_⟩
      cases b with
      | true => exact iteT ⟨_, rfl, _, rfl, x, d, m, y, e, m2, rfl, hd, he, k1, k2, k3⟩
      | false => exact iteF ⟨_, rfl, _, rfl, x, d, m, y, e, m2, rfl, hd, he, k1, k2, k3⟩
    · obtain rfl : way = 2 := by have := V.int.inj (of_decide_eq_true c); omega
      have k1 : (isSg d = false ∨ d = .int 1) → Bad T.C_InvalidSigns H x E := fun z => kB (by
        show isWh 2 5 d = false
        rcases z with z | z
        · cases d with
          | int i =>
            have z' : (decide ((1 : Int) ≤ i) && decide (i ≤ 5)) = false := z
            show (decide ((2 : Int) ≤ i) && decide (i ≤ 5)) = false
            rw [Bool.and_eq_false_iff] at z' ⊢
            rcases z' with z' | z'
            · exact .inl (decide_eq_false (fun h => of_decide_eq_false z' (by omega)))
            · exact .inr z'
          | _ => rfl
        · rw [z]; rfl)
      have k2 : ∀ n : Nat, d = .int n → 2 ≤ n → n ≤ 5 → Made K T.C_Decoder (shiD n) H Q := fun n e1 h1 h5 => kQ n 0 e1 (by show (2 : Int) ≤ n; omega) h5 (fun z => by cases z)
      refine ⟨_, rfl, _, rfl, ?_⟩
      cases b with
      | true => exact iteT ⟨_, rfl, x, d, m, rfl, hd, k1, k2⟩
      | false => exact iteF ⟨_, rfl, x, d, m, rfl, hd, k1, k2⟩
    · have n0 : ¬ way = 0 := fun z => c0 (decide_eq_true (by rw [z]; rfl))
      have n1 : ¬ way = 1 := fun z => c1 (decide_eq_true (by rw [z]; rfl))
      have n2 : ¬ way = 2 := fun z => c2 (decide_eq_true (by rw [z]; rfl))
      obtain rfl : way = 3 := by omega
      have k1 : isSg d = false → Bad T.C_InvalidSigns H x E := fun z => kB (by rw [show loW 3 = 1 from rfl, sgd]; exact z)
      have k2 : ∀ n : Nat, d = .int n → 1 ≤ n → n ≤ 5 → Made K T.C_Decoder (runD n) H Q := fun n e1 h1 h5 => kQ n 0 e1 (by show (1 : Int) ≤ n; omega) h5 (fun z => by cases z)
      refine ⟨_, rfl, _, rfl, ?_⟩
      cases b with
      | true => exact iteT ⟨_, rfl, x, d, m, rfl, hd, k1, k2⟩
      | false => exact iteF ⟨_, rfl, x, d, m, rfl, hd, k1, k2⟩
def spTold (T : Txt K mg) : Sp := fun vs H Q _ => ∃ (way : Nat) (b : Bool) (x : V) (d : PyData) (m : Bool) (y : V) (e : PyData) (m2 : Bool), vs = [.int (way : Nat), .bl b, x, y] ∧ way < 4 ∧ Dg K H m x d ∧ Dg K H m2 y e ∧
  (isWh (loW way) 5 d = false → ∀ r H', Same H H' → H r = none → (r == sysModules) = false → H' r = some (.lst [.str (Str.ofString "signs"), x]) → Q (.ref r) H') ∧
  (isWh (loW way) 5 d = true → way = 1 → isBe (numD d) e = false → ∀ r H', Same H H' → H r = none → (r == sysModules) = false → H' r = some (.lst [.str (Str.ofString "sign"), y]) → Q (.ref r) H') ∧
  (∀ n k : Nat, d = .int n → loW way ≤ n → n ≤ 5 → (way = 1 → e = .int k ∧ k < n) → ∀ r o H', Same H H' → H' r = some (.lst [.str (Str.ofString "made"), .ref o]) → DecAt K T.C_Decoder H' o (codD way n k) → Q (.ref r) H')
theorem ok_law_told (T : Txt K mg) : FnOk P w K mg base CX0 11 T.f_law_told T.fd_law_told ["way", "named", "many", "special"] (spTold T) := by
  refine T.F_law_told.ok sc_law_told (fun vs H Q E h => ?_) (fun cdv A outer s0 H vs Q E hr h => ?_)
  · obtain ⟨way, b, x, d, m, y, e, m2, rfl, _⟩ := h; rfl
  · obtain ⟨way, b, x, d, m, y, e, m2, rfl, hw, hd, he, kB, kC, kQ⟩ := h
    refine ⟨_, (pss_one (ps_tryAll (i := 4) rfl rfl sc_law_told.nd rfl rfl takes0 (fun W pn xe tk _ => (pss_one (ps_ret (pe_lstS (pa_cons pe_str (pa_cons (pe_callS (ok_law_made T) (hr.mono (by decide)) rfl T.g_law_made T.F_law_made.kp T.b_law_made (fun σ => passAt tk σ) (pa_cons (pv 0) (pa_cons (pv 1) (pa_cons (pv 2) (pa_cons (pv 3) pa_nil))))) pa_nil)))))) (.more ⟨rfl, by decide, Or.inl T.e_InvalidSigns.gC⟩ (fun a oe cls d pn hz hf => (pss_one (ps_ret (pe_lstS (pa_cons pe_str (pa_cons (pe_gvn T.e_InvalidSigns hz hf (pv 4)) pa_nil)))))) (.more ⟨rfl, by decide, Or.inl T.e_InvalidSign.gC⟩ (fun a oe cls d pn hz hf => (pss_one (ps_ret (pe_lstS (pa_cons pe_str (pa_cons (pe_gvn T.e_InvalidSign hz hf (pv 4)) pa_nil)))))) .last)))), ?_⟩
    have two : 2 ≤ sizeLine := by decide
    refine ⟨_, rfl, _, rfl, _, rfl, _, rfl, way, b, x, d, m, y, e, m2, rfl, hw, hd, he, (fun z dd H1 s1 hdn ed => ⟨true, T.x_InvalidSigns, fun _ a ha => ⟨_, rfl, rfl, rfl, dd, _, rfl, ed, two, fun r hr low => kB z r _ (s1.trans (Same.new (Same.refl _) hr)) (s1.free hr) low upd_same⟩, fun z => by cases z⟩), (fun z1 z2 z dd H1 s1 hdn ed => ⟨false, T.no_InvalidSign_InvalidSigns, (fun z => by cases z), fun _ => ⟨true, T.x_InvalidSign, fun _ a ha => ⟨_, rfl, rfl, rfl, dd, _, rfl, ed, two, fun r hr low => kC z1 z2 z r _ (s1.trans (Same.new (Same.refl _) hr)) (s1.free hr) low upd_same⟩, fun z => by cases z⟩⟩), fun n k e1 h1 h5 hk o H1 s1 dec => ⟨two, fun r hr low => ?_⟩⟩
    have s2 : Same H1 (upd H1 r (.lst [.str (Str.ofString "made"), .ref o])) := Same.new (Same.refl _) hr
    exact kQ n k e1 h1 h5 hk r o _ (s1.trans s2) upd_same (dec.ext s2)
end
end My

set_option Elab.async false
set_option linter.all false
set_option maxRecDepth 100000
set_option maxHeartbeats 8000000
namespace My
open PySem PySem.Spec PyProof.Rows L2
/-- a comprehension over a text whose items are data -/
theorem lc_str_data {K : PySem.W.Frag} {m : Bool} {p : Addr} {z : List Nat} {g : TG} {tt : TT} {te : TE} {vs : List Nat} {σ : L2.St} {H1 : Hp} {D : Addr} {Qd : Hp → Prop} (f : Nat → PyData) (hD : H1 D = none) (hn : z.length ≤ 100000)
    (step : ∀ j c H' (R : VK) (N : Hp → Prop), z[j]? = some c → Same H1 H' → H' D ≠ none → (∀ y H4, Same H' H4 → Dg K (wo (wo H4 p) D) m y (f j) → R y H4) →
      g (.str (S [c])) (wipe σ vs) H' fun σ2 H2 => wipe σ2 vs = wipe σ vs ∧ tt σ2 H2 fun b H3 => if b = true then te σ2 H3 R else N H3)
    (done : ∀ H' xs, Same H1 H' → H' D = some (.lst xs) → DgAll K (wo (wo H' p) D) m xs ((List.range z.length).map f) → Qd H') :
    ∃ W : Nat → Nat → Hp → Prop, (∃ m, W 0 m (L2.upd H1 D (.lst []))) ∧ ∀ i m H, W i m H →
      ((Its (S z)).stop i H ∧ Qd H) ∨ ((Its (S z)).go i H ∧ ∃ Nx : Hp → Prop, (∀ H', Nx H' → ∃ m', m' < m ∧ W (i + 1) m' H') ∧ ∀ x H', (Its (S z)).yld i H x H' → g x (wipe σ vs) H' fun σ2 H2 => wipe σ2 vs = wipe σ vs ∧ tt σ2 H2 fun b H3 =>
        if b = true then te σ2 H3 fun y H4 => ∃ acc, H4 D = some (.lst acc) ∧ acc.length < sizeLine ∧ Nx (L2.upd H4 D (.lst (acc ++ [y]))) else Nx H3) := by
  have e : (S z).cps.size = z.length := S_len z
  refine lc_it (walk_str (z := S z)) (fun i H' => AcM K m p H1 D ((List.range i).map f) H') (AcM.start hD) (fun _ _ _ _ => trivial) ?_ ?_
  · rintro i x H H' hi hA ⟨rfl, c, hc, rfl⟩
    rw [e] at hi
    have hc' : z[i]? = some c := by
      have : (S z).cps[i]? = z[i]? := by unfold S; simp
      rw [← this]; exact hc
    refine step i c H' _ _ hc' hA.1 hA.ne fun y H4 s4 dy => ?_
    have := hA.snoc hD (by rw [List.length_map, List.length_range]; omega) s4 dy
    rw [List.range_succ, List.map_append]
    exact this
  · rintro H' ⟨s', acc, e', ha⟩
    rw [e] at ha
    exact done H' acc s' e' ha
theorem abcde_S : Str.ofString "abcde" = S (rng 5 lt) := by decide +kernel
theorem rng_take {n : Nat} (h : n ≤ 5) : (rng 5 lt).take n = rng n lt := by
  have : n = 0 ∨ n = 1 ∨ n = 2 ∨ n = 3 ∨ n = 4 ∨ n = 5 := by omega
  rcases this with rfl | rfl | rfl | rfl | rfl | rfl <;> decide
theorem rng_at {n j c : Nat} (h : (rng n lt)[j]? = some c) : j < n ∧ c = lt j := by
  unfold rng at h
  have hj := (List.getElem?_eq_some_iff.mp h).1
  rw [List.length_map, List.length_range] at hj
  rw [List.getElem?_map, List.getElem?_range hj] at h
  exact ⟨hj, (Option.some.inj h).symm⟩
theorem rng_set {n k : Nat} (h : k < n) (x : PyData) (f : Nat → PyData) : ((List.range n).map f).set k x = (List.range n).map (fun a => if a = k then x else f a) := by
  refine List.ext_getElem? fun i => ?_
  rw [List.getElem?_set]
  rw [List.length_map, List.length_range]
  by_cases hi : i < n
  · rw [List.getElem?_map, List.getElem?_map, List.getElem?_range hi]
    by_cases e : k = i
    · subst e; simp [h]
    · rw [if_neg e]
      show some (f i) = some (if i = k then x else f i)
      rw [if_neg (fun z => e z.symm)]
  · have l1 : ((List.range n).map f)[i]? = none := List.getElem?_eq_none (by rw [List.length_map, List.length_range]; omega)
    have l2 : ((List.range n).map (fun a => if a = k then x else f a))[i]? = none := List.getElem?_eq_none (by rw [List.length_map, List.length_range]; omega)
    rw [l1, l2]
    by_cases e : k = i
    · subst e; exact absurd h hi
    · rw [if_neg e]
theorem dgAll_set {K : PySem.W.Frag} {H : Hp} {m : Bool} {y : V} {d : PyData} (hy : Dg K H m y d) : ∀ {xs : List V} {ds : List PyData} (k : Nat), DgAll K H m xs ds → DgAll K H m (xs.set k y) (ds.set k d)
  | _, _, _, .nil => .nil
  | _, _, 0, .cons h t => .cons hy t
  | _, _, k + 1, .cons h t => .cons h (dgAll_set hy k t)
section
variable {P : Program} {w : World} {K : PySem.W.Frag} {mg : Str → Option Value} {base : Heap}
def spParts (K : PySem.W.Frag) : Sp := fun vs H Q _ => ∃ (way n k : Nat) (z : V), vs = [.int (way : Nat), .int (n : Nat), z] ∧ way < 4 ∧ loW way ≤ n ∧ n ≤ 5 ∧ (way = 1 → z = .int (k : Nat) ∧ k < n) ∧
  ∀ r a b H', Same H H' → H' r = some (.lst [.ref a, .ref b]) → Dg K H' false (.ref a) (codD way n k).stL → Dg K H' false (.ref b) (codD way n k).enL → Q (.ref r) H'
theorem ok_law_parts (T : Txt K mg) : FnOk P w K mg base CX0 1 T.f_law_parts T.fd_law_parts ["way", "many", "special"] (spParts K) := by
  refine T.F_law_parts.ok sc_law_parts (fun vs H Q E h => ?_) (fun cdv A outer s0 H vs Q E hr h => ?_)
  · obtain ⟨way, n, k, z, rfl, _⟩ := h; rfl
  · obtain ⟨way, n, k, z, rfl, hw, lo, h5, hz, kQ⟩ := h
    refine ⟨_, (pss_cons (ps_set (i := 3) sc_law_parts.nd rfl (Or.inl rfl) (pe_slice sl_str pe_str po_none (po_some (pv 1))))
      (pss_cons (ps_if (pt_cmpR op_eq (pv 0) pe_int (nomark _)) (pss_one (ps_ret (pe_lst (pa_cons (pe_lst (pa_cons (pe_lc (own := [("name", 4)]) (g := gName 4) (by rfl) sc_law_parts.nd (pi_str (pv 3)) (blkOk_by (own := [("name", 4)]) (N := N_law_parts) (sc := defScope s_law_parts) (by decide +kernel)) (fun _ _ _ _ _ => pg_name (i := 4) sc_law_parts.nd rfl (Or.inl rfl)) (fun _ _ _ _ _ => pts_nil) (fun _ _ _ _ _ => (pe_tup (pa_cons pe_int (pa_cons (pv 4) pa_nil))))) pa_nil)) (pa_cons (pe_lst (pa_cons pe_str pa_nil)) pa_nil))))) pss_nil)
      (pss_cons (ps_if (pt_cmpR op_eq (pv 0) pe_int (nomark _)) (pss_cons (ps_setLc (i := 5) (own := [("name", 4)]) (g := gName 4) (by rfl) sc_law_parts.nd rfl rfl (sw_true rfl rfl rfl (by decide +kernel)) (pi_str (pv 3)) (blkOk_by (own := [("name", 4)]) (N := N_law_parts) (sc := defScope s_law_parts) (by decide +kernel)) (fun _ _ _ _ _ => pg_name (i := 4) sc_law_parts.nd rfl (Or.inl rfl)) (fun _ _ _ _ _ => pts_nil) (fun _ _ _ _ _ => (pe_tup (pa_cons pe_int (pa_cons (pv 4) pa_nil)))))
      (pss_cons (ps_asg (pe_tup (pa_cons pe_int (pa_cons pe_str pa_nil))) (pg_sub (pv 5) (pv 2) set_list))
      (pss_one (ps_ret (pe_lst (pa_cons (pe_lst (pa_cons (pv 5) (pa_cons (pe_lc (own := [("name", 4)]) (g := gName 4) (by rfl) sc_law_parts.nd (pi_str (pv 3)) (blkOk_by (own := [("name", 4)]) (N := N_law_parts) (sc := defScope s_law_parts) (by decide +kernel)) (fun _ _ _ _ _ => pg_name (i := 4) sc_law_parts.nd rfl (Or.inl rfl)) (fun _ _ _ _ _ => pts_nil) (fun _ _ _ _ _ => (pe_tup (pa_cons pe_int (pa_cons (pe_op op_add_str (pv 4) (pv 4)) pa_nil))))) pa_nil))) (pa_cons (pe_lst (pa_cons pe_str (pa_cons pe_non pa_nil))) pa_nil))))))) pss_nil)
      (pss_cons (ps_if (pt_cmpR op_eq (pv 0) pe_int (nomark _)) (pss_cons (ps_set (i := 6) sc_law_parts.nd rfl (Or.inl rfl) (pe_op op_cat (pe_lc (own := [("name", 4)]) (g := gName 4) (by rfl) sc_law_parts.nd (pi_str (pe_slice sl_str (pv 3) po_none (po_some (pe_un un_neg pe_int)))) (blkOk_by (own := [("name", 4)]) (N := N_law_parts) (sc := defScope s_law_parts) (by decide +kernel)) (fun _ _ _ _ _ => pg_name (i := 4) sc_law_parts.nd rfl (Or.inl rfl)) (fun _ _ _ _ _ => pts_nil) (fun _ _ _ _ _ => (pe_tup (pa_cons pe_int (pa_cons (pv 4) pa_nil))))) (pe_lst (pa_cons (pe_tup (pa_cons pe_int (pa_cons pe_str pa_nil))) pa_nil))))
      (pss_one (ps_ret (pe_lst (pa_cons (pe_lst (pa_cons (pv 6) (pa_cons (pe_op op_cat (pe_lc (own := [("name", 4)]) (g := gName 4) (by rfl) sc_law_parts.nd (pi_str (pe_slice sl_str (pv 3) po_none (po_some (pe_un un_neg pe_int)))) (blkOk_by (own := [("name", 4)]) (N := N_law_parts) (sc := defScope s_law_parts) (by decide +kernel)) (fun _ _ _ _ _ => pg_name (i := 4) sc_law_parts.nd rfl (Or.inl rfl)) (fun _ _ _ _ _ => pts_nil) (fun _ _ _ _ _ => (pe_tup (pa_cons pe_int (pa_cons (pe_op op_add_str (pv 4) pe_str) pa_nil))))) (pe_lst (pa_cons (pe_tup (pa_cons pe_int (pa_cons pe_str pa_nil))) pa_nil))) pa_nil))) (pa_cons (pe_lst (pa_cons pe_str (pa_cons pe_str pa_nil))) pa_nil)))))) pss_nil)
      (pss_cons (ps_set (i := 7) sc_law_parts.nd rfl (Or.inl rfl) (pe_lst (pa_cons (pe_lc (own := [("k", 8)]) (g := gName 8) (by rfl) sc_law_parts.nd (pi_range1 rfl T.z_range (pa_cons (pv 1) pa_nil)) (blkOk_by (own := [("k", 8)]) (N := N_law_parts) (sc := defScope s_law_parts) (by decide +kernel)) (fun _ _ _ _ _ => pg_name (i := 8) sc_law_parts.nd rfl (Or.inl rfl)) (fun _ _ _ _ _ => pts_nil) (fun _ _ _ _ _ => (pe_tup (pa_cons (pe_op op_add (pv 8) pe_int) (pa_cons pe_str pa_nil))))) pa_nil)))
      (pss_cons (ps_for PassesOwn.never rfl (pi_str (pv 3)) (pg_name (i := 4) sc_law_parts.nd rfl (Or.inr rfl)) (pss_one (ps_expr (pe_bm PySem.F.plainAttrs_list PySem.F.slot_list_append PySem.F.type_list_append mt_append (pv 7) (pa_cons (pe_lc (own := [("k", 8)]) (g := gName 8) (by rfl) sc_law_parts.nd (pi_range1 rfl T.z_range (pa_cons (pv 1) pa_nil)) (blkOk_by (own := [("k", 8)]) (N := N_law_parts) (sc := defScope s_law_parts) (by decide +kernel)) (fun _ _ _ _ _ => pg_name (i := 8) sc_law_parts.nd rfl (Or.inl rfl)) (fun _ _ _ _ _ => pts_nil) (fun _ _ _ _ _ => (pe_tup (pa_cons pe_int (pa_cons (pe_op op_mul_str (pv 4) (pe_ix (ix_listK (K := K) rfl) (pe_lst (pa_cons pe_int (pa_cons pe_int (pa_cons pe_int (pa_cons pe_int (pa_cons pe_int pa_nil)))))) (pv 8) (fun _ _ => rfl))) pa_nil))))) pa_nil)))))
      (pss_one (ps_ret (pe_lst (pa_cons (pv 7) (pa_cons (pe_op op_cat (pe_lst (pa_cons pe_str pa_nil)) (pe_op op_rep (pe_lst (pa_cons pe_non pa_nil)) (pv 1))) pa_nil))))))))))), ?_⟩
    have one : 1 ≤ sizeLine := by decide
    have two : 2 ≤ sizeLine := by decide
    have five : (Str.ofString "abcde").length ≤ sizeLine := by decide +kernel
    have n1 : 1 ≤ n := by unfold loW at lo; split at lo <;> omega
    refine ⟨_, rfl, _, rfl, _, rfl, five, ?_⟩
    rw [abcde_S, cut_to, rng_take h5]
    have ln : (rng n lt).length = n := rng_len
    -- what the lists hand over
    have fin : ∀ D : Dcd, D = codD way n k → D.ok → ∀ L M H1, Same H H1 → Dg K H1 false (.ref L) D.stL → Dg K H1 false (.ref M) D.enL → ∀ r, H1 r = none → Q (.ref r) (upd H1 r (.lst [.ref L, .ref M])) := fun D eD ok L M H1 s1 d1 d2 r hr => by
      have s2 : Same H1 (upd H1 r (.lst [.ref L, .ref M])) := Same.new (Same.refl _) hr
      subst eD
      exact kQ r L M _ (s1.trans s2) upd_same (d1.ext s2) (d2.ext s2)
    have tup : ∀ {g : Nat} {w : List Nat} {x : Str} {D : Addr} {H' : Hp} {R : VK}, x = S w → H' D ≠ none → (∀ y H4, Same H' H4 → Dg K (wo (wo H4 D) D) false y (enD (some (g, w))) → R y H4) → 2 ≤ sizeLine ∧ ∀ t, H' t = none → R (.ref t) (upd H' t (.tup [.int (g : Nat), .str x])) := fun {g w x D H' R} e eD k => ⟨two, fun t ht => by
      subst e
      obtain ⟨s4, dt⟩ := tup_new (K := K) (m := false) eD eD ht (ds := [.int (g : Nat), .str (S w)]) fun G => .cons (.int _) (.cons (.str _) .nil)
      exact k _ _ s4 dt⟩
    have nm : ∀ {f : Nat → Ent} {n' : Nat} {D : Addr} {xs : List V} {H2 : Hp}, DgAll K (wo (wo H2 D) D) false xs ((List.range (rng n' lt).length).map fun a => enD (f a)) → DgAll K H2 false xs ((rng n' f).map enD) := fun {f n' D xs H2} h => by
      have h := own_list0 h
      rw [rng_len] at h
      unfold rng
      rw [List.map_map]
      exact h
    refine ⟨_, rfl, rfl, _, rfl, ite2 (fun c => ?_) (fun c0 => ⟨_, rfl, rfl, _, rfl, ite2 (fun c => ?_) (fun c1 => ⟨_, rfl, rfl, _, rfl, ite2 (fun c => ?_) (fun c2 => ?_)⟩)⟩)⟩
    · obtain rfl : way = 0 := by have := V.int.inj (of_decide_eq_true c); omega
      refine ⟨_, rfl, _, rfl, fun D hD => ?_⟩
      refine lc_str_data (K := K) (m := false) (p := D) (z := rng n lt) (fun a => enD (some (0, [lt a]))) hD (by rw [ln]; omega) (fun j c H' R N hj s' eD kk => ⟨rfl, tYesT ⟨_, rfl, tup (g := 0) (w := [lt j]) (by rw [(rng_at hj).2]) eD kk⟩⟩) (fun H1 xs s1 e1 h1 => ?_)
      have h1 := nm h1
      refine ⟨one, fun L hL => ?_⟩
      have s2 : Same H1 (upd H1 L (.lst [.ref D])) := Same.new (Same.refl _) hL
      have dL : Dg K (upd H1 L (.lst [.ref D])) false (.ref L) (copD n).stL := .lst (SqL.of upd_same) (fun z => by cases z) (.cons (.lst (SqL.of (s2 _ _ e1)) (fun z => by cases z) (h1.ext s2)) .nil)
      generalize upd H1 L (.lst [.ref D]) = H2 at s2 dL ⊢
      refine ⟨one, fun M hM => ?_⟩
      have s3 : Same H2 (upd H2 M (.lst [.str (Str.ofString "")])) := Same.new (Same.refl _) hM
      refine ⟨two, fun r hr => fin (copD n) rfl (copD_ok n1 h5) L M _ ((s1.trans s2).trans s3) (dL.ext s3) (.lst (SqL.of upd_same) (fun z => by cases z) (by rw [str_nil]; exact .cons (.str _) .nil)) r hr⟩
    · obtain rfl : way = 1 := by have := V.int.inj (of_decide_eq_true c); omega
      obtain ⟨rfl, hk⟩ := hz rfl
      refine ⟨_, rfl, _, rfl, fun D hD => ?_⟩
      refine lc_str_data (K := K) (m := false) (p := D) (z := rng n lt) (fun a => enD (some (0, [lt a]))) hD (by rw [ln]; omega) (fun j c H' R N hj s' eD kk => ⟨rfl, tYesT ⟨_, rfl, tup (g := 0) (w := [lt j]) (by rw [(rng_at hj).2]) eD kk⟩⟩) (fun H1 xs s1 e1 h1 => ?_)
      rw [ln, wo_wo] at h1
      have lx := h1.len
      rw [List.length_map, List.length_range] at lx
      refine ⟨two, fun t ht => ?_⟩
      have nt : t ≠ D := fun z => by rw [z, e1] at ht; cases ht
      have s2 : Same H1 (upd H1 t (.tup [.int 1, .str (Str.ofString "")])) := Same.new (Same.refl _) ht
      have et : (upd H1 t (.tup [.int 1, .str (Str.ofString "")])) t = some (.tup [.int 1, .str (Str.ofString "")]) := upd_same
      generalize upd H1 t (.tup [.int 1, .str (Str.ofString "")]) = H2 at s2 et ⊢
      have e2 := s2 _ _ e1
      refine ⟨_, rfl, _, rfl, D, xs, _, k, rfl, rfl, e2, ixN_nat (by omega), ?_⟩
      have hDH : H D = none := hD
      have s3 : Same H (upd H2 D (.lst (xs.set k (.ref t)))) := fun b o e => by rw [upd_ne (ne_of_none e hDH)]; exact s2 _ _ (s1 _ _ e)
      have e3 : (upd H2 D (.lst (xs.set k (.ref t)))) D = some (.lst (xs.set k (.ref t))) := upd_same
      have w1 : DgAll K (upd H2 D (.lst (xs.set k (.ref t)))) false (xs.set k (.ref t)) ((rng n fun a => if a = k then some (1, []) else some (0, [lt a])).map enD) := by
        have h2 : DgAll K (wo H2 D) false (xs.set k (.ref t)) (((List.range n).map fun a => enD (some (0, [lt a]))).set k (enD (some (1, [])))) :=
          dgAll_set (.tup (SqT.of (by rw [wo_ne nt]; exact et)) (.cons (.int _) (.cons (by rw [str_nil]; exact .str _) .nil))) k (h1.ext (Kp.of s2).wo)
        rw [rng_set hk] at h2
        unfold rng
        rw [List.map_map]
        have e : (List.range n).map (My.enD ∘ fun a => if a = k then some (1, ([] : List Nat)) else some (0, [lt a])) = (List.range n).map (fun a => if a = k then enD (some (1, [])) else enD (some (0, [lt a]))) := List.map_congr_left fun a _ => by
          show enD (if a = k then _ else _) = _
          split <;> rfl
        rw [e]
        exact h2.ext fun b o e => by
          have nb : b ≠ D := fun z => by rw [z, wo_at] at e; cases e
          rw [wo_ne nb] at e
          rw [upd_ne nb]; exact e
      generalize upd H2 D (.lst (xs.set k (.ref t))) = H3 at s3 e3 w1 ⊢
      refine ⟨_, rfl, _, rfl, _, rfl, fun D2 hD2 => ?_⟩
      refine lc_str_data (K := K) (m := false) (p := D2) (z := rng n lt) (fun a => enD (some (0, [lt a, lt a]))) hD2 (by rw [ln]; omega) (fun j c H' R N hj s' eD kk => ⟨rfl, tYesT ⟨_, rfl, _, rfl, _, _, rfl, rfl, by rw [S_len]; exact two, tup (g := 0) (w := [lt j, lt j]) (by rw [(rng_at hj).2, S_app]; rfl) eD kk⟩⟩) (fun H4 ys s4 e4 h4 => ?_)
      have h4 := nm h4
      refine ⟨two, fun L hL => ?_⟩
      have s5 : Same H4 (upd H4 L (.lst [.ref D, .ref D2])) := Same.new (Same.refl _) hL
      have dL : Dg K (upd H4 L (.lst [.ref D, .ref D2])) false (.ref L) (escD n k).stL := .lst (SqL.of upd_same) (fun z => by cases z) (.cons (.lst (SqL.of (s5 _ _ (s4 _ _ e3))) (fun z => by cases z) ((w1.ext s4).ext s5)) (.cons (.lst (SqL.of (s5 _ _ e4)) (fun z => by cases z) (h4.ext s5)) .nil))
      generalize upd H4 L (.lst [.ref D, .ref D2]) = H5 at s5 dL ⊢
      refine ⟨two, fun M hM => ?_⟩
      have s6 : Same H5 (upd H5 M (.lst [.str (Str.ofString ""), .non])) := Same.new (Same.refl _) hM
      refine ⟨two, fun r hr => fin (escD n k) rfl (escD_ok n1 h5) L M _ (((s3.trans s4).trans s5).trans s6) (dL.ext s6) (.lst (SqL.of upd_same) (fun z => by cases z) (by rw [str_nil]; exact .cons (.str _) (.cons .non .nil))) r hr⟩
    · obtain rfl : way = 2 := by have := V.int.inj (of_decide_eq_true c); omega
      have n2 : 2 ≤ n := by have : (2 : Int) ≤ n := lo; omega
      have cut1 : cutS (S (rng n lt)) none (some (-1)) = S (rng (n - 1) lt) := by
        have : n = 2 ∨ n = 3 ∨ n = 4 ∨ n = 5 := by omega
        rcases this with rfl | rfl | rfl | rfl <;> decide +kernel
      have lz : (S (rng n lt)).length ≤ sizeLine := by rw [S_len, ln]; exact Nat.le_trans h5 (by decide)
      have ln' : (rng (n - 1) lt).length = n - 1 := rng_len
      refine ⟨_, rfl, 1, rfl, -1, rfl, _, rfl, lz, _, rfl, fun D hD => ?_⟩
      rw [cut1]
      refine lc_str_data (K := K) (m := false) (p := D) (z := rng (n - 1) lt) (fun a => enD (some (0, [lt a]))) hD (by rw [ln']; omega) (fun j c H' R N hj s' eD kk => ⟨rfl, tYesT ⟨_, rfl, tup (g := 0) (w := [lt j]) (by rw [(rng_at hj).2]) eD kk⟩⟩) (fun H1 xs s1 e1 h1 => ?_)
      have h1 := nm h1
      have lx := h1.len
      rw [List.length_map, rng_len] at lx
      have big : ∀ (zs : List V) (t : Addr), zs.length = n - 1 → zs.length + [V.ref t].length ≤ sizeLine := fun zs t h => by rw [h]; exact Nat.le_trans (show n - 1 + 1 ≤ 5 by omega) (by decide)
      refine ⟨two, fun t ht => ⟨one, fun L0 hL0 => ?_⟩⟩
      have s2 : Same H1 (upd H1 t (.tup [.int 1, .str (Str.ofString "")])) := Same.new (Same.refl _) ht
      have et : (upd H1 t (.tup [.int 1, .str (Str.ofString "")])) t = some (.tup [.int 1, .str (Str.ofString "")]) := upd_same
      generalize upd H1 t (.tup [.int 1, .str (Str.ofString "")]) = H2 at s2 et hL0 ⊢
      have s3 : Same H2 (upd H2 L0 (.lst [.ref t])) := Same.new (Same.refl _) hL0
      have e3 : (upd H2 L0 (.lst [.ref t])) L0 = some (.lst [.ref t]) := upd_same
      generalize upd H2 L0 (.lst [.ref t]) = H3 at s3 e3 ⊢
      have s13 := s2.trans s3
      refine ⟨D, L0, xs, [.ref t], rfl, rfl, s13 _ _ e1, e3, big xs t lx, fun R1 hR1 => ?_⟩
      have s4 : Same H3 (upd H3 R1 (.lst (xs ++ [.ref t]))) := Same.new (Same.refl _) hR1
      have e4 : (upd H3 R1 (.lst (xs ++ [.ref t]))) R1 = some (.lst (xs ++ [.ref t])) := upd_same
      have r1 : DgAll K (upd H3 R1 (.lst (xs ++ [.ref t]))) false (xs ++ [.ref t]) (((rng (n - 1) fun a => some (0, [lt a])) ++ [some (1, [])]).map enD) := by
        rw [List.map_append]
        exact (h1.ext (s13.trans s4)).append (.cons (.tup (SqT.of (s4 _ _ (s3 _ _ et))) (.cons (.int _) (.cons (by rw [str_nil]; exact .str _) .nil))) .nil)
      generalize upd H3 R1 (.lst (xs ++ [.ref t])) = H4 at s4 e4 r1 ⊢
      refine ⟨_, rfl, _, rfl, 1, rfl, -1, rfl, _, rfl, lz, _, rfl, fun D2 hD2 => ?_⟩
      rw [cut1]
      refine lc_str_data (K := K) (m := false) (p := D2) (z := rng (n - 1) lt) (fun a => enD (some (1, [lt a, 120]))) hD2 (by rw [ln']; omega) (fun j c H' R N hj s' eD kk => ⟨rfl, tYesT ⟨_, rfl, _, _, rfl, rfl, by rw [S_len, show (Str.ofString "x").length = 1 by decide +kernel]; exact two, tup (g := 1) (w := [lt j, 120]) (by rw [(rng_at hj).2, show Str.ofString "x" = S [120] by decide +kernel, S_app]; rfl) eD kk⟩⟩) (fun H5 ys s5 e5 h5' => ?_)
      have h5' := nm h5'
      have ly := h5'.len
      rw [List.length_map, rng_len] at ly
      refine ⟨two, fun t2 ht2 => ⟨one, fun L2 hL2 => ?_⟩⟩
      have s6 : Same H5 (upd H5 t2 (.tup [.int 0, .str (Str.ofString "")])) := Same.new (Same.refl _) ht2
      have et2 : (upd H5 t2 (.tup [.int 0, .str (Str.ofString "")])) t2 = some (.tup [.int 0, .str (Str.ofString "")]) := upd_same
      generalize upd H5 t2 (.tup [.int 0, .str (Str.ofString "")]) = H6 at s6 et2 hL2 ⊢
      have s7 : Same H6 (upd H6 L2 (.lst [.ref t2])) := Same.new (Same.refl _) hL2
      have e7 : (upd H6 L2 (.lst [.ref t2])) L2 = some (.lst [.ref t2]) := upd_same
      generalize upd H6 L2 (.lst [.ref t2]) = H7 at s7 e7 ⊢
      have s57 := s6.trans s7
      refine ⟨D2, L2, ys, [.ref t2], rfl, rfl, s57 _ _ e5, e7, big ys t2 ly, fun R2 hR2 => ?_⟩
      have s8 : Same H7 (upd H7 R2 (.lst (ys ++ [.ref t2]))) := Same.new (Same.refl _) hR2
      have e8 : (upd H7 R2 (.lst (ys ++ [.ref t2]))) R2 = some (.lst (ys ++ [.ref t2])) := upd_same
      have r2 : DgAll K (upd H7 R2 (.lst (ys ++ [.ref t2]))) false (ys ++ [.ref t2]) (((rng (n - 1) fun a => some (1, [lt a, 120])) ++ [some (0, [])]).map enD) := by
        rw [List.map_append]
        exact (h5'.ext (s57.trans s8)).append (.cons (.tup (SqT.of (s8 _ _ (s7 _ _ et2))) (.cons (.int _) (.cons (by rw [str_nil]; exact .str _) .nil))) .nil)
      generalize upd H7 R2 (.lst (ys ++ [.ref t2])) = H8 at s8 e8 r2 ⊢
      have s48 := (s5.trans s57).trans s8
      refine ⟨two, fun L hL => ?_⟩
      have s9 : Same H8 (upd H8 L (.lst [.ref R1, .ref R2])) := Same.new (Same.refl _) hL
      have dL : Dg K (upd H8 L (.lst [.ref R1, .ref R2])) false (.ref L) (shiD n).stL := .lst (SqL.of upd_same) (fun z => by cases z) (.cons (.lst (SqL.of (s9 _ _ (s48 _ _ e4))) (fun z => by cases z) ((r1.ext s48).ext s9)) (.cons (.lst (SqL.of (s9 _ _ e8)) (fun z => by cases z) (r2.ext s9)) .nil))
      generalize upd H8 L (.lst [.ref R1, .ref R2]) = H9 at s9 dL ⊢
      refine ⟨two, fun M hM => ?_⟩
      have s10 : Same H9 (upd H9 M (.lst [.str (Str.ofString ""), .str (Str.ofString "")])) := Same.new (Same.refl _) hM
      refine ⟨two, fun r hr => fin (shiD n) rfl (shiD_ok n2 h5) L M _ ((((s1.trans s13).trans s4).trans (s48.trans s9)).trans s10) (dL.ext s10) (.lst (SqL.of upd_same) (fun z => by cases z) (by rw [str_nil]; exact .cons (.str _) (.cons (.str _) .nil))) r hr⟩
    · have n0 : ¬ way = 0 := fun z => c0 (decide_eq_true (by rw [z]; rfl))
      have n1' : ¬ way = 1 := fun z => c1 (decide_eq_true (by rw [z]; rfl))
      have n2 : ¬ way = 2 := fun z => c2 (decide_eq_true (by rw [z]; rfl))
      obtain rfl : way = 3 := by omega
      refine ⟨_, rfl, (n : Int), rfl, by omega, by omega, fun D hD => ?_⟩
      rw [Int.toNat_natCast]
      refine lc_range_data (K := K) (m := false) (p := D) (lo := 0) (n := n) (fun a => enD (some (a + 1, []))) hD (by omega) (fun j H' R N hj s' eD kk => ⟨rfl, tYesT ⟨_, rfl, _, _, rfl, rfl, ?_⟩⟩) (fun H1 xs s1 e1 h1 => ?_)
      · show 2 ≤ sizeLine ∧ ∀ t, H' t = none → R (.ref t) (upd H' t (.tup [.int ((0 : Int) + (j : Int) + 1), .str (Str.ofString "")]))
        rw [show (0 : Int) + (j : Int) + 1 = ((j + 1 : Nat) : Int) by omega]
        exact tup (g := j + 1) (w := []) str_nil eD kk
      have h1 := own_list0 h1
      refine ⟨one, fun L hL => ?_⟩
      have nDL : D ≠ L := fun z => by rw [← z, e1] at hL; cases hL
      have hLH : H L = none := s1.free hL
      have s2 : Same H1 (upd H1 L (.lst [.ref D])) := Same.new (Same.refl _) hL
      have eL : (upd H1 L (.lst [.ref D])) L = some (.lst [.ref D]) := upd_same
      have dD : Dg K (wo (upd H1 L (.lst [.ref D])) L) false (.ref D) (.list ((rng n fun a => some (a + 1, ([] : List Nat))).map enD)) := .lst (SqL.of (by rw [wo_ne nDL]; exact s2 _ _ e1)) (fun z => by cases z) (by
        unfold rng
        rw [List.map_map]
        exact h1.ext (same_wo hL))
      generalize upd H1 L (.lst [.ref D]) = H2 at s2 eL dD ⊢
      have row : Nat → PyData := fun a => .list ((rng n fun t => (some (0, List.replicate (min t 2 + 1) (lt a)) : Ent)).map enD)
      refine ⟨_, rfl, _, rfl, for_it (walk_str (z := S (rng n lt))) (fun i σ H' => ∃ x4 acc, σ = [some (.int ((3 : Nat) : Int)), some (.int (n : Int)), some z, some (.str (S (rng n lt))), x4, none, none, some (.ref L), none] ∧ Kp L H2 H' ∧ H' L = some (.lst acc) ∧ acc.length = i + 1 ∧ DgAll K (wo H' L) false acc ((.list ((rng n fun a => some (a + 1, ([] : List Nat))).map enD)) :: (List.range i).map fun a => .list ((rng n fun t => (some (0, List.replicate (min t 2 + 1) (lt a)) : Ent)).map enD)))
        ⟨none, _, rfl, Kp.refl L H2, eL, rfl, .cons dD .nil⟩ (fun _ _ _ _ _ => trivial) ?_ ?_⟩
      · rintro i x σ H0 H' hi ⟨x4, acc, rfl, s', e', la, ha⟩ ⟨rfl, c, hc, rfl⟩
        have hc' : (rng n lt)[i]? = some c := by
          have : (S (rng n lt)).cps[i]? = (rng n lt)[i]? := by unfold S; simp
          rw [← this]; exact hc
        obtain ⟨hin, rfl⟩ := rng_at hc'
        have eL' : H' L ≠ none := by rw [e']; exact fun z => by cases z
        refine ⟨_, rfl, .inl ⟨rfl, _, SqL.of e'⟩, _, rfl, (n : Int), rfl, by omega, by omega, fun D2 hD2 => ?_⟩
        rw [Int.toNat_natCast]
        refine lc_range_data (K := K) (m := false) (p := L) (lo := 0) (n := n) (fun t => enD (some (0, List.replicate (min t 2 + 1) (lt i)))) hD2 (by omega) (fun j H3 R N hj s3 eD kk => ⟨rfl, tYesT ⟨_, rfl, (by show 5 ≤ sizeLine; decide), fun q hq => ⟨_, rfl, q, _, (j : Int), .int ((min j 2 + 1 : Nat) : Int), rfl, congrArg V.int (by omega), SqL.of upd_same, atI_nat ?_, S [lt i], ((min j 2 + 1 : Nat) : Int), rfl, rfl, mulOk_S (by simp) (by omega), two, fun t ht => ?_⟩⟩⟩) (fun H3 ys s3 e3 h3 => ?_)
        · have : j = 0 ∨ j = 1 ∨ j = 2 ∨ j = 3 ∨ j = 4 := by omega
          rcases this with rfl | rfl | rfl | rfl | rfl <;> rfl
        · have s4 : Same H3 (upd H3 q (.lst [.int 1, .int 2, .int 3, .int 3, .int 3])) := Same.new (Same.refl _) hq
          rw [mul_S, rounds_one]
          obtain ⟨s5, dt⟩ := tup_new (K := K) (m := false) (p := L) (same_at s4 eD) (same_at (s3.trans s4) eL') ht (ds := [.int 0, .str (S (List.replicate (min j 2 + 1) (lt i)))]) fun G => .cons (.int _) (.cons (.str _) .nil)
          exact kk _ _ (s4.trans s5) dt
        · have nD2 : D2 ≠ L := fun z => eL' (by rw [← z]; exact hD2)
          have h3' := own_list h3
          refine ⟨L, acc, _, rfl, rfl, s3 _ _ e', by rw [la]; exact Nat.lt_of_le_of_lt (show i + 1 ≤ 10 by omega) (by decide), ?_⟩
          refine ⟨_, acc ++ [.ref D2], rfl, (s'.trans (Kp.of s3)).trans ((Kp.refl L H3).upd), upd_same, by rw [List.length_append, la]; rfl, ?_⟩
          rw [wo_upd, List.range_succ, List.map_append]
          refine DgAll.append (ds := (.list ((rng n fun a => some (a + 1, ([] : List Nat))).map enD)) :: (List.range i).map fun a => .list ((rng n fun t => (some (0, List.replicate (min t 2 + 1) (lt a)) : Ent)).map enD)) (ha.kp (Kp.of s3)) (.cons (.lst (SqL.of (by rw [wo_ne nD2]; exact e3)) (fun z => by cases z) ?_) .nil)
          unfold rng
          rw [List.map_map]
          exact h3'
      · rintro σ H' ⟨x4, acc, rfl, s', e', la, ha⟩
        rw [show (S (rng n lt)).cps.size = n from (S_len _).trans ln] at la ha
        have sH : Same H H' := fun b o e => s' b o (ne_of_none e hLH) (s2 _ _ (s1 _ _ e))
        have dL : Dg K H' false (.ref L) (runD n).stL := .lst (SqL.of e') (fun z => by cases z) (by
          have := ha.dg
          have e : (rng n fun a => rng n fun t => (some (0, List.replicate (min t 2 + 1) (lt a)) : Ent)).map (fun r => PyData.list (r.map My.enD)) = (List.range n).map (fun a => .list ((rng n fun t => (some (0, List.replicate (min t 2 + 1) (lt a)) : Ent)).map enD)) := by
            unfold rng
            rw [List.map_map]; rfl
          show DgAll K _ false acc (PyData.list ((rng n fun a => some (a + 1, ([] : List Nat))).map My.enD) :: (rng n fun a => rng n fun t => (some (0, List.replicate (min t 2 + 1) (lt a)) : Ent)).map (fun r => PyData.list (r.map My.enD)))
          rw [e]
          exact this)
        refine ⟨_, rfl, one, fun N0 hN0 => ⟨one, fun N1 hN1 => ⟨_, rfl, N1, (n : Int), [.non], rfl, rfl, upd_same, by omega, by omega, ?_, fun N2 hN2 => ?_⟩⟩⟩
        · rw [Int.toNat_natCast]; simp; exact Nat.le_trans h5 (by decide)
        rw [Int.toNat_natCast, rep_non]
        have t1 : Same H' (upd H' N0 (.lst [.str (Str.ofString "")])) := Same.new (Same.refl _) hN0
        have f1 : (upd H' N0 (.lst [.str (Str.ofString "")])) N0 = some (.lst [.str (Str.ofString "")]) := upd_same
        generalize upd H' N0 (.lst [.str (Str.ofString "")]) = G1 at t1 f1 hN1 hN2 ⊢
        have t2 : Same G1 (upd G1 N1 (.lst [.non])) := Same.new (Same.refl _) hN1
        generalize upd G1 N1 (.lst [.non]) = G2 at t2 hN2 ⊢
        have t3 : Same G2 (upd G2 N2 (.lst (List.replicate n .non))) := Same.new (Same.refl _) hN2
        have f3 : (upd G2 N2 (.lst (List.replicate n .non))) N2 = some (.lst (List.replicate n .non)) := upd_same
        generalize upd G2 N2 (.lst (List.replicate n .non)) = G3 at t3 f3 ⊢
        refine ⟨N0, N2, [.str (Str.ofString "")], _, rfl, rfl, t3 _ _ (t2 _ _ f1), f3, ?_, fun M hM => ?_⟩
        · rw [List.length_replicate]; exact Nat.le_trans (show 1 + n ≤ 6 by omega) (by decide)
        have t4 : Same G3 (upd G3 M (.lst ([.str (Str.ofString "")] ++ List.replicate n .non))) := Same.new (Same.refl _) hM
        have tt := ((t1.trans t2).trans t3).trans t4
        refine ⟨two, fun r hr => fin (runD n) rfl (runD_ok n1 h5) L M _ (sH.trans tt) (dL.ext tt) (.lst (SqL.of upd_same) (fun z => by cases z) (by rw [str_nil]; exact .cons (.str _) (dg_nons n))) r hr⟩
end
end My

set_option Elab.async false
set_option linter.all false
set_option maxRecDepth 100000
set_option maxHeartbeats 8000000
namespace My
open PySem PySem.Spec PyProof.Rows L2
/-! ### what the law reads -/
abbrev Rd := List Nat × Option Nat × Nat
def rdStep (way n k : Nat) (q : Rd) (a : Nat) : Rd :=
  if way = 0 then (q.1 ++ [lt a], q.2.1, q.2.2)
  else if way = 2 then (if a = n - 1 then (q.1, q.2.1, 1 - q.2.2) else (q.1 ++ [lt a] ++ List.replicate q.2.2 120, q.2.1, q.2.2))
  else match q.2.1 with
    | none => if way = 3 ∨ a = k then (q.1, some a, q.2.2) else (q.1 ++ [lt a], none, q.2.2)
    | some b => (q.1 ++ (if way = 1 then [lt a, lt a] else List.replicate (1 + min a 2) (lt b)), none, q.2.2)
def rdAll (way n k : Nat) (l : List Nat) : Rd := l.foldl (rdStep way n k) ([], none, 0)
def rdSt (way : Nat) (q : Rd) : Nat := if way = 0 then 0 else if way = 2 then q.2.2 else match q.2.1 with | none => 0 | some b => if way = 1 then 1 else b + 1
theorem rng_getD {α : Type} {n a : Nat} {f : Nat → α} {d : α} (h : a < n) : (rng n f).getD a d = f a := by
  unfold rng
  rw [List.getD_eq_getElem?_getD, List.getElem?_map, List.getElem?_range h]; rfl
theorem getD_app {α : Type} {l : List α} {x d : α} {a : Nat} : (l ++ [x]).getD a d = if a < l.length then l.getD a d else if a = l.length then x else d := by
  rw [List.getD_eq_getElem?_getD, List.getD_eq_getElem?_getD]
  by_cases h : a < l.length
  · rw [if_pos h, List.getElem?_append_left h]
  · rw [if_neg h]
    by_cases e : a = l.length
    · subst e; simp
    · rw [if_neg e, List.getElem?_eq_none (by rw [List.length_append]; simp; omega)]; rfl
theorem copD_at {n a : Nat} (h : a < n) : (copD n).at 0 a = some (0, [lt a]) := by
  show (rng n _).getD a none = _
  rw [rng_getD h]
theorem escD_at0 {n k a : Nat} (h : a < n) : (escD n k).at 0 a = if a = k then some (1, []) else some (0, [lt a]) := by
  show (rng n _).getD a none = _
  rw [rng_getD h]
theorem escD_at1 {n k a : Nat} (h : a < n) : (escD n k).at 1 a = some (0, [lt a, lt a]) := by
  show (rng n _).getD a none = _
  rw [rng_getD h]
theorem shiD_at0 {n a : Nat} (h : a < n) : (shiD n).at 0 a = if a = n - 1 then some (1, []) else some (0, [lt a]) := by
  show (rng (n - 1) _ ++ [some (1, [])]).getD a none = _
  rw [getD_app, rng_len]
  by_cases e : a = n - 1
  · rw [if_neg (by omega), if_pos e, if_pos e]
  · rw [if_pos (by omega), if_neg e, rng_getD (by omega)]
theorem shiD_at1 {n a : Nat} (h : a < n) : (shiD n).at 1 a = if a = n - 1 then some (0, []) else some (1, [lt a, 120]) := by
  show (rng (n - 1) _ ++ [some (0, [])]).getD a none = _
  rw [getD_app, rng_len]
  by_cases e : a = n - 1
  · rw [if_neg (by omega), if_pos e, if_pos e]
  · rw [if_pos (by omega), if_neg e, rng_getD (by omega)]
theorem runD_at0 {n a : Nat} (h : a < n) : (runD n).at 0 a = some (a + 1, []) := by
  show (rng n _).getD a none = _
  rw [rng_getD h]
theorem runD_at1 {n a b : Nat} (h : a < n) (hb : b < n) : (runD n).at (b + 1) a = some (0, List.replicate (min a 2 + 1) (lt b)) := by
  show ((rng n fun a => rng n fun t => (some (0, List.replicate (min t 2 + 1) (lt a)) : Ent)).getD b []).getD a none = _
  rw [rng_getD hb, rng_getD h]
/-- what holds of what was read so far -/
structure RdOk (way n : Nat) (q : Rd) (len : Nat) : Prop where
  h : ∀ b, q.2.1 = some b → b < n ∧ (way = 1 ∨ way = 3)
  m : q.2.2 ≤ 1
  l : q.1.length ≤ 3 * len
theorem rd_snoc (way n k : Nat) (l : List Nat) (a : Nat) : rdAll way n k (l ++ [a]) = rdStep way n k (rdAll way n k l) a := by
  unfold rdAll
  rw [List.foldl_append]; rfl
theorem rd_go {way n k : Nat} (hw : way < 4) : ∀ (j : Nat) (l : List Nat), l.length = j → (∀ a ∈ l, a < n) → (codD way n k).go 0 l = some (rdSt way (rdAll way n k l), (rdAll way n k l).1) ∧ RdOk way n (rdAll way n k l) l.length := by
  intro j
  induction j with
  | zero =>
    intro l hl _
    have : l = [] := List.length_eq_zero_iff.mp hl
    subst this
    refine ⟨?_, ⟨(fun b e => by cases e), Nat.zero_le _, Nat.zero_le _⟩⟩
    show some (0, ([] : List Nat)) = some (rdSt way ([], none, 0), [])
    have : rdSt way ([], none, 0) = 0 := by
      unfold rdSt
      split
      · rfl
      · split <;> rfl
    rw [this]
  | succ j ih =>
    intro l hl ha
    obtain ⟨l', a, rfl⟩ : ∃ l' a, l = l' ++ [a] := ⟨l.dropLast, l.getLast (fun z => by rw [z] at hl; cases hl), (List.dropLast_concat_getLast _).symm⟩
    have hl' : l'.length = j := by rw [List.length_append] at hl; simp at hl; exact hl
    obtain ⟨i1, i2⟩ := ih l' hl' fun b hb => ha b (List.mem_append_left _ hb)
    have han : a < n := ha a (List.mem_append_right _ List.mem_cons_self)
    rw [Dcd.go_snoc, i1, rd_snoc]
    generalize rdAll way n k l' = q at i2
    obtain ⟨f, hh, md⟩ := q
    have im : md ≤ 1 := i2.m
    have il : f.length ≤ 3 * l'.length := i2.l
    rw [List.length_append]
    show ((codD way n k).at (rdSt way (f, hh, md)) a).map (fun (p : Nat × List Nat) => (p.1, f ++ p.2)) = some (rdSt way (rdStep way n k (f, hh, md) a), (rdStep way n k (f, hh, md) a).1) ∧ RdOk way n (rdStep way n k (f, hh, md) a) (l'.length + 1)
    have h4 : way = 0 ∨ way = 1 ∨ way = 2 ∨ way = 3 := by omega
    rcases h4 with rfl | rfl | rfl | rfl
    · show ((copD n).at 0 a).map _ = some (0, f ++ [lt a]) ∧ RdOk 0 n (f ++ [lt a], hh, md) _
      rw [copD_at han]
      exact ⟨rfl, i2.h, im, by show (f ++ [lt a]).length ≤ _; rw [List.length_append]; simp; omega⟩
    · cases hh with
      | none =>
        show ((escD n k).at 0 a).map _ = some (rdSt 1 (rdStep 1 n k (f, none, md) a), (rdStep 1 n k (f, none, md) a).1) ∧ RdOk 1 n (rdStep 1 n k (f, none, md) a) _
        rw [escD_at0 han]
        by_cases e : a = k
        · have e1 : rdStep 1 n k (f, none, md) a = (f, some a, md) := by show (if 1 = 3 ∨ a = k then _ else _) = _; rw [if_pos (.inr e)]
          rw [e1, if_pos e]
          refine ⟨?_, fun b eb => ?_, im, by show f.length ≤ _; omega⟩
          · show some (1, f ++ []) = some (1, f); rw [List.append_nil]
          · have : a = b := by injection eb
            rw [← this]; exact ⟨han, .inl rfl⟩
        · have e1 : rdStep 1 n k (f, none, md) a = (f ++ [lt a], none, md) := by show (if 1 = 3 ∨ a = k then _ else _) = _; rw [if_neg (by omega)]
          rw [e1, if_neg e]
          exact ⟨rfl, (fun b eb => by cases eb), im, by show (f ++ [lt a]).length ≤ _; rw [List.length_append]; simp; omega⟩
      | some b =>
        show ((escD n k).at 1 a).map _ = some (0, f ++ [lt a, lt a]) ∧ RdOk 1 n (f ++ [lt a, lt a], none, md) _
        rw [escD_at1 han]
        exact ⟨rfl, (fun b eb => by cases eb), im, by show (f ++ [lt a, lt a]).length ≤ _; rw [List.length_append]; simp; omega⟩
    · have e1 : rdStep 2 n k (f, hh, md) a = if a = n - 1 then (f, hh, 1 - md) else (f ++ [lt a] ++ List.replicate md 120, hh, md) := rfl
      rw [e1]
      have hm : md = 0 ∨ md = 1 := by omega
      rcases hm with rfl | rfl
      · show ((shiD n).at 0 a).map _ = _ ∧ _
        rw [shiD_at0 han]
        by_cases e : a = n - 1
        · rw [if_pos e, if_pos e]
          exact ⟨by show some (1, f ++ []) = some (1, f); rw [List.append_nil], i2.h, by show 1 - 0 ≤ 1; omega, by show f.length ≤ _; omega⟩
        · rw [if_neg e, if_neg e]
          refine ⟨by show some (0, f ++ [lt a]) = some (0, f ++ [lt a] ++ []); rw [List.append_nil], i2.h, im, ?_⟩
          show (f ++ [lt a] ++ []).length ≤ _
          simp; omega
      · show ((shiD n).at 1 a).map _ = _ ∧ _
        rw [shiD_at1 han]
        by_cases e : a = n - 1
        · rw [if_pos e, if_pos e]
          exact ⟨by show some (0, f ++ []) = some (0, f); rw [List.append_nil], i2.h, by show 1 - 1 ≤ 1; omega, by show f.length ≤ _; omega⟩
        · rw [if_neg e, if_neg e]
          refine ⟨by show some (1, f ++ [lt a, 120]) = some (1, f ++ [lt a] ++ [120]); rw [List.append_assoc]; rfl, i2.h, im, ?_⟩
          show (f ++ [lt a] ++ [120]).length ≤ _
          simp; omega
    · cases hh with
      | none =>
        show ((runD n).at 0 a).map _ = some (a + 1, f) ∧ RdOk 3 n (f, some a, md) _
        rw [runD_at0 han]
        refine ⟨by show some (a + 1, f ++ []) = some (a + 1, f); rw [List.append_nil], fun b eb => ?_, im, by show f.length ≤ _; omega⟩
        have : a = b := by injection eb
        rw [← this]; exact ⟨han, .inr rfl⟩
      | some b =>
        have hb := (i2.h b rfl).1
        show ((runD n).at (b + 1) a).map _ = some (0, f ++ List.replicate (1 + min a 2) (lt b)) ∧ RdOk 3 n (f ++ List.replicate (1 + min a 2) (lt b), none, md) _
        rw [runD_at1 han hb]
        refine ⟨by show some (0, f ++ List.replicate (min a 2 + 1) (lt b)) = some (0, f ++ List.replicate (1 + min a 2) (lt b)); rw [Nat.add_comm (min a 2)], (fun b eb => by cases eb), im, ?_⟩
        show (f ++ List.replicate (1 + min a 2) (lt b)).length ≤ _
        rw [List.length_append, List.length_replicate]; omega
def rdOut (q : Rd) : Option (List Nat) := match q.2.1 with | some _ => none | none => some q.1
theorem rd_wr {way n k : Nat} (hw : way < 4) {l : List Nat} (h : ∀ a ∈ l, a < n) : (codD way n k).wr l = rdOut (rdAll way n k l) := by
  obtain ⟨g, o⟩ := rd_go (k := k) hw l.length l rfl h
  unfold Dcd.wr
  rw [g]
  generalize rdAll way n k l = q at o
  obtain ⟨f, hh, md⟩ := q
  have im : md ≤ 1 := o.m
  show ((codD way n k).en.getD (rdSt way (f, hh, md)) none).map (fun w => f ++ w) = rdOut (f, hh, md)
  have h4 : way = 0 ∨ way = 1 ∨ way = 2 ∨ way = 3 := by omega
  rcases h4 with rfl | rfl | rfl | rfl
  · cases hh with
    | none => show some (f ++ []) = some f; rw [List.append_nil]
    | some b => have := (o.h b rfl).2; omega
  · cases hh with
    | none => show some (f ++ []) = some f; rw [List.append_nil]
    | some b => rfl
  · have hm : md = 0 ∨ md = 1 := by omega
    cases hh with
    | none => rcases hm with rfl | rfl <;> (show some (f ++ []) = some f; rw [List.append_nil])
    | some b => have := (o.h b rfl).2; omega
  · cases hh with
    | none => show some (f ++ []) = some f; rw [List.append_nil]
    | some b =>
      have hb := (o.h b rfl).1
      show ((some [] :: List.replicate n none).getD (b + 1) none).map (fun w => f ++ w) = none
      have : (some ([] : List Nat) :: List.replicate n none).getD (b + 1) none = none := by
        show (List.replicate n none).getD b none = none
        rw [List.getD_eq_getElem?_getD, List.getElem?_replicate, if_pos hb]; rfl
      rw [this]; rfl
section
variable {P : Program} {w : World} {K : PySem.W.Frag} {mg : Str → Option Value} {base : Heap}
def hV : Option Nat → V | none => .non | some b => .int (b : Nat)
def spRead (K : PySem.W.Frag) : Sp := fun vs H Q _ => ∃ (way n k : Nat) (z : V) (a : Addr) (l : List Nat), vs = [.int (way : Nat), .int (n : Nat), z, .ref a] ∧ way < 4 ∧ loW way ≤ n ∧ n ≤ 5 ∧ (way = 1 → z = .int (k : Nat) ∧ k < n) ∧ SqT K H a (l.map fun (b : Nat) => V.int b) ∧ (∀ b ∈ l, b < n) ∧ l.length ≤ 1000 ∧
  ∀ H', Same H H' → Q (txV ((codD way n k).wr l)) H'
theorem ok_law_read (T : Txt K mg) : FnOk P w K mg base CX0 1 T.f_law_read T.fd_law_read ["way", "many", "special", "line"] (spRead K) := by
  refine T.F_law_read.ok sc_law_read (fun vs H Q E h => ?_) (fun cdv A outer s0 H vs Q E hr h => ?_)
  · obtain ⟨way, n, k, z, a, l, rfl, _⟩ := h; rfl
  · obtain ⟨way, n, k, z, a, l, rfl, hw, lo, h5, hz, hT, hl, hlen, kQ⟩ := h
    refine ⟨_, (pss_cons (ps_asg (pe_tup (pa_cons pe_str (pa_cons pe_non (pa_cons pe_int pa_nil)))) (pg_tup rfl (pgs_cons (pg_name (i := 4) sc_law_read.nd rfl (Or.inl rfl)) (pgs_cons (pg_name (i := 5) sc_law_read.nd rfl (Or.inl rfl)) (pgs_cons (pg_name (i := 6) sc_law_read.nd rfl (Or.inl rfl)) pgs_nil)))))
      (pss_cons (ps_for PassesOwn.never rfl (pi_tup (pv 3)) (pg_name (i := 7) sc_law_read.nd rfl (Or.inl rfl)) (pss_cons (ps_set (i := 8) sc_law_read.nd rfl (Or.inl rfl) (pe_ix ix_str pe_str (pv 7) (fun _ _ => rfl)))
      (pss_one (ps_if (pt_cmpR op_eq (pv 0) pe_int (nomark _)) (pss_one (ps_set (i := 4) sc_law_read.nd rfl (Or.inl rfl) (pe_op op_add_str (pv 4) (pv 8)))) (pss_one (ps_if (PW.pt (pw_and (pt_cmpR op_eq (pv 0) pe_int (nomark _)) (pw_and1 (pt_cmpR op_eq (pv 7) (pe_op op_sub (pv 1) pe_int) (nomark _))))) (pss_one (ps_set (i := 6) sc_law_read.nd rfl (Or.inl rfl) (pe_op op_sub pe_int (pv 6)))) (pss_one (ps_if (pt_cmpR op_eq (pv 0) pe_int (nomark _)) (pss_one (ps_set (i := 4) sc_law_read.nd rfl (Or.inl rfl) (pe_op op_add_str (pe_op op_add_str (pv 4) (pv 8)) (pe_op op_mul_str pe_str (pv 6))))) (pss_one (ps_if (PW.pt (pw_and (pt_cmp (pc_isN (pv 5))) (pw_and1 (PW.pt (pw_or (pt_cmpR op_eq (pv 0) pe_int (nomark _)) (pw_or1 (pt_cmpR op_eq (pv 7) (pv 2) (nomark _)))))))) (pss_one (ps_set (i := 5) sc_law_read.nd rfl (Or.inl rfl) (pv 7))) (pss_one (ps_if (pt_cmp (pc_isN (pv 5))) (pss_one (ps_set (i := 4) sc_law_read.nd rfl (Or.inl rfl) (pe_op op_add_str (pv 4) (pv 8)))) (pss_cons (ps_set (i := 4) sc_law_read.nd rfl (Or.inl rfl) (pe_op op_add_str (pv 4) (pe_ifExp (pt_cmpR op_eq (pv 0) pe_int (nomark _)) (pe_op op_add_str (pv 8) (pv 8)) (pe_op op_mul_str (pe_ix ix_str pe_str (pv 5) (fun _ _ => rfl)) (pe_op op_add pe_int (pe_callB (call_min2 rfl) (by rfl) T.z_min (by decide +kernel) (pa_cons (pv 7) (pa_cons pe_int pa_nil))))))))
      (pss_one (ps_set (i := 5) sc_law_read.nd rfl (Or.inl rfl) pe_non)))))))))))))))
      (pss_one (ps_ret (pe_ifExp (pt_cmp (pc_notN (pv 5))) pe_non (pv 4)))))), ?_⟩
    have three : 3 ≤ sizeLine := by decide
    have five : (Str.ofString "abcde").length ≤ sizeLine := by decide +kernel
    refine ⟨three, fun t ht => ⟨t, _, rfl, SqT.of upd_same, rfl, _, _, rfl, _, _, rfl, _, _, rfl, rfl, ?_⟩⟩
    have s1 : Same H (upd H t (.tup [.str (Str.ofString ""), .non, .int 0])) := Same.new (Same.refl _) ht
    have kQ1 := kQ _ s1
    have hT1 := hT.ext s1
    generalize upd H t (.tup [.str (Str.ofString ""), .non, .int 0]) = H1 at kQ1 hT1 ⊢
    have lx : (l.map fun (b : Nat) => V.int b).length = l.length := List.length_map _
    refine ⟨_, rfl, a, rfl, ⟨_, hT1⟩, for_tup (K := K) (a := a) (xs := l.map fun (b : Nat) => V.int b) (fun i σ H' => ∃ (f : List Nat) (h : Option Nat) (md : Nat) (x7 x8 : Option V), σ = [some (.int (way : Nat)), some (.int (n : Nat)), some z, some (.ref a), some (.str (S f)), some (hV h), some (.int (md : Nat)), x7, x8] ∧ H' = H1 ∧ rdAll way n k (l.take i) = (f, h, md))
      ⟨[], none, 0, none, none, by rw [str_nil]; rfl, rfl, rfl⟩ (fun i σ H' _ ⟨_, _, _, _, _, _, e, _⟩ => by rw [e]; exact hT1) ?_ ?_⟩
    · rintro i x σ H' hxi ⟨f, h, md, x7, x8, rfl, rfl, hq⟩
      obtain ⟨b, hb, rfl⟩ : ∃ b, l[i]? = some b ∧ V.int (b : Nat) = x := by
        rw [List.getElem?_map] at hxi
        cases e : l[i]? with
        | none => rw [e] at hxi; cases hxi
        | some b => rw [e] at hxi; exact ⟨b, rfl, Option.some.inj hxi⟩
      have hbl := hl b (List.mem_of_getElem? hb)
      have hi : i < l.length := (List.getElem?_eq_some_iff.mp hb).1
      have step : rdAll way n k (l.take (i + 1)) = rdStep way n k (f, h, md) b := by rw [take_snoc hb, rd_snoc, hq]
      have ok := (rd_go (k := k) hw _ (l.take i) rfl fun c hc => hl c (List.mem_of_mem_take hc)).2
      rw [hq, List.length_take] at ok
      have okl : f.length ≤ 3000 := by have := ok.l; show f.length ≤ _; have h2 : f.length ≤ 3 * min i l.length := this; omega
      have okm : md ≤ 1 := ok.m
      have fit : ∀ u : List Nat, u.length ≤ 10 → (S f).length + (S u).length ≤ sizeLine := fun u hu => by rw [S_len, S_len]; exact Nat.le_trans (show f.length + u.length ≤ 4000 by omega) (by decide)
      refine ⟨_, rfl, _, (b : Int), lt b, rfl, rfl, five, abcde_at (by omega), ?_⟩
      refine ⟨_, rfl, rfl, _, rfl, ite2 (fun c => ?_) (fun c0 => ⟨_, rfl, rfl, _, rfl, ?_⟩)⟩
      · have w0 : way = 0 := by have := V.int.inj (of_decide_eq_true c); omega
        refine ⟨_, rfl, _, rfl, S f, S [lt b], rfl, rfl, fit _ (by simp), ?_⟩
        refine ⟨f ++ [lt b], h, md, _, _, by rw [← S_app]; rfl, rfl, ?_⟩
        rw [step]; unfold rdStep; rw [if_pos w0]
      have n0 : ¬ way = 0 := fun z => c0 (decide_eq_true (by rw [z]; rfl))
      have held : ∀ (Hq : ¬ way = 2), True := fun _ => trivial
      by_cases w2 : way = 2
      · rw [decide_eq_true (show V.int (way : Int) = V.int 2 by rw [w2]; rfl)]
        refine iteT ⟨_, rfl, _, rfl, _, _, rfl, rfl, rfl, _, rfl, ?_⟩
        by_cases e : b = n - 1
        · have n2 : (2 : Int) ≤ n := by rw [w2] at lo; exact lo
          rw [decide_eq_true (show V.int (b : Int) = V.int ((n : Int) - 1) by congr 1; omega)]
          refine iteT ⟨_, rfl, _, _, rfl, rfl, f, h, 1 - md, some (.int (b : Nat)), some (.str (S [lt b])), ?_, rfl, ?_⟩
          · rw [show ((1 - md : Nat) : Int) = 1 - (md : Int) by omega]; rfl
          · rw [step]; unfold rdStep; rw [if_neg n0, if_pos w2, if_pos e]
        · rw [decide_eq_false (show ¬ V.int (b : Int) = V.int ((n : Int) - 1) from fun z => e (by have := V.int.inj z; omega))]
          refine iteF ⟨_, rfl, rfl, _, rfl, ?_⟩
          rw [decide_eq_true (show V.int (way : Int) = V.int 2 by rw [w2]; rfl)]
          refine iteT ⟨_, rfl, _, rfl, S f, S [lt b], rfl, rfl, fit _ (by simp), _, rfl, Str.ofString "x", ((md : Nat) : Int), rfl, rfl, ?_, ?_⟩
          · rw [show Str.ofString "x" = S [120] by decide +kernel]; exact mulOk_S (by simp) (by omega)
          rw [show Str.ofString "x" = S [120] by decide +kernel, mul_S, rounds_one]
          refine ⟨_, _, rfl, rfl, ?_, f ++ [lt b] ++ List.replicate md 120, h, md, _, _, by rw [← S_app, ← S_app]; rfl, rfl, ?_⟩
          · rw [S_app, S_len, S_len, List.length_append, List.length_replicate]; exact Nat.le_trans (show f.length + [lt b].length + md ≤ 4000 by simp; omega) (by decide)
          · rw [step]; unfold rdStep; rw [if_neg n0, if_pos w2, if_neg e]
      · have n2 : ¬ V.int (way : Int) = V.int 2 := fun z => w2 (by have := V.int.inj z; omega)
        rw [decide_eq_false n2]
        refine iteF (iteF ⟨_, rfl, rfl, _, rfl, ?_⟩)
        rw [decide_eq_false n2]
        refine iteF ⟨_, rfl, _, rfl, ?_⟩
        have w13 : way = 1 ∨ way = 3 := by omega
        cases h with
        | none =>
          have free : ¬ (way = 3 ∨ b = k) → rdAll way n k (l.take (i + 1)) = (f ++ [lt b], none, md) := fun e => by rw [step]; unfold rdStep; rw [if_neg n0, if_neg w2]; show (if way = 3 ∨ b = k then _ else _) = _; rw [if_neg e]
          have hold : (way = 3 ∨ b = k) → rdAll way n k (l.take (i + 1)) = (f, some b, md) := fun e => by rw [step]; unfold rdStep; rw [if_neg n0, if_neg w2]; show (if way = 3 ∨ b = k then _ else _) = _; rw [if_pos e]
          refine iteT ⟨_, rfl, rfl, _, rfl, ?_⟩
          rcases w13 with w1 | w3
          · rw [decide_eq_false (show ¬ V.int (way : Int) = V.int 3 from fun z => by have := V.int.inj z; omega)]
            obtain ⟨rfl, hk⟩ := hz w1
            refine iteF ⟨_, rfl, _, rfl, rfl, _, rfl, ?_⟩
            by_cases e : b = k
            · rw [decide_eq_true (show V.int (b : Int) = V.int (k : Int) by rw [e])]
              exact iteT ⟨_, rfl, f, some b, md, some (.int (b : Nat)), some (.str (S [lt b])), rfl, rfl, hold (.inr e)⟩
            · rw [decide_eq_false (show ¬ V.int (b : Int) = V.int (k : Int) from fun z => e (by have := V.int.inj z; omega))]
              refine iteF ⟨_, rfl, _, rfl, iteT ⟨_, rfl, _, rfl, S f, S [lt b], rfl, rfl, fit _ (by simp), f ++ [lt b], none, md, some (.int (b : Nat)), some (.str (S [lt b])), by rw [← S_app]; rfl, rfl, free (by omega)⟩⟩
          · rw [decide_eq_true (show V.int (way : Int) = V.int 3 by rw [w3]; rfl)]
            exact iteT (iteT ⟨_, rfl, f, some b, md, some (.int (b : Nat)), some (.str (S [lt b])), rfl, rfl, hold (.inl w3)⟩)
        | some c =>
          have hc := (ok.h c rfl).1
          have next : rdAll way n k (l.take (i + 1)) = (f ++ (if way = 1 then [lt b, lt b] else List.replicate (1 + min b 2) (lt c)), none, md) := by rw [step]; unfold rdStep; rw [if_neg n0, if_neg w2]
          refine iteF (iteF ⟨_, rfl, _, rfl, iteF ⟨_, rfl, _, rfl, rfl, _, rfl, ?_⟩⟩)
          rcases w13 with w1 | w3
          · rw [decide_eq_true (show V.int (way : Int) = V.int 1 by rw [w1]; rfl)]
            rw [if_pos w1] at next
            refine iteT ⟨_, rfl, _, rfl, S [lt b], S [lt b], rfl, rfl, (by rw [S_len]; exact Nat.le_trans (show [lt b].length + [lt b].length ≤ 2 by simp) (by decide)), S f, S [lt b, lt b], rfl, (by rw [S_app]; rfl), fit _ (by simp), f ++ [lt b, lt b], none, md, some (.int (b : Nat)), some (.str (S [lt b])), by rw [← S_app]; rfl, rfl, next⟩
          · rw [decide_eq_false (show ¬ V.int (way : Int) = V.int 1 from fun z => by have := V.int.inj z; omega)]
            rw [if_neg (by omega)] at next
            refine iteF ⟨_, rfl, _, (c : Int), lt c, rfl, rfl, five, abcde_at (by omega), _, rfl, _, _, rfl, _, _, rfl, rfl, S [lt c], ((1 + min b 2 : Nat) : Int), rfl, congrArg V.int ?_, mulOk_S (by simp) (by omega), ?_⟩
            · split <;> omega
            · rw [mul_S, rounds_one]
              exact ⟨S f, S (List.replicate (1 + min b 2) (lt c)), rfl, rfl, fit _ (by rw [List.length_replicate]; omega), f ++ List.replicate (1 + min b 2) (lt c), none, md, some (.int (b : Nat)), some (.str (S [lt b])), by rw [← S_app]; rfl, rfl, next⟩
    · rintro σ H' ⟨f, h, md, x7, x8, rfl, rfl, hq⟩
      rw [lx, List.take_length] at hq
      rw [rd_wr hw hl, hq] at kQ1
      refine ⟨_, rfl, _, rfl, ?_⟩
      cases h with
      | none => exact iteF ⟨_, rfl, kQ1⟩
      | some b => exact iteT kQ1
end
end My

set_option Elab.async false
set_option linter.all false
set_option maxRecDepth 100000
set_option maxHeartbeats 8000000
namespace My
open PySem PySem.Spec PyProof.Rows L2
/-! ### plain data do not hold the box -/
mutual
theorem dg_wo {K : PySem.W.Frag} {H : Hp} {m : Bool} {p : Addr} {n : Nat} (hb : BoxAt H p n) : ∀ (d : PyData) (x : V), plD d = true → Dg K H m x d → Dg K (wo H p) m x d
  | .none, _, _, h => by cases h; exact .non
  | .int _, _, _, h => by cases h; exact .int _
  | .str _, _, _, h => by cases h; exact .str _
  | .bool _, _, e, _ => by simp [plD] at e
  | .dict _, _, e, _ => by simp [plD] at e
  | .tuple ds, _, e, h => by
    have e' : plAll ds = true := by simpa [plD] using e
    obtain ⟨o, eo, a0, m0, c0, b0, rfl, _⟩ := hb
    have hb : BoxAt H p n := ⟨_, eo, a0, m0, c0, b0, rfl, ‹_›⟩
    cases h with
    | @tup a xs _ hs ha =>
      refine .tup ?_ (dg_woAll hb ds _ e' ha)
      rcases hs with (hs | ⟨ob, hs⟩) | hs
      · have na : a ≠ p := fun z => by rw [z, eo] at hs; cases hs
        exact .inl (.inl (by rw [wo_ne na]; exact hs))
      · have na : a ≠ p := fun z => by rw [z, eo] at hs; cases hs
        exact .inl (.inr ⟨ob, by rw [wo_ne na]; exact hs⟩)
      · exact .inr hs
  | .list ds, _, e, h => by
    have e' : plAll ds = true := by simpa [plD] using e
    obtain ⟨o, eo, a0, m0, c0, b0, rfl, hr⟩ := hb
    have hb : BoxAt H p n := ⟨_, eo, a0, m0, c0, b0, rfl, hr⟩
    cases h with
    | @lst a xs _ hs hl ha =>
      refine .lst ?_ hl (dg_woAll hb ds _ e' ha)
      rcases hs with (hs | ⟨ob, hs⟩) | hs
      · have na : a ≠ p := fun z => by
          rw [z, eo] at hs
          injection hs with hs
          injection hs with hs
          subst hs
          obtain ⟨x1, ys1, h1, d1, t1⟩ : ∃ d1 ds1, ds = d1 :: ds1 ∧ True ∧ DgAll K H m [.bl b0, .int m0, .int c0] ds1 := by
            cases ha with
            | cons h1 h2 => exact ⟨_, _, rfl, trivial, h2⟩
          subst h1
          cases t1 with
          | cons h1 h2 =>
            cases h1
            simp [plAll, plD] at e'
        exact .inl (.inl (by rw [wo_ne na]; exact hs))
      · have na : a ≠ p := fun z => by rw [z, eo] at hs; cases hs
        exact .inl (.inr ⟨ob, by rw [wo_ne na]; exact hs⟩)
      · exact .inr hs
theorem dg_woAll {K : PySem.W.Frag} {H : Hp} {m : Bool} {p : Addr} {n : Nat} (hb : BoxAt H p n) : ∀ (ds : List PyData) (xs : List V), plAll ds = true → DgAll K H m xs ds → DgAll K (wo H p) m xs ds
  | [], _, _, h => by cases h; exact .nil
  | d :: ds, _, e, h => by
    have e' : plD d = true ∧ plAll ds = true := by simpa [plAll] using e
    cases h with
    | cons h1 h2 => exact .cons (dg_wo hb d _ e'.1 h1) (dg_woAll hb ds _ e'.2 h2)
end
theorem plD_stL (D : Dcd) : plD D.stL = true := by
  unfold Dcd.stL plD
  exact plAll_map (fun r => by unfold plD; exact plAll_map plD_enD r) _
theorem plD_enL (D : Dcd) : plD D.enL = true := by
  unfold Dcd.enL plD
  exact plAll_map plD_wdD _
theorem DecAt.box {K : PySem.W.Frag} {C : Addr} {H : Hp} {o p : Addr} {D : Dcd} {n : Nat} (h : DecAt K C H o D) (hb : BoxAt H p n) : DecW K C p H o D := by
  obtain ⟨⟨dx, Sa, Ea, e, h1, h2⟩, ok⟩ := h
  have no : o ≠ p := fun z => by
    obtain ⟨ob, eo, a0, m0, c0, b0, rfl, _⟩ := hb
    rw [z, eo] at e; cases e
  exact ⟨⟨dx, Sa, Ea, by rw [wo_ne no]; exact e, dg_wo hb _ _ (plD_stD D) h1, dg_wo hb _ _ (plD_dEn D) h2⟩, ok⟩
theorem codD_ok {way n k : Nat} (hw : way < 4) (lo : loW way ≤ n) (h5 : n ≤ 5) : (codD way n k).ok := by
  have h4 : way = 0 ∨ way = 1 ∨ way = 2 ∨ way = 3 := by omega
  have n1 : 1 ≤ n := by unfold loW at lo; split at lo <;> omega
  rcases h4 with rfl | rfl | rfl | rfl
  · exact copD_ok n1 h5
  · exact escD_ok n1 h5
  · exact shiD_ok (by have : (2 : Int) ≤ n := lo; omega) h5
  · exact runD_ok n1 h5
theorem codD_sg {way n k : Nat} : (codD way n k).sg = n := by
  unfold codD
  split
  · rfl
  · split
    · rfl
    · split <;> rfl
/-- a text, or None, as data -/
def txD : Option (List Nat) → PyData | none => .none | some u => .str (S u)
theorem dg_tx {K : PySem.W.Frag} {H : Hp} : ∀ u, Dg K H false (txV u) (txD u)
  | none => .non
  | some u => .str _
theorem fit_tx {D : Dcd} (ok : D.ok) {l : List Nat} (hl : l.length ≤ 100) : Sh (txD (D.wr l)) := by
  cases h : D.wr l with
  | none => exact (Fit.none (k := 0)).sh (by omega) (by omega)
  | some u =>
    obtain ⟨h1, h2⟩ := ok.wr h
    exact sh_str (by omega) fun c hc => h1.lt c hc
section
variable {P : Program} {w : World} {K : PySem.W.Frag} {mg : Str → Option Value} {base : Heap}
def spMr (T : Txt K mg) : Sp := fun vs H Q _ => ∃ (p : Addr) (c way n k : Nat) (z : V) (o : Addr), vs = [.ref p, .int (way : Nat), .int (n : Nat), z, .ref o] ∧ BoxAt H p c ∧ c < 100000 ∧ way < 4 ∧ loW way ≤ n ∧ n ≤ 5 ∧ (way = 1 → z = .int (k : Nat) ∧ k < n) ∧ DecW K T.C_Decoder p H o (codD way n k) ∧
  ∀ H', Kp p H H' → Q (.bl true) H'
theorem ok_law_made_right (T : Txt K mg) : FnG P w K mg base CX0 9 T.f_law_made_right T.fd_law_made_right ["box", "way", "many", "special", "made"] (spMr T) := by
  refine T.F_law_made_right.okG sc_law_made_right (fun vs H Q E h => ?_) (fun cdv A outer s0 H vs Q E hgd hr h => ?_)
  · obtain ⟨p, c, way, n, k, z, o, rfl, _⟩ := h; rfl
  · obtain ⟨p, c, way, n, k, z, o, rfl, hb, hc, hw, lo, h5, hz, hd, kQ⟩ := h
    have hun := un64 hr
    refine ⟨_, (pss_cons (ps_if (pt_not (pt_val (pe_callB call_isi (by rfl) T.z_isinstance (by decide +kernel) (pa_cons (pv 4) (pa_cons (pe_glob (v := .ref T.C_Decoder) rfl T.g_Decoder rfl) pa_nil))))) (pss_one (ps_ret pe_bl)) pss_nil)
      (pss_cons (ps_asg (pe_call (ok_law_parts T) (hr.mono (by decide)) rfl T.g_law_parts T.F_law_parts.kp T.b_law_parts .nil pass0 (pa_cons (pv 1) (pa_cons (pv 2) (pa_cons (pv 3) pa_nil)))) (pg_lst rfl (pgs_cons (pg_name (i := 5) sc_law_made_right.nd rfl (Or.inl rfl)) (pgs_cons (pg_name (i := 6) sc_law_made_right.nd rfl (Or.inl rfl)) pgs_nil))))
      (pss_cons (ps_set (i := 7) sc_law_made_right.nd rfl (Or.inl rfl) (pe_tup (pa_cons (pv 2) (pa_cons (pe_callB call_len_seq (by rfl) T.z_len (by decide +kernel) (pa_cons (pv 5) pa_nil)) (pa_cons (pe_callTy call_tuple_of (by rfl) T.z_tuple (by decide +kernel) (pa_cons (pe_lc (own := [("row", 8)]) (g := gName 8) (by rfl) sc_law_made_right.nd (pi_sq (pv 5)) (blkOk_by (own := [("row", 8)]) (N := N_law_made_right) (sc := defScope s_law_made_right) (by decide +kernel)) (fun _ _ _ _ _ => pg_name (i := 8) sc_law_made_right.nd rfl (Or.inl rfl)) (fun _ _ _ _ _ => pts_nil) (fun _ _ _ _ _ => (pe_callTy (call_tuple_ofK (K := K) rfl) (by rfl) T.z_tuple (by decide +kernel) (pa_cons (pv 8) pa_nil)))) pa_nil)) (pa_cons (pe_callTy call_tuple_of (by rfl) T.z_tuple (by decide +kernel) (pa_cons (pv 6) pa_nil)) pa_nil))))))
      (pss_cons (ps_if (pt_cmpR op_ne (pe_callB (call_reprG hgd hun) (by rfl) T.z_repr (by decide +kernel) (pa_cons (pe_tup (pa_cons (pe_fld (pv 4) rfl) (pa_cons (pe_fld (pv 4) rfl) (pa_cons (pe_fld (pv 4) rfl) (pa_cons (pe_fld (pv 4) rfl) pa_nil))))) pa_nil)) (pe_callB (call_reprG hgd hun) (by rfl) T.z_repr (by decide +kernel) (pa_cons (pv 7) pa_nil)) (nomark _)) (pss_one (ps_ret pe_bl)) pss_nil)
      (pss_cons (ps_for PassesOwn.never rfl (pi_range1 rfl T.z_range (pa_cons pe_int pa_nil)) (pg_name (i := 9) sc_law_made_right.nd rfl (Or.inl rfl)) (pss_cons (ps_set (i := 10) sc_law_made_right.nd rfl (Or.inl rfl) (pe_callTy call_tuple_of (by rfl) T.z_tuple (by decide +kernel) (pa_cons (pe_lc (own := [("k", 11)]) (g := gName 11) (by rfl) sc_law_made_right.nd (pi_range1 rfl T.z_range (pa_cons (pe_ix ix_list (pe_lst (pa_cons (pe_call (ok_law_take T) (hr.mono (by decide)) rfl T.g_law_take T.F_law_take.kp T.b_law_take .nil pass0 (pa_cons (pv 0) (pa_cons pe_int pa_nil))) (pa_cons (pe_op op_mul pe_int (pe_call (ok_law_take T) (hr.mono (by decide)) rfl T.g_law_take T.F_law_take.kp T.b_law_take .nil pass0 (pa_cons (pv 0) (pa_cons pe_int pa_nil)))) pa_nil))) (pe_call (ok_law_take T) (hr.mono (by decide)) rfl T.g_law_take T.F_law_take.kp T.b_law_take .nil pass0 (pa_cons (pv 0) (pa_cons pe_int pa_nil))) (fun _ _ => rfl)) pa_nil)) (blkOk_by (own := [("k", 11)]) (N := N_law_made_right) (sc := defScope s_law_made_right) (by decide +kernel)) (fun _ _ _ _ _ => pg_name (i := 11) sc_law_made_right.nd rfl (Or.inl rfl)) (fun _ _ _ _ _ => pts_nil) (fun _ _ _ _ _ => (pe_call (ok_law_take T) (hr.mono (by decide)) rfl T.g_law_take T.F_law_take.kp T.b_law_take .nil pass0 (pa_cons (pv 0) (pa_cons (pv 2) pa_nil))))) pa_nil)))
      (pss_cons (ps_if (pt_cmpR op_ne (pe_callB (call_reprG hgd hun) (by rfl) T.z_repr (by decide +kernel) (pa_cons (pe_meth (pv 4) T.cl_Decoder T.m_Decoder_written (ok_Decoder_written T) (hr.mono (by decide)) T.b_Decoder_written .nil passL (pa_cons (pv 10) pa_nil)) pa_nil)) (pe_callB (call_reprG hgd hun) (by rfl) T.z_repr (by decide +kernel) (pa_cons (pe_call (ok_law_read T) (hr.mono (by decide)) rfl T.g_law_read T.F_law_read.kp T.b_law_read .nil pass0 (pa_cons (pv 1) (pa_cons (pv 2) (pa_cons (pv 3) (pa_cons (pv 10) pa_nil))))) pa_nil)) (nomark _)) (pss_one (ps_ret pe_bl)) pss_nil)
      (pss_one (ps_if (pt_cmpR op_ne (pe_callB (call_reprG hgd hun) (by rfl) T.z_repr (by decide +kernel) (pa_cons (pe_meth (pv 4) T.cl_Decoder T.m_Decoder_written (ok_Decoder_written T) (hr.mono (by decide)) T.b_Decoder_written .nil passL (pa_cons (pv 10) pa_nil)) pa_nil)) (pe_callB (call_reprG hgd hun) (by rfl) T.z_repr (by decide +kernel) (pa_cons (pe_call (ok_law_read T) (hr.mono (by decide)) rfl T.g_law_read T.F_law_read.kp T.b_law_read .nil pass0 (pa_cons (pv 1) (pa_cons (pv 2) (pa_cons (pv 3) (pa_cons (pv 10) pa_nil))))) pa_nil)) (nomark _)) (pss_one (ps_ret pe_bl)) pss_nil)))))
      (pss_one (ps_ret (pe_cmpR (op_eqO T.oe_Decoder (ok_Decoder_eq T) T.b_Decoder_eq pass0 (hr.mono (by decide)) (un64 hr)) (pv 4) (pe_make T.mk_Decoder (ok_Decoder_init T) (hr.mono (by decide)) rfl T.g_Decoder T.b_Decoder_init .nil passL (pa_cons (pv 2) (pa_cons (pv 5) (pa_cons (pv 6) pa_nil)))) (nomark _))))))))), ?_⟩
    have ok := codD_ok (k := k) hw lo h5
    obtain ⟨D, eD⟩ : ∃ D, D = codD way n k := ⟨_, rfl⟩
    have esg : D.sg = n := by rw [eD]; exact codD_sg
    obtain ⟨⟨dx, Sa, Ea, eo, hs, he⟩, _⟩ := hd.at
    have eo' := eo
    rw [codD_sg] at eo'
    refine ⟨_, rfl, _, _, _, _, true, rfl, .own _, T.oe_Decoder.ty eo, kit_same, _, rfl, iteF ?_⟩
    refine ⟨_, rfl, _, rfl, _, rfl, way, n, k, z, rfl, hw, lo, h5, hz, fun r a b H1 s1 er ha hb1 => ?_⟩
    have b1 := hb.same s1
    have ha := dg_wo b1 _ _ (plD_stL _) ha
    have hb1 := dg_wo b1 _ _ (plD_enL _) hb1
    have four : 4 ≤ sizeLine := by decide
    have good := Dcd.goodL ok
    obtain ⟨a', ys, ea, hqa, hya⟩ := ha.lst_q (.inl rfl)
    injection ea with ea
    subst ea
    obtain ⟨b', zs, eb, hqb, _, hzb⟩ := hb1.lst_of
    injection eb with eb
    subst eb
    have lys := hya.len
    rw [List.length_map] at lys
    have n40 := ok.n40
    have npx : H1 p ≠ none := b1.some
    refine ⟨r, _, rfl, SqL.of er, rfl, _, _, rfl, _, _, rfl, rfl, ?_⟩
    refine ⟨_, rfl, _, rfl, a, ys, rfl, hqa.same (wo_same H1 p), ?_⟩
    dsimp only [L2.tCons]
    refine rows_tup (A := Unit) (p := p) (a := a) (i := 8) rfl rfl (fun R h => ⟨_, rfl, h⟩) (hqa.same (wo_same H1 p)) hya good.r2 (by rw [List.length_map]; omega) npx (fun _ => rfl) (fun _ => rfl) (fun t us H2 s2 et nt hus => ?_)
    have hzb2 : DgAll K (wo H2 p) false zs ((codD way n k).en.map wdD) := hzb.ext (Kp.of s2).wo
    refine ⟨_, rfl, b, zs, rfl, .inl ⟨(hqb.ext (wo_same H1 p)).ext s2, fun u hu => ⟨four, fun d hd' => ?_⟩⟩⟩
    have nu : u ≠ p := fun z => (same_at s2 npx) (by rw [← z]; exact hu)
    have s3 : Same H2 (upd H2 u (.tup zs)) := Same.new (Same.refl _) hu
    have eu : (upd H2 u (.tup zs)) u = some (.tup zs) := upd_same
    generalize upd H2 u (.tup zs) = H3 at s3 eu hd' ⊢
    have nd : d ≠ p := fun z => (same_at (s2.trans s3) npx) (by rw [← z]; exact hd')
    have s4 : Same H3 (upd H3 d (.tup [.int (n : Nat), .int (ys.length : Int), .ref t, .ref u])) := Same.new (Same.refl _) hd'
    have ed : (upd H3 d (.tup [.int (n : Nat), .int (ys.length : Int), .ref t, .ref u])) d = some (.tup [.int (n : Nat), .int (ys.length : Int), .ref t, .ref u]) := upd_same
    have gt : Dg K (wo H3 p) false (.ref t) (codD way n k).stD := by
      rw [← good.tup]
      exact .tup (SqT.of (by rw [wo_ne nt]; exact s3 _ _ et)) (hus.ext (Kp.of s3).wo)
    have gu : Dg K (wo H3 p) false (.ref u) (codD way n k).enD := by
      rw [← good.tupE]
      exact .tup (SqT.of (by rw [wo_ne nu]; exact eu)) (hzb2.ext (Kp.of s3).wo)
    have gd : Dw K p (upd H3 d (.tup [.int (n : Nat), .int (ys.length : Int), .ref t, .ref u])) false (.ref d) (.tuple [.int (n : Nat), .int ((codD way n k).st.length : Nat), (codD way n k).stD, (codD way n k).enD]) := by
      refine .tup (SqT.of (by rw [wo_ne nd]; exact ed)) (.cons (.int _) (.cons ?_ (.cons (gt.ext (Kp.of s4).wo) (.cons (gu.ext (Kp.of s4).wo) .nil))))
      rw [lys]; exact .int _
    generalize upd H3 d (.tup [.int (n : Nat), .int (ys.length : Int), .ref t, .ref u]) = H4 at s4 ed gd ⊢
    have s14 : Same H H4 := ((s1.trans s2).trans s3).trans s4
    have shd : Sh (.tuple [.int (n : Nat), .int ((codD way n k).st.length : Nat), (codD way n k).stD, (codD way n k).enD]) := by
      refine (Fit.tuple (k := 4) (FitAll.cons (Fit.nat (by omega)) (FitAll.cons (Fit.nat (by omega)) (FitAll.cons (fit_stD ok) (FitAll.cons ((fit_dEn ok).mono (by omega) (Nat.le_refl _)) FitAll.nil))))).sh (by omega) (by omega)
    have eo4 := s14 _ _ eo'
    refine ⟨_, rfl, o, _, dx, _, _, rfl, eo4, T.cl_Decoder, T.na_Decoder_signs, dfs_signs, _, rfl, o, _, dx, _, _, rfl, eo4, T.cl_Decoder, T.na_Decoder_states, dfs_states, _, rfl, o, _, dx, _, _, rfl, eo4, T.cl_Decoder, T.na_Decoder_steps, dfs_steps, _, rfl, o, _, dx, _, _, rfl, eo4, T.cl_Decoder, T.na_Decoder_ends, dfs_ends, four, fun q hq => ?_⟩
    have s5 : Same H4 (upd H4 q (.tup [.int (n : Nat), .int ((codD way n k).st.length : Nat), .ref Sa, .ref Ea])) := Same.new (Same.refl _) hq
    have gq : Dg K (upd H4 q (.tup [.int (n : Nat), .int ((codD way n k).st.length : Nat), .ref Sa, .ref Ea])) false (.ref q) (.tuple [.int (n : Nat), .int ((codD way n k).st.length : Nat), (codD way n k).stD, (codD way n k).enD]) :=
      .tup (SqT.of upd_same) (.cons (.int _) (.cons (.int _) (.cons (hs.ext (s14.trans s5)) (.cons (he.ext (s14.trans s5)) .nil))))
    generalize upd H4 q (.tup [.int (n : Nat), .int ((codD way n k).st.length : Nat), .ref Sa, .ref Ea]) = H5 at s5 gq ⊢
    have gd5 : Dw K p H5 false (.ref d) (.tuple [.int (n : Nat), .int ((codD way n k).st.length : Nat), (codD way n k).stD, (codD way n k).enD]) := gd.kp (Kp.of s5)
    generalize PyData.tuple [.int (n : Nat), .int ((codD way n k).st.length : Nat), (codD way n k).stD, (codD way n k).enD] = dd at gq gd5 shd
    refine ⟨_, _, false, rfl, gq, shd.1, shd.2.1, shd.2.2, _, rfl, _, _, false, rfl, gd5.dg, shd.1, shd.2.1, shd.2.2, rfl, _, rfl, neSame ?_⟩
    have s15 : Same H H5 := s14.trans s5
    have stA : Same H1 H5 := ((s2.trans s3).trans s4).trans s5
    have dec5 : DecW K T.C_Decoder p H5 o (codD way n k) := hd.kp (Kp.of s15)
    have b5 := hb.same s15
    have a5 : Dw K p H5 false (.ref a) (codD way n k).stL := ha.kp (Kp.of stA)
    have e5 : Dw K p H5 false (.ref b) (codD way n k).enL := hb1.kp (Kp.of stA)
    have n1 : 1 ≤ n := by unfold loW at lo; split at lo <;> omega
    refine ⟨3, rfl, by decide, by decide, ?_⟩
    refine for_range (lo := 0) (n := 3) (fun i σ H' => ∃ x9 x10, σ = [some (.ref p), some (.int (way : Nat)), some (.int (n : Nat)), some z, some (.ref o), some (.ref a), some (.ref b), some (.ref d), none, x9, x10, none] ∧ Kp p H5 H' ∧ BoxAt H' p (c + 40 * i)) ⟨none, none, rfl, Kp.refl p _, b5⟩ ?_ ?_
    · rintro i σ H6 hi ⟨x9, x10, rfl, k6, b6⟩
      rw [Int.zero_add]
      refine ⟨_, rfl, p, _, 4, rfl, b6, by omega, by omega, by omega, fun d1 o1 hd1 ho1 => ⟨_, rfl, p, _, 13, rfl, ho1.at, by omega, by omega, by omega, fun d2 o2 hd2 ho2 => ⟨_, _, rfl, rfl, .inl (by exact ⟨by decide, by decide⟩), (by show 2 ≤ sizeLine; decide), fun M hM => ⟨_, rfl, p, c + 40 * i + 2, 2, rfl, ?_, by omega, by omega, by omega, fun d3 o3 hd3 ho3 => ?_⟩⟩⟩⟩
      · exact (ho2.at.new hM).mono (by omega)
      have nM : M ≠ p := ((ho2.at (H := upd H6 p o1)).ne hM).symm
      obtain ⟨m, hm, m24⟩ : ∃ m : Nat, ([V.int (d1 : Nat), V.int (2 * (d2 : Int))])[d3]? = some (V.int (m : Nat)) ∧ m ≤ 24 := by
        have : d3 = 0 ∨ d3 = 1 := by omega
        rcases this with rfl | rfl
        · exact ⟨d1, rfl, by omega⟩
        · exact ⟨2 * d2, by show some (V.int (2 * (d2 : Int))) = _; congr 2, by omega⟩
      have k7 : Kp p H6 (upd (upd (upd (upd H6 p o1) p o2) M (.lst [.int (d1 : Nat), .int (2 * (d2 : Int))])) p o3) := ((((Kp.refl p H6).upd).upd).new hM).upd
      have b7 : BoxAt (upd (upd (upd (upd H6 p o1) p o2) M (.lst [.int (d1 : Nat), .int (2 * (d2 : Int))])) p o3) p (c + 40 * i + 3) := ho3.at
      have e7 : (upd (upd (upd (upd H6 p o1) p o2) M (.lst [.int (d1 : Nat), .int (2 * (d2 : Int))])) p o3) M = some (.lst [.int (d1 : Nat), .int (2 * (d2 : Int))]) := by rw [upd_ne nM]; exact upd_same
      show rIxL K (.ref M) (.int (d3 : Nat)) (upd (upd (upd (upd H6 p o1) p o2) M (.lst [.int (d1 : Nat), .int (2 * (d2 : Int))])) p o3) _
      generalize upd (upd (upd (upd H6 p o1) p o2) M (.lst [.int (d1 : Nat), .int (2 * (d2 : Int))])) p o3 = H7 at k7 b7 e7 ⊢
      refine ⟨M, _, (d3 : Int), .int (m : Nat), rfl, rfl, SqL.of e7, atI_nat hm, (m : Int), rfl, by omega, by omega, fun D1 hD1 => ?_⟩
      rw [Int.toNat_natCast]
      have nD : D1 ≠ p := (b7.ne hD1).symm
      refine lc_range (lo := 0) (n := m) (fun j H' => Kp p H7 H' ∧ BoxAt H' p (c + 40 * i + 3 + j) ∧ ∃ ls : List Nat, H' D1 = some (.lst (ls.map fun (b : Nat) => V.int b)) ∧ ls.length = j ∧ ∀ b ∈ ls, b < n) ⟨(Kp.refl p H7).new hD1, b7.new hD1, [], upd_same, rfl, fun b hb => by cases hb⟩ ?_ ?_
      · rintro j H8 hj ⟨k8, b8, ls, e8, ll, hls⟩
        refine ⟨rfl, tYesT ⟨_, rfl, _, rfl, p, _, (n : Int), rfl, b8, by omega, by omega, by omega, fun d4 o4 hd4 ho4 => ?_⟩⟩
        refine ⟨_, by rw [upd_ne nD]; exact e8, by rw [List.length_map, ll]; exact Nat.lt_of_le_of_lt (show j ≤ 100 by omega) (by decide), ?_, ?_, ls ++ [d4], ?_, ?_, ?_⟩
        · intro bb ob nb eb
          have nbD : bb ≠ D1 := fun z => by rw [z, hD1] at eb; cases eb
          rw [upd_ne nbD, upd_ne nb]
          exact k8 bb ob nb eb
        · have := (ho4.at (H := H8) (p := p)).other (o := .lst ((ls.map fun (b : Nat) => V.int b) ++ [.int (d4 : Nat)])) nD.symm
          exact this
        · rw [upd_same, List.map_append]; rfl
        · rw [List.length_append, ll]; rfl
        · intro b hb'
          rcases List.mem_append.mp hb' with z | z
          · exact hls b z
          · rw [List.mem_singleton.mp z]; omega
      rintro H8 ⟨k8, b8, ls, e8, ll, hls⟩
      refine ⟨D1, _, rfl, .inl ⟨SqL.of e8, fun T1 hT1 => ?_⟩⟩
      have s9 : Same H8 (upd H8 T1 (.tup (ls.map fun (b : Nat) => V.int b))) := Same.new (Same.refl _) hT1
      have e9 : (upd H8 T1 (.tup (ls.map fun (b : Nat) => V.int b))) T1 = some (.tup (ls.map fun (b : Nat) => V.int b)) := upd_same
      generalize upd H8 T1 (.tup (ls.map fun (b : Nat) => V.int b)) = H9 at s9 e9 ⊢
      have k9 : Kp p H5 H9 := ((k6.trans k7).trans k8).trans (Kp.of s9)
      have b9 := b8.same s9
      have dec9 := (dec5.kp k9).at
      have sh := fit_tx (l := ls) ok (by omega)
      have wln : (lnD ls).weight ≤ 100000 := by
        unfold lnD
        rw [PyData.weight]
        refine Nat.le_trans (weight_all (k := 21) _ fun b hb => (Fit.nat (k := 0) (r := b) (by have := hls b hb; omega)).w) (by omega)
      have dl : ∀ H', Same H9 H' → Dg K H' false (.ref T1) (lnD ls) := fun H' s' => .tup (SqT.of (s' _ _ e9)) (by
        have go : ∀ l : List Nat, DgAll K H' false (l.map fun (b : Nat) => V.int b) (l.map fun (b : Nat) => PyData.int b) := by
          intro l
          induction l with
          | nil => exact .nil
          | cons x r ih => exact .cons (.int _) ih
        exact go ls)
      have hls' : ∀ b ∈ ls, b < (codD way n k).sg := fun b hb => by rw [codD_sg]; exact hls b hb
      have dt : ∀ H', Dg K H' false (txV ((codD way n k).wr ls)) (txD ((codD way n k).wr ls)) := fun H' => dg_tx _
      generalize txD ((codD way n k).wr ls) = dd at sh dt
      have ask : ∀ (σ : L2.St) (H' : Hp) (Q' : VK), σ[4]? = some (some (.ref o)) → σ[10]? = some (some (.ref T1)) → Same H9 H' → (∀ H'', Same H' H'' → Q' (txV ((codD way n k).wr ls)) H'') → tMeth T.C_Decoder (Str.ofString "written") (spWri T) [] E0 (tVar 4) (tCons (tVar 10) tNil) σ H' Q' := fun σ H' Q' h4 h10 s' q' => by
        obtain ⟨⟨dy, Sb, Eb, eo', _, _⟩, _⟩ := id (dec9.ext s')
        exact ⟨_, h4, o, dy, _, rfl, eo', dfs_no (by decide +kernel) (by decide +kernel) (by decide +kernel) (by decide +kernel), _, h10, o, .ref T1, _, lnD ls, false, rfl, dec9.ext s', dl H' s', wln, .inr ⟨ls, rfl, hls', q'⟩⟩
      have rd : ∀ (σ : L2.St) (H' : Hp) (Q' : VK), σ[1]? = some (some (.int (way : Nat))) → σ[2]? = some (some (.int (n : Nat))) → σ[3]? = some (some z) → σ[10]? = some (some (.ref T1)) → Same H9 H' → (∀ H'', Same H' H'' → Q' (txV ((codD way n k).wr ls)) H'') → tCall (spRead K) [] E0 (tCons (tVar 1) (tCons (tVar 2) (tCons (tVar 3) (tCons (tVar 10) tNil)))) σ H' Q' := fun σ H' Q' h1 h2 h3 h10 s' q' =>
        ⟨_, h1, _, h2, _, h3, _, h10, way, n, k, z, T1, ls, rfl, hw, lo, h5, hz, SqT.of (s' _ _ e9), hls, by omega, q'⟩
      refine ask _ _ _ rfl rfl (Same.refl _) (fun G1 t1 => ⟨_, dd, false, rfl, dt _, sh.1, sh.2.1, sh.2.2, rd _ _ _ rfl rfl rfl rfl t1 (fun G2 t2 => ⟨_, dd, false, rfl, dt _, sh.1, sh.2.1, sh.2.2, rfl, _, rfl, neSame ?_⟩)⟩)
      refine ask _ _ _ rfl rfl (t1.trans t2) (fun G3 t3 => ⟨_, dd, false, rfl, dt _, sh.1, sh.2.1, sh.2.2, rd _ _ _ rfl rfl rfl rfl ((t1.trans t2).trans t3) (fun G4 t4 => ⟨_, dd, false, rfl, dt _, sh.1, sh.2.1, sh.2.2, rfl, _, rfl, neSame ?_⟩)⟩)
      have tt := ((t1.trans t2).trans t3).trans t4
      exact ⟨_, _, rfl, k9.trans (Kp.of tt), (b9.same tt).mono (by omega)⟩
    · rintro σ H6 ⟨x9, x10, rfl, k6, b6⟩
      have dec6 := (dec5.kp k6).at
      obtain ⟨⟨dy, Sb, Eb, eo6, _, _⟩, _⟩ := id dec6
      refine ⟨_, rfl, _, rfl, _, rfl, _, rfl, fun x dx' hx hdx ne => ?_⟩
      rw [← codD_sg (way := way) (n := n) (k := k)]
      refine mk_dec T (m2 := false) (m3 := false) (Q := fun y H' => rEqO K T.C_Decoder (spDeq T) (.ref o) y H' Q) (E := E0) (Same.refl H6) good (a5.kp k6).dg (e5.kp k6).dg (weight_stL ok) (weight_enL ok) (fun r' H7 s7 dec7 => ?_) x dx' hx hdx ne
      obtain ⟨⟨dz, Sc, Ec, er7, _, _⟩, _⟩ := id dec7
      refine ⟨⟨o, dy, _, rfl, s7 _ _ eo6⟩, ⟨_, T.oe_Decoder.ty er7, T.oe_Decoder.first⟩, o, _, _, rfl, dec6.ext s7, .inl ⟨r', _, rfl, dec7, _, rfl, ?_⟩⟩
      rw [decide_eq_true rfl]
      exact kQ _ (((Kp.of s15).trans k6).trans (Kp.of s7))
end
end My

set_option Elab.async false
set_option linter.all false
set_option maxRecDepth 100000
set_option maxHeartbeats 8000000
namespace My
open PySem PySem.Spec PyProof.Rows L2
theorem asg2 {te : TE} {g : TG} {D : Ends} {σ : L2.St} {H : Hp} (R : V → Hp → Prop) (h : ∀ Q' : VK, (∀ v H', R v H' → Q' v H') → te σ H Q') (rest : ∀ v H', R v H' → g v σ H' D.nx) : tAsg te g D σ H := h _ rest
theorem seq2 {te : TE} {g : TG} {s : TS} {D : Ends} {σ : L2.St} {H : Hp} (R : V → Hp → Prop) (h : ∀ Q' : VK, (∀ v H', R v H' → Q' v H') → te σ H Q') (rest : ∀ v H', R v H' → g v σ H' fun σ2 H2 => s D σ2 H2) : tSeq (tAsg te g) s D σ H := h _ rest
theorem oddL_fit {most : Int} (h0 : -10 ≤ most) (h1 : most ≤ 10) : ∀ d ∈ oddL most, Fit d 2 300 := by
  have i : ∀ j : Int, j.natAbs < 10 ^ 31 → Fit (.int j) 2 300 := fun j h => by
    refine ⟨?_, ?_, ?_, ?_⟩
    · simp only [PyData.showable, decide_eq_true_eq]
      exact Nat.lt_trans (PySem.Flt.log2_lt_of (k := 110) (by decide) (Nat.lt_of_lt_of_le h (by decide))) (by decide)
    · unfold PyData.depth; omega
    · have e := int_text_length_le10 (a := j) (k := 31) (by decide) h
      have e2 : (PyData.int j).shown = Str.ofString (toString j) := by simp only [PyData.shown]
      unfold PyData.leavesShort
      refine decide_eq_true ?_
      rw [e2, PySem.ofString_length]
      omega
    · have := PySem.Flt.log2_lt_of (n := j.natAbs) (k := 110) (by decide) (Nat.lt_of_lt_of_le h (by decide))
      simp only [PyData.weight]
      split <;> omega
  have sm : ∀ j : Int, -100 ≤ j → j ≤ 100 → Fit (.int j) 2 300 := fun j a b => i j (Nat.lt_of_le_of_lt (show j.natAbs ≤ 100 by omega) (by decide))
  have st : ∀ z : Str, (cs z).length ≤ 100 → (cs z).all (fun c => decide (c < 200)) = true → Fit (PyData.str z) 2 300 := fun z h1 h2 => (lv_any (k := 0) h1 h2).mono (by omega) (by decide)
  refine all_cons (sm _ (by omega) (by omega)) (all_cons (sm _ (by omega) (by omega)) (all_cons (Fit.bool.mono (Nat.le_refl _) (Nat.zero_le _)) (all_cons (Fit.bool.mono (Nat.le_refl _) (Nat.zero_le _)) (all_cons (Fit.none.mono (Nat.le_refl _) (Nat.zero_le _)) (all_cons (st _ (by decide +kernel) (by decide +kernel)) (all_cons ?_ (all_cons ?_ (all_cons ?_ (all_cons (i _ (by decide)) (all_cons (i _ (by decide)) (all_cons (st _ (by decide +kernel) (by decide +kernel)) (all_cons ?_ (all_cons (sm _ (by omega) (by omega)) all_nil)))))))))))))
  · exact (Fit.tuple (FitAll.cons (fit_int (i := 1) (k := 0) (by decide)) FitAll.nil)).mono (by omega) (by omega)
  · exact (Fit.list (FitAll.cons (fit_int (i := 1) (k := 0) (by decide)) FitAll.nil)).mono (by omega) (by omega)
  · exact (Fit.list (k := 0) FitAll.nil).mono (by omega) (by omega)
  · exact (Fit.dict (FitKv.cons (fit_int (i := 1) (k := 0) (by decide)) (fit_int (i := 1) (k := 0) (by decide)) FitKv.nil)).mono (by omega) (by omega)
theorem oddL_wh : ∀ d ∈ oddL 5, isWh 1 5 d = false ∧ isWh 2 5 d = false := by
  have h : (oddL 5).all (fun d => !isWh 1 5 d && !isWh 2 5 d) = true := by decide +kernel
  intro d hd
  have := List.all_eq_true.mp h d hd
  simpa using this
theorem oddL_lst {most : Int} : ∀ es, PyData.list es ∈ oddL most → es = [] ∨ es = [.int 1] := fun es h => by
  simp [oddL] at h
  rcases h with rfl | rfl <;> simp
section
variable {P : Program} {w : World} {K : PySem.W.Frag} {mg : Str → Option Value} {base : Heap}
def spOne (K : PySem.W.Frag) : Sp := fun vs H Q _ => ∃ p c, vs = [.ref p] ∧ BoxAt H p c ∧ c < 1000 ∧ ∀ H', Kp p H H' → Q (.bl true) H'
/-- a value that may be asked for again: its data, beside the box, and where it may grow -/
structure Val (K : PySem.W.Frag) (p : Addr) (H0 H : Hp) (x : V) (d : PyData) : Prop where
  dw : Dw K p H true x d
  ft : Fit d 2 300
  gr : ∀ es, d = .list es → ∃ F xs, x = .ref F ∧ F ≠ p ∧ H0 F = none ∧ H F = some (.lst xs) ∧ ((xs = [] ∧ es = []) ∨ (xs = [V.int 1] ∧ es = [PyData.int 1]))
theorem Val.kp {K : PySem.W.Frag} {p : Addr} {H0 H H' : Hp} {x : V} {d : PyData} (h : Val K p H0 H x d) (k : Kp p H H') : Val K p H0 H' x d :=
  ⟨h.dw.kp k, h.ft, fun es e => by obtain ⟨F, xs, a, b, n, c, l⟩ := h.gr es e; exact ⟨F, xs, a, b, n, k _ _ b c, l⟩⟩
theorem Val.int {K : PySem.W.Frag} {p : Addr} {H0 H : Hp} {n : Nat} (h : n ≤ 100) : Val K p H0 H (.int (n : Nat)) (.int (n : Nat)) :=
  ⟨.int _, (Fit.nat (k := 2) (by omega)).mono (Nat.le_refl _) (by omega), fun es e => by cases e⟩
theorem ok_law_one_right (T : Txt K mg) : FnG P w K mg base CX0 12 T.f_law_one_right T.fd_law_one_right ["box"] (spOne K) := by
  refine T.F_law_one_right.okG sc_law_one_right (fun vs H Q E h => ?_) (fun cdv A outer s0 H vs Q E hgd hr h => ?_)
  · obtain ⟨p, c, rfl, _⟩ := h; rfl
  · obtain ⟨p, c, rfl, hb, hc, kQ⟩ := h
    have hun := un64 hr
    refine ⟨_, (pss_cons (ps_par3 (i := 1) (j := 2) (l := 3) (by rfl) sc_law_one_right.nd rfl rfl rfl (by decide) (by decide) (by decide) rfl rfl rfl (pa_cons (pe_call (ok_law_take T) (hr.mono (by decide)) rfl T.g_law_take T.F_law_take.kp T.b_law_take .nil pass0 (pa_cons (pv 0) (pa_cons pe_int pa_nil))) (pa_cons (pe_cmpR op_eq (pe_call (ok_law_take T) (hr.mono (by decide)) rfl T.g_law_take T.F_law_take.kp T.b_law_take .nil pass0 (pa_cons (pv 0) (pa_cons pe_int pa_nil))) pe_int (nomark _)) (pa_cons (pe_call (ok_law_take T) (hr.mono (by decide)) rfl T.g_law_take T.F_law_take.kp T.b_law_take .nil pass0 (pa_cons (pv 0) (pa_cons pe_int pa_nil))) pa_nil))) (by rfl))
      (pss_cons (ps_set (i := 4) sc_law_one_right.nd rfl (Or.inl rfl) (pe_ifExp (pt_cmpR op_gt (pv 3) pe_int (nomark _)) (pe_op op_add pe_int (pe_call (ok_law_take T) (hr.mono (by decide)) rfl T.g_law_take T.F_law_take.kp T.b_law_take .nil pass0 (pa_cons (pv 0) (pa_cons pe_int pa_nil)))) (pe_call (ok_law_odd T) (hr.mono (by decide)) rfl T.g_law_odd T.F_law_odd.kp T.b_law_odd .nil pass0 (pa_cons (pv 0) (pa_cons pe_int pa_nil)))))
      (pss_cons (ps_set (i := 5) sc_law_one_right.nd rfl (Or.inl rfl) (pe_call (ok_law_whole T) (hr.mono (by decide)) rfl T.g_law_whole T.F_law_whole.kp T.b_law_whole .nil pass0 (pa_cons (pv 4) (pa_cons (pe_ix ix_list (pe_lstS (pa_cons pe_int (pa_cons pe_int (pa_cons pe_int (pa_cons pe_int pa_nil))))) (pv 1) (fun _ _ => rfl)) (pa_cons pe_int pa_nil)))))
      (pss_cons (ps_set (i := 6) sc_law_one_right.nd rfl (Or.inl rfl) (pe_ifExp (PW.pt (pw_and (pt_val (pv 5)) (pw_and1 (pt_cmpR op_ne (pv 3) pe_int (nomark _))))) (pe_call (ok_law_take T) (hr.mono (by decide)) rfl T.g_law_take T.F_law_take.kp T.b_law_take .nil pass0 (pa_cons (pv 0) (pa_cons (pv 4) pa_nil))) (pe_call (ok_law_odd T) (hr.mono (by decide)) rfl T.g_law_odd T.F_law_odd.kp T.b_law_odd .nil pass0 (pa_cons (pv 0) (pa_cons (pe_ifExp (pt_val (pv 5)) (pe_op op_sub (pv 4) pe_int) pe_int) pa_nil)))))
      (pss_cons (ps_set (i := 7) sc_law_one_right.nd rfl (Or.inl rfl) (pe_or (pe_cmpR op_ne (pv 1) pe_int (nomark _)) (pe_one (pe_and (pv 5) (pe_one (pe_call (ok_law_whole T) (hr.mono (by decide)) rfl T.g_law_whole T.F_law_whole.kp T.b_law_whole .nil pass0 (pa_cons (pv 6) (pa_cons pe_int (pa_cons (pe_op op_sub (pv 4) pe_int) pa_nil)))))))))
      (pss_cons (ps_set (i := 8) sc_law_one_right.nd rfl (Or.inl rfl) (pe_call (ok_law_told T) (hr.mono (by decide)) rfl T.g_law_told T.F_law_told.kp T.b_law_told .nil pass0 (pa_cons (pv 1) (pa_cons (pv 2) (pa_cons (pv 4) (pa_cons (pv 6) pa_nil))))))
      (pss_cons (ps_set (i := 9) sc_law_one_right.nd rfl (Or.inl rfl) (pe_call (ok_law_told T) (hr.mono (by decide)) rfl T.g_law_told T.F_law_told.kp T.b_law_told .nil pass0 (pa_cons (pv 1) (pa_cons (pe_not (pv 2)) (pa_cons (pe_call (ok_law_copy T) (hr.mono (by decide)) rfl T.g_law_copy T.F_law_copy.kp T.b_law_copy .nil pass0 (pa_cons (pv 4) pa_nil)) (pa_cons (pe_call (ok_law_copy T) (hr.mono (by decide)) rfl T.g_law_copy T.F_law_copy.kp T.b_law_copy .nil pass0 (pa_cons (pv 6) pa_nil)) pa_nil))))))
      (Evl.pss_cut (ps_if (PW.pt (pw_and (pt_val (pv 5)) (pw_and1 (pt_val (pv 7))))) (pss_cons (ps_if (PW.pt (pw_or (pt_cmpR op_ne (pe_ix ix_list (pv 8) pe_int (fun _ _ => rfl)) pe_str (nomark _)) (pw_or (pt_cmpR op_ne (pe_ix ix_list (pv 9) pe_int (fun _ _ => rfl)) pe_str (nomark _)) (pw_or1 (pt_cmpR (op_neO T.oe_Decoder (ok_Decoder_eq T) T.b_Decoder_eq pass0 (Room.in1 (hr.mono (by decide))) (un64 hr)) (pe_ix ix_list (pv 8) pe_int (fun _ _ => rfl)) (pe_ix ix_list (pv 9) pe_int (fun _ _ => rfl)) (nomark _)))))) (pss_one (ps_ret pe_bl)) pss_nil)
      (pss_one (ps_ret (pe_callG (ok_law_made_right T) hgd (hr.mono (by decide)) rfl T.g_law_made_right T.F_law_made_right.kp T.b_law_made_right .nil pass0 (pa_cons (pv 0) (pa_cons (pv 1) (pa_cons (pv 4) (pa_cons (pv 6) (pa_cons (pe_ix ix_list (pv 8) pe_int (fun _ _ => rfl)) pa_nil))))))))) pss_nil)
      (pss_cons (ps_set (i := 10) sc_law_one_right.nd rfl (Or.inl rfl) (pe_ifExp (pt_val (pv 5)) (pe_lstS (pa_cons pe_str (pa_cons (pv 6) pa_nil))) (pe_lstS (pa_cons pe_str (pa_cons (pv 4) pa_nil)))))
      (pss_cons (ps_if (PW.pt (pw_or (pt_cmpR op_ne (pe_callB (call_reprG hgd hun) (by rfl) T.z_repr (by decide +kernel) (pa_cons (pv 8) pa_nil)) (pe_callB (call_reprG hgd hun) (by rfl) T.z_repr (by decide +kernel) (pa_cons (pv 10) pa_nil)) (nomark _)) (pw_or1 (pt_cmpR op_ne (pe_callB (call_reprG hgd hun) (by rfl) T.z_repr (by decide +kernel) (pa_cons (pv 9) pa_nil)) (pe_callB (call_reprG hgd hun) (by rfl) T.z_repr (by decide +kernel) (pa_cons (pv 10) pa_nil)) (nomark _))))) (pss_one (ps_ret pe_bl)) pss_nil)
      (pss_cons (ps_if (pt_val (pe_callB call_isi (by rfl) T.z_isinstance (by decide +kernel) (pa_cons (pe_ix ix_list (pv 10) pe_int (fun _ _ => rfl)) (pa_cons (pe_bltn (v := .ty "list") (u := .type "list") (by rfl) T.z_list (by decide +kernel) rfl) pa_nil)))) (pss_one (ps_expr (pe_bm PySem.F.plainAttrs_list PySem.F.slot_list_append PySem.F.type_list_append mt_append (pe_ix ix_list (pv 10) pe_int (fun _ _ => rfl)) (pa_cons pe_str pa_nil)))) pss_nil)
      (pss_one (ps_ret (pe_cmpR op_eq (pe_callB (call_reprG hgd hun) (by rfl) T.z_repr (by decide +kernel) (pa_cons (pv 8) pa_nil)) (pe_callB (call_reprG hgd hun) (by rfl) T.z_repr (by decide +kernel) (pa_cons (pv 10) pa_nil)) (nomark _))))))))))))))), ?_⟩
    refine ⟨_, rfl, p, c, 4, rfl, hb, by omega, by omega, by omega, fun way o1 hw ho1 => ⟨_, rfl, p, _, 2, rfl, ho1.at, by omega, by omega, by omega, fun dn o2 hn ho2 => ⟨rfl, _, rfl, p, _, 5, rfl, ho2.at, by omega, by omega, by omega, fun slip o3 hs ho3 => ?_⟩⟩⟩
    refine ⟨_, _, _, rfl, ?_⟩
    have k3 : Kp p H (upd (upd (upd H p o1) p o2) p o3) := (((Kp.refl p H).upd).upd).upd
    have b3 : BoxAt (upd (upd (upd H p o1) p o2) p o3) p (c + 3) := ho3.at
    generalize upd (upd (upd H p o1) p o2) p o3 = H3 at k3 b3 ⊢
    generalize decide (V.int (dn : Int) = V.int 1) = nm
    have odd : ∀ {most : Int} {x : V} {d : PyData} {G H' : Hp}, Kp p H G → -10 ≤ most → most ≤ 10 → Dw K p H' true x d → d ∈ oddL most → (∀ es, d = .list es → ∃ F xs, x = .ref F ∧ F ≠ p ∧ G F = none ∧ H' F = some (.lst xs) ∧ ((xs = [] ∧ es = []) ∨ (xs = [V.int 1] ∧ es = [PyData.int 1]))) → Val K p H H' x d := fun {most x d G H'} kG h0 h1 dx hm hg =>
      ⟨dx, oddL_fit h0 h1 _ hm, fun es e => by
        obtain ⟨F, xs, a, b, n, c, l⟩ := hg es e
        have hn : H F = none := by
          cases q : H F with
          | none => rfl
          | some o => rw [kG _ _ b q] at n; cases n
        exact ⟨F, xs, a, b, hn, c, l⟩⟩
    -- many
    dsimp only
    refine seq2 (fun v H' => Kp p H3 H' ∧ BoxAt H' p (c + 10) ∧ ∃ d, Val K p H H' v d ∧ (isWh (loW way) 5 d = true → ∃ n : Nat, d = .int n ∧ loW way ≤ n ∧ n ≤ 5)) (fun Q' q => ?_) (fun xm H4 ⟨k4, b4, dm, vm, gm⟩ => ?_)
    · refine ⟨_, rfl, _, _, rfl, rfl, _, rfl, ite2 (fun _ => ?_) (fun _ => ?_)⟩
      · refine ⟨_, rfl, p, _, 5, rfl, b3, by omega, by omega, by omega, fun d o hd ho => ⟨_, _, rfl, rfl, ?_⟩⟩
        dsimp only
        rw [show (1 : Int) + (d : Int) = ((1 + d : Nat) : Int) by omega]
        refine q _ _ ⟨(Kp.refl p H3).upd, ho.at.mono (by omega), _, Val.int (by omega), fun z => ⟨1 + d, rfl, ?_, by omega⟩⟩
        have z' : (decide (loW way ≤ ((1 + d : Nat) : Int)) && decide (((1 + d : Nat) : Int) ≤ 5)) = true := z
        rw [Bool.and_eq_true, decide_eq_true_eq] at z'
        exact z'.1
      · refine ⟨_, rfl, p, _, 5, rfl, b3, by omega, by omega, by omega, fun x d H' k' b' dx hm hg => q _ _ ⟨k', b'.mono (by omega), d, odd k3 (by omega) (by omega) dx hm hg, fun z => ?_⟩⟩
        obtain ⟨z1, z2⟩ := oddL_wh d hm
        unfold loW at z
        split at z
        · rw [z2] at z; cases z
        · rw [z1] at z; cases z
    -- good
    have kH4 := k3.trans k4
    refine ⟨_, rfl, (by show 4 ≤ sizeLine; decide), fun l hl low => ⟨_, rfl, l, _, (way : Int), .int (loW way), rfl, rfl, SqL.of upd_same, atI_nat ?_, xm, dm, true, loW way, 5, rfl, ?_, ?_⟩⟩
    · have : way = 0 ∨ way = 1 ∨ way = 2 ∨ way = 3 := by omega
      rcases this with rfl | rfl | rfl | rfl <;> rfl
    · exact vm.dw.dg.ext (Same.new (Same.refl _) hl)
    have s5 : Same H4 (upd H4 l (.lst [.int 1, .int 1, .int 2, .int 1])) := Same.new (Same.refl _) hl
    generalize upd H4 l (.lst [.int 1, .int 1, .int 2, .int 1]) = H5 at s5 ⊢
    have vm5 := vm.kp (Kp.of s5)
    have b5 := b4.same s5
    obtain ⟨gB, egB⟩ : ∃ gB, gB = isWh (loW way) 5 dm := ⟨_, rfl⟩
    rw [← egB] at gm ⊢
    -- special
    dsimp only
    refine seq2 (fun v H' => Kp p H5 H' ∧ BoxAt H' p (c + 20) ∧ ∃ d, Val K p H H' v d) (fun Q' q => ?_) (fun xs H6 ⟨k6, b6, ds, vs6⟩ => ?_)
    · have rest : ∀ (most : Int), (gB = true → most = numD dm - 1) → (gB = false → most = 3) → -10 ≤ most → most ≤ 10 → tCall (spOdd K) [] E0 (tCons (tVar 0) (tCons (tIf (tB (tVar 5)) (tOp (rI0 fun i j => V.int (i - j)) (tVar 4) (tC (V.int 1))) (tC (V.int 3))) tNil)) [some (.ref p), some (.int (way : Nat)), some (.bl nm), some (.int (slip : Nat)), some xm, some (.bl gB), none, none, none, none, none] H5 Q' := fun most e1 e2 m0 m1 => by
        refine ⟨_, rfl, _, rfl, _, rfl, ?_⟩
        cases gB with
        | true =>
          obtain ⟨n, rfl, n1, n5⟩ := gm rfl
          obtain rfl := vm5.dw.int_of
          have e1 := e1 rfl
          exact iteT ⟨_, rfl, _, _, rfl, rfl, p, _, most, congrArg (fun z => [V.ref p, V.int z]) e1.symm, b5, by omega, m0, m1, fun x d H' k' b' dx hm hg => q _ _ ⟨k', b'.mono (by omega), d, odd (kH4.trans (Kp.of s5)) m0 m1 dx hm hg⟩⟩
        | false =>
          have e2 := e2 rfl
          exact iteF ⟨p, _, most, congrArg (fun z => [V.ref p, V.int z]) e2.symm, b5, by omega, m0, m1, fun x d H' k' b' dx hm hg => q _ _ ⟨k', b'.mono (by omega), d, odd (kH4.trans (Kp.of s5)) m0 m1 dx hm hg⟩⟩
      refine ⟨_, rfl, _, rfl, ?_⟩
      cases hg : gB with
      | false =>
        subst hg
        exact iteF (iteF (rest 3 (fun z => by cases z) (fun _ => rfl) (by omega) (by omega)))
      | true =>
        subst hg
        obtain ⟨n, rfl, n1, n5⟩ := gm rfl
        obtain rfl := vm5.dw.int_of
        have l1 : 1 ≤ n := by unfold loW at n1; split at n1 <;> omega
        refine iteT ⟨_, rfl, rfl, _, rfl, ?_⟩
        by_cases e : slip = 1
        · rw [decide_eq_true (show V.int (slip : Int) = V.int 1 by rw [e]; rfl)]
          exact iteF (rest ((n : Int) - 1) (fun _ => rfl) (fun z => by cases z) (by omega) (by omega))
        · rw [decide_eq_false (show ¬ V.int (slip : Int) = V.int 1 from fun z => e (by have := V.int.inj z; omega))]
          exact iteT ⟨_, rfl, _, rfl, p, _, (n : Int), rfl, b5, by omega, by omega, by omega, fun d o hd ho => q _ _ ⟨(Kp.refl p H5).upd, ho.at.mono (by omega), _, Val.int (by omega)⟩⟩
    -- right
    dsimp only [L2.gName]
    have vm6 := vm5.kp k6
    obtain ⟨rB, erB⟩ : ∃ rB, rB = (!decide (way = 1) || (gB && isWh 0 (numD dm - 1) ds)) := ⟨_, rfl⟩
    refine seq2 (fun v H' => H' = H6 ∧ v = .bl rB) (fun Q' q => ?_) (fun v H7 ⟨e7, ev⟩ => ?_)
    · refine ⟨_, rfl, rfl, _, rfl, ?_⟩
      by_cases w1 : way = 1
      · rw [decide_eq_true (show V.int (way : Int) = V.int 1 by rw [w1]; rfl)]
        refine iteF ⟨_, rfl, _, rfl, ?_⟩
        rw [decide_eq_true w1] at erB
        cases hg : gB with
        | false =>
          rw [hg] at erB
          exact iteF (q _ _ ⟨rfl, by rw [erB]; rfl⟩)
        | true =>
          rw [hg] at erB
          obtain ⟨n, rfl, n1, n5⟩ := gm hg
          obtain rfl := vm6.dw.int_of
          refine iteT ⟨_, rfl, _, rfl, _, _, rfl, rfl, xs, ds, true, 0, (n : Int) - 1, rfl, vs6.dw.dg, q _ _ ⟨rfl, ?_⟩⟩
          rw [erB]; rfl
      · rw [decide_eq_false (show ¬ V.int (way : Int) = V.int 1 from fun z => w1 (by have := V.int.inj z; omega))]
        rw [decide_eq_false w1] at erB
        exact iteT (q _ _ ⟨rfl, by rw [erB]; rfl⟩)
    subst e7 ev
    dsimp only [L2.gName]
    have k5 : Kp p H H5 := kH4.trans (Kp.of s5)
    have kH7 : Kp p H H7 := k5.trans k6
    by_cases both : gB = true ∧ rB = true
    · -- it is made
      obtain ⟨hg, hr'⟩ := both
      obtain ⟨n, rfl, n1, n5⟩ := gm hg
      obtain rfl := vm6.dw.int_of
      rw [hg] at *
      rw [hr'] at *
      obtain ⟨k, hk⟩ : ∃ k : Nat, way = 1 → ds = .int (k : Nat) ∧ k < n := by
        by_cases w1 : way = 1
        · rw [decide_eq_true w1] at erB
          have e1 : isWh 0 ((n : Int) - 1) ds = true := erB.symm
          cases ds with
          | int i =>
            have e2 : (decide ((0 : Int) ≤ i) && decide (i ≤ (n : Int) - 1)) = true := e1
            rw [Bool.and_eq_true, decide_eq_true_eq, decide_eq_true_eq] at e2
            exact ⟨i.toNat, fun _ => ⟨by congr 1; omega, by omega⟩⟩
          | _ => cases e1
        · exact ⟨0, fun z => absurd z w1⟩
      have hz : way = 1 → xs = .int (k : Nat) ∧ k < n := fun w1 => by
        obtain ⟨e, h⟩ := hk w1
        subst e
        exact ⟨vs6.dw.int_of, h⟩
      have no1 : isWh (loW way) 5 (PyData.int (n : Nat)) = false → False := fun z => by rw [← egB] at z; cases z
      have no2 : way = 1 → isBe (numD (PyData.int (n : Nat))) ds = false → False := fun w1 z => by
        obtain ⟨e, h⟩ := hk w1
        rw [e] at z
        have z' : (decide ((0 : Int) ≤ (k : Nat)) && decide (((k : Nat) : Int) < n)) = false := z
        rw [decide_eq_true (by omega), decide_eq_true (by omega)] at z'; cases z'
      have dj : ∀ {o : Addr} {H1 : Hp} {n' k' : Nat}, PyData.int (n : Nat) = .int (n' : Nat) → (way = 1 → ds = .int (k' : Nat) ∧ k' < n') → DecAt K T.C_Decoder H1 o (codD way n' k') → DecAt K T.C_Decoder H1 o (codD way n k) := fun {o H1 n' k'} e1 e2 dec => by
        have en : n' = n := by injection e1 with e1; omega
        subst en
        by_cases w1 : way = 1
        · obtain ⟨a1, _⟩ := hk w1
          obtain ⟨a2, _⟩ := e2 w1
          rw [a1] at a2
          have : k' = k := by injection a2 with a2; omega
          rw [← this]; exact dec
        · have : codD way n' k' = codD way n' k := by unfold codD; rw [if_neg w1, if_neg w1]
          rw [← this]; exact dec
      refine ⟨_, rfl, _, rfl, _, rfl, _, rfl, way, nm, _, _, true, xs, ds, true, rfl, by omega, vm6.dw.dg, vs6.dw.dg, fun z => (no1 z).elim, fun _ w1 z => (no2 w1 z).elim, fun n' k' e1 _ _ e2 r1 o1 H8 s8 er1 dec1 => ?_⟩
      have dec1 := dj e1 e2 dec1
      refine ⟨_, rfl, _, rfl, _, rfl, _, rfl, _, _, true, rfl, vm6.dw.dg.ext s8, fun ym H9 s9 dym _ => ⟨_, rfl, xs, ds, true, rfl, vs6.dw.dg.ext (s8.trans s9), fun ys H10 s10 dys _ => ⟨way, !nm, ym, _, true, ys, ds, true, rfl, by omega, dym.ext s10, dys, fun z => (no1 z).elim, fun _ w1 z => (no2 w1 z).elim, fun n2 k2 e1' _ _ e2' r2 o2 H11 s11 er2 dec2 => ?_⟩⟩⟩
      have dec2 := dj e1' e2' dec2
      have s9' := s9.trans s10
      have s811 := s9'.trans s11
      have er1' := s811 _ _ er1
      have dec1' := dec1.ext s811
      obtain ⟨⟨dx1, Sa1, Ea1, eo1, _, _⟩, _⟩ := id dec1'
      obtain ⟨⟨dx2, Sa2, Ea2, eo2, _, _⟩, _⟩ := id dec2
      refine ⟨fun _ _ => False, ⟨_, rfl, _, rfl, iteT ⟨_, rfl, _, rfl, iteT ?_⟩⟩, fun _ _ h => h.elim⟩
      refine ⟨_, rfl, r1, _, _, _, rfl, rfl, SqL.of er1', atI_nat (j := 0) rfl, rfl, _, rfl, neSame ⟨_, rfl, r2, _, _, _, rfl, rfl, SqL.of er2, atI_nat (j := 0) rfl, rfl, _, rfl, neSame ?_⟩⟩
      refine ⟨_, rfl, r1, _, _, _, rfl, rfl, SqL.of er1', atI_nat (j := 1) rfl, _, rfl, r2, _, _, _, rfl, rfl, SqL.of er2, atI_nat (j := 1) rfl, ⟨o1, dx1, _, rfl, eo1⟩, ⟨_, T.oe_Decoder.ty eo2, T.oe_Decoder.first⟩, o1, .ref o2, _, rfl, dec1', .inl ⟨o2, _, rfl, dec2, _, rfl, _, rfl, ?_⟩⟩
      rw [decide_eq_true (rfl : codD way n k = codD way n k)]
      have kk : Kp p H7 H11 := (Kp.of s8).trans (Kp.of s811)
      refine iteF ⟨_, rfl, _, rfl, _, rfl, _, rfl, _, rfl, r1, _, _, _, rfl, rfl, SqL.of er1', atI_nat (j := 1) rfl, p, c + 20, way, n, k, xs, o1, rfl, b6.same (s8.trans s811), by omega, by omega, n1, n5, hz, dec1'.box (b6.same (s8.trans s811)), fun H' k' => kQ _ ((kH7.trans kk).trans k')⟩
    · -- it is refused
      obtain ⟨z, xb, db, vb, hzb⟩ : ∃ (z : Str) (xb : V) (db : PyData), Val K p H H7 xb db ∧ ((gB = false ∧ z = Str.ofString "signs" ∧ xb = xm ∧ db = dm) ∨ (gB = true ∧ z = Str.ofString "sign" ∧ xb = xs ∧ db = ds ∧ way = 1 ∧ isBe (numD dm) ds = false)) := by
        cases hg : gB with
        | false => exact ⟨_, xm, dm, vm6, .inl ⟨rfl, rfl, rfl, rfl⟩⟩
        | true =>
          refine ⟨_, xs, ds, vs6, .inr ⟨rfl, rfl, rfl, rfl, ?_⟩⟩
          have hr' : rB = false := by
            cases h : rB with
            | false => rfl
            | true => exact absurd ⟨hg, h⟩ both
          rw [hr', hg] at erB
          by_cases w1 : way = 1
          · refine ⟨w1, ?_⟩
            rw [decide_eq_true w1] at erB
            have e1 : isWh 0 (numD dm - 1) ds = false := erB.symm
            cases ds with
            | int i =>
              have e2 : (decide ((0 : Int) ≤ i) && decide (i ≤ numD dm - 1)) = false := e1
              show (decide ((0 : Int) ≤ i) && decide (i < numD dm)) = false
              rw [Bool.and_eq_false_iff] at e2 ⊢
              rcases e2 with e2 | e2
              · exact .inl e2
              · exact .inr (decide_eq_false fun h => of_decide_eq_false e2 (by omega))
            | _ => rfl
          · rw [decide_eq_false w1] at erB; cases erB
      have b1 : isWh (loW way) 5 dm = false → gB = false := fun h => by rw [egB]; exact h
      have no3 : ∀ n k : Nat, dm = .int (n : Nat) → loW way ≤ n → n ≤ 5 → (way = 1 → ds = .int (k : Nat) ∧ k < n) → False := fun n k e1 lo h5 e2 => by
        rcases hzb with ⟨hg, _⟩ | ⟨_, _, _, _, w1, hbe⟩
        · rw [egB, e1] at hg
          have hg' : (decide (loW way ≤ ((n : Nat) : Int)) && decide (((n : Nat) : Int) ≤ 5)) = false := hg
          rw [decide_eq_true lo, decide_eq_true (by omega)] at hg'; cases hg'
        · obtain ⟨e3, hk⟩ := e2 w1
          rw [e1, e3] at hbe
          have z' : (decide ((0 : Int) ≤ (k : Nat)) && decide (((k : Nat) : Int) < n)) = false := hbe
          rw [decide_eq_true (by omega), decide_eq_true (by omega)] at z'; cases z'
      -- asked once, by a name
      have ask : ∀ (nm' : Bool) (ym ys : V) (G : Hp) (Q' : VK), Dg K G true ym dm → Dg K G true ys ds → (∀ yb r H', (gB = false → yb = ym) → (gB = true → yb = ys) → Same G H' → G r = none → (r == sysModules) = false → H' r = some (.lst [.str z, yb]) → Dg K G true yb db → Q' (.ref r) H') → spTold T [.int (way : Nat), .bl nm', ym, ys] G Q' E0 := fun nm' ym ys G Q' h1 h2 q => by
        refine ⟨way, nm', ym, dm, true, ys, ds, true, rfl, by omega, h1, h2, fun hf r H' s' hr' low e => ?_, fun ht w1 hbe r H' s' hr' low e => ?_, fun n k e1 lo h5 e2 => (no3 n k e1 lo h5 e2).elim⟩
        · rcases hzb with ⟨hg, rfl, _, rfl⟩ | ⟨hg, _⟩
          · exact q ym r H' (fun _ => rfl) (fun z => by rw [hg] at z; cases z) s' hr' low e h1
          · rw [b1 hf] at hg; cases hg
        · rcases hzb with ⟨hg, _⟩ | ⟨hg, rfl, _, rfl, _⟩
          · rw [egB, ht] at hg; cases hg
          · exact q ys r H' (fun z => by rw [hg] at z; cases z) (fun _ => rfl) s' hr' low e h2
      refine ⟨_, rfl, _, rfl, _, rfl, _, rfl, ?_⟩
      dsimp only [L2.tNil]
      show spTold T [.int (way : Nat), .bl nm, xm, xs] H7 _ E0
      refine ask nm xm xs H7 _ vm6.dw.dg vs6.dw.dg fun yb1 r1 H8 yf1 yt1 s8 hr1 low1 er1 dy1 => ?_
      refine ⟨_, rfl, _, rfl, _, rfl, _, rfl, _, _, true, rfl, vm6.dw.dg.ext s8, fun ym H9 s9 dym _ => ⟨_, rfl, xs, ds, true, rfl, vs6.dw.dg.ext (s8.trans s9), fun ys H10 s10 dys _ => ?_⟩⟩
      dsimp only [L2.tNil]
      show spTold T [.int (way : Nat), .bl (!nm), ym, ys] H10 _ E0
      refine ask (!nm) ym ys H10 _ (dym.ext s10) dys fun yb2 r2 H11 yf2 yt2 s11 hr2 low2 er2 dy2 => ?_
      have eyb : yb1 = xb := by
        rcases hzb with ⟨hg, _, rfl, _⟩ | ⟨hg, _, rfl, _⟩
        · exact yf1 hg
        · exact yt1 hg
      subst eyb
      refine ⟨fun σ H' => σ = [some (.ref p), some (.int (way : Nat)), some (.bl nm), some (.int (slip : Nat)), some xm, some (.bl gB), some xs, some (.bl rB), some (.ref r1), some (.ref r2), none] ∧ H' = H11, ?_, ?_⟩
      · refine ⟨_, rfl, _, rfl, ?_⟩
        cases hg : gB with
        | false => subst hg; exact iteF (iteF ⟨rfl, rfl⟩)
        | true =>
          subst hg
          refine iteT ⟨_, rfl, _, rfl, ?_⟩
          cases hr' : rB with
          | false => subst hr'; exact iteF ⟨rfl, rfl⟩
          | true => exact absurd ⟨rfl, hr'⟩ both
      rintro σ H' ⟨rfl, rfl⟩
      have s9' := s9.trans s10
      have s8' := s9'.trans s11
      have s78 : Same H7 H' := s8.trans s8'
      have two : 2 ≤ sizeLine := by decide
      refine seq2 (fun v G => Same H' G ∧ ∃ r3, v = .ref r3 ∧ H' r3 = none ∧ (r3 == sysModules) = false ∧ G r3 = some (.lst [.str z, yb1])) (fun Q' q => ?_) (fun v G ⟨sG, r3, ev, hr3, low3, er3⟩ => ?_)
      · refine ⟨_, rfl, _, rfl, ?_⟩
        rcases hzb with ⟨hg, rfl, rfl, _⟩ | ⟨hg, rfl, rfl, _⟩
        · rw [hg]
          exact iteF ⟨_, rfl, two, fun r hr low => q _ _ ⟨Same.new (Same.refl _) hr, r, rfl, hr, low, upd_same⟩⟩
        · rw [hg]
          exact iteT ⟨_, rfl, two, fun r hr low => q _ _ ⟨Same.new (Same.refl _) hr, r, rfl, hr, low, upd_same⟩⟩
      subst ev
      have er1G := sG _ _ (s8' _ _ er1)
      have er2G := sG _ _ er2
      have sG7 := s78.trans sG
      have dxb : ∀ G', Same H7 G' → Dg K G' true yb1 db := fun G' s' => vb.dw.dg.ext s'
      have dyb : Dg K G true yb2 db := dy2.ext (s11.trans sG)
      have shz : ∀ e : PyData, Fit e 2 320 → Sh (.list [.str z, e]) := fun e fe => by
        have fz : Fit (.str z) 2 320 := by
          rcases hzb with ⟨_, rfl, _⟩ | ⟨_, rfl, _⟩
          · exact (lv_any (k := 0) (by decide +kernel) (by decide +kernel)).mono (by omega) (by decide)
          · exact (lv_any (k := 0) (by decide +kernel) (by decide +kernel)).mono (by omega) (by decide)
        exact (Fit.list (FitAll.cons fz (FitAll.cons fe FitAll.nil))).sh (by omega) (by omega)
      have sh1 := shz db (vb.ft.mono (Nat.le_refl _) (by omega))
      have d1 : ∀ r, (r == sysModules) = false → G r = some (.lst [.str z, yb1]) → Dg K G true (.ref r) (.list [.str z, db]) := fun r low e => .lst (SqL.of e) (fun _ => low) (.cons (.str _) (.cons (dxb G sG7) .nil))
      have d2 : Dg K G true (.ref r2) (.list [.str z, db]) := .lst (SqL.of er2G) (fun _ => low2) (.cons (.str _) (.cons dyb .nil))
      refine ⟨_, rfl, _, _, true, rfl, d1 r1 low1 er1G, sh1.1, sh1.2.1, sh1.2.2, _, rfl, _, _, true, rfl, d1 r3 low3 er3, sh1.1, sh1.2.1, sh1.2.2, rfl, _, rfl, neSame ?_⟩
      refine ⟨_, rfl, _, _, true, rfl, d2, sh1.1, sh1.2.1, sh1.2.2, _, rfl, _, _, true, rfl, d1 r3 low3 er3, sh1.1, sh1.2.1, sh1.2.2, rfl, _, rfl, neSame ?_⟩
      refine ⟨_, rfl, r3, _, _, _, rfl, rfl, SqL.of er3, atI_nat (j := 1) rfl, _, _, _, _, isLstD db, rfl, .ty _, (dxb G sG7).ty, kit_lstD db, _, rfl, ?_⟩
      have kG : Kp p H G := kH7.trans (Kp.of sG7)
      cases db with
      | list es =>
        obtain ⟨F, ws, rfl, nF, nH, eF, lw⟩ := vb.gr es rfl
        have eFG := sG7 _ _ eF
        have nr1 : r1 ≠ F := fun z => by rw [z, eF] at hr1; cases hr1
        have nr3 : r3 ≠ F := fun z => by rw [z, s78 _ _ eF] at hr3; cases hr3
        obtain ⟨a0, ws', ea0, hs0, low0, ha0⟩ := (dxb G sG7).lst_of
        injection ea0 with ea0
        subst ea0
        have low0 := low0 rfl
        refine iteT ⟨_, rfl, r3, _, _, _, rfl, rfl, SqL.of er3, atI_nat (j := 1) rfl, .inl ⟨rfl, _, SqL.of eFG⟩, F, _, _, rfl, rfl, eFG, ?_, ?_⟩
        · rcases lw with ⟨rfl, _⟩ | ⟨rfl, _⟩
          · exact Nat.lt_of_le_of_lt (show 0 ≤ 1 by omega) (by decide)
          · exact Nat.lt_of_le_of_lt (show 1 ≤ 1 by omega) (by decide)
        have kU : Kp p H (upd G F (.lst (ws ++ [.str (Str.ofString "more")]))) := fun bb o nb e => by
          have hF : bb ≠ F := fun z => by rw [z, nH] at e; cases e
          rw [upd_ne hF]; exact kG bb o nb e
        have eU : (upd G F (.lst (ws ++ [.str (Str.ofString "more")]))) F = some (.lst (ws ++ [.str (Str.ofString "more")])) := upd_same
        have e1U : (upd G F (.lst (ws ++ [.str (Str.ofString "more")]))) r1 = some (.lst [.str z, .ref F]) := by rw [upd_ne nr1]; exact er1G
        have e3U : (upd G F (.lst (ws ++ [.str (Str.ofString "more")]))) r3 = some (.lst [.str z, .ref F]) := by rw [upd_ne nr3]; exact er3
        generalize upd G F (.lst (ws ++ [.str (Str.ofString "more")])) = U at kU eU e1U e3U ⊢
        have dF : Dg K U true (.ref F) (.list (es ++ [.str (Str.ofString "more")])) := .lst (SqL.of eU) (fun _ => low0) (by
          rcases lw with ⟨rfl, rfl⟩ | ⟨rfl, rfl⟩
          · exact .cons (.str _) .nil
          · exact .cons (.int _) (.cons (.str _) .nil))
        have fm : Fit (.str (Str.ofString "more")) 1 100 := (lv_any (k := 0) (by decide +kernel) (by decide +kernel)).mono (by omega) (by decide)
        have sh2 := shz (.list (es ++ [.str (Str.ofString "more")])) (by
          rcases lw with ⟨_, rfl⟩ | ⟨_, rfl⟩
          · exact (Fit.list (FitAll.cons fm FitAll.nil)).mono (Nat.le_refl _) (by omega)
          · exact (Fit.list (FitAll.cons (fit_int (i := 1) (k := 1) (by decide)) (FitAll.cons fm FitAll.nil))).mono (Nat.le_refl _) (by omega))
        have g1 : Dg K U true (.ref r1) (.list [.str z, .list (es ++ [.str (Str.ofString "more")])]) := .lst (SqL.of e1U) (fun _ => low1) (.cons (.str _) (.cons dF .nil))
        have g3 : Dg K U true (.ref r3) (.list [.str z, .list (es ++ [.str (Str.ofString "more")])]) := .lst (SqL.of e3U) (fun _ => low3) (.cons (.str _) (.cons dF .nil))
        refine ⟨_, rfl, _, _, true, rfl, g1, sh2.1, sh2.2.1, sh2.2.2, _, rfl, _, _, true, rfl, g3, sh2.1, sh2.2.1, sh2.2.2, rfl, ?_⟩
        rw [decide_eq_true rfl]
        exact kQ _ kU
      | _ =>
        refine iteF ⟨_, rfl, _, _, true, rfl, d1 r1 low1 er1G, sh1.1, sh1.2.1, sh1.2.2, _, rfl, _, _, true, rfl, d1 r3 low3 er3, sh1.1, sh1.2.1, sh1.2.2, rfl, ?_⟩
        rw [decide_eq_true rfl]
        exact kQ _ kG
def spLaw (K : PySem.W.Frag) : Sp := fun vs H Q _ => ∃ (a : Addr) (ns : List Int), vs = [.ref a] ∧ SqL K H a (ns.map V.int) ∧ ns.length ≤ 63 ∧ ∀ H', Q (.bl true) H'
theorem ok_law (T : Txt K mg) : FnG P w K mg base CX0 13 T.f_law T.fd_law ["script"] (spLaw K) := by
  refine T.F_law.okG sc_law (fun vs H Q E h => ?_) (fun cdv A outer s H vs Q E hgd hr h => ?_)
  · obtain ⟨a, ns, rfl, _⟩ := h; rfl
  · obtain ⟨a, ns, rfl, hS, hlen, q⟩ := h
    refine ⟨_, (pss_cons (ps_for PassesOwn.never rfl (pi_range1 rfl T.z_range (pa_cons (pe_callB (call_max2 rfl) (by rfl) T.z_max (by decide +kernel) (pa_cons pe_int (pa_cons (pe_callB (call_min2 rfl) (by rfl) T.z_min (by decide +kernel) (pa_cons pe_int (pa_cons (pe_callB call_len_seq (by rfl) T.z_len (by decide +kernel) (pa_cons (pv 0) pa_nil)) pa_nil))) pa_nil))) pa_nil)) (pg_name (i := 1) sc_law.nd rfl (Or.inl rfl)) (pss_one (ps_if (pt_not (pt_val (pe_callG (ok_law_one_right T) hgd (hr.mono (by decide)) rfl T.g_law_one_right T.F_law_one_right.kp T.b_law_one_right .nil pass0 (pa_cons (pe_call (ok_law_box T) (hr.mono (by decide)) rfl T.g_law_box T.F_law_box.kp T.b_law_box .nil pass0 (pa_cons (pe_call (ok_law_cell T) (hr.mono (by decide)) rfl T.g_law_cell T.F_law_cell.kp T.b_law_cell .nil pass0 (pa_cons (pv 0) (pa_cons (pv 1) pa_nil))) pa_nil)) pa_nil)))) (pss_one (ps_ret pe_bl)) pss_nil)))
      (pss_one (ps_ret pe_bl))), ?_⟩
    refine ⟨_, rfl, a, _, rfl, .inl hS, _, _, rfl, _, _, rfl, _, rfl, ?_, ?_, ?_⟩
    · split <;> split <;> omega
    · split <;> split <;> omega
    refine for_range (lo := 0) (fun i σ H' => ∃ x1, σ = [some (.ref a), x1] ∧ Same H H') ⟨_, rfl, Same.refl _⟩ ?_ ?_
    · rintro i σ H' hi ⟨x1, rfl, sH⟩
      rw [Int.zero_add]
      refine ⟨_, rfl, _, rfl, a, ns, i, rfl, hS.ext sH, fun c H1 s1 => ?_⟩
      refine ⟨c, rfl, fun p o hp ho => ?_⟩
      have sH1 := sH.trans s1
      have hpH : H p = none := sH1.free hp
      have s2 : Same H (upd H1 p o) := Same.new sH1 hp
      refine ⟨p, 0, rfl, ho.at, by omega, fun H2 k2 => ⟨true, rfl, iteF ?_⟩⟩
      exact ⟨_, rfl, k2.toSame s2 hpH⟩
    · rintro σ H' ⟨x1, rfl, sH⟩
      exact q H'
end
end My

set_option Elab.async false
set_option linter.all false
set_option maxRecDepth 100000
set_option maxHeartbeats 8000000
namespace My
open PySem PySem.Spec PyProof.Rows L2
theorem exm_of {K : PySem.W.Frag} {S T : Addr} {b : Bool} (h1 : PySem.W.subIn K (.ref T) (.type "BaseException") = some true) (h2 : PySem.W.isClsIn K T = true) (h3 : PySem.W.typeIn K (.ref T) = some (.type "type")) (h4 : PySem.W.subIn K (.ref S) (.ref T) = some b) :
    PySem.W.exmOne K (.ref S) (.ref T) = some b := by
  have e1 : (PySem.W.subIn K (.ref T) (.type "BaseException") == some true) = true := by rw [h1] <;> rfl
  have e2 : ((PySem.W.clsIn K T).isSome && PySem.W.typeIn K (.ref T) == some (.type "type")) = true := by
    have h2' : (PySem.W.clsIn K T).isSome = true := h2
    rw [h2', h3] <;> rfl
  show (if (PySem.W.subIn K (.ref T) (.type "BaseException") == some true) = true then (if ((PySem.W.clsIn K T).isSome && PySem.W.typeIn K (.ref T) == some (.type "type")) = true then PySem.W.subIn K (.ref S) (.ref T) else none) else none) = some b
  rw [if_pos e1, if_pos e2]
  exact h4
theorem all_mk {P : Program} {w : World} {K : PySem.W.Frag} {h : Heap} {mg : Str → Option Value} {fa : Addr} (X : K.In h) (G : h.Ns mainGlobals mg) (hfa : mg "law" = some (.ref fa))
    {C0 I0 B0 : Addr} {nm0 q0 : Str} {N0 : Addr} {bs0 : List Value} {sn0 : List Str} {sub0 : List Value} {ab0 : Bool} {col0 : Option Bool} {dd0 : Option Addr} {m00 m10 m20 m30 m50 : Option Value}
    {ei0 en0 : Option Addr} {es0 : Array (Option Value)} {eo0 ed0 ep0 ec0 et0 : Value} {p10 p20 q10 q20 q30 q40 : Pos}
    {C1 I1 B1 : Addr} {nm1 q1 : Str} {N1 : Addr} {bs1 : List Value} {sn1 : List Str} {sub1 : List Value} {ab1 : Bool} {col1 : Option Bool} {dd1 : Option Addr} {m01 m11 m21 m31 m51 : Option Value}
    {ei1 en1 : Option Addr} {es1 : Array (Option Value)} {eo1 ed1 ep1 ec1 et1 : Value} {p11 p21 q11 q21 q31 q41 : Pos}
    {C2 I2 B2 : Addr} {nm2 q2 : Str} {N2 : Addr} {bs2 : List Value} {sn2 : List Str} {sub2 : List Value} {ab2 : Bool} {col2 : Option Bool} {dd2 : Option Addr} {m02 m12 m22 m32 m52 : Option Value}
    {ei2 en2 : Option Addr} {es2 : Array (Option Value)} {eo2 ed2 ep2 ec2 et2 : Value} {p12 p22 q12 q22 q32 q42 : Pos}
    {C3 I3 B3 : Addr} {nm3 q3 : Str} {N3 : Addr} {bs3 : List Value} {sn3 : List Str} {sub3 : List Value} {ab3 : Bool} {col3 : Option Bool} {dd3 : Option Addr} {m03 m13 m23 m33 m53 : Option Value}
    {ei3 en3 : Option Addr} {es3 : Array (Option Value)} {eo3 ed3 ep3 ec3 et3 : Value} {p13 p23 q13 q23 q33 q43 : Pos}
    {C4 I4 B4 : Addr} {nm4 q4 : Str} {N4 : Addr} {bs4 : List Value} {sn4 : List Str} {sub4 : List Value} {ab4 : Bool} {col4 : Option Bool} {dd4 : Option Addr} {m04 m14 m24 m34 m54 : Option Value}
    {ei4 en4 : Option Addr} {es4 : Array (Option Value)} {eo4 ed4 ep4 ec4 et4 : Value} {p14 p24 q14 q24 q34 q44 : Pos}
    {OC_Decoder : Addr}
    {f0 : Addr} {od0 an0 : Option Addr} {sl0 : Array (Option Value)} {oc0 kV0 dc0 pm0 cd0 ct0 : Value}
    {f1 : Addr} {od1 an1 : Option Addr} {sl1 : Array (Option Value)} {oc1 kV1 dc1 pm1 cd1 ct1 : Value}
    {f2 : Addr} {od2 an2 : Option Addr} {sl2 : Array (Option Value)} {oc2 kV2 dc2 pm2 cd2 ct2 : Value}
    {f3 : Addr} {od3 an3 : Option Addr} {sl3 : Array (Option Value)} {oc3 kV3 dc3 pm3 cd3 ct3 : Value}
    {f4 : Addr} {od4 an4 : Option Addr} {sl4 : Array (Option Value)} {oc4 kV4 dc4 pm4 cd4 ct4 : Value}
    {f5 : Addr} {od5 an5 : Option Addr} {sl5 : Array (Option Value)} {oc5 kV5 dc5 pm5 cd5 ct5 : Value}
    {f6 : Addr} {od6 an6 : Option Addr} {sl6 : Array (Option Value)} {oc6 kV6 dc6 pm6 cd6 ct6 : Value}
    {f7 : Addr} {od7 an7 : Option Addr} {sl7 : Array (Option Value)} {oc7 kV7 dc7 pm7 cd7 ct7 : Value}
    {f8 : Addr} {od8 an8 : Option Addr} {sl8 : Array (Option Value)} {oc8 kV8 dc8 pm8 cd8 ct8 : Value}
    {f9 : Addr} {od9 an9 : Option Addr} {sl9 : Array (Option Value)} {oc9 kV9 dc9 pm9 cd9 ct9 : Value}
    {f10 : Addr} {od10 an10 : Option Addr} {sl10 : Array (Option Value)} {oc10 kV10 dc10 pm10 cd10 ct10 : Value}
    {f11 : Addr} {od11 an11 : Option Addr} {sl11 : Array (Option Value)} {oc11 kV11 dc11 pm11 cd11 ct11 : Value}
    {f12 : Addr} {od12 an12 : Option Addr} {sl12 : Array (Option Value)} {oc12 kV12 dc12 pm12 cd12 ct12 : Value}
    {f13 : Addr} {od13 an13 : Option Addr} {sl13 : Array (Option Value)} {oc13 kV13 dc13 pm13 cd13 ct13 : Value}
    {f14 : Addr} {od14 an14 : Option Addr} {sl14 : Array (Option Value)} {oc14 kV14 dc14 pm14 cd14 ct14 : Value}
    {f15 : Addr} {od15 an15 : Option Addr} {sl15 : Array (Option Value)} {oc15 kV15 dc15 pm15 cd15 ct15 : Value}
    {f16 : Addr} {od16 an16 : Option Addr} {sl16 : Array (Option Value)} {oc16 kV16 dc16 pm16 cd16 ct16 : Value}
    {f17 : Addr} {od17 an17 : Option Addr} {sl17 : Array (Option Value)} {oc17 kV17 dc17 pm17 cd17 ct17 : Value}
    {f18 : Addr} {od18 an18 : Option Addr} {sl18 : Array (Option Value)} {oc18 kV18 dc18 pm18 cd18 ct18 : Value}
    {f19 : Addr} {od19 an19 : Option Addr} {sl19 : Array (Option Value)} {oc19 kV19 dc19 pm19 cd19 ct19 : Value}
    {f20 : Addr} {od20 an20 : Option Addr} {sl20 : Array (Option Value)} {oc20 kV20 dc20 pm20 cd20 ct20 : Value}
    {f21 : Addr} {od21 an21 : Option Addr} {sl21 : Array (Option Value)} {oc21 kV21 dc21 pm21 cd21 ct21 : Value}
    {f22 : Addr} {od22 an22 : Option Addr} {sl22 : Array (Option Value)} {oc22 kV22 dc22 pm22 cd22 ct22 : Value}
    {f23 : Addr} {od23 an23 : Option Addr} {sl23 : Array (Option Value)} {oc23 kV23 dc23 pm23 cd23 ct23 : Value}
    {f24 : Addr} {od24 an24 : Option Addr} {sl24 : Array (Option Value)} {oc24 kV24 dc24 pm24 cd24 ct24 : Value}
    {f25 : Addr} {od25 an25 : Option Addr} {sl25 : Array (Option Value)} {oc25 kV25 dc25 pm25 cd25 ct25 : Value}
    {f26 : Addr} {od26 an26 : Option Addr} {sl26 : Array (Option Value)} {oc26 kV26 dc26 pm26 cd26 ct26 : Value}
    {f27 : Addr} {od27 an27 : Option Addr} {sl27 : Array (Option Value)} {oc27 kV27 dc27 pm27 cd27 ct27 : Value}
    {f28 : Addr} {od28 an28 : Option Addr} {sl28 : Array (Option Value)} {oc28 kV28 dc28 pm28 cd28 ct28 : Value}
    {f29 : Addr} {od29 an29 : Option Addr} {sl29 : Array (Option Value)} {oc29 kV29 dc29 pm29 cd29 ct29 : Value}
    {f30 : Addr} {od30 an30 : Option Addr} {sl30 : Array (Option Value)} {oc30 kV30 dc30 pm30 cd30 ct30 : Value}
    {f31 : Addr} {od31 an31 : Option Addr} {sl31 : Array (Option Value)} {oc31 kV31 dc31 pm31 cd31 ct31 : Value}
    {f32 : Addr} {od32 an32 : Option Addr} {sl32 : Array (Option Value)} {oc32 kV32 dc32 pm32 cd32 ct32 : Value}
    {t_MOST_SIGNS : Tok}
    {t_MOST_LETTERS : Tok}
    {t_MOST_STATES : Tok}
    {t_LETTERS : Tok}
    (eC0 : PySem.W.nsIn K mainGlobals "InvalidEnds" = some (some (.ref C0)))
    (eL0 : K.lookup C0 = some (excClassObj nm0 q0 C0 N0 bs0 [.ref B0, .type "Exception", .type "BaseException", .type "object"] true sn0 sub0 ab0 col0 dd0 m00 m10 m20 m30 m50 "Exception.__new__"))
    (etk0 : PySem.W.takerIn K C0 "given" = some none)
    (esa0 : PySem.W.findIn K (.ref C0) "__setattr__" = some (some (.builtin "object.__setattr__")))
    (ega0 : PySem.W.findIn K (.ref C0) "__getattribute__" = some (some (.builtin "BaseException.__getattribute__")))
    (egg0 : PySem.W.findIn K (.ref C0) "__getattr__" = some none)
    (eno0 : PySem.W.findIn K (.ref C0) "given" = some none)
    (ein0 : PySem.W.findIn K (.ref C0) "__init__" = some (some (.ref I0)))
    (eti0 : PySem.W.typeIn K (.ref I0) = some (.type "function"))
    (ekC0 : PySem.W.keepIn K (.ref C0) = true)
    (eeC0 : PySem.W.subIn K (.ref C0) (.type "BaseException") = some true)
    (etC0 : PySem.W.typeIn K (.ref C0) = some (.type "type"))
    (ehC0 : PySem.W.hasDictIn K C0 = true)
    (eiC0 : PySem.W.isClsIn K C0 = true)
    (esC0 : PySem.W.subIn K (.ref C0) (.ref C0) = some true)
    (efn0 : K.lookup I0 = some ⟨eo0, ei0, .func (PySem.W.fnOf "__init__" "InvalidEnds.__init__" (ErrX.iA p10 p20) (ErrX.iB q10 q20 q30 q40) ErrX.iS .none .none ed0 ep0 en0 ec0 et0), es0⟩)
    (eco0 : PySem.W.codeIn K ec0 "InvalidEnds.__init__" = true)
    (eC1 : PySem.W.nsIn K mainGlobals "InvalidLine" = some (some (.ref C1)))
    (eL1 : K.lookup C1 = some (excClassObj nm1 q1 C1 N1 bs1 [.ref B1, .type "Exception", .type "BaseException", .type "object"] true sn1 sub1 ab1 col1 dd1 m01 m11 m21 m31 m51 "Exception.__new__"))
    (etk1 : PySem.W.takerIn K C1 "given" = some none)
    (esa1 : PySem.W.findIn K (.ref C1) "__setattr__" = some (some (.builtin "object.__setattr__")))
    (ega1 : PySem.W.findIn K (.ref C1) "__getattribute__" = some (some (.builtin "BaseException.__getattribute__")))
    (egg1 : PySem.W.findIn K (.ref C1) "__getattr__" = some none)
    (eno1 : PySem.W.findIn K (.ref C1) "given" = some none)
    (ein1 : PySem.W.findIn K (.ref C1) "__init__" = some (some (.ref I1)))
    (eti1 : PySem.W.typeIn K (.ref I1) = some (.type "function"))
    (ekC1 : PySem.W.keepIn K (.ref C1) = true)
    (eeC1 : PySem.W.subIn K (.ref C1) (.type "BaseException") = some true)
    (etC1 : PySem.W.typeIn K (.ref C1) = some (.type "type"))
    (ehC1 : PySem.W.hasDictIn K C1 = true)
    (eiC1 : PySem.W.isClsIn K C1 = true)
    (esC1 : PySem.W.subIn K (.ref C1) (.ref C1) = some true)
    (efn1 : K.lookup I1 = some ⟨eo1, ei1, .func (PySem.W.fnOf "__init__" "InvalidLine.__init__" (ErrX.iA p11 p21) (ErrX.iB q11 q21 q31 q41) ErrX.iS .none .none ed1 ep1 en1 ec1 et1), es1⟩)
    (eco1 : PySem.W.codeIn K ec1 "InvalidLine.__init__" = true)
    (eC2 : PySem.W.nsIn K mainGlobals "InvalidSign" = some (some (.ref C2)))
    (eL2 : K.lookup C2 = some (excClassObj nm2 q2 C2 N2 bs2 [.ref B2, .type "Exception", .type "BaseException", .type "object"] true sn2 sub2 ab2 col2 dd2 m02 m12 m22 m32 m52 "Exception.__new__"))
    (etk2 : PySem.W.takerIn K C2 "given" = some none)
    (esa2 : PySem.W.findIn K (.ref C2) "__setattr__" = some (some (.builtin "object.__setattr__")))
    (ega2 : PySem.W.findIn K (.ref C2) "__getattribute__" = some (some (.builtin "BaseException.__getattribute__")))
    (egg2 : PySem.W.findIn K (.ref C2) "__getattr__" = some none)
    (eno2 : PySem.W.findIn K (.ref C2) "given" = some none)
    (ein2 : PySem.W.findIn K (.ref C2) "__init__" = some (some (.ref I2)))
    (eti2 : PySem.W.typeIn K (.ref I2) = some (.type "function"))
    (ekC2 : PySem.W.keepIn K (.ref C2) = true)
    (eeC2 : PySem.W.subIn K (.ref C2) (.type "BaseException") = some true)
    (etC2 : PySem.W.typeIn K (.ref C2) = some (.type "type"))
    (ehC2 : PySem.W.hasDictIn K C2 = true)
    (eiC2 : PySem.W.isClsIn K C2 = true)
    (esC2 : PySem.W.subIn K (.ref C2) (.ref C2) = some true)
    (efn2 : K.lookup I2 = some ⟨eo2, ei2, .func (PySem.W.fnOf "__init__" "InvalidSign.__init__" (ErrX.iA p12 p22) (ErrX.iB q12 q22 q32 q42) ErrX.iS .none .none ed2 ep2 en2 ec2 et2), es2⟩)
    (eco2 : PySem.W.codeIn K ec2 "InvalidSign.__init__" = true)
    (eC3 : PySem.W.nsIn K mainGlobals "InvalidSigns" = some (some (.ref C3)))
    (eL3 : K.lookup C3 = some (excClassObj nm3 q3 C3 N3 bs3 [.ref B3, .type "Exception", .type "BaseException", .type "object"] true sn3 sub3 ab3 col3 dd3 m03 m13 m23 m33 m53 "Exception.__new__"))
    (etk3 : PySem.W.takerIn K C3 "given" = some none)
    (esa3 : PySem.W.findIn K (.ref C3) "__setattr__" = some (some (.builtin "object.__setattr__")))
    (ega3 : PySem.W.findIn K (.ref C3) "__getattribute__" = some (some (.builtin "BaseException.__getattribute__")))
    (egg3 : PySem.W.findIn K (.ref C3) "__getattr__" = some none)
    (eno3 : PySem.W.findIn K (.ref C3) "given" = some none)
    (ein3 : PySem.W.findIn K (.ref C3) "__init__" = some (some (.ref I3)))
    (eti3 : PySem.W.typeIn K (.ref I3) = some (.type "function"))
    (ekC3 : PySem.W.keepIn K (.ref C3) = true)
    (eeC3 : PySem.W.subIn K (.ref C3) (.type "BaseException") = some true)
    (etC3 : PySem.W.typeIn K (.ref C3) = some (.type "type"))
    (ehC3 : PySem.W.hasDictIn K C3 = true)
    (eiC3 : PySem.W.isClsIn K C3 = true)
    (esC3 : PySem.W.subIn K (.ref C3) (.ref C3) = some true)
    (efn3 : K.lookup I3 = some ⟨eo3, ei3, .func (PySem.W.fnOf "__init__" "InvalidSigns.__init__" (ErrX.iA p13 p23) (ErrX.iB q13 q23 q33 q43) ErrX.iS .none .none ed3 ep3 en3 ec3 et3), es3⟩)
    (eco3 : PySem.W.codeIn K ec3 "InvalidSigns.__init__" = true)
    (eC4 : PySem.W.nsIn K mainGlobals "InvalidSteps" = some (some (.ref C4)))
    (eL4 : K.lookup C4 = some (excClassObj nm4 q4 C4 N4 bs4 [.ref B4, .type "Exception", .type "BaseException", .type "object"] true sn4 sub4 ab4 col4 dd4 m04 m14 m24 m34 m54 "Exception.__new__"))
    (etk4 : PySem.W.takerIn K C4 "given" = some none)
    (esa4 : PySem.W.findIn K (.ref C4) "__setattr__" = some (some (.builtin "object.__setattr__")))
    (ega4 : PySem.W.findIn K (.ref C4) "__getattribute__" = some (some (.builtin "BaseException.__getattribute__")))
    (egg4 : PySem.W.findIn K (.ref C4) "__getattr__" = some none)
    (eno4 : PySem.W.findIn K (.ref C4) "given" = some none)
    (ein4 : PySem.W.findIn K (.ref C4) "__init__" = some (some (.ref I4)))
    (eti4 : PySem.W.typeIn K (.ref I4) = some (.type "function"))
    (ekC4 : PySem.W.keepIn K (.ref C4) = true)
    (eeC4 : PySem.W.subIn K (.ref C4) (.type "BaseException") = some true)
    (etC4 : PySem.W.typeIn K (.ref C4) = some (.type "type"))
    (ehC4 : PySem.W.hasDictIn K C4 = true)
    (eiC4 : PySem.W.isClsIn K C4 = true)
    (esC4 : PySem.W.subIn K (.ref C4) (.ref C4) = some true)
    (efn4 : K.lookup I4 = some ⟨eo4, ei4, .func (PySem.W.fnOf "__init__" "InvalidSteps.__init__" (ErrX.iA p14 p24) (ErrX.iB q14 q24 q34 q44) ErrX.iS .none .none ed4 ep4 en4 ec4 et4), es4⟩)
    (eco4 : PySem.W.codeIn K ec4 "InvalidSteps.__init__" = true)
    (en_0_1 : PySem.W.subIn K (.ref C0) (.ref C1) = some false)
    (en_0_2 : PySem.W.subIn K (.ref C0) (.ref C2) = some false)
    (en_0_3 : PySem.W.subIn K (.ref C0) (.ref C3) = some false)
    (en_0_4 : PySem.W.subIn K (.ref C0) (.ref C4) = some false)
    (en_1_0 : PySem.W.subIn K (.ref C1) (.ref C0) = some false)
    (en_1_2 : PySem.W.subIn K (.ref C1) (.ref C2) = some false)
    (en_1_3 : PySem.W.subIn K (.ref C1) (.ref C3) = some false)
    (en_1_4 : PySem.W.subIn K (.ref C1) (.ref C4) = some false)
    (en_2_0 : PySem.W.subIn K (.ref C2) (.ref C0) = some false)
    (en_2_1 : PySem.W.subIn K (.ref C2) (.ref C1) = some false)
    (en_2_3 : PySem.W.subIn K (.ref C2) (.ref C3) = some false)
    (en_2_4 : PySem.W.subIn K (.ref C2) (.ref C4) = some false)
    (en_3_0 : PySem.W.subIn K (.ref C3) (.ref C0) = some false)
    (en_3_1 : PySem.W.subIn K (.ref C3) (.ref C1) = some false)
    (en_3_2 : PySem.W.subIn K (.ref C3) (.ref C2) = some false)
    (en_3_4 : PySem.W.subIn K (.ref C3) (.ref C4) = some false)
    (en_4_0 : PySem.W.subIn K (.ref C4) (.ref C0) = some false)
    (en_4_1 : PySem.W.subIn K (.ref C4) (.ref C1) = some false)
    (en_4_2 : PySem.W.subIn K (.ref C4) (.ref C2) = some false)
    (en_4_3 : PySem.W.subIn K (.ref C4) (.ref C3) = some false)
    (on_Decoder : PySem.W.nsIn K mainGlobals "Decoder" = some (some (.ref OC_Decoder)))
    (opg_Decoder : PySem.W.plainGet K OC_Decoder Str.empty = true)
    (ohd_Decoder : PySem.W.hasDictIn K OC_Decoder = true)
    (opo_Decoder : PySem.W.plainOver K OC_Decoder = true)
    (osa_Decoder : PySem.W.findIn K (.ref OC_Decoder) "__setattr__" = some (some (.builtin "object.__setattr__")))
    (omk_Decoder : PySem.W.makesIn K OC_Decoder = true)
    (okp_Decoder : PySem.W.keepIn K (.ref OC_Decoder) = true)
    (one_Decoder : PySem.W.findIn K (.ref OC_Decoder) "__ne__" = some (some (.builtin "object.__ne__")))
    (omo_Decoder : PySem.W.mroIn K OC_Decoder (.type "object") = some true)
    (oha_Decoder : PySem.W.findIn K (.ref OC_Decoder) "__class__" = some (some (.builtin "object.__class__")))
    (ohn_Decoder : PySem.W.specialIn K (.builtin "object.__class__") "__get__" = some (some (.builtin "getset_descriptor.__get__")))
    (otk_Decoder : PySem.W.takesIn K (.builtin "object.__class__") = some true)
    (oii_Decoder : PySem.W.isClsIn K OC_Decoder = true)
    (oit_Decoder : PySem.W.typeIn K (.ref OC_Decoder) = some (.type "type"))
    (ois_Decoder : PySem.W.subIn K (.ref OC_Decoder) (.ref OC_Decoder) = some true)
    (ona_Decoder_signs : PySem.W.findIn K (.ref OC_Decoder) "signs" = some none)
    (ona_Decoder_states : PySem.W.findIn K (.ref OC_Decoder) "states" = some none)
    (ona_Decoder_steps : PySem.W.findIn K (.ref OC_Decoder) "steps" = some none)
    (ona_Decoder_ends : PySem.W.findIn K (.ref OC_Decoder) "ends" = some none)
    (a0 : PySem.W.nsIn K mainGlobals "is_integer" = some (some (.ref f0)))
    (l0 : K.lookup f0 = some ⟨oc0, od0, .func (PySem.W.fnOf "is_integer" "is_integer" (defArgs s_is_integer) (defBody s_is_integer) (defScope s_is_integer) .none kV0 dc0 pm0 an0 cd0 ct0), sl0⟩)
    (c0 : PySem.W.codeIn K cd0 "is_integer" = true)
    (k0 : PySem.W.keepIn K (.ref f0) = true)
    (a1 : PySem.W.nsIn K mainGlobals "is_count" = some (some (.ref f1)))
    (l1 : K.lookup f1 = some ⟨oc1, od1, .func (PySem.W.fnOf "is_count" "is_count" (defArgs s_is_count) (defBody s_is_count) (defScope s_is_count) .none kV1 dc1 pm1 an1 cd1 ct1), sl1⟩)
    (c1 : PySem.W.codeIn K cd1 "is_count" = true)
    (k1 : PySem.W.keepIn K (.ref f1) = true)
    (a2 : PySem.W.nsIn K mainGlobals "is_list" = some (some (.ref f2)))
    (l2 : K.lookup f2 = some ⟨oc2, od2, .func (PySem.W.fnOf "is_list" "is_list" (defArgs s_is_list) (defBody s_is_list) (defScope s_is_list) .none kV2 dc2 pm2 an2 cd2 ct2), sl2⟩)
    (c2 : PySem.W.codeIn K cd2 "is_list" = true)
    (k2 : PySem.W.keepIn K (.ref f2) = true)
    (a3 : PySem.W.nsIn K mainGlobals "is_text" = some (some (.ref f3)))
    (l3 : K.lookup f3 = some ⟨oc3, od3, .func (PySem.W.fnOf "is_text" "is_text" (defArgs s_is_text) (defBody s_is_text) (defScope s_is_text) .none kV3 dc3 pm3 an3 cd3 ct3), sl3⟩)
    (c3 : PySem.W.codeIn K cd3 "is_text" = true)
    (k3 : PySem.W.keepIn K (.ref f3) = true)
    (a4 : PySem.W.nsIn K mainGlobals "is_word" = some (some (.ref f4)))
    (l4 : K.lookup f4 = some ⟨oc4, od4, .func (PySem.W.fnOf "is_word" "is_word" (defArgs s_is_word) (defBody s_is_word) (defScope s_is_word) .none kV4 dc4 pm4 an4 cd4 ct4), sl4⟩)
    (c4 : PySem.W.codeIn K cd4 "is_word" = true)
    (k4 : PySem.W.keepIn K (.ref f4) = true)
    (a5 : PySem.W.nsIn K mainGlobals "is_number_of_signs" = some (some (.ref f5)))
    (l5 : K.lookup f5 = some ⟨oc5, od5, .func (PySem.W.fnOf "is_number_of_signs" "is_number_of_signs" (defArgs s_is_number_of_signs) (defBody s_is_number_of_signs) (defScope s_is_number_of_signs) .none kV5 dc5 pm5 an5 cd5 ct5), sl5⟩)
    (c5 : PySem.W.codeIn K cd5 "is_number_of_signs" = true)
    (k5 : PySem.W.keepIn K (.ref f5) = true)
    (a6 : PySem.W.nsIn K mainGlobals "is_below" = some (some (.ref f6)))
    (l6 : K.lookup f6 = some ⟨oc6, od6, .func (PySem.W.fnOf "is_below" "is_below" (defArgs s_is_below) (defBody s_is_below) (defScope s_is_below) .none kV6 dc6 pm6 an6 cd6 ct6), sl6⟩)
    (c6 : PySem.W.codeIn K cd6 "is_below" = true)
    (k6 : PySem.W.keepIn K (.ref f6) = true)
    (a7 : PySem.W.nsIn K mainGlobals "is_line" = some (some (.ref f7)))
    (l7 : K.lookup f7 = some ⟨oc7, od7, .func (PySem.W.fnOf "is_line" "is_line" (defArgs s_is_line) (defBody s_is_line) (defScope s_is_line) .none kV7 dc7 pm7 an7 cd7 ct7), sl7⟩)
    (c7 : PySem.W.codeIn K cd7 "is_line" = true)
    (k7 : PySem.W.keepIn K (.ref f7) = true)
    (a8 : PySem.W.nsIn K mainGlobals "are_steps" = some (some (.ref f8)))
    (l8 : K.lookup f8 = some ⟨oc8, od8, .func (PySem.W.fnOf "are_steps" "are_steps" (defArgs s_are_steps) (defBody s_are_steps) (defScope s_are_steps) .none kV8 dc8 pm8 an8 cd8 ct8), sl8⟩)
    (c8 : PySem.W.codeIn K cd8 "are_steps" = true)
    (k8 : PySem.W.keepIn K (.ref f8) = true)
    (a9 : PySem.W.nsIn K mainGlobals "are_entries" = some (some (.ref f9)))
    (l9 : K.lookup f9 = some ⟨oc9, od9, .func (PySem.W.fnOf "are_entries" "are_entries" (defArgs s_are_entries) (defBody s_are_entries) (defScope s_are_entries) .none kV9 dc9 pm9 an9 cd9 ct9), sl9⟩)
    (c9 : PySem.W.codeIn K cd9 "are_entries" = true)
    (k9 : PySem.W.keepIn K (.ref f9) = true)
    (a10 : PySem.W.nsIn K mainGlobals "is_step" = some (some (.ref f10)))
    (l10 : K.lookup f10 = some ⟨oc10, od10, .func (PySem.W.fnOf "is_step" "is_step" (defArgs s_is_step) (defBody s_is_step) (defScope s_is_step) .none kV10 dc10 pm10 an10 cd10 ct10), sl10⟩)
    (c10 : PySem.W.codeIn K cd10 "is_step" = true)
    (k10 : PySem.W.keepIn K (.ref f10) = true)
    (a11 : PySem.W.nsIn K mainGlobals "are_ends" = some (some (.ref f11)))
    (l11 : K.lookup f11 = some ⟨oc11, od11, .func (PySem.W.fnOf "are_ends" "are_ends" (defArgs s_are_ends) (defBody s_are_ends) (defScope s_are_ends) .none kV11 dc11 pm11 an11 cd11 ct11), sl11⟩)
    (c11 : PySem.W.codeIn K cd11 "are_ends" = true)
    (k11 : PySem.W.keepIn K (.ref f11) = true)
    (a12 : PySem.W.nsIn K mainGlobals "check_signs" = some (some (.ref f12)))
    (l12 : K.lookup f12 = some ⟨oc12, od12, .func (PySem.W.fnOf "check_signs" "check_signs" (defArgs s_check_signs) (defBody s_check_signs) (defScope s_check_signs) .none kV12 dc12 pm12 an12 cd12 ct12), sl12⟩)
    (c12 : PySem.W.codeIn K cd12 "check_signs" = true)
    (k12 : PySem.W.keepIn K (.ref f12) = true)
    (a13 : PySem.W.nsIn K mainGlobals "copier" = some (some (.ref f13)))
    (l13 : K.lookup f13 = some ⟨oc13, od13, .func (PySem.W.fnOf "copier" "copier" (defArgs s_copier) (defBody s_copier) (defScope s_copier) .none kV13 dc13 pm13 an13 cd13 ct13), sl13⟩)
    (c13 : PySem.W.codeIn K cd13 "copier" = true)
    (k13 : PySem.W.keepIn K (.ref f13) = true)
    (a14 : PySem.W.nsIn K mainGlobals "escaped" = some (some (.ref f14)))
    (l14 : K.lookup f14 = some ⟨oc14, od14, .func (PySem.W.fnOf "escaped" "escaped" (defArgs s_escaped) (defBody s_escaped) (defScope s_escaped) .none kV14 dc14 pm14 an14 cd14 ct14), sl14⟩)
    (c14 : PySem.W.codeIn K cd14 "escaped" = true)
    (k14 : PySem.W.keepIn K (.ref f14) = true)
    (a15 : PySem.W.nsIn K mainGlobals "shifted" = some (some (.ref f15)))
    (l15 : K.lookup f15 = some ⟨oc15, od15, .func (PySem.W.fnOf "shifted" "shifted" (defArgs s_shifted) (defBody s_shifted) (defScope s_shifted) .none kV15 dc15 pm15 an15 cd15 ct15), sl15⟩)
    (c15 : PySem.W.codeIn K cd15 "shifted" = true)
    (k15 : PySem.W.keepIn K (.ref f15) = true)
    (a16 : PySem.W.nsIn K mainGlobals "run_lengths" = some (some (.ref f16)))
    (l16 : K.lookup f16 = some ⟨oc16, od16, .func (PySem.W.fnOf "run_lengths" "run_lengths" (defArgs s_run_lengths) (defBody s_run_lengths) (defScope s_run_lengths) .none kV16 dc16 pm16 an16 cd16 ct16), sl16⟩)
    (c16 : PySem.W.codeIn K cd16 "run_lengths" = true)
    (k16 : PySem.W.keepIn K (.ref f16) = true)
    (a17 : PySem.W.nsIn K mainGlobals "_law_cell" = some (some (.ref f17)))
    (l17 : K.lookup f17 = some ⟨oc17, od17, .func (PySem.W.fnOf "_law_cell" "_law_cell" (defArgs s_law_cell) (defBody s_law_cell) (defScope s_law_cell) .none kV17 dc17 pm17 an17 cd17 ct17), sl17⟩)
    (c17 : PySem.W.codeIn K cd17 "_law_cell" = true)
    (k17 : PySem.W.keepIn K (.ref f17) = true)
    (a18 : PySem.W.nsIn K mainGlobals "_law_box" = some (some (.ref f18)))
    (l18 : K.lookup f18 = some ⟨oc18, od18, .func (PySem.W.fnOf "_law_box" "_law_box" (defArgs s_law_box) (defBody s_law_box) (defScope s_law_box) .none kV18 dc18 pm18 an18 cd18 ct18), sl18⟩)
    (c18 : PySem.W.codeIn K cd18 "_law_box" = true)
    (k18 : PySem.W.keepIn K (.ref f18) = true)
    (a19 : PySem.W.nsIn K mainGlobals "_law_take" = some (some (.ref f19)))
    (l19 : K.lookup f19 = some ⟨oc19, od19, .func (PySem.W.fnOf "_law_take" "_law_take" (defArgs s_law_take) (defBody s_law_take) (defScope s_law_take) .none kV19 dc19 pm19 an19 cd19 ct19), sl19⟩)
    (c19 : PySem.W.codeIn K cd19 "_law_take" = true)
    (k19 : PySem.W.keepIn K (.ref f19) = true)
    (a20 : PySem.W.nsIn K mainGlobals "_law_whole" = some (some (.ref f20)))
    (l20 : K.lookup f20 = some ⟨oc20, od20, .func (PySem.W.fnOf "_law_whole" "_law_whole" (defArgs s_law_whole) (defBody s_law_whole) (defScope s_law_whole) .none kV20 dc20 pm20 an20 cd20 ct20), sl20⟩)
    (c20 : PySem.W.codeIn K cd20 "_law_whole" = true)
    (k20 : PySem.W.keepIn K (.ref f20) = true)
    (a21 : PySem.W.nsIn K mainGlobals "_law_odd" = some (some (.ref f21)))
    (l21 : K.lookup f21 = some ⟨oc21, od21, .func (PySem.W.fnOf "_law_odd" "_law_odd" (defArgs s_law_odd) (defBody s_law_odd) (defScope s_law_odd) .none kV21 dc21 pm21 an21 cd21 ct21), sl21⟩)
    (c21 : PySem.W.codeIn K cd21 "_law_odd" = true)
    (k21 : PySem.W.keepIn K (.ref f21) = true)
    (a22 : PySem.W.nsIn K mainGlobals "_law_copy" = some (some (.ref f22)))
    (l22 : K.lookup f22 = some ⟨oc22, od22, .func (PySem.W.fnOf "_law_copy" "_law_copy" (defArgs s_law_copy) (defBody s_law_copy) (defScope s_law_copy) .none kV22 dc22 pm22 an22 cd22 ct22), sl22⟩)
    (c22 : PySem.W.codeIn K cd22 "_law_copy" = true)
    (k22 : PySem.W.keepIn K (.ref f22) = true)
    (a23 : PySem.W.nsIn K mainGlobals "_law_made" = some (some (.ref f23)))
    (l23 : K.lookup f23 = some ⟨oc23, od23, .func (PySem.W.fnOf "_law_made" "_law_made" (defArgs s_law_made) (defBody s_law_made) (defScope s_law_made) .none kV23 dc23 pm23 an23 cd23 ct23), sl23⟩)
    (c23 : PySem.W.codeIn K cd23 "_law_made" = true)
    (k23 : PySem.W.keepIn K (.ref f23) = true)
    (a24 : PySem.W.nsIn K mainGlobals "_law_told" = some (some (.ref f24)))
    (l24 : K.lookup f24 = some ⟨oc24, od24, .func (PySem.W.fnOf "_law_told" "_law_told" (defArgs s_law_told) (defBody s_law_told) (defScope s_law_told) .none kV24 dc24 pm24 an24 cd24 ct24), sl24⟩)
    (c24 : PySem.W.codeIn K cd24 "_law_told" = true)
    (k24 : PySem.W.keepIn K (.ref f24) = true)
    (a25 : PySem.W.nsIn K mainGlobals "_law_parts" = some (some (.ref f25)))
    (l25 : K.lookup f25 = some ⟨oc25, od25, .func (PySem.W.fnOf "_law_parts" "_law_parts" (defArgs s_law_parts) (defBody s_law_parts) (defScope s_law_parts) .none kV25 dc25 pm25 an25 cd25 ct25), sl25⟩)
    (c25 : PySem.W.codeIn K cd25 "_law_parts" = true)
    (k25 : PySem.W.keepIn K (.ref f25) = true)
    (a26 : PySem.W.nsIn K mainGlobals "_law_read" = some (some (.ref f26)))
    (l26 : K.lookup f26 = some ⟨oc26, od26, .func (PySem.W.fnOf "_law_read" "_law_read" (defArgs s_law_read) (defBody s_law_read) (defScope s_law_read) .none kV26 dc26 pm26 an26 cd26 ct26), sl26⟩)
    (c26 : PySem.W.codeIn K cd26 "_law_read" = true)
    (k26 : PySem.W.keepIn K (.ref f26) = true)
    (a27 : PySem.W.nsIn K mainGlobals "_law_made_right" = some (some (.ref f27)))
    (l27 : K.lookup f27 = some ⟨oc27, od27, .func (PySem.W.fnOf "_law_made_right" "_law_made_right" (defArgs s_law_made_right) (defBody s_law_made_right) (defScope s_law_made_right) .none kV27 dc27 pm27 an27 cd27 ct27), sl27⟩)
    (c27 : PySem.W.codeIn K cd27 "_law_made_right" = true)
    (k27 : PySem.W.keepIn K (.ref f27) = true)
    (a28 : PySem.W.nsIn K mainGlobals "_law_one_right" = some (some (.ref f28)))
    (l28 : K.lookup f28 = some ⟨oc28, od28, .func (PySem.W.fnOf "_law_one_right" "_law_one_right" (defArgs s_law_one_right) (defBody s_law_one_right) (defScope s_law_one_right) .none kV28 dc28 pm28 an28 cd28 ct28), sl28⟩)
    (c28 : PySem.W.codeIn K cd28 "_law_one_right" = true)
    (k28 : PySem.W.keepIn K (.ref f28) = true)
    (a29 : PySem.W.nsIn K mainGlobals "law" = some (some (.ref f29)))
    (l29 : K.lookup f29 = some ⟨oc29, od29, .func (PySem.W.fnOf "law" "law" (defArgs s_law) (defBody s_law) (defScope s_law) .none kV29 dc29 pm29 an29 cd29 ct29), sl29⟩)
    (c29 : PySem.W.codeIn K cd29 "law" = true)
    (k29 : PySem.W.keepIn K (.ref f29) = true)
    (a30 : PySem.W.findIn K (.ref OC_Decoder) "__init__" = some (some (.ref f30)))
    (i30 : PySem.W.isFn K (.ref f30) = true)
    (l30 : K.lookup f30 = some ⟨oc30, od30, .func (PySem.W.fnOf "__init__" "Decoder.__init__" (defArgs s_Decoder_init) (defBody s_Decoder_init) (defScope s_Decoder_init) .none kV30 dc30 pm30 an30 cd30 ct30), sl30⟩)
    (c30 : PySem.W.codeIn K cd30 "Decoder.__init__" = true)
    (k30 : PySem.W.keepIn K (.ref f30) = true)
    (a31 : PySem.W.findIn K (.ref OC_Decoder) "__eq__" = some (some (.ref f31)))
    (i31 : PySem.W.isFn K (.ref f31) = true)
    (l31 : K.lookup f31 = some ⟨oc31, od31, .func (PySem.W.fnOf "__eq__" "Decoder.__eq__" (defArgs s_Decoder_eq) (defBody s_Decoder_eq) (defScope s_Decoder_eq) .none kV31 dc31 pm31 an31 cd31 ct31), sl31⟩)
    (c31 : PySem.W.codeIn K cd31 "Decoder.__eq__" = true)
    (k31 : PySem.W.keepIn K (.ref f31) = true)
    (a32 : PySem.W.findIn K (.ref OC_Decoder) "written" = some (some (.ref f32)))
    (i32 : PySem.W.isFn K (.ref f32) = true)
    (l32 : K.lookup f32 = some ⟨oc32, od32, .func (PySem.W.fnOf "written" "Decoder.written" (defArgs s_Decoder_written) (defBody s_Decoder_written) (defScope s_Decoder_written) .none kV32 dc32 pm32 an32 cd32 ct32), sl32⟩)
    (c32 : PySem.W.codeIn K cd32 "Decoder.written" = true)
    (k32 : PySem.W.keepIn K (.ref f32) = true)
    (z_abs : PySem.W.nsIn K mainGlobals "abs" = some none)
    (z_all : PySem.W.nsIn K mainGlobals "all" = some none)
    (z_bool : PySem.W.nsIn K mainGlobals "bool" = some none)
    (z_dict : PySem.W.nsIn K mainGlobals "dict" = some none)
    (z_int : PySem.W.nsIn K mainGlobals "int" = some none)
    (z_isinstance : PySem.W.nsIn K mainGlobals "isinstance" = some none)
    (z_len : PySem.W.nsIn K mainGlobals "len" = some none)
    (z_list : PySem.W.nsIn K mainGlobals "list" = some none)
    (z_max : PySem.W.nsIn K mainGlobals "max" = some none)
    (z_min : PySem.W.nsIn K mainGlobals "min" = some none)
    (z_range : PySem.W.nsIn K mainGlobals "range" = some none)
    (z_repr : PySem.W.nsIn K mainGlobals "repr" = some none)
    (z_str : PySem.W.nsIn K mainGlobals "str" = some none)
    (z_sum : PySem.W.nsIn K mainGlobals "sum" = some none)
    (z_tuple : PySem.W.nsIn K mainGlobals "tuple" = some none)
    (n_MOST_SIGNS : PySem.W.nsIn K mainGlobals "MOST_SIGNS" = some (some (.int (5) t_MOST_SIGNS)))
    (n_MOST_LETTERS : PySem.W.nsIn K mainGlobals "MOST_LETTERS" = some (some (.int (3) t_MOST_LETTERS)))
    (n_MOST_STATES : PySem.W.nsIn K mainGlobals "MOST_STATES" = some (some (.int (40) t_MOST_STATES)))
    (n_LETTERS : PySem.W.nsIn K mainGlobals "LETTERS" = some (some (.str (Str.ofString "abcde") t_LETTERS))) :
    ∃ fd : FuncData, (∀ (s : Shared) (v : Value), BindsTo s fd ⟨[v], []⟩ [("script", v)]) ∧ ∀ base : Heap, K.In base → base.Ns mainGlobals mg → FnG P w K mg base CX0 13 fa fd ["script"] (spLaw K) := by
  have e := hfa.symm.trans (PySem.W.mg_of X G a29)
  cases e
  have F0 := fun_mk (st := s_is_integer) l0 c0 k0
  have b0 := F0.binds (ps := ["value"]) fun _ _ _ _ _ _ us hl => match us, hl with | [_], _ => rfl
  have F1 := fun_mk (st := s_is_count) l1 c1 k1
  have b1 := F1.binds (ps := ["value"]) fun _ _ _ _ _ _ us hl => match us, hl with | [_], _ => rfl
  have F2 := fun_mk (st := s_is_list) l2 c2 k2
  have b2 := F2.binds (ps := ["value"]) fun _ _ _ _ _ _ us hl => match us, hl with | [_], _ => rfl
  have F3 := fun_mk (st := s_is_text) l3 c3 k3
  have b3 := F3.binds (ps := ["value"]) fun _ _ _ _ _ _ us hl => match us, hl with | [_], _ => rfl
  have F4 := fun_mk (st := s_is_word) l4 c4 k4
  have b4 := F4.binds (ps := ["value"]) fun _ _ _ _ _ _ us hl => match us, hl with | [_], _ => rfl
  have F5 := fun_mk (st := s_is_number_of_signs) l5 c5 k5
  have b5 := F5.binds (ps := ["value"]) fun _ _ _ _ _ _ us hl => match us, hl with | [_], _ => rfl
  have F6 := fun_mk (st := s_is_below) l6 c6 k6
  have b6 := F6.binds (ps := ["value", "limit"]) fun _ _ _ _ _ _ us hl => match us, hl with | [_, _], _ => rfl
  have F7 := fun_mk (st := s_is_line) l7 c7 k7
  have b7 := F7.binds (ps := ["value", "signs"]) fun _ _ _ _ _ _ us hl => match us, hl with | [_, _], _ => rfl
  have F8 := fun_mk (st := s_are_steps) l8 c8 k8
  have b8 := F8.binds (ps := ["value", "signs"]) fun _ _ _ _ _ _ us hl => match us, hl with | [_, _], _ => rfl
  have F9 := fun_mk (st := s_are_entries) l9 c9 k9
  have b9 := F9.binds (ps := ["value", "signs", "states"]) fun _ _ _ _ _ _ us hl => match us, hl with | [_, _, _], _ => rfl
  have F10 := fun_mk (st := s_is_step) l10 c10 k10
  have b10 := F10.binds (ps := ["value", "states"]) fun _ _ _ _ _ _ us hl => match us, hl with | [_, _], _ => rfl
  have F11 := fun_mk (st := s_are_ends) l11 c11 k11
  have b11 := F11.binds (ps := ["value", "states"]) fun _ _ _ _ _ _ us hl => match us, hl with | [_, _], _ => rfl
  have F12 := fun_mk (st := s_check_signs) l12 c12 k12
  have b12 := F12.binds (ps := ["value"]) fun _ _ _ _ _ _ us hl => match us, hl with | [_], _ => rfl
  have F13 := fun_mk (st := s_copier) l13 c13 k13
  have b13 := F13.binds (ps := ["signs"]) fun _ _ _ _ _ _ us hl => match us, hl with | [_], _ => rfl
  have F14 := fun_mk (st := s_escaped) l14 c14 k14
  have b14 := F14.binds (ps := ["signs", "mark"]) fun _ _ _ _ _ _ us hl => match us, hl with | [_, _], _ => rfl
  have F15 := fun_mk (st := s_shifted) l15 c15 k15
  have b15 := F15.binds (ps := ["signs"]) fun _ _ _ _ _ _ us hl => match us, hl with | [_], _ => rfl
  have F16 := fun_mk (st := s_run_lengths) l16 c16 k16
  have b16 := F16.binds (ps := ["signs"]) fun _ _ _ _ _ _ us hl => match us, hl with | [_], _ => rfl
  have F17 := fun_mk (st := s_law_cell) l17 c17 k17
  have b17 := F17.binds (ps := ["script", "k"]) fun _ _ _ _ _ _ us hl => match us, hl with | [_, _], _ => rfl
  have F18 := fun_mk (st := s_law_box) l18 c18 k18
  have b18 := F18.binds (ps := ["great"]) fun _ _ _ _ _ _ us hl => match us, hl with | [_], _ => rfl
  have F19 := fun_mk (st := s_law_take) l19 c19 k19
  have b19 := F19.binds (ps := ["box", "many"]) fun _ _ _ _ _ _ us hl => match us, hl with | [_, _], _ => rfl
  have F20 := fun_mk (st := s_law_whole) l20 c20 k20
  have b20 := F20.binds (ps := ["thing", "least", "most"]) fun _ _ _ _ _ _ us hl => match us, hl with | [_, _, _], _ => rfl
  have F21 := fun_mk (st := s_law_odd) l21 c21 k21
  have b21 := F21.binds (ps := ["box", "most"]) fun _ _ _ _ _ _ us hl => match us, hl with | [_, _], _ => rfl
  have F22 := fun_mk (st := s_law_copy) l22 c22 k22
  have b22 := F22.binds (ps := ["thing"]) fun _ _ _ _ _ _ us hl => match us, hl with | [_], _ => rfl
  have F23 := fun_mk (st := s_law_made) l23 c23 k23
  have b23 := F23.binds (ps := ["way", "named", "many", "special"]) fun _ _ _ _ _ _ us hl => match us, hl with | [_, _, _, _], _ => rfl
  have F24 := fun_mk (st := s_law_told) l24 c24 k24
  have b24 := F24.binds (ps := ["way", "named", "many", "special"]) fun _ _ _ _ _ _ us hl => match us, hl with | [_, _, _, _], _ => rfl
  have F25 := fun_mk (st := s_law_parts) l25 c25 k25
  have b25 := F25.binds (ps := ["way", "many", "special"]) fun _ _ _ _ _ _ us hl => match us, hl with | [_, _, _], _ => rfl
  have F26 := fun_mk (st := s_law_read) l26 c26 k26
  have b26 := F26.binds (ps := ["way", "many", "special", "line"]) fun _ _ _ _ _ _ us hl => match us, hl with | [_, _, _, _], _ => rfl
  have F27 := fun_mk (st := s_law_made_right) l27 c27 k27
  have b27 := F27.binds (ps := ["box", "way", "many", "special", "made"]) fun _ _ _ _ _ _ us hl => match us, hl with | [_, _, _, _, _], _ => rfl
  have F28 := fun_mk (st := s_law_one_right) l28 c28 k28
  have b28 := F28.binds (ps := ["box"]) fun _ _ _ _ _ _ us hl => match us, hl with | [_], _ => rfl
  have F29 := fun_mk (st := s_law) l29 c29 k29
  have b29 := F29.binds (ps := ["script"]) fun _ _ _ _ _ _ us hl => match us, hl with | [_], _ => rfl
  have F30 := fun_mk (st := s_Decoder_init) l30 c30 k30
  have b30 := F30.binds (ps := ["self", "signs", "steps", "ends"]) fun _ _ _ _ _ _ us hl => match us, hl with | [_, _, _, _], _ => rfl
  have F31 := fun_mk (st := s_Decoder_eq) l31 c31 k31
  have b31 := F31.binds (ps := ["self", "other"]) fun _ _ _ _ _ _ us hl => match us, hl with | [_, _], _ => rfl
  have F32 := fun_mk (st := s_Decoder_written) l32 c32 k32
  have b32 := F32.binds (ps := ["self", "line"]) fun _ _ _ _ _ _ us hl => match us, hl with | [_, _], _ => rfl
  have ov0 : PySem.W.excOver K C0 ErrX.tailE = true := by
    unfold PySem.W.excOver PySem.W.clsIn
    rw [eL0]
    show (C0 == C0 && true) = true
    rw [beq_self_eq_true]; rfl
  have E0 : ErrX.ETxt K mg "InvalidEnds" "InvalidEnds.__init__" C0 I0 := { gC := PySem.W.mg_of X G eC0, cls := ⟨nm0, q0, N0, bs0, _, sn0, sub0, ab0, col0, dd0, m00, m10, m20, m30, m50, eL0, rfl⟩, ov := ov0, tk := etk0, sa := esa0, ga := ega0, gg := egg0, noN := eno0, iC := ein0, tC := eti0, kC := ekC0, exC := eeC0, tyC := etC0, hdC := ehC0, fn := ⟨_, _, _, _, _, _, _, _, _, _, _, _, _, _, efn0, eco0⟩ }
  have ov1 : PySem.W.excOver K C1 ErrX.tailE = true := by
    unfold PySem.W.excOver PySem.W.clsIn
    rw [eL1]
    show (C1 == C1 && true) = true
    rw [beq_self_eq_true]; rfl
  have E1 : ErrX.ETxt K mg "InvalidLine" "InvalidLine.__init__" C1 I1 := { gC := PySem.W.mg_of X G eC1, cls := ⟨nm1, q1, N1, bs1, _, sn1, sub1, ab1, col1, dd1, m01, m11, m21, m31, m51, eL1, rfl⟩, ov := ov1, tk := etk1, sa := esa1, ga := ega1, gg := egg1, noN := eno1, iC := ein1, tC := eti1, kC := ekC1, exC := eeC1, tyC := etC1, hdC := ehC1, fn := ⟨_, _, _, _, _, _, _, _, _, _, _, _, _, _, efn1, eco1⟩ }
  have ov2 : PySem.W.excOver K C2 ErrX.tailE = true := by
    unfold PySem.W.excOver PySem.W.clsIn
    rw [eL2]
    show (C2 == C2 && true) = true
    rw [beq_self_eq_true]; rfl
  have E2 : ErrX.ETxt K mg "InvalidSign" "InvalidSign.__init__" C2 I2 := { gC := PySem.W.mg_of X G eC2, cls := ⟨nm2, q2, N2, bs2, _, sn2, sub2, ab2, col2, dd2, m02, m12, m22, m32, m52, eL2, rfl⟩, ov := ov2, tk := etk2, sa := esa2, ga := ega2, gg := egg2, noN := eno2, iC := ein2, tC := eti2, kC := ekC2, exC := eeC2, tyC := etC2, hdC := ehC2, fn := ⟨_, _, _, _, _, _, _, _, _, _, _, _, _, _, efn2, eco2⟩ }
  have ov3 : PySem.W.excOver K C3 ErrX.tailE = true := by
    unfold PySem.W.excOver PySem.W.clsIn
    rw [eL3]
    show (C3 == C3 && true) = true
    rw [beq_self_eq_true]; rfl
  have E3 : ErrX.ETxt K mg "InvalidSigns" "InvalidSigns.__init__" C3 I3 := { gC := PySem.W.mg_of X G eC3, cls := ⟨nm3, q3, N3, bs3, _, sn3, sub3, ab3, col3, dd3, m03, m13, m23, m33, m53, eL3, rfl⟩, ov := ov3, tk := etk3, sa := esa3, ga := ega3, gg := egg3, noN := eno3, iC := ein3, tC := eti3, kC := ekC3, exC := eeC3, tyC := etC3, hdC := ehC3, fn := ⟨_, _, _, _, _, _, _, _, _, _, _, _, _, _, efn3, eco3⟩ }
  have ov4 : PySem.W.excOver K C4 ErrX.tailE = true := by
    unfold PySem.W.excOver PySem.W.clsIn
    rw [eL4]
    show (C4 == C4 && true) = true
    rw [beq_self_eq_true]; rfl
  have E4 : ErrX.ETxt K mg "InvalidSteps" "InvalidSteps.__init__" C4 I4 := { gC := PySem.W.mg_of X G eC4, cls := ⟨nm4, q4, N4, bs4, _, sn4, sub4, ab4, col4, dd4, m04, m14, m24, m34, m54, eL4, rfl⟩, ov := ov4, tk := etk4, sa := esa4, ga := ega4, gg := egg4, noN := eno4, iC := ein4, tC := eti4, kC := ekC4, exC := eeC4, tyC := etC4, hdC := ehC4, fn := ⟨_, _, _, _, _, _, _, _, _, _, _, _, _, _, efn4, eco4⟩ }
  exact ⟨PySem.W.fnOf "law" "law" (defArgs s_law) (defBody s_law) (defScope s_law) .none kV29 dc29 pm29 an29 cd29 ct29, fun s v => .of_eq rfl, fun base _ _ => ok_law ({ f_is_integer := f0, fd_is_integer := _, F_is_integer := F0, b_is_integer := b0, g_is_integer := PySem.W.mg_of X G a0, f_is_count := f1, fd_is_count := _, F_is_count := F1, b_is_count := b1, g_is_count := PySem.W.mg_of X G a1, f_is_list := f2, fd_is_list := _, F_is_list := F2, b_is_list := b2, g_is_list := PySem.W.mg_of X G a2, f_is_text := f3, fd_is_text := _, F_is_text := F3, b_is_text := b3, g_is_text := PySem.W.mg_of X G a3, f_is_word := f4, fd_is_word := _, F_is_word := F4, b_is_word := b4, g_is_word := PySem.W.mg_of X G a4, f_is_number_of_signs := f5, fd_is_number_of_signs := _, F_is_number_of_signs := F5, b_is_number_of_signs := b5, g_is_number_of_signs := PySem.W.mg_of X G a5, f_is_below := f6, fd_is_below := _, F_is_below := F6, b_is_below := b6, g_is_below := PySem.W.mg_of X G a6, f_is_line := f7, fd_is_line := _, F_is_line := F7, b_is_line := b7, g_is_line := PySem.W.mg_of X G a7, f_are_steps := f8, fd_are_steps := _, F_are_steps := F8, b_are_steps := b8, g_are_steps := PySem.W.mg_of X G a8, f_are_entries := f9, fd_are_entries := _, F_are_entries := F9, b_are_entries := b9, g_are_entries := PySem.W.mg_of X G a9, f_is_step := f10, fd_is_step := _, F_is_step := F10, b_is_step := b10, g_is_step := PySem.W.mg_of X G a10, f_are_ends := f11, fd_are_ends := _, F_are_ends := F11, b_are_ends := b11, g_are_ends := PySem.W.mg_of X G a11, f_check_signs := f12, fd_check_signs := _, F_check_signs := F12, b_check_signs := b12, g_check_signs := PySem.W.mg_of X G a12, f_copier := f13, fd_copier := _, F_copier := F13, b_copier := b13, g_copier := PySem.W.mg_of X G a13, f_escaped := f14, fd_escaped := _, F_escaped := F14, b_escaped := b14, g_escaped := PySem.W.mg_of X G a14, f_shifted := f15, fd_shifted := _, F_shifted := F15, b_shifted := b15, g_shifted := PySem.W.mg_of X G a15, f_run_lengths := f16, fd_run_lengths := _, F_run_lengths := F16, b_run_lengths := b16, g_run_lengths := PySem.W.mg_of X G a16, f_law_cell := f17, fd_law_cell := _, F_law_cell := F17, b_law_cell := b17, g_law_cell := PySem.W.mg_of X G a17, f_law_box := f18, fd_law_box := _, F_law_box := F18, b_law_box := b18, g_law_box := PySem.W.mg_of X G a18, f_law_take := f19, fd_law_take := _, F_law_take := F19, b_law_take := b19, g_law_take := PySem.W.mg_of X G a19, f_law_whole := f20, fd_law_whole := _, F_law_whole := F20, b_law_whole := b20, g_law_whole := PySem.W.mg_of X G a20, f_law_odd := f21, fd_law_odd := _, F_law_odd := F21, b_law_odd := b21, g_law_odd := PySem.W.mg_of X G a21, f_law_copy := f22, fd_law_copy := _, F_law_copy := F22, b_law_copy := b22, g_law_copy := PySem.W.mg_of X G a22, f_law_made := f23, fd_law_made := _, F_law_made := F23, b_law_made := b23, g_law_made := PySem.W.mg_of X G a23, f_law_told := f24, fd_law_told := _, F_law_told := F24, b_law_told := b24, g_law_told := PySem.W.mg_of X G a24, f_law_parts := f25, fd_law_parts := _, F_law_parts := F25, b_law_parts := b25, g_law_parts := PySem.W.mg_of X G a25, f_law_read := f26, fd_law_read := _, F_law_read := F26, b_law_read := b26, g_law_read := PySem.W.mg_of X G a26, f_law_made_right := f27, fd_law_made_right := _, F_law_made_right := F27, b_law_made_right := b27, g_law_made_right := PySem.W.mg_of X G a27, f_law_one_right := f28, fd_law_one_right := _, F_law_one_right := F28, b_law_one_right := b28, g_law_one_right := PySem.W.mg_of X G a28, f_law := fa, fd_law := _, F_law := F29, b_law := b29, g_law := PySem.W.mg_of X G a29, f_Decoder_init := f30, fd_Decoder_init := _, F_Decoder_init := F30, b_Decoder_init := b30, f_Decoder_eq := f31, fd_Decoder_eq := _, F_Decoder_eq := F31, b_Decoder_eq := b31, f_Decoder_written := f32, fd_Decoder_written := _, F_Decoder_written := F32, b_Decoder_written := b32, m_Decoder_written := ⟨a32, i32, k32⟩, C_Decoder := OC_Decoder, g_Decoder := PySem.W.mg_of X G on_Decoder, cl_Decoder := ⟨opg_Decoder, ohd_Decoder, opo_Decoder, osa_Decoder⟩, mk_Decoder := ⟨omk_Decoder, a30, i30, okp_Decoder⟩, oe_Decoder := ⟨⟨opg_Decoder, ohd_Decoder, opo_Decoder, osa_Decoder⟩, a31, i31, one_Decoder, omo_Decoder, oha_Decoder, ohn_Decoder, otk_Decoder⟩, ii_Decoder := oii_Decoder, it_Decoder := oit_Decoder, is_Decoder := ois_Decoder, na_Decoder_signs := ona_Decoder_signs, na_Decoder_states := ona_Decoder_states, na_Decoder_steps := ona_Decoder_steps, na_Decoder_ends := ona_Decoder_ends, z_abs := PySem.W.mg_none_of X G z_abs, z_all := PySem.W.mg_none_of X G z_all, z_bool := PySem.W.mg_none_of X G z_bool, z_dict := PySem.W.mg_none_of X G z_dict, z_int := PySem.W.mg_none_of X G z_int, z_isinstance := PySem.W.mg_none_of X G z_isinstance, z_len := PySem.W.mg_none_of X G z_len, z_list := PySem.W.mg_none_of X G z_list, z_max := PySem.W.mg_none_of X G z_max, z_min := PySem.W.mg_none_of X G z_min, z_range := PySem.W.mg_none_of X G z_range, z_repr := PySem.W.mg_none_of X G z_repr, z_str := PySem.W.mg_none_of X G z_str, z_sum := PySem.W.mg_none_of X G z_sum, z_tuple := PySem.W.mg_none_of X G z_tuple, t_MOST_SIGNS := t_MOST_SIGNS, c_MOST_SIGNS := PySem.W.mg_of X G n_MOST_SIGNS, t_MOST_LETTERS := t_MOST_LETTERS, c_MOST_LETTERS := PySem.W.mg_of X G n_MOST_LETTERS, t_MOST_STATES := t_MOST_STATES, c_MOST_STATES := PySem.W.mg_of X G n_MOST_STATES, t_LETTERS := t_LETTERS, c_LETTERS := PySem.W.mg_of X G n_LETTERS, C_InvalidEnds := C0, i_InvalidEnds := I0, e_InvalidEnds := E0, x_InvalidEnds := exm_of eeC0 eiC0 etC0 esC0, C_InvalidLine := C1, i_InvalidLine := I1, e_InvalidLine := E1, x_InvalidLine := exm_of eeC1 eiC1 etC1 esC1, C_InvalidSign := C2, i_InvalidSign := I2, e_InvalidSign := E2, x_InvalidSign := exm_of eeC2 eiC2 etC2 esC2, C_InvalidSigns := C3, i_InvalidSigns := I3, e_InvalidSigns := E3, x_InvalidSigns := exm_of eeC3 eiC3 etC3 esC3, C_InvalidSteps := C4, i_InvalidSteps := I4, e_InvalidSteps := E4, x_InvalidSteps := exm_of eeC4 eiC4 etC4 esC4, no_InvalidEnds_InvalidLine := exm_of eeC1 eiC1 etC1 en_0_1, no_InvalidEnds_InvalidSign := exm_of eeC2 eiC2 etC2 en_0_2, no_InvalidEnds_InvalidSigns := exm_of eeC3 eiC3 etC3 en_0_3, no_InvalidEnds_InvalidSteps := exm_of eeC4 eiC4 etC4 en_0_4, no_InvalidLine_InvalidEnds := exm_of eeC0 eiC0 etC0 en_1_0, no_InvalidLine_InvalidSign := exm_of eeC2 eiC2 etC2 en_1_2, no_InvalidLine_InvalidSigns := exm_of eeC3 eiC3 etC3 en_1_3, no_InvalidLine_InvalidSteps := exm_of eeC4 eiC4 etC4 en_1_4, no_InvalidSign_InvalidEnds := exm_of eeC0 eiC0 etC0 en_2_0, no_InvalidSign_InvalidLine := exm_of eeC1 eiC1 etC1 en_2_1, no_InvalidSign_InvalidSigns := exm_of eeC3 eiC3 etC3 en_2_3, no_InvalidSign_InvalidSteps := exm_of eeC4 eiC4 etC4 en_2_4, no_InvalidSigns_InvalidEnds := exm_of eeC0 eiC0 etC0 en_3_0, no_InvalidSigns_InvalidLine := exm_of eeC1 eiC1 etC1 en_3_1, no_InvalidSigns_InvalidSign := exm_of eeC2 eiC2 etC2 en_3_2, no_InvalidSigns_InvalidSteps := exm_of eeC4 eiC4 etC4 en_3_4, no_InvalidSteps_InvalidEnds := exm_of eeC0 eiC0 etC0 en_4_0, no_InvalidSteps_InvalidLine := exm_of eeC1 eiC1 etC1 en_4_1, no_InvalidSteps_InvalidSign := exm_of eeC2 eiC2 etC2 en_4_2, no_InvalidSteps_InvalidSigns := exm_of eeC3 eiC3 etC3 en_4_3 } : Txt K mg)⟩
end My
open PySem PySem.W PyProof.Rows
set_option maxRecDepth 100000 in
set_option maxHeartbeats 0 in
theorem PySem.Challenge.cw_spoiltline_k53_codecs_of_usual_kinds_holds : PySem.Challenge.rw_spoiltline_k53_codecs_of_usual_kinds.Holds := by
  w_on; o_law; k_head; (case hw => w_witness2)
  k_fill
  refine L2.walk_G (l := PySem.Challenge.rw_spoiltline_k53_codecs_of_usual_kinds) (n := 63) (k := 13) (x := "script") (sp := My.spLaw) rfl (by decide) rfl ⟨rfl, by decide, by decide⟩ (fun w h Y => PySem.W.kIn_of Y) ?F (fun _ _ a ns hl _ hS => ⟨a, ns, rfl, hS, hl, fun _ => rfl⟩)
  case F =>
    intro w mg fa h KX G hmg
    refine' My.all_mk KX G hmg ?eC0 ?eL0 ?etk0 ?esa0 ?ega0 ?egg0 ?eno0 ?ein0 ?eti0 ?ekC0 ?eeC0 ?etC0 ?ehC0 ?eiC0 ?esC0 ?efn0 ?eco0 ?eC1 ?eL1 ?etk1 ?esa1 ?ega1 ?egg1 ?eno1 ?ein1 ?eti1 ?ekC1 ?eeC1 ?etC1 ?ehC1 ?eiC1 ?esC1 ?efn1 ?eco1 ?eC2 ?eL2 ?etk2 ?esa2 ?ega2 ?egg2 ?eno2 ?ein2 ?eti2 ?ekC2 ?eeC2 ?etC2 ?ehC2 ?eiC2 ?esC2 ?efn2 ?eco2 ?eC3 ?eL3 ?etk3 ?esa3 ?ega3 ?egg3 ?eno3 ?ein3 ?eti3 ?ekC3 ?eeC3 ?etC3 ?ehC3 ?eiC3 ?esC3 ?efn3 ?eco3 ?eC4 ?eL4 ?etk4 ?esa4 ?ega4 ?egg4 ?eno4 ?ein4 ?eti4 ?ekC4 ?eeC4 ?etC4 ?ehC4 ?eiC4 ?esC4 ?efn4 ?eco4 ?en_0_1 ?en_0_2 ?en_0_3 ?en_0_4 ?en_1_0 ?en_1_2 ?en_1_3 ?en_1_4 ?en_2_0 ?en_2_1 ?en_2_3 ?en_2_4 ?en_3_0 ?en_3_1 ?en_3_2 ?en_3_4 ?en_4_0 ?en_4_1 ?en_4_2 ?en_4_3 ?on_Decoder ?opg_Decoder ?ohd_Decoder ?opo_Decoder ?osa_Decoder ?omk_Decoder ?okp_Decoder ?one_Decoder ?omo_Decoder ?oha_Decoder ?ohn_Decoder ?otk_Decoder ?oii_Decoder ?oit_Decoder ?ois_Decoder ?ona_Decoder_signs ?ona_Decoder_states ?ona_Decoder_steps ?ona_Decoder_ends ?a0 ?l0 ?c0 ?k0 ?a1 ?l1 ?c1 ?k1 ?a2 ?l2 ?c2 ?k2 ?a3 ?l3 ?c3 ?k3 ?a4 ?l4 ?c4 ?k4 ?a5 ?l5 ?c5 ?k5 ?a6 ?l6 ?c6 ?k6 ?a7 ?l7 ?c7 ?k7 ?a8 ?l8 ?c8 ?k8 ?a9 ?l9 ?c9 ?k9 ?a10 ?l10 ?c10 ?k10 ?a11 ?l11 ?c11 ?k11 ?a12 ?l12 ?c12 ?k12 ?a13 ?l13 ?c13 ?k13 ?a14 ?l14 ?c14 ?k14 ?a15 ?l15 ?c15 ?k15 ?a16 ?l16 ?c16 ?k16 ?a17 ?l17 ?c17 ?k17 ?a18 ?l18 ?c18 ?k18 ?a19 ?l19 ?c19 ?k19 ?a20 ?l20 ?c20 ?k20 ?a21 ?l21 ?c21 ?k21 ?a22 ?l22 ?c22 ?k22 ?a23 ?l23 ?c23 ?k23 ?a24 ?l24 ?c24 ?k24 ?a25 ?l25 ?c25 ?k25 ?a26 ?l26 ?c26 ?k26 ?a27 ?l27 ?c27 ?k27 ?a28 ?l28 ?c28 ?k28 ?a29 ?l29 ?c29 ?k29 ?a30 ?i30 ?l30 ?c30 ?k30 ?a31 ?i31 ?l31 ?c31 ?k31 ?a32 ?i32 ?l32 ?c32 ?k32 ?z_abs ?z_all ?z_bool ?z_dict ?z_int ?z_isinstance ?z_len ?z_list ?z_max ?z_min ?z_range ?z_repr ?z_str ?z_sum ?z_tuple ?n_MOST_SIGNS ?n_MOST_LETTERS ?n_MOST_STATES ?n_LETTERS
    (case eC0 => k_is)
    (case eL0 => k_is)
    (case etk0 => k_is)
    (case esa0 => k_is)
    (case ega0 => k_is)
    (case egg0 => k_is)
    (case eno0 => k_is)
    (case ein0 => k_is)
    (case eti0 => k_is)
    (case ekC0 => k_is)
    (case eeC0 => k_is)
    (case etC0 => k_is)
    (case ehC0 => k_is)
    (case eiC0 => k_is)
    (case esC0 => k_is)
    (case efn0 => k_is)
    (case eco0 => k_is)
    (case eC1 => k_is)
    (case eL1 => k_is)
    (case etk1 => k_is)
    (case esa1 => k_is)
    (case ega1 => k_is)
    (case egg1 => k_is)
    (case eno1 => k_is)
    (case ein1 => k_is)
    (case eti1 => k_is)
    (case ekC1 => k_is)
    (case eeC1 => k_is)
    (case etC1 => k_is)
    (case ehC1 => k_is)
    (case eiC1 => k_is)
    (case esC1 => k_is)
    (case efn1 => k_is)
    (case eco1 => k_is)
    (case eC2 => k_is)
    (case eL2 => k_is)
    (case etk2 => k_is)
    (case esa2 => k_is)
    (case ega2 => k_is)
    (case egg2 => k_is)
    (case eno2 => k_is)
    (case ein2 => k_is)
    (case eti2 => k_is)
    (case ekC2 => k_is)
    (case eeC2 => k_is)
    (case etC2 => k_is)
    (case ehC2 => k_is)
    (case eiC2 => k_is)
    (case esC2 => k_is)
    (case efn2 => k_is)
    (case eco2 => k_is)
    (case eC3 => k_is)
    (case eL3 => k_is)
    (case etk3 => k_is)
    (case esa3 => k_is)
    (case ega3 => k_is)
    (case egg3 => k_is)
    (case eno3 => k_is)
    (case ein3 => k_is)
    (case eti3 => k_is)
    (case ekC3 => k_is)
    (case eeC3 => k_is)
    (case etC3 => k_is)
    (case ehC3 => k_is)
    (case eiC3 => k_is)
    (case esC3 => k_is)
    (case efn3 => k_is)
    (case eco3 => k_is)
    (case eC4 => k_is)
    (case eL4 => k_is)
    (case etk4 => k_is)
    (case esa4 => k_is)
    (case ega4 => k_is)
    (case egg4 => k_is)
    (case eno4 => k_is)
    (case ein4 => k_is)
    (case eti4 => k_is)
    (case ekC4 => k_is)
    (case eeC4 => k_is)
    (case etC4 => k_is)
    (case ehC4 => k_is)
    (case eiC4 => k_is)
    (case esC4 => k_is)
    (case efn4 => k_is)
    (case eco4 => k_is)
    (case en_0_1 => k_is)
    (case en_0_2 => k_is)
    (case en_0_3 => k_is)
    (case en_0_4 => k_is)
    (case en_1_0 => k_is)
    (case en_1_2 => k_is)
    (case en_1_3 => k_is)
    (case en_1_4 => k_is)
    (case en_2_0 => k_is)
    (case en_2_1 => k_is)
    (case en_2_3 => k_is)
    (case en_2_4 => k_is)
    (case en_3_0 => k_is)
    (case en_3_1 => k_is)
    (case en_3_2 => k_is)
    (case en_3_4 => k_is)
    (case en_4_0 => k_is)
    (case en_4_1 => k_is)
    (case en_4_2 => k_is)
    (case en_4_3 => k_is)
    (case on_Decoder => k_is)
    (case opg_Decoder => k_is)
    (case ohd_Decoder => k_is)
    (case opo_Decoder => k_is)
    (case osa_Decoder => k_is)
    (case omk_Decoder => k_is)
    (case okp_Decoder => k_is)
    (case one_Decoder => k_is)
    (case omo_Decoder => k_is)
    (case oha_Decoder => k_is)
    (case ohn_Decoder => k_is)
    (case otk_Decoder => k_is)
    (case oii_Decoder => k_is)
    (case oit_Decoder => k_is)
    (case ois_Decoder => k_is)
    (case ona_Decoder_signs => k_is)
    (case ona_Decoder_states => k_is)
    (case ona_Decoder_steps => k_is)
    (case ona_Decoder_ends => k_is)
    (case a0 => k_is)
    (case l0 => k_is)
    (case c0 => k_is)
    (case k0 => k_is)
    (case a1 => k_is)
    (case l1 => k_is)
    (case c1 => k_is)
    (case k1 => k_is)
    (case a2 => k_is)
    (case l2 => k_is)
    (case c2 => k_is)
    (case k2 => k_is)
    (case a3 => k_is)
    (case l3 => k_is)
    (case c3 => k_is)
    (case k3 => k_is)
    (case a4 => k_is)
    (case l4 => k_is)
    (case c4 => k_is)
    (case k4 => k_is)
    (case a5 => k_is)
    (case l5 => k_is)
    (case c5 => k_is)
    (case k5 => k_is)
    (case a6 => k_is)
    (case l6 => k_is)
    (case c6 => k_is)
    (case k6 => k_is)
    (case a7 => k_is)
    (case l7 => k_is)
    (case c7 => k_is)
    (case k7 => k_is)
    (case a8 => k_is)
    (case l8 => k_is)
    (case c8 => k_is)
    (case k8 => k_is)
    (case a9 => k_is)
    (case l9 => k_is)
    (case c9 => k_is)
    (case k9 => k_is)
    (case a10 => k_is)
    (case l10 => k_is)
    (case c10 => k_is)
    (case k10 => k_is)
    (case a11 => k_is)
    (case l11 => k_is)
    (case c11 => k_is)
    (case k11 => k_is)
    (case a12 => k_is)
    (case l12 => k_is)
    (case c12 => k_is)
    (case k12 => k_is)
    (case a13 => k_is)
    (case l13 => k_is)
    (case c13 => k_is)
    (case k13 => k_is)
    (case a14 => k_is)
    (case l14 => k_is)
    (case c14 => k_is)
    (case k14 => k_is)
    (case a15 => k_is)
    (case l15 => k_is)
    (case c15 => k_is)
    (case k15 => k_is)
    (case a16 => k_is)
    (case l16 => k_is)
    (case c16 => k_is)
    (case k16 => k_is)
    (case a17 => k_is)
    (case l17 => k_is)
    (case c17 => k_is)
    (case k17 => k_is)
    (case a18 => k_is)
    (case l18 => k_is)
    (case c18 => k_is)
    (case k18 => k_is)
    (case a19 => k_is)
    (case l19 => k_is)
    (case c19 => k_is)
    (case k19 => k_is)
    (case a20 => k_is)
    (case l20 => k_is)
    (case c20 => k_is)
    (case k20 => k_is)
    (case a21 => k_is)
    (case l21 => k_is)
    (case c21 => k_is)
    (case k21 => k_is)
    (case a22 => k_is)
    (case l22 => k_is)
    (case c22 => k_is)
    (case k22 => k_is)
    (case a23 => k_is)
    (case l23 => k_is)
    (case c23 => k_is)
    (case k23 => k_is)
    (case a24 => k_is)
    (case l24 => k_is)
    (case c24 => k_is)
    (case k24 => k_is)
    (case a25 => k_is)
    (case l25 => k_is)
    (case c25 => k_is)
    (case k25 => k_is)
    (case a26 => k_is)
    (case l26 => k_is)
    (case c26 => k_is)
    (case k26 => k_is)
    (case a27 => k_is)
    (case l27 => k_is)
    (case c27 => k_is)
    (case k27 => k_is)
    (case a28 => k_is)
    (case l28 => k_is)
    (case c28 => k_is)
    (case k28 => k_is)
    (case a29 => k_is)
    (case l29 => k_is)
    (case c29 => k_is)
    (case k29 => k_is)
    (case a30 => k_is)
    (case i30 => k_is)
    (case l30 => k_is)
    (case c30 => k_is)
    (case k30 => k_is)
    (case a31 => k_is)
    (case i31 => k_is)
    (case l31 => k_is)
    (case c31 => k_is)
    (case k31 => k_is)
    (case a32 => k_is)
    (case i32 => k_is)
    (case l32 => k_is)
    (case c32 => k_is)
    (case k32 => k_is)
    (case z_abs => k_is)
    (case z_all => k_is)
    (case z_bool => k_is)
    (case z_dict => k_is)
    (case z_int => k_is)
    (case z_isinstance => k_is)
    (case z_len => k_is)
    (case z_list => k_is)
    (case z_max => k_is)
    (case z_min => k_is)
    (case z_range => k_is)
    (case z_repr => k_is)
    (case z_str => k_is)
    (case z_sum => k_is)
    (case z_tuple => k_is)
    (case n_MOST_SIGNS => k_is)
    (case n_MOST_LETTERS => k_is)
    (case n_MOST_STATES => k_is)
    (case n_LETTERS => k_is)


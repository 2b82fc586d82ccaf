import PyProof.Rows.All
import Wide.All
import OpenK.AllK
import Wide.FinOn
import HandS.ForMost
import HandS.Exc
import HandS.ExcOwn
import HandS.WordsExc
import HandS.TryMany
import HandS.ExcSuper
import HandS.ExcInit
import KE.KExcInit
import HandS.Flt
import HandS.StrMore
import HandS.IsInst
import HandS.Conv
import HandS.Wide
import KE.KxIndex
import HandS.OwnEq
import HandS.ExcIs
import KE.KExcIs
import PyProof.ListStr
import HandS.TryOnly
import HandS.Style
import PyProof.EqKinds
import PyProof.NeKinds
import HandS.More
import HandS.HeadHook3
import HandS.TupAny
import PyProof.CollectIter
import PyProof.WalksMore
import HandS.Base
import HandS.Walk
import HandS.Zip
import HandS.SortKw
import HandS.Evl
import PySem.Challenge.RW_spoiltline_k56_rows_of_numbers
set_option Elab.async false
set_option linter.all false
set_option maxHeartbeats 8000000
namespace Lev
section
variable {α : Type}
/-- an alignment of two lists with c changes -/
inductive A : List α → List α → Nat → Prop where
  | nil : A [] [] 0
  | keep {a u v c} : A u v c → A (a :: u) (a :: v) c
  | swap {a b u v c} : A u v c → A (a :: u) (b :: v) (c + 1)
  | drop {a u v c} : A u v c → A (a :: u) v (c + 1)
  | add {b u v c} : A u v c → A u (b :: v) (c + 1)
theorem A.cast {u v u' v' : List α} {c c' : Nat} (h : A u v c) (e1 : u = u') (e2 : v = v') (e3 : c = c') : A u' v' c' := by
  subst e1 e2 e3; exact h
theorem A.refl : ∀ u : List α, A u u 0
  | [] => .nil
  | _ :: u => .keep (A.refl u)
theorem A.symm {u v : List α} {c : Nat} (h : A u v c) : A v u c := by
  induction h with
  | nil => exact .nil
  | keep _ ih => exact .keep ih
  | swap _ ih => exact .swap ih
  | drop _ ih => exact .add ih
  | add _ ih => exact .drop ih
theorem A.append {u v u' v' : List α} {c c' : Nat} (h : A u v c) (h' : A u' v' c') : A (u ++ u') (v ++ v') (c + c') := by
  induction h with
  | nil => exact h'.cast rfl rfl (Nat.zero_add _).symm
  | keep _ ih => exact .keep ih
  | swap _ ih => exact (A.swap ih).cast rfl rfl (by omega)
  | drop _ ih => exact (A.drop ih).cast rfl rfl (by omega)
  | add _ ih => exact (A.add ih).cast rfl rfl (by omega)
theorem A.drops : ∀ u : List α, A u [] u.length
  | [] => .nil
  | _ :: u => .drop (A.drops u)
theorem A.adds (u : List α) : A [] u u.length := (A.drops u).symm
theorem A.nilLeft {v : List α} {c : Nat} (h : A [] v c) : v.length ≤ c := by
  generalize e : ([] : List α) = u at h
  induction h with
  | nil => exact Nat.le_refl _
  | keep _ _ => cases e
  | swap _ _ => cases e
  | drop _ _ => cases e
  | add _ ih => have := ih e; simp; omega
/-- an alignment is cut where the left list is -/
theorem A.split {w v : List α} {c : Nat} (h : A w v c) : ∀ u u' : List α, w = u ++ u' → ∃ v1 v2 c1 c2, v = v1 ++ v2 ∧ A u v1 c1 ∧ A u' v2 c2 ∧ c = c1 + c2 := by
  induction h with
  | nil =>
    intro u u' e
    have e1 : u = [] := (List.append_eq_nil_iff.mp e.symm).1
    have e2 : u' = [] := (List.append_eq_nil_iff.mp e.symm).2
    subst e1 e2
    exact ⟨[], [], 0, 0, rfl, .nil, .nil, rfl⟩
  | @keep a w v c h ih =>
    intro u u' e
    cases u with
    | nil => exact ⟨[], a :: v, 0, c, rfl, .nil, (A.keep h).cast e rfl rfl, (Nat.zero_add _).symm⟩
    | cons x u =>
      injection e with e1 e2
      subst e1
      obtain ⟨v1, v2, c1, c2, rfl, h1, h2, rfl⟩ := ih u u' e2
      exact ⟨_ :: v1, v2, c1, c2, rfl, .keep h1, h2, rfl⟩
  | @swap a b w v c h ih =>
    intro u u' e
    cases u with
    | nil => exact ⟨[], b :: v, 0, c + 1, rfl, .nil, (A.swap h).cast e rfl rfl, (Nat.zero_add _).symm⟩
    | cons x u =>
      injection e with e1 e2
      subst e1
      obtain ⟨v1, v2, c1, c2, rfl, h1, h2, rfl⟩ := ih u u' e2
      exact ⟨_ :: v1, v2, c1 + 1, c2, rfl, .swap h1, h2, by omega⟩
  | @drop a w v c h ih =>
    intro u u' e
    cases u with
    | nil => exact ⟨[], v, 0, c + 1, rfl, .nil, (A.drop h).cast e rfl rfl, (Nat.zero_add _).symm⟩
    | cons x u =>
      injection e with e1 e2
      subst e1
      obtain ⟨v1, v2, c1, c2, rfl, h1, h2, rfl⟩ := ih u u' e2
      exact ⟨v1, v2, c1 + 1, c2, rfl, .drop h1, h2, by omega⟩
  | @add b w v c h ih =>
    intro u u' e
    obtain ⟨v1, v2, c1, c2, rfl, h1, h2, rfl⟩ := ih u u' e
    exact ⟨b :: v1, v2, c1 + 1, c2, rfl, .add h1, h2, by omega⟩

/-! ### ways over places of two lists -/
inductive P (u v : List α) : Nat → Nat → Nat → Prop where
  | zero : P u v 0 0 0
  | keep {i j c a} : P u v i j c → u[i]? = some a → v[j]? = some a → P u v (i + 1) (j + 1) c
  | swap {i j c} : P u v i j c → i < u.length → j < v.length → P u v (i + 1) (j + 1) (c + 1)
  | drop {i j c} : P u v i j c → i < u.length → P u v (i + 1) j (c + 1)
  | add {i j c} : P u v i j c → j < v.length → P u v i (j + 1) (c + 1)
variable {u v : List α}
theorem P.bounds {i j c : Nat} (h : P u v i j c) : i ≤ u.length ∧ j ≤ v.length := by
  induction h with
  | zero => exact ⟨Nat.zero_le _, Nat.zero_le _⟩
  | keep _ e1 e2 _ =>
    have h1 := (List.getElem?_eq_some_iff.mp e1).1
    have h2 := (List.getElem?_eq_some_iff.mp e2).1
    exact ⟨h1, h2⟩
  | swap _ h1 h2 _ => exact ⟨h1, h2⟩
  | drop _ h1 ih => exact ⟨h1, ih.2⟩
  | add _ h1 ih => exact ⟨ih.1, h1⟩
theorem P.toA {i j c : Nat} (h : P u v i j c) : A (u.take i) (v.take j) c := by
  induction h with
  | zero => exact (A.nil).cast (by simp) (by simp) rfl
  | keep _ e1 e2 ih =>
    exact (ih.append (A.keep A.nil)).cast (by rw [List.take_add_one, e1]; rfl) (by rw [List.take_add_one, e2]; rfl) rfl
  | @swap i j c _ h1 h2 ih =>
    exact (ih.append (A.swap (a := u[i]) (b := v[j]) A.nil)).cast (by rw [List.take_add_one, List.getElem?_eq_getElem h1]; rfl) (by rw [List.take_add_one, List.getElem?_eq_getElem h2]; rfl) rfl
  | @drop i j c _ h1 ih =>
    exact (ih.append (A.drop (a := u[i]) A.nil)).cast (by rw [List.take_add_one, List.getElem?_eq_getElem h1]; rfl) (by simp) rfl
  | @add i j c _ h1 ih =>
    exact (ih.append (A.add (b := v[j]) A.nil)).cast (by simp) (by rw [List.take_add_one, List.getElem?_eq_getElem h1]; rfl) rfl
theorem P.onA {u' v' : List α} {c' : Nat} (h : A u' v' c') : ∀ {i j c : Nat}, P u v i j c → u.drop i = u' → v.drop j = v' → i ≤ u.length → j ≤ v.length → P u v u.length v.length (c + c') := by
  induction h with
  | nil =>
    intro i j c p e1 e2 b1 b2
    have h1 : u.length ≤ i := List.drop_eq_nil_iff.mp e1
    have h2 : v.length ≤ j := List.drop_eq_nil_iff.mp e2
    have e3 : i = u.length := Nat.le_antisymm b1 h1
    have e4 : j = v.length := Nat.le_antisymm b2 h2
    subst e3 e4
    exact p
  | @keep a u' v' c' _ ih =>
    intro i j c p e1 e2 b1 b2
    have g1 : u[i]? = some a := by have := congrArg (·[0]?) e1; simpa using this
    have g2 : v[j]? = some a := by have := congrArg (·[0]?) e2; simpa using this
    have h1 := (List.getElem?_eq_some_iff.mp g1).1
    have h2 := (List.getElem?_eq_some_iff.mp g2).1
    exact ih (.keep p g1 g2) (by rw [← List.drop_drop, e1]; rfl) (by rw [← List.drop_drop, e2]; rfl) h1 h2
  | @swap a b u' v' c' _ ih =>
    intro i j c p e1 e2 b1 b2
    have g1 : u[i]? = some a := by have := congrArg (·[0]?) e1; simpa using this
    have g2 : v[j]? = some b := by have := congrArg (·[0]?) e2; simpa using this
    have h1 := (List.getElem?_eq_some_iff.mp g1).1
    have h2 := (List.getElem?_eq_some_iff.mp g2).1
    have := ih (.swap p h1 h2) (by rw [← List.drop_drop, e1]; rfl) (by rw [← List.drop_drop, e2]; rfl) h1 h2
    rw [show c + (c' + 1) = c + 1 + c' by omega]; exact this
  | @drop a u' v' c' _ ih =>
    intro i j c p e1 e2 b1 b2
    have g1 : u[i]? = some a := by have := congrArg (·[0]?) e1; simpa using this
    have h1 := (List.getElem?_eq_some_iff.mp g1).1
    have := ih (.drop p h1) (by rw [← List.drop_drop, e1]; rfl) e2 h1 b2
    rw [show c + (c' + 1) = c + 1 + c' by omega]; exact this
  | @add b u' v' c' _ ih =>
    intro i j c p e1 e2 b1 b2
    have g2 : v[j]? = some b := by have := congrArg (·[0]?) e2; simpa using this
    have h2 := (List.getElem?_eq_some_iff.mp g2).1
    have := ih (.add p h2) e1 (by rw [← List.drop_drop, e2]; rfl) b1 h2
    rw [show c + (c' + 1) = c + 1 + c' by omega]; exact this
theorem A.toP {c : Nat} (h : A u v c) : P u v u.length v.length c := by
  have := P.onA (u := u) (v := v) h .zero rfl rfl (Nat.zero_le _) (Nat.zero_le _)
  simpa using this
theorem P.toA' {c : Nat} (h : P u v u.length v.length c) : A u v c := h.toA.cast (List.take_length) (List.take_length) rfl

/-! ### the table -/
variable [DecidableEq α]
def neq (x y : Option α) : Nat := if x = y then 0 else 1
def T (u v : List α) : Nat → Nat → Nat
  | 0, j => j
  | i + 1, 0 => i + 1
  | i + 1, j + 1 => min (T u v i j + neq u[i]? v[j]?) (min (T u v (i + 1) j + 1) (T u v i (j + 1) + 1))
theorem T_zero (j : Nat) : T u v 0 j = j := by unfold T; rfl
theorem T_left (i : Nat) : T u v i 0 = i := by cases i <;> (unfold T; rfl)
theorem T_step (i j : Nat) : T u v (i + 1) (j + 1) = min (T u v i j + neq u[i]? v[j]?) (min (T u v (i + 1) j + 1) (T u v i (j + 1) + 1)) := by
  rw [T]
theorem T_le {i j c : Nat} (h : P u v i j c) : T u v i j ≤ c := by
  induction h with
  | zero => rw [T_zero]; omega
  | keep _ e1 e2 ih => rw [T_step, e1, e2]; simp only [neq, if_true]; omega
  | @swap i j c _ _ _ ih =>
    rw [T_step]
    have : neq u[i]? v[j]? ≤ 1 := by unfold neq; split <;> omega
    omega
  | @drop i j c _ _ ih => cases j with
    | zero => rw [T_left] at *; omega
    | succ j => rw [T_step]; omega
  | @add i j c _ _ ih => cases i with
    | zero => rw [T_zero] at *; omega
    | succ i => rw [T_step]; omega
theorem T_P : ∀ (i j : Nat), i ≤ u.length → j ≤ v.length → P u v i j (T u v i j) := by
  intro i
  induction i with
  | zero =>
    intro j
    induction j with
    | zero => intro _ _; rw [T_zero]; exact .zero
    | succ j ih => intro h1 h2; rw [T_zero]; have := ih h1 (by omega); rw [T_zero] at this; exact .add this (by omega)
  | succ i ihi =>
    intro j
    induction j with
    | zero => intro h1 h2; rw [T_left]; have := ihi 0 (by omega) h2; rw [T_left] at this; exact .drop this (by omega)
    | succ j ih =>
      intro h1 h2
      have p1 := ihi j (by omega) (by omega)
      have p2 := ih h1 (by omega)
      have p3 := ihi (j + 1) (by omega) h2
      rw [T_step]
      by_cases q1 : T u v i j + neq u[i]? v[j]? ≤ min (T u v (i + 1) j + 1) (T u v i (j + 1) + 1)
      · rw [Nat.min_eq_left q1]
        by_cases e : u[i]? = v[j]?
        · rw [show neq u[i]? v[j]? = 0 by unfold neq; rw [if_pos e]]
          exact .keep p1 (List.getElem?_eq_getElem (by omega)) (by rw [← e]; exact List.getElem?_eq_getElem (by omega))
        · rw [show neq u[i]? v[j]? = 1 by unfold neq; rw [if_neg e]]
          exact .swap p1 (by omega) (by omega)
      · rw [Nat.min_eq_right (by omega)]
        by_cases q2 : T u v (i + 1) j + 1 ≤ T u v i (j + 1) + 1
        · rw [Nat.min_eq_left q2]; exact .add p2 (by omega)
        · rw [Nat.min_eq_right (by omega)]; exact .drop p3 (by omega)
/-- the distance -/
def D (u v : List α) : Nat := T u v u.length v.length
theorem D_A (u v : List α) : A u v (D u v) := (T_P _ _ (Nat.le_refl _) (Nat.le_refl _)).toA'
theorem D_le {u v : List α} {c : Nat} (h : A u v c) : D u v ≤ c := T_le h.toP
theorem D_symm (u v : List α) : D u v = D v u := Nat.le_antisymm (D_le (D_A v u).symm) (D_le (D_A u v).symm)
theorem D_self (u : List α) : D u u = 0 := Nat.le_zero.mp (D_le (A.refl u))
theorem D_le_max (u v : List α) : D u v ≤ max u.length v.length := by
  have key : ∀ u v : List α, ∃ c, A u v c ∧ c ≤ max u.length v.length := by
    intro u
    induction u with
    | nil => intro v; exact ⟨_, A.adds v, by simp⟩
    | cons a u ih =>
      intro v
      cases v with
      | nil => exact ⟨_, A.drops (a :: u), by simp⟩
      | cons b v =>
        obtain ⟨c, h, hc⟩ := ih v
        exact ⟨c + 1, .swap h, by simp; omega⟩
  obtain ⟨c, h, hc⟩ := key u v
  exact Nat.le_trans (D_le h) hc
theorem A.lens {u v : List α} {c : Nat} (h : A u v c) : u.length ≤ v.length + c ∧ v.length ≤ u.length + c := by
  induction h with
  | nil => exact ⟨Nat.le_refl _, Nat.le_refl _⟩
  | keep _ ih => simp only [List.length_cons]; omega
  | swap _ ih => simp only [List.length_cons]; omega
  | drop _ ih => simp only [List.length_cons]; omega
  | add _ ih => simp only [List.length_cons]; omega
end
end Lev

set_option Elab.async false
set_option linter.all false
set_option maxHeartbeats 400000
namespace Lev
section
variable {α : Type}
/-- w is a turn of v -/
def Turn (v w : List α) : Prop := ∃ x y, v = x ++ y ∧ w = y ++ x
theorem Turn.refl (v : List α) : Turn v v := ⟨[], v, rfl, (List.append_nil v).symm⟩
theorem Turn.symm {v w : List α} (h : Turn v w) : Turn w v := by
  obtain ⟨x, y, rfl, rfl⟩ := h
  exact ⟨y, x, rfl, rfl⟩
theorem Turn.trans {u v w : List α} (h : Turn u v) (h' : Turn v w) : Turn u w := by
  obtain ⟨x, y, rfl, rfl⟩ := h
  obtain ⟨x', y', e, rfl⟩ := h'
  rcases List.append_eq_append_iff.mp e with ⟨e1, rfl, rfl⟩ | ⟨e1, rfl, rfl⟩
  · exact ⟨e1, y' ++ y, by rw [List.append_assoc], by rw [List.append_assoc]⟩
  · exact ⟨x ++ x', e1, by rw [List.append_assoc], by rw [List.append_assoc]⟩
theorem Turn.length {v w : List α} (h : Turn v w) : w.length = v.length := by
  obtain ⟨x, y, rfl, rfl⟩ := h
  simp only [List.length_append]; omega
theorem Turn.at (v : List α) (k : Nat) : Turn v (v.drop k ++ v.take k) := ⟨v.take k, v.drop k, (List.take_append_drop k v).symm, rfl⟩
/-- an alignment of turns of both is one of u and a turn -/
theorem cut {u u' v v' : List α} {c : Nat} (hu : Turn u u') (hv : Turn v v') (h : A u' v' c) : ∃ w, Turn v w ∧ A u w c := by
  obtain ⟨x, y, rfl, rfl⟩ := hu
  obtain ⟨w1, w2, c1, c2, rfl, h1, h2, rfl⟩ := h.split y x rfl
  exact ⟨w2 ++ w1, hv.trans ⟨w1, w2, rfl, rfl⟩, (h2.append h1).cast rfl rfl (Nat.add_comm _ _)⟩
/-! ### the window that is just as long -/
theorem window (N : Nat) : ∀ {u w w' : List α} {c c' k b : Nat}, u.length + w.length + w'.length ≤ N → A u w c → A u w' c' → w.length + k ≤ b → b ≤ w'.length + k →
    ∃ p q s t s' t' c1 c2 c3 c4, u = p ++ q ∧ w = s ++ t ∧ w' = s' ++ t' ∧ A p s c1 ∧ A q t c2 ∧ A p s' c3 ∧ A q t' c4 ∧ c = c1 + c2 ∧ c' = c3 + c4 ∧ t.length + (k + s'.length) = b := by
  induction N with
  | zero =>
    intro u w w' c c' k b hN h h' l1 l2
    have e1 : u = [] := List.eq_nil_of_length_eq_zero (by omega)
    have e2 : w = [] := List.eq_nil_of_length_eq_zero (by omega)
    have e3 : w' = [] := List.eq_nil_of_length_eq_zero (by omega)
    subst e1 e2 e3
    exact ⟨[], [], [], [], [], [], 0, c, 0, c', rfl, rfl, rfl, .nil, h, .nil, h', (Nat.zero_add _).symm, (Nat.zero_add _).symm, by simp at *; omega⟩
  | succ N ih =>
    intro u w w' c c' k b hN h h' l1 l2
    by_cases e : w.length + k = b
    · exact ⟨[], u, [], w, [], w', 0, c, 0, c', rfl, rfl, rfl, .nil, h, .nil, h', (Nat.zero_add _).symm, (Nat.zero_add _).symm, by simp; omega⟩
    · -- a letter more of the second
      have main : ∀ {a : α} {u w1 w1' pw pw' : List α} {c1 c1' pc pc' : Nat}, A u w1 c1 → A u w1' c1' → (∀ {p s d}, A p s d → A (a :: p) (pw ++ s) (pc + d)) → (∀ {p s d}, A p s d → A (a :: p) (pw' ++ s) (pc' + d)) → pw.length ≤ 1 → pw'.length ≤ 1 →
          (u.length + 1) + (pw ++ w1).length + (pw' ++ w1').length ≤ N + 1 → (pw ++ w1).length + k ≤ b → b ≤ (pw' ++ w1').length + k → ¬ (pw ++ w1).length + k = b →
          ∃ p q s t s' t' d1 d2 d3 d4, a :: u = p ++ q ∧ pw ++ w1 = s ++ t ∧ pw' ++ w1' = s' ++ t' ∧ A p s d1 ∧ A q t d2 ∧ A p s' d3 ∧ A q t' d4 ∧ pc + c1 = d1 + d2 ∧ pc' + c1' = d3 + d4 ∧ t.length + (k + s'.length) = b := by
        intro a u w1 w1' pw pw' c1 c1' pc pc' g g' f f' n1 n2 hN l1 l2 e
        rw [List.length_append] at hN l1 l2 e
        rw [List.length_append] at hN
        obtain ⟨p, q, s, t, s', t', d1, d2, d3, d4, rfl, rfl, rfl, a1, a2, a3, a4, e1, e2, e3⟩ := ih (k := k + pw'.length) (b := b) (by omega) g g' (by omega) (by omega)
        exact ⟨a :: p, q, pw ++ s, t, pw' ++ s', t', pc + d1, d2, pc' + d3, d4, rfl, by simp, by simp, f a1, a2, f' a3, a4, by omega, by omega, by rw [List.length_append]; omega⟩
      cases h' with
      | nil =>
        have := h.nilLeft
        simp at l2
        omega
      | @add b' _ w'' c'' g' =>
        simp only [List.length_cons] at hN l2
        obtain ⟨p, q, s, t, s', t', d1, d2, d3, d4, rfl, rfl, rfl, a1, a2, a3, a4, e1, e2, e3⟩ := ih (k := k + 1) (b := b) (by omega) h g' (by omega) (by omega)
        exact ⟨p, q, s, t, b' :: s', t', d1, d2, d3 + 1, d4, rfl, rfl, rfl, a1, a2, .add a3, a4, e1, by omega, by simp only [List.length_cons]; omega⟩
      | @keep a u w1' c1' g' =>
        cases h with
        | @add b' _ w1 c1 g =>
          simp only [List.length_cons] at hN l1 l2 e
          obtain ⟨p, q, s, t, s', t', d1, d2, d3, d4, e0, rfl, e00, a1, a2, a3, a4, e1, e2, e3⟩ := ih (k := k) (b := b) (by simp only [List.length_cons]; omega) g (A.keep g') (by omega) (by simp only [List.length_cons]; omega)
          exact ⟨p, q, b' :: s, t, s', t', d1 + 1, d2, d3, d4, e0, rfl, e00, .add a1, a2, a3, a4, by omega, e2, e3⟩
        | @keep _ _ w1 c1 g => simpa using main (pw := [a]) (pw' := [a]) (pc := 0) (pc' := 0) g g' (fun z => (A.keep z).cast rfl rfl (by omega)) (fun z => (A.keep z).cast rfl rfl (by omega)) (by simp) (by simp) (by simpa using hN) (by simpa using l1) (by simpa using l2) (by simpa using e)
        | @swap _ x _ w1 c1 g => simpa [Nat.add_comm] using main (pw := [x]) (pw' := [a]) (pc := 1) (pc' := 0) g g' (fun z => (A.swap z).cast rfl rfl (by omega)) (fun z => (A.keep z).cast rfl rfl (by omega)) (by simp) (by simp) (by simpa using hN) (by simpa using l1) (by simpa using l2) (by simpa using e)
        | @drop _ _ _ c1 g => simpa [Nat.add_comm] using main (pw := []) (pw' := [a]) (pc := 1) (pc' := 0) g g' (fun z => (A.drop z).cast rfl rfl (by omega)) (fun z => (A.keep z).cast rfl rfl (by omega)) (by simp) (by simp) (by simpa using hN) (by simpa using l1) (by simpa using l2) (by simpa using e)
      | @swap a y u w1' c1' g' =>
        cases h with
        | @add b' _ w1 c1 g =>
          simp only [List.length_cons] at hN l1 l2 e
          obtain ⟨p, q, s, t, s', t', d1, d2, d3, d4, e0, rfl, e00, a1, a2, a3, a4, e1, e2, e3⟩ := ih (k := k) (b := b) (by simp only [List.length_cons]; omega) g (A.swap (b := y) g') (by omega) (by simp only [List.length_cons]; omega)
          exact ⟨p, q, b' :: s, t, s', t', d1 + 1, d2, d3, d4, e0, rfl, e00, .add a1, a2, a3, a4, by omega, e2, e3⟩
        | @keep _ _ w1 c1 g => simpa [Nat.add_comm] using main (pw := [a]) (pw' := [y]) (pc := 0) (pc' := 1) g g' (fun z => (A.keep z).cast rfl rfl (by omega)) (fun z => (A.swap z).cast rfl rfl (by omega)) (by simp) (by simp) (by simpa using hN) (by simpa using l1) (by simpa using l2) (by simpa using e)
        | @swap _ x _ w1 c1 g => simpa [Nat.add_comm] using main (pw := [x]) (pw' := [y]) (pc := 1) (pc' := 1) g g' (fun z => (A.swap z).cast rfl rfl (by omega)) (fun z => (A.swap z).cast rfl rfl (by omega)) (by simp) (by simp) (by simpa using hN) (by simpa using l1) (by simpa using l2) (by simpa using e)
        | @drop _ _ _ c1 g => simpa [Nat.add_comm] using main (pw := []) (pw' := [y]) (pc := 1) (pc' := 1) g g' (fun z => (A.drop z).cast rfl rfl (by omega)) (fun z => (A.swap z).cast rfl rfl (by omega)) (by simp) (by simp) (by simpa using hN) (by simpa using l1) (by simpa using l2) (by simpa using e)
      | @drop a u _ c1' g' =>
        cases h with
        | @add b' _ w1 c1 g =>
          simp only [List.length_cons] at hN l1 l2 e
          obtain ⟨p, q, s, t, s', t', d1, d2, d3, d4, e0, rfl, e00, a1, a2, a3, a4, e1, e2, e3⟩ := ih (k := k) (b := b) (by simp only [List.length_cons]; omega) g (A.drop g') (by omega) (by omega)
          exact ⟨p, q, b' :: s, t, s', t', d1 + 1, d2, d3, d4, e0, rfl, e00, .add a1, a2, a3, a4, by omega, e2, e3⟩
        | @keep _ _ w1 c1 g => simpa [Nat.add_comm] using main (pw := [a]) (pw' := []) (pc := 0) (pc' := 1) g g' (fun z => (A.keep z).cast rfl rfl (by omega)) (fun z => (A.drop z).cast rfl rfl (by omega)) (by simp) (by simp) (by simpa using hN) (by simpa using l1) (by simpa using l2) (by simpa using e)
        | @swap _ x _ w1 c1 g => simpa [Nat.add_comm] using main (pw := [x]) (pw' := []) (pc := 1) (pc' := 1) g g' (fun z => (A.swap z).cast rfl rfl (by omega)) (fun z => (A.drop z).cast rfl rfl (by omega)) (by simp) (by simp) (by simpa using hN) (by simpa using l1) (by simpa using l2) (by simpa using e)
        | @drop _ _ _ c1 g => simpa [Nat.add_comm] using main (pw := []) (pw' := []) (pc := 1) (pc' := 1) g g' (fun z => (A.drop z).cast rfl rfl (by omega)) (fun z => (A.drop z).cast rfl rfl (by omega)) (by simp) (by simp) (by simpa using hN) (by simpa using l1) (by simpa using l2) (by simpa using e)
/-! ### rounds -/
def rounds : Nat → List α → List α
  | 0, _ => []
  | n + 1, v => v ++ rounds n v
theorem rounds_len (n : Nat) (v : List α) : (rounds n v).length = n * v.length := by
  induction n with
  | zero => simp [rounds]
  | succ n ih => simp [rounds, ih, Nat.succ_mul]; omega
theorem rounds_get (n : Nat) (v : List α) {i : Nat} (h : i < n * v.length) : (rounds n v)[i]? = v[i % v.length]? := by
  induction n generalizing i with
  | zero => omega
  | succ n ih =>
    show (v ++ rounds n v)[i]? = _
    rw [Nat.succ_mul] at h
    rcases Nat.lt_or_ge i v.length with q | q
    · rw [List.getElem?_append_left q, Nat.mod_eq_of_lt q]
    · rw [List.getElem?_append_right q, ih (by omega)]
      congr 1
      conv => rhs; rw [← Nat.sub_add_cancel q, Nat.add_mod_right]
/-- a piece of rounds that is as long as the text is a turn of it; the rest are rounds -/
theorem piece {n : Nat} {v x y z : List α} (h : rounds (n + 1) v = x ++ y ++ z) (hy : y.length = v.length) : Turn v y ∧ x ++ z = rounds n v := by
  by_cases hv : v.length = 0
  · have e1 : v = [] := List.eq_nil_of_length_eq_zero hv
    subst e1
    have hz : ∀ n, rounds n ([] : List α) = [] := fun n => List.eq_nil_of_length_eq_zero (by rw [rounds_len]; simp)
    rw [hz] at h
    have h' := congrArg List.length h
    simp only [List.length_nil, List.length_append] at h'
    have e2 : x = [] := List.eq_nil_of_length_eq_zero (by omega)
    have e3 : y = [] := List.eq_nil_of_length_eq_zero (by omega)
    have e4 : z = [] := List.eq_nil_of_length_eq_zero (by omega)
    subst e2 e3 e4
    exact ⟨Turn.refl _, (hz n).symm⟩
  have pos : 0 < v.length := Nat.pos_of_ne_zero hv
  have hl := congrArg List.length h
  rw [rounds_len, List.length_append, List.length_append, Nat.succ_mul] at hl
  have G : ∀ i, i < (n + 1) * v.length → (x ++ y ++ z)[i]? = v[i % v.length]? := fun i hi => by rw [← h]; exact rounds_get (n + 1) v hi
  rw [Nat.succ_mul] at G
  constructor
  · have e : y = v.drop (x.length % v.length) ++ v.take (x.length % v.length) := by
      have lt := Nat.mod_lt x.length pos
      apply List.ext_getElem?
      intro i
      rcases Nat.lt_or_ge i y.length with q | q
      · have g := G (x.length + i) (by omega)
        rw [List.append_assoc, List.getElem?_append_right (by omega), Nat.add_sub_cancel_left, List.getElem?_append_left q] at g
        rw [g]
        rcases Nat.lt_or_ge i (v.length - x.length % v.length) with q2 | q2
        · rw [List.getElem?_append_left (by rw [List.length_drop]; exact q2), List.getElem?_drop]
          congr 1
          rw [Nat.add_mod, Nat.mod_eq_of_lt (show i < v.length by omega), Nat.mod_eq_of_lt (by omega)]
        · rw [List.getElem?_append_right (by rw [List.length_drop]; exact q2), List.length_drop, List.getElem?_take, if_pos (by omega)]
          congr 1
          rw [Nat.add_mod, Nat.mod_eq_of_lt (show i < v.length by omega), Nat.mod_eq_sub_mod (by omega), Nat.mod_eq_of_lt (by omega)]
          omega
      · rw [List.getElem?_eq_none q, List.getElem?_eq_none (by simp only [List.length_append, List.length_drop, List.length_take]; omega)]
    rw [e]
    exact Turn.at v _
  · apply List.ext_getElem?
    intro i
    rcases Nat.lt_or_ge i (n * v.length) with q | q
    · rw [rounds_get n v q]
      rcases Nat.lt_or_ge i x.length with q2 | q2
      · rw [List.getElem?_append_left q2]
        have g := G i (by omega)
        rw [List.append_assoc, List.getElem?_append_left q2] at g
        exact g
      · rw [List.getElem?_append_right q2]
        have g := G (i + v.length) (by omega)
        rw [List.getElem?_append_right (by rw [List.length_append]; omega), List.length_append, Nat.add_mod_right] at g
        rw [← g]
        congr 1
        omega
    · rw [List.getElem?_eq_none (by rw [List.length_append]; omega), List.getElem?_eq_none (by rw [rounds_len]; omega)]
/-- the parts of a text that go with each round of u -/
inductive Blocks (u : List α) : Nat → List α → Nat → Prop where
  | nil : Blocks u 0 [] 0
  | cons {n w v c d} : A u w c → Blocks u n v d → Blocks u (n + 1) (w ++ v) (c + d)
theorem blocks_of {u : List α} : ∀ {n : Nat} {v : List α} {c : Nat}, A (rounds (n + 1) u) v c → Blocks u (n + 1) v c
  | 0, v, c, h => by
    have h' : A u v c := h.cast (List.append_nil u) rfl rfl
    have := Blocks.cons h' .nil
    rw [List.append_nil] at this
    exact this
  | n + 1, v, c, h => by
    obtain ⟨v1, v2, c1, c2, rfl, h1, h2, rfl⟩ := h.split u (rounds (n + 1) u) rfl
    exact .cons h1 (blocks_of h2)
def Gone (u : List α) (b n : Nat) (V : List α) (c : Nat) : Prop :=
  ∃ x y z c1 c2 u', V = x ++ y ++ z ∧ y.length = b ∧ Blocks u n (x ++ z) c1 ∧ Turn u u' ∧ A u' y c2 ∧ c = c1 + c2
theorem tri {u : List α} {b : Nat} : ∀ {n : Nat} {V : List α} {c : Nat}, Blocks u (n + 1) V c →
    (∃ w V' c1 d, V = w ++ V' ∧ A u w c1 ∧ Blocks u n V' d ∧ c = c1 + d ∧ w.length < b ∧ V.length < (n + 1) * b) ∨
    (∃ w V' c1 d, V = w ++ V' ∧ A u w c1 ∧ Blocks u n V' d ∧ c = c1 + d ∧ b < w.length ∧ (n + 1) * b < V.length) ∨ Gone u b n V c := by
  intro n
  induction n with
  | zero =>
    intro V c h
    cases h with
    | @cons _ w V' c d h1 h2 =>
      cases h2
      rcases Nat.lt_trichotomy w.length b with q | q | q
      · exact .inl ⟨w, [], c, 0, rfl, h1, .nil, rfl, q, by simp; exact q⟩
      · exact .inr (.inr ⟨[], w, [], 0, c, u, by simp, q, .nil, Turn.refl u, h1, by omega⟩)
      · exact .inr (.inl ⟨w, [], c, 0, rfl, h1, .nil, rfl, q, by simp; exact q⟩)
  | succ n ih =>
    intro V c h
    cases h with
    | @cons _ w V' c d h1 h2 =>
      have em : (n + 1 + 1) * b = (n + 1) * b + b := Nat.succ_mul _ _
      rcases ih h2 with ⟨w', V'', c', d', rfl, g1, g2, rfl, l1, l2⟩ | ⟨w', V'', c', d', rfl, g1, g2, rfl, l1, l2⟩ | ⟨x, y, z, d1, d2, u', rfl, hy, g1, g2, g3, rfl⟩
      · rcases Nat.lt_trichotomy w.length b with q | q | q
        · exact .inl ⟨w, _, c, _, rfl, h1, h2, rfl, q, by rw [List.length_append]; omega⟩
        · exact .inr (.inr ⟨[], w, _, _, c, u, by simp, q, h2, Turn.refl u, h1, by omega⟩)
        · -- longer, then shorter
          obtain ⟨p, q', s, t, s', t', k1, k2, k3, k4, rfl, rfl, rfl, a1, a2, a3, a4, rfl, rfl, e⟩ := window _ (k := 0) (b := w.length + w'.length - b) (Nat.le_refl _) g1 h1 (by omega) (by omega)
          simp only [List.length_append] at e q l1
          refine .inr (.inr ⟨s', t' ++ s, t ++ V'', (k3 + k2) + d', k4 + k1, q' ++ p, by simp, by rw [List.length_append]; omega, ?_, ⟨p, q', rfl, rfl⟩, a4.append a1, by omega⟩)
          have := Blocks.cons (a3.append a2) g2
          rw [List.append_assoc] at this
          exact this
      · rcases Nat.lt_trichotomy w.length b with q | q | q
        · obtain ⟨p, q', s, t, s', t', k1, k2, k3, k4, rfl, rfl, rfl, a1, a2, a3, a4, rfl, rfl, e⟩ := window _ (k := 0) (b := b) (Nat.le_refl _) h1 g1 (by omega) (by omega)
          refine .inr (.inr ⟨s, t ++ s', t' ++ V'', (k1 + k4) + d', k2 + k3, q' ++ p, by simp, by rw [List.length_append]; omega, ?_, ⟨p, q', rfl, rfl⟩, a2.append a3, by omega⟩)
          have := Blocks.cons (a1.append a4) g2
          rw [List.append_assoc] at this
          exact this
        · exact .inr (.inr ⟨[], w, _, _, c, u, by simp, q, h2, Turn.refl u, h1, by omega⟩)
        · exact .inr (.inl ⟨w, _, c, _, rfl, h1, h2, rfl, q, by rw [List.length_append]; omega⟩)
      · refine .inr (.inr ⟨w ++ x, y, z, c + d1, d2, u', by simp, hy, ?_, g2, g3, by omega⟩)
        rw [List.append_assoc]
        exact .cons h1 g1
/-- rounds are at least as far apart as so many turns -/
theorem rounds_ge {u v : List α} {r : Nat} (hr : ∀ w c, Turn v w → A u w c → r ≤ c) : ∀ {n : Nat} {c : Nat}, Blocks u (n + 1) (rounds (n + 1) v) c → (n + 1) * r ≤ c := by
  intro n
  induction n with
  | zero =>
    intro c h
    rw [show rounds 1 v = v from List.append_nil v] at h
    generalize e : v = V at h
    cases h with
    | @cons _ w V' c d h1 h2 =>
      cases h2
      rw [List.append_nil] at e
      subst e
      have := hr v c (Turn.refl v) h1
      omega
  | succ n ih =>
    intro c h
    have hl := rounds_len (n + 1 + 1) v
    rcases tri (b := v.length) h with ⟨w, V', c', d', e, g1, g2, _, l1, l2⟩ | ⟨w, V', c', d', e, g1, g2, _, l1, l2⟩ | ⟨x, y, z, d1, d2, u', e, hy, g1, g2, g3, rfl⟩
    · rw [hl] at l2; exact absurd l2 (Nat.lt_irrefl _)
    · rw [hl] at l2; exact absurd l2 (Nat.lt_irrefl _)
    · obtain ⟨ht, hz⟩ := piece e hy
      rw [hz] at g1
      have k1 := ih g1
      obtain ⟨w, tw, aw⟩ := cut g2 ht g3
      have k2 := hr w d2 tw aw
      rw [Nat.succ_mul]
      omega
theorem rounds_A {u w : List α} {c : Nat} (h : A u w c) : ∀ n, A (rounds n u) (rounds n w) (n * c)
  | 0 => (A.nil).cast rfl rfl (by omega)
  | n + 1 => (h.append (rounds_A h n)).cast rfl rfl (by rw [Nat.succ_mul]; omega)
theorem rounds_turn (x y : List α) : ∀ n, rounds (n + 1) (x ++ y) = x ++ rounds n (y ++ x) ++ y
  | 0 => by simp [rounds]
  | n + 1 => by
    show (x ++ y) ++ rounds (n + 1) (x ++ y) = x ++ ((y ++ x) ++ rounds n (y ++ x)) ++ y
    rw [rounds_turn x y n]
    simp
theorem rounds_last (u : List α) : ∀ n, rounds (n + 1) u = rounds n u ++ u
  | 0 => by simp [rounds]
  | n + 1 => by
    show u ++ rounds (n + 1) u = (u ++ rounds n u) ++ u
    rw [rounds_last u n]; simp
theorem rounds_le {u v w : List α} {c : Nat} (ht : Turn v w) (h : A u w c) (n : Nat) : ∃ d, A (rounds (n + 1) u) (rounds (n + 1) v) d ∧ d ≤ n * c + u.length + v.length := by
  obtain ⟨x, y, rfl, rfl⟩ := ht
  refine ⟨_, (((A.adds x).append (rounds_A h n)).append ((A.drops u).append (A.adds y))).cast (by simp [rounds_last]) (by rw [rounds_turn]; simp) rfl, ?_⟩
  simp only [List.length_append]; omega
/-! ### the price of rounds -/
variable [DecidableEq α]
/-- the least of the distances of u and the turns of v -/
def Rp (u v : List α) (r : Nat) : Prop := (∃ w, Turn v w ∧ D u w = r) ∧ ∀ w, Turn v w → r ≤ D u w
theorem Rp.uniq {u v : List α} {r r' : Nat} (h : Rp u v r) (h' : Rp u v r') : r = r' := by
  obtain ⟨⟨w, t, e⟩, k⟩ := h
  obtain ⟨⟨w', t', e'⟩, k'⟩ := h'
  have := k w' t'
  have := k' w t
  omega
theorem Rp.turns {u u' v v' : List α} {r : Nat} (h : Rp u v r) (hu : Turn u u') (hv : Turn v v') : Rp u' v' r := by
  obtain ⟨⟨w, t, e⟩, k⟩ := h
  have low : ∀ w', Turn v' w' → r ≤ D u' w' := fun w' t' => by
    obtain ⟨w2, t2, a2⟩ := cut hu (hv.trans t') (D_A u' w')
    exact Nat.le_trans (k w2 t2) (D_le a2)
  obtain ⟨w2, t2, a2⟩ := cut (v := v') hu.symm (hv.symm.trans t) (D_A u w)
  have := D_le a2
  have := low w2 t2
  exact ⟨⟨w2, t2, by omega⟩, low⟩
theorem Rp.symm {u v : List α} {r : Nat} (h : Rp u v r) : Rp v u r := by
  obtain ⟨⟨w, t, e⟩, k⟩ := h
  have low : ∀ w', Turn u w' → r ≤ D v w' := fun w' t' => by
    obtain ⟨w2, t2, a2⟩ := cut t' (Turn.refl v) (D_A v w').symm
    exact Nat.le_trans (k w2 t2) (D_le a2)
  obtain ⟨w2, t2, a2⟩ := cut (v := u) t (Turn.refl u) (D_A u w).symm
  have := D_le a2
  have := low w2 t2
  exact ⟨⟨w2, t2, by omega⟩, low⟩
theorem Rp.self {u w : List α} (h : Turn u w) : Rp u w 0 := ⟨⟨u, h.symm, D_self u⟩, fun _ _ => Nat.zero_le _⟩
theorem Rp.ge {u v : List α} {r : Nat} (h : Rp u v r) (n : Nat) : (n + 1) * r ≤ D (rounds (n + 1) u) (rounds (n + 1) v) :=
  rounds_ge (fun w c t a => Nat.le_trans (h.2 w t) (D_le a)) (blocks_of (D_A _ _))
theorem Rp.le {u v : List α} {r : Nat} (h : Rp u v r) (n : Nat) : D (rounds (n + 1) u) (rounds (n + 1) v) ≤ n * r + u.length + v.length := by
  obtain ⟨⟨w, t, rfl⟩, _⟩ := h
  obtain ⟨d, a, hd⟩ := rounds_le t (D_A u w) n
  exact Nat.le_trans (D_le a) hd
/-- the turns by their places -/
theorem turn_at {v w : List α} (h : Turn v w) : ∃ k, k < max 1 v.length ∧ w = v.drop k ++ v.take k := by
  obtain ⟨x, y, rfl, rfl⟩ := h
  by_cases e : y = []
  · subst e
    exact ⟨0, by omega, by simp⟩
  · have : 0 < y.length := List.length_pos_iff.mpr e
    exact ⟨x.length, by rw [List.length_append]; omega, by simp⟩
end
end Lev

set_option Elab.async false
set_option linter.all false
set_option maxHeartbeats 400000
namespace Lev
section
variable {α : Type} [DecidableEq α]
/-! ### turns by a number, and roots -/
def rot (k : Nat) (v : List α) : List α := v.drop k ++ v.take k
theorem rot_len (k : Nat) (v : List α) : (rot k v).length = v.length := by
  unfold rot; rw [List.length_append, List.length_drop, List.length_take]; omega
theorem rot_get {k : Nat} {v : List α} (hk : k ≤ v.length) {i : Nat} (hi : i < v.length) : (rot k v)[i]? = v[(i + k) % v.length]? := by
  unfold rot
  by_cases h : i < v.length - k
  · rw [List.getElem?_append_left (by rw [List.length_drop]; exact h), List.getElem?_drop, Nat.mod_eq_of_lt (by omega), Nat.add_comm]
  · rw [List.getElem?_append_right (by rw [List.length_drop]; omega), List.length_drop, List.getElem?_take, if_pos (by omega)]
    have e : i + k = (i - (v.length - k)) + v.length := by omega
    rw [e, Nat.add_mod_right, Nat.mod_eq_of_lt (by omega)]
/-- each letter is the one so many places on -/
def Pr (v u : List α) (s : Nat) : Prop := ∀ i, i < v.length → v[(i + s) % v.length]? = u[i]?
theorem rot_eq {k : Nat} {v u : List α} (hk : k ≤ v.length) (hl : u.length = v.length) : rot k v = u ↔ Pr v u k := by
  constructor
  · intro h i hi
    rw [← h, rot_get hk hi]
  · intro h
    apply List.ext_getElem?
    intro i
    by_cases hi : i < v.length
    · rw [rot_get hk hi]; exact h i hi
    · rw [List.getElem?_eq_none (by rw [rot_len]; omega), List.getElem?_eq_none (by omega)]
theorem Pr.zero (v : List α) : Pr v v 0 := fun i hi => by rw [Nat.add_zero, Nat.mod_eq_of_lt hi]
theorem Pr.whole (v : List α) : Pr v v v.length := fun i hi => by rw [Nat.add_mod_right, Nat.mod_eq_of_lt hi]
theorem Pr.add {v u : List α} {s t : Nat} (h : Pr v v s) (g : Pr v u t) : Pr v u (t + s) := fun i hi => by
  have e := h ((i + t) % v.length) (Nat.mod_lt _ (by omega))
  rw [Nat.mod_add_mod] at e
  rw [← Nat.add_assoc, e, g i hi]
theorem Pr.sub {v u : List α} {s t : Nat} (h : Pr v v s) (g : Pr v u (t + s)) : Pr v u t := fun i hi => by
  have e := h ((i + t) % v.length) (Nat.mod_lt _ (by omega))
  rw [Nat.mod_add_mod] at e
  rw [← e, Nat.add_assoc, g i hi]
theorem Pr.mul {v : List α} {s : Nat} (h : Pr v v s) : ∀ q, Pr v v (q * s)
  | 0 => by rw [Nat.zero_mul]; exact Pr.zero v
  | q + 1 => by rw [Nat.succ_mul]; exact h.add (Pr.mul h q)
theorem Pr.mod {v u : List α} {s t : Nat} (h : Pr v v s) (g : Pr v u t) : Pr v u (t % s) := by
  refine Pr.sub (h.mul (t / s)) ?_
  rw [Nat.mul_comm, Nat.mod_add_div]; exact g
theorem Pr.diff {v u : List α} {s t : Nat} (h : Pr v u s) (g : Pr v u (t + s)) : Pr v v t := fun i hi => by
  -- the letters i + t and i are both read by u
  have hv : 0 < v.length := by omega
  -- choose j with j + s ≡ i
  have key : ∃ j, j < v.length ∧ (j + s) % v.length = i := by
    refine ⟨(i + (v.length - s % v.length)) % v.length, Nat.mod_lt _ hv, ?_⟩
    rw [Nat.mod_add_mod]
    have hs := Nat.mod_lt s hv
    have e : i + (v.length - s % v.length) + s = i + v.length * (s / v.length + 1) := by
      have := Nat.mod_add_div s v.length
      rw [Nat.mul_add, Nat.mul_one]
      generalize v.length * (s / v.length) = z at *
      omega
    rw [e, Nat.add_mul_mod_self_left, Nat.mod_eq_of_lt hi]
  obtain ⟨j, hj, ej⟩ := key
  have e1 := h j hj
  have e2 := g j hj
  rw [ej] at e1
  have e3 : (j + (t + s)) % v.length = (i + t) % v.length := by
    rw [show j + (t + s) = (j + s) + t by omega, ← Nat.mod_add_mod, ej]
  rw [e3] at e2
  rw [e2, e1]
instance (v u : List α) (s : Nat) : Decidable (Pr v u s) := by unfold Pr; infer_instance
/-- the length of the root -/
def rho (v : List α) : Nat := ((List.range v.length).find? fun s => decide (Pr v v (s + 1))).elim 0 (· + 1)
theorem rho_nil : rho ([] : List α) = 0 := rfl
theorem find_range {n : Nat} {p : Nat → Bool} {s : Nat} (h : (List.range n).find? p = some s) : s < n ∧ p s = true ∧ ∀ t, t < s → p t = false := by
  have e := List.find?_eq_some_iff_getElem.mp h
  obtain ⟨h1, i, hi, h2, h3⟩ := e
  rw [List.length_range] at hi
  rw [List.getElem_range] at h2
  subst h2
  exact ⟨hi, h1, fun t ht => by have := h3 t ht; rw [List.getElem_range] at this; simpa using this⟩
theorem rho_spec {v : List α} (hv : v ≠ []) : 0 < rho v ∧ rho v ≤ v.length ∧ Pr v v (rho v) ∧ ∀ t, 0 < t → t < rho v → ¬ Pr v v t := by
  have hl : 0 < v.length := List.length_pos_iff.mpr hv
  unfold rho
  cases h : (List.range v.length).find? fun s => decide (Pr v v (s + 1)) with
  | none =>
    have := List.find?_eq_none.mp h (v.length - 1) (List.mem_range.mpr (by omega))
    rw [show v.length - 1 + 1 = v.length by omega] at this
    exact absurd (decide_eq_true (Pr.whole v)) this
  | some s =>
    obtain ⟨h1, h2, h3⟩ := find_range h
    refine ⟨Nat.succ_pos _, h1, of_decide_eq_true h2, fun t t0 t1 => ?_⟩
    have := h3 (t - 1) (by have : t < s + 1 := t1; omega)
    rw [show t - 1 + 1 = t by omega] at this
    exact of_decide_eq_false this
theorem rho_le (v : List α) : rho v ≤ v.length := by
  by_cases h : v = []
  · subst h; exact Nat.le_refl _
  · exact (rho_spec h).2.1
theorem rho_least {v : List α} (hv : v ≠ []) {t : Nat} (t0 : 0 < t) (h : Pr v v t) : rho v ≤ t := by
  obtain ⟨_, _, _, k⟩ := rho_spec hv
  rcases Nat.lt_or_ge t (rho v) with q | q
  · exact absurd h (k t t0 q)
  · exact q
theorem rho_eq {v : List α} (hv : v ≠ []) {s : Nat} (s0 : 0 < s) (h : Pr v v s) (k : ∀ t, 0 < t → t < s → ¬ Pr v v t) : rho v = s := by
  refine Nat.le_antisymm (rho_least hv s0 h) ?_
  obtain ⟨a, _, c, _⟩ := rho_spec hv
  rcases Nat.lt_or_ge (rho v) s with q | q
  · exact absurd c (k _ a q)
  · exact q
theorem rho_dvd {v : List α} (hv : v ≠ []) {t : Nat} (h : Pr v v t) : t % rho v = 0 := by
  obtain ⟨a, _, c, k⟩ := rho_spec hv
  rcases Nat.eq_zero_or_pos (t % rho v) with q | q
  · exact q
  · exact absurd (Pr.mod c h) (k _ q (Nat.mod_lt _ a))
/-- the rounds of a piece -/
theorem rounds_Pr {w : List α} (hw : w ≠ []) (k : Nat) (s : Nat) : Pr (rounds (k + 1) w) (rounds (k + 1) w) s ↔ Pr w w s := by
  have hm : 0 < w.length := List.length_pos_iff.mpr hw
  have hl : (rounds (k + 1) w).length = (k + 1) * w.length := rounds_len _ _
  have get : ∀ i, (rounds (k + 1) w)[i % ((k + 1) * w.length)]? = w[i % w.length]? := fun i => by
    rw [rounds_get _ _ (Nat.mod_lt _ (Nat.mul_pos (Nat.succ_pos _) hm)), Nat.mod_mod_of_dvd _ (Nat.dvd_mul_left _ _)]
  constructor
  · intro h i hi
    have e := h i (by rw [hl, Nat.succ_mul]; omega)
    rw [hl, get] at e
    have e2 := get i
    rw [Nat.mod_eq_of_lt (by rw [Nat.succ_mul]; omega), Nat.mod_eq_of_lt hi] at e2
    rw [e, e2]
  · intro h i hi
    rw [hl] at hi
    rw [hl, get]
    have e2 := get i
    rw [Nat.mod_eq_of_lt hi] at e2
    rw [e2]
    have := h (i % w.length) (Nat.mod_lt _ hm)
    rw [Nat.mod_add_mod] at this
    exact this
theorem rounds_ne {w : List α} (hw : w ≠ []) (k : Nat) : rounds (k + 1) w ≠ [] := by
  intro h
  have := congrArg List.length h
  rw [rounds_len, Nat.succ_mul, List.length_nil] at this
  have := List.length_pos_iff.mpr hw
  omega
theorem rho_rounds {w : List α} (hw : w ≠ []) (k : Nat) : rho (rounds (k + 1) w) = rho w := by
  obtain ⟨a, _, c, d⟩ := rho_spec hw
  exact rho_eq (rounds_ne hw k) a ((rounds_Pr hw k _).mpr c) fun t t0 t1 h => d t t0 t1 ((rounds_Pr hw k _).mp h)
theorem rho_ext {v w : List α} (h : ∀ s, Pr v v s ↔ Pr w w s) (hv : v ≠ []) (hw : w ≠ []) : rho v = rho w := by
  obtain ⟨a, _, c, d⟩ := rho_spec hw
  exact rho_eq hv a ((h _).mpr c) fun t t0 t1 q => d t t0 t1 ((h _).mp q)
/-- a text is the rounds of a beginning of s letters exactly if s divides and it is periodic -/
theorem rounds_iff {v : List α} {s : Nat} (s0 : 0 < s) (hs : s ≤ v.length) : (v.length % s = 0 ∧ rounds (v.length / s) (v.take s) = v) ↔ (v.length % s = 0 ∧ Pr v v s) := by
  have lt : (v.take s).length = s := by rw [List.length_take]; omega
  constructor
  · rintro ⟨h1, h2⟩
    refine ⟨h1, ?_⟩
    have hq : 0 < v.length / s := Nat.div_pos hs s0
    obtain ⟨k, hk⟩ : ∃ k, v.length / s = k + 1 := ⟨v.length / s - 1, by omega⟩
    rw [hk] at h2
    have hw : v.take s ≠ [] := by intro z; rw [z] at lt; simp at lt; omega
    have := (rounds_Pr hw k s).mpr (by have := Pr.whole (v.take s); rw [lt] at this; exact this)
    rw [h2] at this
    exact this
  · rintro ⟨h1, h2⟩
    refine ⟨h1, ?_⟩
    have hd : v.length / s * s = v.length := Nat.div_mul_cancel (Nat.dvd_of_mod_eq_zero h1)
    apply List.ext_getElem?
    intro i
    by_cases hi : i < v.length
    · rw [rounds_get _ _ (by rw [lt, hd]; exact hi), lt, List.getElem?_take, if_pos (Nat.mod_lt _ s0)]
      have e := h2.mul (i / s) (i % s) (Nat.lt_of_lt_of_le (Nat.mod_lt _ s0) hs)
      rw [Nat.mul_comm, Nat.mod_add_div, Nat.mod_eq_of_lt hi] at e
      exact e.symm
    · rw [List.getElem?_eq_none (by rw [rounds_len, lt, hd]; omega), List.getElem?_eq_none (by omega)]
theorem rho_rounds_of {v : List α} (hv : v ≠ []) : v.length % rho v = 0 ∧ rounds (v.length / rho v) (v.take (rho v)) = v := by
  obtain ⟨a, b, c, _⟩ := rho_spec hv
  exact (rounds_iff a b).mpr ⟨rho_dvd hv (Pr.whole v), c⟩
def root (v : List α) : List α := v.take (rho v)
theorem root_nil : root ([] : List α) = [] := rfl
theorem root_len (v : List α) : (root v).length = rho v := by unfold root; rw [List.length_take]; have := rho_le v; omega
theorem root_ne {v : List α} (hv : v ≠ []) : root v ≠ [] := by
  intro h
  have := congrArg List.length h
  rw [root_len] at this
  have := (rho_spec hv).1
  simp at *; omega
theorem root_rounds {w : List α} (hw : w ≠ []) (k : Nat) : root (rounds (k + 1) w) = root w := by
  unfold root
  rw [rho_rounds hw]
  show (w ++ rounds k w).take (rho w) = _
  rw [List.take_append_of_le_length (rho_le w)]
theorem root_of {v : List α} (hv : v ≠ []) : ∃ k, v = rounds (k + 1) (root v) := by
  obtain ⟨h1, h2⟩ := rho_rounds_of hv
  have hq : 0 < v.length / rho v := Nat.div_pos (rho_le v) (rho_spec hv).1
  exact ⟨v.length / rho v - 1, by rw [show v.length / rho v - 1 + 1 = v.length / rho v by omega]; exact h2.symm⟩
theorem rounds_addR (v : List α) (n : Nat) : ∀ k, rounds (k + n) v = rounds k v ++ rounds n v
  | 0 => by rw [Nat.zero_add]; rfl
  | k + 1 => by
    rw [Nat.add_right_comm]
    show v ++ rounds (k + n) v = (v ++ rounds k v) ++ rounds n v
    rw [rounds_addR v n k, List.append_assoc]
/-- texts that commute are rounds of one text -/
theorem commute {N : Nat} : ∀ {x y : List α}, x.length + y.length ≤ N → x ≠ [] → y ≠ [] → x ++ y = y ++ x → ∃ z a b, z ≠ [] ∧ x = rounds (a + 1) z ∧ y = rounds (b + 1) z := by
  induction N with
  | zero => intro x y h hx _ _; exact absurd (List.length_eq_zero_iff.mp (by omega)) hx
  | succ N ih =>
    intro x y h hx hy e
    have px := List.length_pos_iff.mpr hx
    have py := List.length_pos_iff.mpr hy
    have one : ∀ {x y : List α}, x.length + y.length ≤ N + 1 → x ≠ [] → y ≠ [] → x ++ y = y ++ x → x.length < y.length → ∃ z a b, z ≠ [] ∧ x = rounds (a + 1) z ∧ y = rounds (b + 1) z := by
      intro x y h hx hy e l
      have px := List.length_pos_iff.mpr hx
      have hp : y = x ++ y.drop x.length := by
        have := congrArg (List.take x.length) e
        rw [List.take_left', List.take_append_of_le_length (by omega)] at this
        · conv => lhs; rw [← List.take_append_drop x.length y]
          rw [← this]
        · rfl
      generalize hy' : y.drop x.length = y' at hp
      have ly : y'.length = y.length - x.length := by rw [← hy', List.length_drop]
      rw [hp] at e
      have e2 : x ++ y' = y' ++ x := by
        rw [List.append_assoc] at e
        exact List.append_cancel_left e
      have hy2 : y' ≠ [] := by intro z; rw [z] at ly; simp at ly; omega
      obtain ⟨z, a, b, hz, e3, e4⟩ := ih (by omega) hx hy2 e2
      refine ⟨z, a, a + 1 + b, hz, e3, ?_⟩
      rw [hp, show a + 1 + b + 1 = (a + 1) + (b + 1) by omega, rounds_addR, ← e3, ← e4]
    rcases Nat.lt_trichotomy x.length y.length with l | l | l
    · exact one h hx hy e l
    · have : x = y := by
        have := congrArg (List.take x.length) e
        rw [List.take_left' rfl, List.take_left' l.symm] at this
        exact this
      subst this
      exact ⟨x, 0, 0, hx, by simp [rounds], by simp [rounds]⟩
    · obtain ⟨z, a, b, hz, e1, e2⟩ := one (by omega) hy hx e.symm l
      exact ⟨z, b, a, hz, e2, e1⟩
theorem root_commute {x y : List α} (hx : x ≠ []) (hy : y ≠ []) : root x = root y ↔ x ++ y = y ++ x := by
  constructor
  · intro h
    obtain ⟨a, ea⟩ := root_of hx
    obtain ⟨b, eb⟩ := root_of hy
    rw [← h] at eb
    rw [ea, eb, ← rounds_addR, ← rounds_addR, Nat.add_comm]
  · intro h
    obtain ⟨z, a, b, hz, e1, e2⟩ := commute (Nat.le_refl _) hx hy h
    rw [e1, e2, root_rounds hz, root_rounds hz]
end
end Lev

set_option Elab.async false
set_option linter.all false
set_option maxRecDepth 100000
set_option maxHeartbeats 2000000
/-! An own error class over another own class over Exception, whose __init__ keeps its one argument: raised, caught, its attribute read. -/
namespace ErrX
open PySem PySem.W PySem.Calls PyProof.Rows PySem.HandSPX Builtin Builtin.ObjectAttr
abbrev tailE : List Value := [.type "Exception", .type "BaseException", .type "object"]
/-! ### the text of such an __init__ -/
def iA (p1 p2 : Pos) : Arguments := { posonlyargs := [], args := [{ arg := "self", annotation := none, pos := p1 }, { arg := "given", annotation := none, pos := p2 }], vararg := none, kwonlyargs := [], kw_defaults := [], kwarg := none, defaults := [] }
def iB (q1 q2 q3 q4 : Pos) : List Stmt := [.Assign [.Attribute (.Name "self" q1) "given" q2] (.Name "given" q3) q4]
def iS : Scope := { kind := .function, names := [(PySem.Str.ofString "self", .local), (PySem.Str.ofString "given", .local)], isGenerator := false, isCoroutine := false, more := [] }
/-- what the written part says of the class cn, at C, and of its __init__, at fI -/
structure ETxt (K : Frag) (mg : Str → Option Value) (cn qi : Str) (C fI : Addr) : Prop where
  gC : mg cn = some (.ref C)
  cls : ∃ nm q N bs bm sn sub ab col dd k0 k1 k2 k3 k5, K.lookup C = some (excClassObj nm q C N bs bm true sn sub ab col dd k0 k1 k2 k3 k5 "Exception.__new__") ∧ excTail tailE bm = true
  ov : excOver K C tailE = true
  tk : takerIn K C "given" = some none
  sa : findIn K (.ref C) "__setattr__" = some (some (.builtin "object.__setattr__"))
  ga : findIn K (.ref C) "__getattribute__" = some (some (.builtin "BaseException.__getattribute__"))
  gg : findIn K (.ref C) "__getattr__" = some none
  noN : findIn K (.ref C) "given" = some none
  iC : findIn K (.ref C) "__init__" = some (some (.ref fI))
  tC : typeIn K (.ref fI) = some (.type "function")
  kC : keepIn K (.ref C) = true
  exC : subIn K (.ref C) (.type "BaseException") = some true
  tyC : typeIn K (.ref C) = some (.type "type")
  hdC : hasDictIn K C = true
  fn : ∃ (oc : Value) (od : Option Addr) (doc pm : Value) (an : Option Addr) (cdv ct : Value) (osl : Array (Option Value)) (p1 p2 q1 q2 q3 q4 : Pos),
    K.lookup fI = some ⟨oc, od, .func (fnOf "__init__" qi (iA p1 p2) (iB q1 q2 q3 q4) iS .none .none doc pm an cdv ct), osl⟩ ∧ codeIn K cdv qi = true
theorem one_fits (v : Value) : [v].length ≤ sizeLine := by
  rw [sizeLine_eq]
  exact (by decide : 1 ≤ 16777216)
/-- what __init__ leaves of a fresh error at x -/
structure EndE (h h' : Heap) (x C dx t1 : Addr) (fl : Str) (v : Value) : Prop where
  keep : ∀ b o, b ≠ x → h.get? b = some o → h'.get? b = some o
  obj : h'.get? x = some (excObj C t1 (some dx) .none)
  dbig : h.objs.size ≤ dx
  dne : dx ≠ x
  ns : h'.Ns1 dx (fun y => if y = fl then some v else none)
structure MadeE (h h' : Heap) (e C d : Addr) (fl : Str) (v : Value) : Prop where
  keep : ∀ b o, h.get? b = some o → h'.get? b = some o
  new : h.objs.size ≤ e
  obj : ∃ t, h'.get? e = some (excObj C t (some d) .none)
  dbig : h.objs.size ≤ d
  dne : d ≠ e
  ns : h'.Ns1 d (fun y => if y = fl then some v else none)
section
variable {prog : Program} {w : World} {A : Around} {E : Value → Shared → Prop} {R : Result → Shared → Prop} {s : Shared} {K : Frag} {mg : Str → Option Value} {C fI : Addr} {cn qi : Str}
/-- the first store into a fresh error -/
theorem store_new {name : Str} {tk : Tok} {v : Value} {x t0 : Addr} (X : K.In s.heap) (hx : s.heap.get? x = some (excObj C t0 none .none)) (ho : excOver K C tailE = true) (ht : takerIn K C name = some none) (hh : hasDictIn K C = true)
    (hq : ∀ h' tk' dx, EndE s.heap h' x C dx t0 name v → R (.ok (.ret .none)) { s with heap := h', toks := tk' }) :
    codeAny (model prog w) A (.call (.builtin "object.__setattr__") ⟨[.ref x, .str name tk, v], []⟩) R s := by
  refine osa_openX (od := none) F.store_Exception X ⟨hx, rfl, rfl, trivial⟩ ho ht fun b => ?_
  obtain ⟨cd, hc, hd'⟩ := any_some hh
  have hxs : x ≠ s.heap.objs.size := Nat.ne_of_lt (Heap.lt_size hx)
  have hx1 : (s.heap.push { cls := .type "dict", data := .dict #[] }).get? x = some (excObj C t0 none .none) := Heap.get?_push_of_some _ hx
  refine wpAny_bind (wpAny_pure (wpAny_bind (instanceDict_exc hx (looks_clsIn X hc) hd' ?_)))
  show wpAny _ _ (storeInDict s.heap.objs.size (.str name tk) name v) _ _ _
  obtain ⟨hp, g, dr, t, os⟩ := s
  refine store_in_new ?_ ?_
  · exact ⟨_, #[], _, (Heap.get?_update_ne _ _ _ _ hxs.symm).trans (Heap.get?_push_at rfl rfl), rfl, fun e he => absurd he (by simp), fun _ => rfl⟩
  · intro h' tk' hn' hs
    refine hq h' tk' hp.objs.size ⟨fun b o hb ho => ?_, ?_, Nat.le_refl _, hxs.symm, hn'⟩
    · exact (hs.2 b (Nat.ne_of_lt (Heap.lt_size ho))).trans ((Heap.get?_update_ne _ _ _ _ hb).trans (Heap.get?_push_of_some _ ho))
    · exact (hs.2 x hxs).trans (Heap.get?_update_self _ hx1 rfl)
theorem ldC {M : Model} {s : Shared} {name : Str} {scope : Scope} {L a : Addr} {cd : Value} {m : Str → Option Value} {x : Str} {pos : Pos} {v : Value} {Q : Value → Shared → Prop} {A : Around} {E : Value → Shared → Prop} (hn : s.heap.Ns L m) (hv : m x = some v) (h : Q v s)
    (hk : scope.kind = .function := by rfl) (hl : (envOfC name scope L a cd).kindOf x = some .local := by rfl) (hd : (x == ("__debug__" : Str)) = false := by decide) :
    wpAny M A (eval (.Name x pos) (envOfC name scope L a cd)) Q E s := wpAny_Name (wpAny_loadName_local hk hl hn hv h) hd
theorem init_ok (T : ETxt K mg cn qi C fI) {x t0 : Addr} {v : Value} (X : K.In s.heap) (hlim : s.heap.NoLimit) (hx : s.heap.get? x = some (excObj C t0 none .none)) (hroom : A.depth < recursionLimit)
    (hq : ∀ h' tk dx, EndE s.heap h' x C dx t0 "given" v → R (.ok (.ret .none)) { s with heap := h', toks := tk }) :
    codeAny (model prog w) A (.call (.ref fI) ⟨[.ref x, v], []⟩) R s := by
  obtain ⟨oc, od, doc, pm, an, cdv, ct, osl, p1, p2, q1, q2, q3, q4, ho, hcd⟩ := T.fn
  refine Att.call_fn (binds := [("self", .ref x), ("given", v)]) X hlim ho hcd hroom (BindsTo.of_eq (by first | rfl | with_unfolding_all rfl)) (by first | rfl | decide | with_unfolding_all rfl) (fun s1 IC => ?_) rfl rfl rfl
  obtain ⟨h1, tk1, rfl⟩ := IC.toInCall.same
  have k : ∀ b o, s.heap.get? b = some o → h1.get? b = some o := IC.toInCall.keep
  have hn := IC.toInCall.ns
  have X1 : K.In h1 := X.keeps k
  have hx1 := k _ _ hx
  show wpAny _ _ (execs _ _) _ _ _
  refine wpAny_execs_cons (plainObj_wpAny_Assign_Attribute ?_)
  refine ldC (v := v) hn (by first | rfl | with_unfolding_all rfl | kernel_rfl) (ldC (v := .ref x) hn (by first | rfl | with_unfolding_all rfl | kernel_rfl) ?_)
  refine set_plain X1 (ox := excObj C t0 none .none) (od := none) ⟨hx1, rfl, rfl, trivial⟩ T.sa ?_
  refine store_new X1 hx1 T.ov T.tk T.hdC fun h3 tk3 dx M => ?_
  show wpAny _ _ (execs _ _) _ _ _
  have z : s.heap.objs.size < h1.objs.size := hn.lt
  exact wpAny_execs_nil (hq h3 tk3 dx ⟨fun b o hb e => M.keep b o hb (k b o e), M.obj, Nat.le_of_lt (Nat.lt_of_lt_of_le z M.dbig), M.dne, M.ns⟩)
theorem made_ok (T : ETxt K mg cn qi C fI) {v : Value} (X : K.In s.heap) (hlim : s.heap.NoLimit) (hroom : A.depth + 1 < recursionLimit)
    (hq : ∀ h' tk e d, MadeE s.heap h' e C d "given" v → R (.ok (.ret (.ref e))) { s with heap := h', toks := tk }) :
    codeAny (model prog w) A (.call (.ref C) ⟨[v], []⟩) R s := by
  obtain ⟨nm, q, N, bs, bm, sn, sub, ab, col, dd, k0, k1, k2, k3, k5, hC, hbm⟩ := T.cls
  obtain ⟨hp, g, dr, tk, os⟩ := s
  have k : ∀ b o, hp.get? b = some o → ((hp.push (kdv_tup [v])).push (excO C hp.objs.size)).get? b = some o := fun b o e => Heap.get?_push_of_some _ (Heap.get?_push_of_some _ e)
  have hget : ((hp.push (kdv_tup [v])).push (excO C hp.objs.size)).get? (hp.objs.size + 1) = some (excO C hp.objs.size) := by heap_get
  refine call_own F.excBase_Exception (fun X => excTail_contains X bm hbm) (X _ _ hC) (looks_findIn X T.iC) (fun self => bind_fn X self T.tC) (one_fits v) ?_
  refine init_ok (s := ⟨(hp.push (kdv_tup [v])).push (excO C hp.objs.size), g, dr, tk, os⟩) T (X.keeps k) (hlim.keeps k) hget ?_ fun h' tk' dx M => ?_
  · show A.depth + 1 < recursionLimit
    exact hroom
  · have old : ∀ b o, hp.get? b = some o → h'.get? b = some o := fun b o e => M.keep b o (Nat.ne_of_lt (Nat.lt_succ_of_lt (Heap.lt_size e))) (k b o e)
    have z : hp.objs.size + 1 + 1 ≤ dx := by
      have q := M.dbig
      first
        | exact q
        | (rw [Heap.size_push, Heap.size_push] at q; exact q)
        | (simpa only [Heap.size_push] using q)
    exact ⟨rfl, hq h' tk' (hp.objs.size + 1) dx ⟨old, Nat.le_succ _, ⟨_, M.obj⟩, Nat.le_trans (Nat.le_trans (Nat.le_succ _) (Nat.le_succ _)) z, M.dne, M.ns⟩⟩
end
end ErrX
namespace L2
open PySem PySem.Spec PyProof.Rows
/-- the own dict of an error that keeps v -/
abbrev gvn (v : V) : List (Str × V) := [(("given" : Str), v)]
theorem relO_gvn {v : V} {v' : Value} (r : RelV v v') (f : Str) : RelO (List.lookup f (gvn v)) (if f = "given" then some v' else none) := by
  have e := lookup_put "given" f v []
  show RelO (List.lookup f [(("given" : Str), v)]) _
  rw [e]
  by_cases h : f = "given"
  · rw [if_pos h, if_pos h]; exact r
  · rw [if_neg h, if_neg h]; trivial
section
variable {X : Cx} {C fI : Addr} {cn qi : Str}
/-- C(e) -/
def tMkE (C : Addr) (ta : TA) : St → Hp → XK → Prop := fun σ H Q => ta σ H fun vs H1 => ∃ v, vs = [v] ∧ ∀ d, H1 d = none → Q (.ref C) (some d) (upd H1 d (.xd (gvn v)))
theorem pmk_err {a : Expr} {ta : TA} {p pos : Pos} {k : Nat} (T : ErrX.ETxt X.K X.mg cn qi C fI) (hr : Room k X.A) (ha : PA X [a] ta) (hg : Gl X cn) (hdb : (cn == ("__debug__" : Str)) = false)
    (he : starEach (a :: []) X.env = (false, eval a X.env) :: starEach [] X.env := by rfl) (hpl : (backTo pos (starEach [] X.env)).any (·.1) = false := by rfl) :
    PMk X (.Call (.Name cn p) [a] [] pos) (tMkE C ta) := by
  intro pins s σ H Q I h
  refine wpAny_Call_Name_kw (ld_glob I hg T.gC ?_ hdb)
  refine PySem.W.callWith_K (h₀ := X.base) I.ok.mod.kin T.kC (thn (ha.run pos pins s σ H _ I h) fun us s1 hh => ?_) he hpl
  obtain ⟨vs, H1, I1, r1, v, ev, q1⟩ := hh
  subst ev
  refine ⟨I1.kIn, ?_⟩
  cases r1 with
  | cons rv rn =>
    rename_i v' us'
    cases rn
    show wpAny _ _ (call (.ref C) [v']) _ _ _
    have hlim := I1.nolimit
    obtain ⟨hp, g, dr, tk, os⟩ := s1
    refine wpAny_call (ErrX.made_ok T I1.kIn hlim (by have := hr.dp; omega) fun h' tk' e d M => ?_)
    show MkP X pins σ Q (.ref e) ⟨h', g, dr, tk', os⟩
    obtain ⟨t, hoe⟩ := M.obj
    have hns := M.ns
    obtain ⟨G', g1, g2⟩ := restrict h' fun b => decide (b ≠ e)
    have gk : ∀ b, b ≠ e → G'.get? b = h'.get? b := fun b hb => g1 b (decide_eq_true hb)
    have ge : G'.get? e = none := g2 e (by simp)
    have old : ∀ b o, hp.get? b = some o → G'.get? b = some o := fun b o q => (gk b (Nat.ne_of_lt (Nat.lt_of_lt_of_le (Heap.lt_size q) M.new))).trans (M.keep b o q)
    have ob : ObjOk X.prog X.w (upd H1 d (.xd (gvn v))) G' d (.xd (gvn v)) :=
      ⟨_, hns.at (fun o q => (gk d M.dne).trans q), fun f => relO_gvn rv f⟩
    have J : Inv X pins σ (upd H1 d (.xd (gvn v))) ⟨G', g, dr, tk', os⟩ := I1.laid (t' := tk') old M.dbig ob
    refine ⟨e, _, _, ⟨G', g, dr, tk', os⟩, _, .ref C, some d, rfl, J, fun b o q => ?_, ge, hoe, ⟨rfl, rfl⟩, rfl, rfl, ?_, rfl, I1.bare, raises_own T.exC T.tyC, q1 d (I1.hok.fresh M.dbig)⟩
    · by_cases hb : b = e
      · have q' : G'.get? b = some o := q
        rw [hb, ge] at q'; cases q'
      · exact (gk b hb).symm.trans q
    · rw [upd_ne (Ne.symm M.dne)]
      exact I1.hok.fresh M.new
/-- raise C(e) -/
def tRaiseE (C : Addr) (W : WX) (ta : TA) : TS := fun _ σ H => tMkE C ta σ H fun cls d H' => W cls d σ H'
theorem ps_raiseE {a : Expr} {ta : TA} {W : WX} {p pos pos2 : Pos} {k : Nat} (hc : X.calm = true) (T : ErrX.ETxt X.K X.mg cn qi C fI) (hr : Room k X.A) (tk : Takes X W) (ha : PA X [a] ta) (hg : Gl X cn := by rfl) (hdb : (cn == ("__debug__" : Str)) = false := by decide)
    (he : starEach (a :: []) X.env = (false, eval a X.env) :: starEach [] X.env := by rfl) (hpl : (backTo pos (starEach [] X.env)).any (·.1) = false := by rfl) :
    PS X (.Raise (some (.Call (.Name cn p) [a] [] pos)) none pos2) (tRaiseE C W ta) := ps_raise hc tk (pmk_err T hr ha hg hdb he hpl)
/-- e.given, e the error that the suite holds (at a; its class cls, its dict d) -/
def tGvn (C : Addr) (a : Addr) (cls : Value) (d : Option Addr) (te : TE) : TE := fun σ H Q => te σ H fun x H1 => x = .ref a ∧ cls = .ref C ∧ ∃ (dd : Addr) (v : V), d = some dd ∧ H1 dd = some (.xd (gvn v)) ∧ Q v H1
theorem pe_gvn {a : Addr} {oe : Obj} {cls : Value} {d : Option Addr} {pn : List (Addr × Obj)} {e : Expr} {te : TE} {pos : Pos} (T : ErrX.ETxt X.K X.mg cn qi C fI) (hz : Zc cls d oe) (hf : ∃ vs, oe.data = .fields vs) (he : PE (X.suite a ((a, oe) :: pn)) e te)
    (hb : attributeBase e "given" X.env (eval e X.env) = eval e X.env := by rfl) :
    PE (X.suite a ((a, oe) :: pn)) (.Attribute e "given" pos) (tGvn C a cls d te) := by
  refine ⟨fun pins s σ H Q I h => ?_⟩
  refine attr_of hb (thn (he.run pins s σ H _ I h) fun u s1 hh => ?_)
  obtain ⟨x, H1, I1, rx, ex, ec, dd, v, ed, ea, q⟩ := hh
  subst ex
  obtain rfl : u = Value.ref a := rx
  subst ec
  subst ed
  obtain ⟨ha, _⟩ := I1.pin (a, oe) (List.mem_append_left _ List.mem_cons_self)
  obtain ⟨vs, hd⟩ := hf
  have hx : ObjOk X.prog X.w H1 s1.heap dd (.xd (gvn v)) := I1.hok dd _ ea
  obtain ⟨mA, hns, hr⟩ := hx
  obtain ⟨od, ho, hl⟩ := lookIn_ns hns
  have l : List.lookup ("given" : Str) (gvn v) = some v := by
    show List.lookup ("given" : Str) [(("given" : Str), v)] = some v
    rw [lookup_put, if_pos rfl]
  obtain ⟨u, hu, ru⟩ := RelO.some_of (v := v) (o := mA "given") (by rw [← l]; exact hr "given")
  have J : PySem.W.InstAt s1.heap a oe C (some od) := ⟨ha, hz.1, by unfold PySem.W.notCls; rw [hd] <;> rfl, by rw [hz.2]; exact ho⟩
  exact HandSPX.exc_get I1.kIn J T.ga T.gg T.exC (PySem.W.findObj_own T.hdC T.noN rfl (by rw [hl, hu])) (handed_of ru) ⟨v, H1, I1.tok _, ru, q⟩
end
end L2

set_option Elab.async false
set_option linter.all false
set_option maxRecDepth 100000
set_option maxHeartbeats 2000000
/-! Further rules over the hand layer: texts by their codes, three numbers' max and min, repr of data. -/
namespace L2
open PySem PySem.Spec PyProof.Rows
/-! ### texts by their codes -/
abbrev cs (x : Str) : List Nat := x.cps.toList
def S (l : List Nat) : Str := ⟨l.toArray⟩
theorem S_tl (l : List Nat) : cs (S l) = l := by simp [S, cs]
theorem S_of (z : Str) : S (cs z) = z := by obtain ⟨⟨l⟩⟩ := z; rfl
theorem S_len (l : List Nat) : (S l).length = l.length := by simp [S, Str.length]
theorem S_inj {l m : List Nat} (h : S l = S m) : l = m := by have := congrArg cs h; rwa [S_tl, S_tl] at this
theorem S_app (l m : List Nat) : S l ++ S m = S (l ++ m) := by
  show (⟨l.toArray ++ m.toArray⟩ : Str) = ⟨(l ++ m).toArray⟩
  simp
theorem S_eqV (l m : List Nat) : decide (V.str (S l) = V.str (S m)) = decide (l = m) := by
  by_cases h : l = m
  · subst h; simp
  · rw [decide_eq_false h, decide_eq_false]
    intro e; exact h (S_inj (V.str.inj e))
theorem sIx_some (n d i : Nat) : HT.sIx n d (some ((i : Nat) : Int)) = min i n := HT.sIx_nat n d i
theorem cut_from (l : List Nat) (i : Nat) : cutS (S l) (some (i : Int)) none = S (l.drop i) := by
  show S (((cs (S l)).drop (HT.sIx (S l).length 0 (some (i : Int)))).take (HT.sIx (S l).length (S l).length none - HT.sIx (S l).length 0 (some (i : Int)))) = _
  rw [S_tl, S_len, sIx_some, HT.sIx_none]
  congr 1
  rcases Nat.le_total i l.length with h | h
  · rw [Nat.min_eq_left h, List.take_of_length_le (by rw [List.length_drop]; omega)]
  · rw [Nat.min_eq_right h, Nat.sub_self, List.take_zero, List.drop_of_length_le h]
theorem cut_to (l : List Nat) (i : Nat) : cutS (S l) none (some (i : Int)) = S (l.take i) := by
  show S (((cs (S l)).drop (HT.sIx (S l).length 0 none)).take (HT.sIx (S l).length (S l).length (some (i : Int)) - HT.sIx (S l).length 0 none)) = _
  rw [S_tl, S_len, sIx_some, HT.sIx_none, List.drop_zero, Nat.sub_zero]
  congr 1
  rcases Nat.le_total i l.length with h | h
  · rw [Nat.min_eq_left h]
  · rw [Nat.min_eq_right h, List.take_of_length_le h, List.take_of_length_le (Nat.le_refl _)]
theorem cut_mid (l : List Nat) (i j : Nat) : cutS (S l) (some (i : Int)) (some (j : Int)) = S ((l.drop i).take (j - i)) := by
  show S (((cs (S l)).drop (HT.sIx (S l).length 0 (some (i : Int)))).take (HT.sIx (S l).length (S l).length (some (j : Int)) - HT.sIx (S l).length 0 (some (i : Int)))) = _
  rw [S_tl, S_len, sIx_some, sIx_some]
  congr 1
  rcases Nat.le_total i l.length with h | h
  · rw [Nat.min_eq_left h]
    rcases Nat.le_total j l.length with h2 | h2
    · rw [Nat.min_eq_left h2]
    · rw [Nat.min_eq_right h2, List.take_of_length_le (by rw [List.length_drop]; omega), List.take_of_length_le (by rw [List.length_drop]; omega)]
  · rw [Nat.min_eq_right h, List.drop_of_length_le h, List.drop_of_length_le (Nat.le_refl _)]
    simp
theorem atI_S {l : List Nat} {i : Nat} {c : Nat} (h : l[i]? = some c) : atI (S l).cps.toList (i : Int) = some c := by
  show atI (cs (S l)) (i : Int) = some c
  rw [S_tl]
  exact atI_nat h
/-! ### what a text is -/
def low (c : Nat) : Bool := decide (97 ≤ c) && decide (c ≤ 122)
theorem ascii_facts : ∀ c : Fin 128, Unicode.isAlpha c.val = (low c.val || (decide (65 ≤ c.val) && decide (c.val ≤ 90))) ∧ Unicode.isLower c.val = low c.val ∧ (Unicode.isUpper c.val || Unicode.isTitle c.val) = (decide (65 ≤ c.val) && decide (c.val ≤ 90)) := by
  decide +kernel
theorem istext_eq (z : Str) : (decide (V.str z = V.str (Str.ofString "")) || (Txt.isascii z && Txt.isalpha z && Txt.islower z)) = (cs z).all low := by
  obtain ⟨⟨l⟩⟩ := z
  have e0 : (V.str (⟨⟨l⟩⟩ : Str) = V.str (Str.ofString "")) ↔ l = [] := by
    constructor
    · intro h
      have h2 := congrArg cs (V.str.inj h)
      exact h2
    · intro h; subst h; rfl
  show (decide _ || ((l.toArray.all (· < 128)) && (decide (l.toArray.size > 0) && l.toArray.all Unicode.isAlpha) && (l.toArray.any Unicode.isLower && !l.toArray.any fun c => Unicode.isUpper c || Unicode.isTitle c))) = l.all low
  have ea : ∀ p : Nat → Bool, (l.toArray).all p = l.all p := fun p => by rw [← Array.all_toList]
  have eb : ∀ p : Nat → Bool, (l.toArray).any p = l.any p := fun p => by rw [← Array.any_toList]
  have ec : (⟨l⟩ : Array Nat) = l.toArray := rfl
  simp only [ea, eb]
  simp only [List.size_toArray]
  clear ea eb ec
  cases l with
  | nil => rw [decide_eq_true (e0.mpr rfl)]; rfl
  | cons a r =>
    rw [decide_eq_false (fun h => by cases e0.mp h), Bool.false_or]
    generalize hl : a :: r = l
    have hne : l ≠ [] := by rw [← hl]; simp
    have F : ∀ c ∈ l, c < 128 → Unicode.isAlpha c = (low c || (decide (65 ≤ c) && decide (c ≤ 90))) ∧ Unicode.isLower c = low c ∧ (Unicode.isUpper c || Unicode.isTitle c) = (decide (65 ≤ c) && decide (c ≤ 90)) := fun c _ hc => ascii_facts ⟨c, hc⟩
    rw [Bool.eq_iff_iff]
    simp only [Bool.and_eq_true, List.all_eq_true, List.any_eq_true, Bool.not_eq_true', List.any_eq_false, decide_eq_true_eq]
    constructor
    · rintro ⟨⟨h1, _, h2⟩, _, h3⟩ c hc
      obtain ⟨f1, f2, f3⟩ := F c hc (h1 c hc)
      have q2 := h2 c hc
      have q3 := h3 c hc
      rw [f1] at q2
      rw [f3] at q3
      simp only [Bool.or_eq_true] at q2
      rcases q2 with q2 | q2
      · exact q2
      · exact absurd q2 q3
    · intro h
      have hb : ∀ c ∈ l, c < 128 := fun c hc => by
        have := h c hc
        unfold low at this
        simp only [Bool.and_eq_true, decide_eq_true_eq] at this
        omega
      refine ⟨⟨hb, by rw [← hl]; simp, fun c hc => ?_⟩, ?_, fun c hc => ?_⟩
      · rw [(F c hc (hb c hc)).1, h c hc, Bool.true_or]
      · obtain ⟨c, hc⟩ := List.exists_mem_of_ne_nil l hne
        exact ⟨c, hc, by rw [(F c hc (hb c hc)).2.1]; exact h c hc⟩
      · rw [(F c hc (hb c hc)).2.2]
        have := h c hc
        unfold low at this
        simp only [Bool.and_eq_true, decide_eq_true_eq] at this
        simp; omega
/-! ### calls -/
theorem nuMax3_int (i j k : Int) : nuMax3 (.int i) (.int j) (.int k) = some (.int (max (max i j) k)) := by
  have h2 : ∀ a b : Int, nuMax2 (.int a) (.int b) = some (.int (max a b)) := fun a b => by
    show Option.map (fun c => if c = true then V.int b else V.int a) (some (decide (a < b))) = some (V.int (max a b))
    by_cases h : a < b
    · rw [decide_eq_true h]; simp; omega
    · rw [decide_eq_false h]; simp; omega
  unfold nuMax3
  rw [h2]
  exact h2 _ _
theorem nuMin3_int (i j k : Int) : nuMin3 (.int i) (.int j) (.int k) = some (.int (min (min i j) k)) := by
  have h2 : ∀ a b : Int, nuMin2 (.int a) (.int b) = some (.int (min a b)) := fun a b => by
    show Option.map (fun c => if c = true then V.int b else V.int a) (some (decide (b < a))) = some (V.int (min a b))
    by_cases h : b < a
    · rw [decide_eq_true h]; simp; omega
    · rw [decide_eq_false h]; simp; omega
  unfold nuMin3
  rw [h2]
  exact h2 _ _
def rMax3 : List V → Hp → VK → Prop := fun xs H Q => ∃ i j k, xs = [.int i, .int j, .int k] ∧ Q (.int (max (max i j) k)) H
def rMin3 : List V → Hp → VK → Prop := fun xs H Q => ∃ i j k, xs = [.int i, .int j, .int k] ∧ Q (.int (min (min i j) k)) H
theorem call_max3 {X : Cx} (hc : X.calm = true) : CallR X (.builtin "max") rMax3 := fun pins s σ H xs us Q I r h => by
  obtain ⟨i, j, k, rfl, q⟩ := h
  exact call_max3Nu hc pins s σ H _ us Q I r ⟨_, _, _, _, rfl, nuMax3_int i j k, q⟩
theorem call_min3 {X : Cx} (hc : X.calm = true) : CallR X (.builtin "min") rMin3 := fun pins s σ H xs us Q I r h => by
  obtain ⟨i, j, k, rfl, q⟩ := h
  exact call_min3Nu hc pins s σ H _ us Q I r ⟨_, _, _, _, rfl, nuMin3_int i j k, q⟩
/-! ### repr of data: Dp, and an empty dict -/
def Dr (K : PySem.W.Frag) (H : Hp) (x : V) (d : PyData) : Prop := Dp K H x d ∨ ∃ a, x = .ref a ∧ H a = some (.dK []) ∧ d = .dict []
def rRepr (K : PySem.W.Frag) : List V → Hp → VK → Prop := fun xs H Q => ∃ x d, xs = [x] ∧ Dr K H x d ∧ d.showable = true ∧ d.depth ≤ 60 ∧ d.shown.length ≤ sizeLine ∧ Q (.str d.shown) H
theorem hasDict_dp {K : PySem.W.Frag} {H : Hp} : (∀ {x d}, Dp K H x d → d.hasDict = false) ∧ (∀ {xs ds}, DpAll K H xs ds → PyData.hasDictAll ds = false) := by
  constructor
  · intro x d h
    exact Dp.rec (motive_1 := fun _ d _ => d.hasDict = false) (motive_2 := fun _ ds _ => PyData.hasDictAll ds = false) rfl (fun _ => rfl) (fun _ => rfl) (fun _ => rfl)
      (fun _ _ ih => by unfold PyData.hasDict; exact ih) (fun _ _ ih => by unfold PyData.hasDict; exact ih) rfl (fun _ _ i1 i2 => by unfold PyData.hasDictAll; rw [i1, i2]; rfl) h
  · intro x d h
    exact DpAll.rec (motive_1 := fun _ d _ => d.hasDict = false) (motive_2 := fun _ ds _ => PyData.hasDictAll ds = false) rfl (fun _ => rfl) (fun _ => rfl) (fun _ => rfl)
      (fun _ _ ih => by unfold PyData.hasDict; exact ih) (fun _ _ ih => by unfold PyData.hasDict; exact ih) rfl (fun _ _ i1 i2 => by unfold PyData.hasDictAll; rw [i1, i2]; rfl) h
end L2
namespace L2
open PySem PySem.Spec PyProof.Rows
section
variable {X : Cx}
theorem call_repr (hc : X.A.guards = some []) (hu : X.A.units + 64 < cLine) : CallR X (.builtin "repr") (rRepr X.K) := by
  intro pins s σ H xs us Q I r h
  obtain ⟨x, d, rfl, hd, hs, hdp, hz, q⟩ := h
  cases r with
  | cons r1 rn =>
    rename_i u us'
    cases rn
    rcases hd with hd | ⟨a, rfl, ha, rfl⟩
    · obtain ⟨as, rd⟩ := Dp.reads I d x u hd r1
      cases hd with
      | non => cases rd; exact P.repr_of_none ⟨.str _, H, I.tok _, ⟨_, rfl⟩, q⟩
      | bl b => cases rd; exact P.repr_of_bool ⟨.str _, H, I.tok _, ⟨_, rfl⟩, q⟩
      | int i =>
        cases rd
        have hi : i.natAbs.log2 < 1920 := of_decide_eq_true hs
        exact P.repr_of_int hi ⟨.str _, H, I.tok _, ⟨_, rfl⟩, q⟩
      | str z => cases rd; exact P.repr_of_str ⟨.str _, H, I.tok _, ⟨_, rfl⟩, q⟩ hz
      | lst h1 h2 =>
        obtain rfl : u = Value.ref _ := r1
        have hh : PyData.hasDict _ = false := hasDict_dp.1 (Dp.lst h1 h2)
        exact repr_of_reads' rd hs (fun e => by rw [hh] at e; cases e) hc (by omega) (fun _ _ e => e) (fun h' u tk k => ⟨.str _, H, I.kept k, ⟨_, rfl⟩, q⟩) hz
      | tup h1 h2 =>
        obtain rfl : u = Value.ref _ := r1
        have hh : PyData.hasDict _ = false := hasDict_dp.1 (Dp.tup h1 h2)
        exact repr_of_reads' rd hs (fun e => by rw [hh] at e; cases e) hc (by omega) (fun _ _ e => e) (fun h' u tk k => ⟨.str _, H, I.kept k, ⟨_, rfl⟩, q⟩) hz
    · obtain rfl : u = Value.ref a := r1
      obtain ⟨_, hsys, vs, hkv, od, es, ep, hget, hcl, hdat, hko, hps, _⟩ : ObjOk X.prog X.w H s.heap a (.dK []) := I.hok a _ ha
      cases hkv
      have he : es.toList = [] := by
        generalize es.toList = l at hps
        cases hps; rfl
      have rd : Reads s.heap (.ref a) (.dict []) (a :: [] ++ []) := .dict hget hcl.1 hdat (by rw [he]; exact .nil) (by rw [he]; exact .nil)
      refine repr_of_reads' rd hs (fun _ hm => ?_) hc (by omega) (fun _ _ e => e) (fun h' u tk k => ⟨.str _, H, I.kept k, ⟨_, rfl⟩, q⟩) hz
      have e : sysModules = a := by simpa using hm
      rw [← e] at hsys
      exact absurd hsys (by decide)
end
end L2
namespace L2
open PySem PySem.Spec PyProof.Rows
section
variable {X : Cx}
theorem op_mul_str : OpR X (binaryOp .Mult) (fun x y H Q => ∃ z k, x = .str z ∧ y = .int k ∧ MulOk z k ∧ Q (.str (Txt.mul z k)) H) := by
  intro pins s σ H x y v u Q I rx ry h
  obtain ⟨z, k, rfl, rfl, hz, q⟩ := h
  obtain ⟨t, rfl⟩ := rx
  obtain ⟨t', rfl⟩ := ry
  exact SB.mul hz fun t2 k2 => ⟨.str _, H, I.tok _, ⟨_, rfl⟩, q⟩
/-- f(k = v, ..) by keywords alone, what is raised wished for at the slots -/
def tCallKS (sp : Sp) (gV : List V → List V → List V) (E : St → XK) (tk : TA) : TE := fun σ H Q => tk σ H fun zs H1 => sp (gV [] zs) H1 Q (E σ)
theorem pe_callKS {CX : CXT} {k : Nat} {f : Addr} {fd : FuncData} {ps ks : List Str} {sp : Sp} {E : St → XK} {x : Str} {p pos : Pos} {kws : List Keyword} {tk : TA} {g : List Value → List Value → List Value} {gV : List V → List V → List V}
    (F : FnOk X.prog X.w X.K X.mg X.base CX k f fd ps sp) (hr : Room k X.A) (hg : Gl X x) (hm : X.mg x = some (.ref f)) (hk : PySem.W.keepIn X.K (.ref f) = true) (hb : KBinds X.K fd ps ks g gV) (hx : ∀ σ, PassesAt CX X σ (E σ))
    (hkw : PK X kws tk) (hall : (backToKw pos (keywordEach kws X.env)).all (·.1.isSome) = true := by rfl) (hks : (backToKw pos (keywordEach kws X.env)).filterMap (·.1) = ks := by rfl)
    (hdb : (x == ("__debug__" : Str)) = false := by decide) (hpl : ((backTo pos (starEach [] X.env)).any (·.1) || (backToKw pos (keywordEach kws X.env)).any (·.1.isNone)) = false := by rfl) :
    PE X (.Call (.Name x p) [] kws pos) (tCallKS sp gV E tk) := by
  constructor
  intro pins s σ H Q I h
  apply wpAny_Call_Name_kw (ld_glob I hg hm ?_ hdb)
  apply PySem.W.callWith_KW0 (h₀ := X.base) I.ok.mod.kin hk hall (thn (hkw.run pos pins s σ H _ I h) ?_) hpl
  rintro ws s1 ⟨zs, H1, I1, rz, q⟩
  refine ⟨I1.kIn, ?_⟩
  rw [hks]
  have r2 := hb.rel (vs := []) (us := []) .nil rz
  have hl : (g [] ws).length = ps.length := (r2.length).symm.trans (F.len _ _ _ _ q)
  apply wpAny_call
  apply codeAny_mono (F.run X.A X.stack s1 H1 ⟨[], ks.zip ws⟩ (g [] ws) (gV [] zs) Q (E σ) hr I1.env0 (hb.to s1 [] ws I1.kIn hl) r2 q)
  intro r s' hq
  match r, hq with
  | .error er, hq => exact hx σ pins H1 s1 er s' I1 hq
  | .ok (.ret u), hq => exact I1.after hq
  | .ok .next, hq => exact hq.elim
  | .ok .brk, hq => exact hq.elim
  | .ok .cont, hq => exact hq.elim
end
end L2

set_option Elab.async false
set_option linter.all false
set_option maxRecDepth 100000
set_option maxHeartbeats 2000000
/-! Defs that call repr: the promise is shown only where no repr is running around the call. -/
namespace L2
open PySem PySem.Spec PyProof.Rows
/-- as FnOk, where no guard stands around -/
structure FnG (P : Program) (w : World) (K : PySem.W.Frag) (mg : Str → Option Value) (base : Heap) (CX : CXT) (k : Nat) (f : Addr) (fd : FuncData) (ps : List Str) (sp : Sp) : Prop where
  len : ∀ vs H Q E, sp vs H Q E → vs.length = ps.length
  run : ∀ (A : Around) (outer : List Env) (s : Shared) (H : Hp) (args : Args) (us : List Value) (vs : List V) (Q : VK) (E : XK), A.guards = some [] → Room k A → Env0 P w K mg base A outer s H →
    BindsTo s fd args (ps.zip us) → Vals vs us → sp vs H Q E → codeAny (model P w) A (.call (.ref f) args) (CR CX outer P w H s Q E) s
theorem FnOk.toG {P : Program} {w : World} {K : PySem.W.Frag} {mg : Str → Option Value} {base : Heap} {CX : CXT} {k : Nat} {f : Addr} {fd : FuncData} {ps : List Str} {sp : Sp} (F : FnOk P w K mg base CX k f fd ps sp) : FnG P w K mg base CX k f fd ps sp :=
  ⟨F.len, fun A outer s H args us vs Q E _ hr => F.run A outer s H args us vs Q E hr⟩
section
variable {X : Cx} {CX : CXT} {k : Nat} {f : Addr} {fd : FuncData} {ps : List Str} {sp : Sp} {dvs : List V} {ds : List Value} {E : XK} {x : Str} {p pos : Pos} {e : Expr} {es : List Expr} {t : TA}
theorem pe_callG (F : FnG X.prog X.w X.K X.mg X.base CX k f fd ps sp) (hgd : X.A.guards = some []) (hr : Room k X.A) (hg : Gl X x) (hm : X.mg x = some (.ref f)) (hk : PySem.W.keepIn X.K (.ref f) = true) (hb : Binds X.K fd ps ds) (hd : Vals dvs ds) (hx : Passes CX X E)
    (ha : PA X (e :: es) t) (hdb : (x == ("__debug__" : Str)) = false := by decide) (he : starEach (e :: es) X.env = (false, eval e X.env) :: starEach es X.env := by rfl) (hpl : (backTo pos (starEach es X.env)).any (·.1) = false := by rfl) :
    PE X (.Call (.Name x p) (e :: es) [] pos) (tCall sp dvs E t) := by
  constructor
  intro pins s σ H Q I h
  apply wpAny_Call_Name_kw (ld_glob I hg hm ?_ hdb)
  apply PySem.W.callWith_K (h₀ := X.base) I.ok.mod.kin hk (thn (ha.run pos pins s σ H _ I h) ?_) he hpl
  rintro us s1 ⟨vs, H1, I1, rv, q⟩
  refine ⟨I1.kIn, ?_⟩
  have r2 : Vals (vs ++ dvs) (us ++ ds) := rv.append hd
  have hl : (us ++ ds).length = ps.length := (r2.length).symm.trans (F.len _ _ _ _ q)
  apply wpAny_call
  apply codeAny_mono (F.run X.A X.stack s1 H1 ⟨us, []⟩ (us ++ ds) (vs ++ dvs) Q E hgd hr I1.env0 (hb s1 us I1.kIn hl) r2 q)
  intro r s' hq
  match r, hq with
  | .error er, hq => exact hx pins σ H1 s1 er s' I1 hq
  | .ok (.ret u), hq => exact I1.after hq
  | .ok .next, hq => exact hq.elim
  | .ok .brk, hq => exact hq.elim
  | .ok .cont, hq => exact hq.elim
end
theorem deeper_guards {A : Around} {env : Env} : (A.deeper env).guards = A.guards := rfl
section
variable {P : Program} {w : World} {K : PySem.W.Frag} {mg : Str → Option Value} {base : Heap}
/-- the rule for a def, where no guard stands around -/
theorem Fun.okG {x qual : Str} {st : Stmt} {f : Addr} {fd : FuncData} {N ps : List Str} {k : Nat} {sp : Sp} (F : Fun K x qual st f fd) (S : FnScope N ps (defScope st)) (len : ∀ vs H Q E, sp vs H Q E → vs.length = ps.length)
    (hbody : ∀ (cdv : Value) (A : Around) (outer : List Env) (s : Shared) (H : Hp) (vs : List V) (Q : VK) (E : XK), (A.deeper (envOfC qual (defScope st) s.heap.objs.size f cdv)).guards = some [] → Room k (A.deeper (envOfC qual (defScope st) s.heap.objs.size f cdv)) → sp vs H Q E →
      ∃ t, PSs (cxOf CX0 P w K mg base N qual (defScope st) f cdv A outer s H E).nox (defBody st) t ∧ t { nx := fun _ H' => Q .non H', rt := Q } (start N vs) H) : FnG P w K mg base CX0 (k + 1) f fd ps sp := by
  obtain ⟨oc, od, kV, doc, pm, an, cdv, ct, osl, rfl, lk, hcd⟩ := F.ex
  refine ⟨len, fun A outer s H args us vs Q E hgd hr e0 hb r hsp => ?_⟩
  have KX : K.In s.heap := e0.mod.kin.keeps fun b o e => (e0.bs b o e).1
  have lim : s.heap.NoLimit := e0.mod.nolimit.keeps fun b o e => (e0.bs b o e).1
  apply codeAny_call_function hr.depth (KX _ _ lk) rfl S.co S.gen rfl (PySem.W.codeRec_of KX hcd) (hb _ _ _ _ ?_)
  apply wpAny_newFunctionEnv_cells S.kind ?_ ?_
  · rintro ⟨n, v⟩ hy
    rcases S.par n (List.of_mem_zip hy).1 with q | q
    · exact Or.inl q
    · exact Or.inr ⟨q, PySem.W.cellsFrom_some _ _ _ (Or.inl q)⟩
  · intro env he s1 x
    subst he
    refine ⟨lim.keeps x.toInCall.keep, codeAny_func ?_⟩
    obtain ⟨t, ht, hq⟩ := hbody cdv A outer s H vs Q E (deeper_guards.trans hgd) (hr.deeper _) hsp
    have I := inv_start (CX := CX0) (E := E) S hr.hd e0 (len _ _ _ _ hsp) r x
    apply wpAny_mono (ht.nox.run [] s1 (start N vs) H _ I hq) ?_ fun e s' hs => hs
    intro fl s' hs
    match fl, hs with
    | .ret u, ⟨v, σ', H', J, rv, q⟩ => exact ⟨v, H', J.os, J.bare, J.base, J.hok, rv, q⟩
    | .next, ⟨σ', H', J, q⟩ => exact ⟨V.non, H', J.os, J.bare, J.base, J.hok, rfl, q⟩
    | .brk, ⟨_, _, _, q⟩ => exact q.elim
    | .cont, ⟨_, _, _, q⟩ => exact q.elim
end
end L2
namespace L2
open PySem PySem.Spec PyProof.Rows
section
variable {P : Program} {w : World} {K : PySem.W.Frag} {mg mb : Str → Option Value} {k : Nat} {fa a : Addr} {fd : FuncData} {x : Str} {sp : Sp} {s1 : Shared} {vs : List Value} {ns : List Int}
/-- the law's call, H telling nothing but, maybe, the script at a -/
theorem enterG {H : Hp} (KX : K.In s1.heap) (hns : s1.heap.Ns mainGlobals mg) (hb : s1.heap.Ns builtinsNs mb) (hbb : ∀ x : Str, x ≠ "__name__" → mb x = bootBuiltins x) (hlim : s1.heap.NoLimit) (hg : s1.gens = #[])
    (ha : s1.heap.get? a = some { cls := .type "list", data := .seq vs.toArray }) (hr : Room k callerA)
    (F : ∀ base : Heap, K.In base → base.Ns mainGlobals mg → FnG P w K mg base CX0 k fa fd [x] sp) (hbind : ∀ (s : Shared) (u : Value), BindsTo s fd ⟨[u], []⟩ [(x, u)])
    (hO : Only H) (hok : HOk P w H s1.heap) (hA : ∀ b, H b ≠ none → b = a) (hK : ∀ b o, K.lookup b = some o → H b = none) (hsp : sp [.ref a] H (fun v _ => v = .bl true) fun _ _ _ => False) :
    codeAny (model P w) callerA (.call (.ref fa) ⟨[.ref a], []⟩) (fun r s' => r = .ok (.ret (.bool true)) ∧ OldK s1.heap s'.heap ∧ s'.os = s1.os ∧ AllBare s'.gens) s1 := by
  have nsK : ∀ {b : Addr} {m : Str → Option Value}, s1.heap.Ns b m → (hidT s1.heap H).Ns b m := by
    rintro b m ⟨o, es, ep, e, d, r⟩
    have n : H b = none := by
      cases q : H b with
      | none => rfl
      | some u =>
        have z := hA b (by rw [q]; exact fun z => nomatch z)
        rw [z, ha] at e
        rw [← Option.some.inj e] at d
        exact nomatch d
    exact ⟨o, es, ep, hidT_get e n, d, r⟩
  have hKb : K.In (hidT s1.heap H) := fun b o e => hidT_get (KX b o e) (hK b o e)
  have e0 : Env0 P w K mg (hidT s1.heap H) callerA [] s1 H :=
    { frames := rfl, mod := ⟨hKb, nsK hns, ⟨mb, nsK hb, hbb⟩, hlim.elim fun mc h => ⟨mc, nsK h.1, h.2⟩⟩, bs := fun b o e => of_hidT e, bsz := Nat.le_of_eq (hidT_size _ _), funs := trivial, frf := fun b hb => (List.not_mem_nil hb).elim, hok := hok, bare := .of_eq hg }
  apply codeAny_mono ((F _ hKb (nsK hns)).run callerA [] s1 H ⟨[.ref a], []⟩ [.ref a] [.ref a] _ _ rfl hr e0 (hbind s1 (.ref a)) (.cons rfl .nil) hsp)
  intro r s' h
  match r, h with
  | .error e, h =>
    obtain ⟨_, _, _, h⟩ := h
  | .ok .next, h => exact h.elim
  | .ok .brk, h => exact h.elim
  | .ok .cont, h => exact h.elim
  | .ok (.ret u), ⟨v, H', os, bare, un, hok', r', q⟩ =>
    obtain rfl : v = .bl true := q
    obtain rfl : u = Value.bool true := r'
    refine ⟨rfl, OldK.of_keep fun b o e => ?_, os, bare⟩
    rcases hO b with z | ⟨ob, xs, z⟩
    · exact un.keep b o e z (List.not_mem_nil) (List.not_mem_nil)
    · have e1 := (hok b _ z).1
      have e2 := (hok' b _ (un.frzs b ob _ z)).1
      rw [e] at e1
      rw [Option.some.inj e1]
      exact e2
end
/-- the goal that the head leaves, from the law's promise, where the law's def calls repr -/
theorem walk_G {l : PySem.W.OpenLaw} {n k : Nat} {q : Program} {loose : List Str} {XP : (Str → Option Value) → Heap → Prop} {YP : World → Heap → Prop} {d : DefRec} {K : Params → PySem.W.Frag} {sp : PySem.W.Frag → Sp} {x : Str}
    (hn : l.most = some n) (hn2 : n ≤ sizeLine) (hdf : d.params.defaults = []) (hr : Room k callerA)
    (hY : ∀ (w : World) (h : Heap), YP w h → (K w.params).In h)
    (F : ∀ (w : World) (mg : Str → Option Value) (fa : Addr) (h : Heap), (K w.params).In h → h.Ns mainGlobals mg → mg d.name = some (.ref fa) →
      ∃ fd : FuncData, (∀ (s : Shared) (u : Value), BindsTo s fd ⟨[u], []⟩ [(x, u)]) ∧
        ∀ base : Heap, (K w.params).In base → base.Ns mainGlobals mg → FnG l.prog w (K w.params) mg base CX0 k fa fd [x] (sp (K w.params)))
    (hsp : ∀ (K : PySem.W.Frag) (H : Hp) (a : Addr) (ns : List Int), ns.length ≤ n → Only H → SqL K H a (ns.map V.int) → sp K [.ref a] H (fun v _ => v = .bl true) fun _ _ _ => False) :
    PySem.W.WalkO q loose XP YP l.row.toRowW d [] (fun f vs => PySem.call f vs) := by
  refine Att.attach_call hn hdf fun w s0 s1 mg mb fa o pm cd doc a vs ns G Y ho hd hcd hmg hobj hints hlen hg => ?_
  have KX := hY w _ Y
  obtain ⟨fd, hb, hF⟩ := F w mg fa _ KX G.T.g hmg
  have rv := vals_ints hints
  have lenV := hints.length
  have hl := Nat.le_trans hlen hn2
  cases hk : (K w.params).lookup a with
  | some ob =>
    have e := KX a ob hk
    rw [hobj] at e
    have e' := (Option.some.inj e).symm
    subst e'
    refine enterG (H := fun _ => none) KX G.T.g G.T.b G.T.builtins G.T.nolimit hg hobj hr hF hb (fun _ => .inl rfl) (fun b u z => nomatch (show (none : Option HO) = some u from z)) (fun b z => (z rfl).elim) (fun _ _ _ => rfl) ?_
    exact hsp (K w.params) _ a ns hlen (fun _ => .inl rfl) (.inr ⟨_, vs.toArray, _, hk, rfl, rfl, rfl, by rw [List.size_toArray, lenV]; exact hl, by simpa using rv⟩)
  | none =>
    have at_a : (fun b => if b = a then some (HO.frz { cls := .type "list", data := .seq vs.toArray } (.lst (ns.map V.int))) else none) a = some (HO.frz { cls := .type "list", data := .seq vs.toArray } (.lst (ns.map V.int))) := if_pos rfl
    have only : Only (fun b => if b = a then some (HO.frz { cls := .type "list", data := .seq vs.toArray } (.lst (ns.map V.int))) else none) := fun b => by
      by_cases z : b = a
      · exact .inr ⟨_, _, if_pos z⟩
      · exact .inl (if_neg z)
    refine enterG (H := fun b => if b = a then some (HO.frz { cls := .type "list", data := .seq vs.toArray } (.lst (ns.map V.int))) else none) KX G.T.g G.T.b G.T.builtins G.T.nolimit hg hobj hr hF hb only (fun b u z => ?_) (fun b z => ?_) (fun b ob z => ?_) ?_
    · by_cases y : b = a
      · subst y
        have z' := at_a.symm.trans z
        rw [← Option.some.inj z']
        exact ⟨hobj, by rw [List.length_map]; exact hl, vs, _, rv, hobj⟩
      · exact nomatch (if_neg y).symm.trans z
    · by_cases y : b = a
      · exact y
      · exact (z (if_neg y)).elim
    · refine if_neg fun y => ?_
      rw [y, hk] at z
      cases z
    · exact hsp (K w.params) _ a ns hlen only (.inl (.inr ⟨_, at_a⟩))
end L2

set_option Elab.async false
set_option linter.all false
set_option maxRecDepth 100000
set_option maxHeartbeats 2000000
/-! Several clauses 'except .. as e', one behind the other, all of them with one name. -/
namespace L2
open PySem PySem.Spec PyProof.Rows
/-- what stands behind the suite: the name is gone -/
def goneEnds (i : Nat) (D : Ends) : Ends :=
  { nx := fun u G => D.nx (u.set i none) G,
    rt := D.rt,
    bk := fun u G => D.bk (u.set i none) G,
    ct := fun u G => D.ct (u.set i none) G }
abbrev SuiteT := Addr → Value → Option Addr → TS
def wAll (K : PySem.W.Frag) (i : Nat) (Wo : WX) (D : Ends) : List (Value × SuiteT) → WX
  | [] => Wo
  | q :: l => fun cls d σ H =>
    ∃ b, PySem.W.exmOne K cls q.1 = some b ∧
      (b = true → ∀ a, H a = none → q.2 a cls d (goneEnds i D) (σ.set i (some (.ref a))) H) ∧
      (b = false → wAll K i Wo D l cls d σ H)
/-- the clauses and what their suites tell -/
inductive Clauses (X : Cx) (n : Str) : List ExceptHandler → List (Value × SuiteT) → Prop
  | last : Clauses X n [] []
  | more {x : Str} {c : Value} {ts : SuiteT} {b₀ : Stmt} {su : List Stmt} {p1 p2 : Pos} {hl : List ExceptHandler} {l : List (Value × SuiteT)} :
      Names X x c →
      (∀ (a : Addr) (oe : Obj) (cls : Value) (d : Option Addr) (pn : List (Addr × Obj)), Zc cls d oe → (∃ vs, oe.data = .fields vs) →
        PSs (X.suite a ((a, oe) :: pn)) (b₀ :: su) (ts a cls d)) →
      Clauses X n hl l → Clauses X n (.ExceptHandler (some (.Name x p1)) (some n) (b₀ :: su) p2 :: hl) ((c, ts) :: l)
section
variable {X : Cx} {n : Str} {i : Nat} {body : List Stmt} {h₀ : ExceptHandler} {hl : List ExceptHandler} {l : List (Value × SuiteT)} {pos : Pos} {tb : WX → TS} {Wo : WX}
theorem ps_tryAll (eS : X.stack = X.env :: X.outer) (eF : X.env.frame = some X.env.locals) (nd : X.N.Nodup) (ei : X.N[i]? = some n) (en : X.env.kindOf n = some .local) (tk : Takes X Wo)
    (hb : ∀ (W : WX) (pn : List (Addr × Obj)) (xe : Value → Shared → Prop), Takes (X.tr pn xe) W →
      PassesOwn (model X.prog X.w) X.A X.env xe → PSs (X.tr pn xe) body (tb W))
    (hc : Clauses X n (h₀ :: hl) l) :
    PS X (.Try body (h₀ :: hl) [] [] pos) (fun D σ H => tb (wAll X.K i Wo D l) D σ H) := by
  constructor
  intro pins s σ H D I hyp
  have iok := I.ok
  have fr : X.A.frames = some (X.env :: X.outer) := iok.frames.trans (congrArg some eS)
  apply wpAny_Try_except
  let XE : Value → Shared → Prop := fun e s₁ =>
    wpAny (model X.prog X.w) X.A (noteFrame e X.env) (fun _ s₂ =>
      wpAny (model X.prog X.w) X.A (setFlight e none) (fun _ s₃ =>
        wpAny (model X.prog X.w) X.A (handleBy e X.env (h₀ :: hl)) (SP X pins D) X.xe s₃) X.xe s₂) X.xe s₁
  have run := (hb (wAll X.K i Wo D l) (X.pn ++ pins) XE ?_ PassesOwn.looking).run [] s σ H D (I.toTry _) hyp
  · refine wpAny_mono run (fun f s1 sp => ?_) (fun e s1 q => q)
    match f, sp with
    | .next, ⟨u, G, J, q⟩ => exact wpAny_execs_nil ⟨u, G, J.ofTry iok, q⟩
    | .brk, ⟨u, G, J, q⟩ => exact ⟨u, G, J.ofTry iok, q⟩
    | .cont, ⟨u, G, J, q⟩ => exact ⟨u, G, J.ofTry iok, q⟩
    | .ret _, ⟨v, u, G, J, r, q⟩ => exact ⟨v, u, G, J.ofTry iok, r, q⟩
  · -- what flies out of the body
    rintro u s' ⟨a, B, sI, pins', τ, G, cls, d, rfl, J', nb, up, sky, na, os, ag, wish⟩
    have J : Inv X pins τ G sI := J'.ofTry iok
    have sky2 : Sky B (X.env :: X.outer) a (Zc cls d) X.env.locals s'.heap := eS ▸ sky
    show wpAny _ X.A (noteFrame (.ref a) X.env) _ _ _
    apply Sky.land Zc.steady fr eF sky2
    intro g3 fly3 up3
    have J3 : Inv X pins τ G { s' with heap := g3 } := J.landed nb fly3.1 (up.trans up3) os ag
    obtain ⟨o3, v3, at3, z3, d3⟩ := fly3.there
    have off : a ∉ frs (X.env :: X.outer) := by
      intro hm
      obtain ⟨_, o', e', hn⟩ := fly3.2.2.1.mem hm
      rw [at3] at e'
      cases e'
      exact hn _ d3
    have offL : a ≠ X.env.locals := by
      intro z
      exact off (List.mem_filterMap.mpr ⟨X.env, List.mem_cons_self, by rw [eF, z]⟩)
    have offF : a ∉ X.fs := by
      intro hm
      obtain ⟨e, he, q⟩ := List.mem_filterMap.mp hm
      exact off (List.mem_filterMap.mpr ⟨e, List.mem_cons_of_mem _ he, q⟩)
    have S3 := J3.suite at3 d3 na offL offF
    -- clause by clause
    suffices go : ∀ {hs : List ExceptHandler} {k : List (Value × SuiteT)}, Clauses X n hs k → wAll X.K i Wo D k cls d τ G →
        wpAny (model X.prog X.w) X.A (handleBy (.ref a) X.env hs) (SP X pins D) X.xe { s' with heap := g3 } from go hc wish
    intro hs k hk
    induction hk with
    | last =>
      intro out
      apply wpAny_handleBy_nil
      obtain ⟨k1, k2, k3, oe, vs, T, oT, ts', he, hz, hd, h1, hr⟩ := id fly3
      unfold PySem.passOn
      apply wpAny_bind
      apply wpAny_field he hd h1
      rw [if_neg (by simp : ¬ ((Value.ref T == Value.none) = true))]
      have thrown : wpAny (model X.prog X.w) X.A (setFlight (.ref a) X.env.frame) (fun _ s4 =>
          wpAny (model X.prog X.w) X.A (throw (.ref a) : Sem Flow) (SP X pins D) X.xe s4) X.xe { s' with heap := g3 } := by
        rw [eF]
        apply HandSPX.setFlight_upZ fly3
        intro g4 fly4 up4
        apply wpAny_throw
        apply tk
        exact ⟨a, B, sI, pins, τ, G, cls, d, rfl, J, nb, (up.trans up3).trans up4, .inr (.inr (eS ▸ fly4)), na, os, ag, out⟩
      first
        | exact wpAny_bind (wpAny_pure (wpAny_bind thrown))
        | exact wpAny_bind thrown
    | @more x c ts b₀ su p1 p2 hl2 l2 nm suite _ ih =>
      rintro ⟨b, eb, yes, no⟩
      have looks : PySem.W.Looks (model X.prog X.w) g3 (typeOf (.ref a)) cls := by
        intro A' Q' E' t k q
        exact wpAny_typeOf_ref (k _ _ at3) (by rw [z3.1]; exact q)
      have LM := PySem.W.exm_one (M := model X.prog X.w) (J3.kIn) looks eb
      apply wpAny_handleBy_cons (codeAny_handlers_test ?_) (by intro q; cases q)
      have named : ∀ {Q' : Value → Shared → Prop} {E' : Value → Shared → Prop}, Q' c { s' with heap := g3 } →
          wpAny (model X.prog X.w) (X.A.mark (some (.ref a))) (eval (.Name x p1) X.env) Q' E' { s' with heap := g3 } := by
        intro Q' E' q
        rcases nm with ⟨g, dbg, m | ⟨m, v, w⟩⟩
        · exact ld_glob (X := X.suite a ((a, o3) :: (X.pn ++ pins))) S3 g m q dbg
        · exact ld_blt (X := X.suite a ((a, o3) :: (X.pn ++ pins))) S3 g m v q w dbg
      apply named
      apply LM.here
      match b, yes, no with
      | false, _, no => exact ih (no rfl)
      | true, yes, _ =>
        apply codeAny_handlers_suite_as
        apply HandSPX.lands_againZ fly3
        intro g4 fly4 up4
        have J4 : Inv X pins τ G { s' with heap := g4 } := J.landed nb fly4.1 ((up.trans up3).trans up4) os ag
        obtain ⟨o4, v4, at4, z4, d4⟩ := fly4.there
        have S4 := J4.suite at4 d4 na offL offF
        apply store_ok (X := X.suite a ((a, o4) :: (X.pn ++ pins))) (v := .ref a) S4 nd ei (.inl en) rfl ?_ (.inr en)
        intro s5 S5
        have ran := (suite a o4 cls d (X.pn ++ pins) z4 ⟨_, d4⟩).run [] s5 _ G _ S5 (yes rfl a na)
        refine wpAny_mono ran (fun f s6 sp => ?_) (fun _ _ z => z.elim)
        have gone : ∀ {u : St} {K6 : Hp} {Q' : Shared → Prop}, Inv (X.suite a ((a, o4) :: (X.pn ++ pins))) [] u K6 s6 →
            (∀ s7, Inv X pins (u.set i none) K6 s7 → Q' s7) →
            wpAny (model X.prog X.w) X.A (do bindName X.env n .none; unbindBehindTheSuite X.env n p2) (fun _ s7 => Q' s7) X.xe s6 :=
          fun S6 q => gone_ok (S6.unsuite iok) nd ei en q
        match f, sp with
        | .next, ⟨_, _, S6, q⟩ => exact gone S6 fun _ J7 => ⟨_, _, J7, q⟩
        | .brk, ⟨_, _, S6, q⟩ => exact gone S6 fun _ J7 => ⟨_, _, J7, q⟩
        | .cont, ⟨_, _, S6, q⟩ => exact gone S6 fun _ J7 => ⟨_, _, J7, q⟩
        | .ret _, ⟨_, _, _, S6, r, q⟩ => exact gone S6 fun _ J7 => ⟨_, _, _, J7, r, q⟩
end
end L2

set_option Elab.async false
set_option linter.all false
set_option maxRecDepth 100000
set_option maxHeartbeats 2000000
/-! Further rules: isinstance of a caught error, list of a text, == of lists of unlike length, find, dicts shown. -/
namespace L2
open PySem PySem.Spec PyProof.Rows PySem.Builtin PySem.Builtin.Str
/-! ### find -/
theorem occ_stay (s sub : Str) (hi : Nat) : ∀ (l : List Nat) (st : Array Nat × Nat), st.1.size = 1 → (forIn l st (StrLaws.occBody s sub hi 1)).run.fst = st.1
  | [], st, h => rfl
  | a :: l, st, h => by
    rw [List.forIn_cons]
    unfold StrLaws.occBody
    rw [if_neg (fun z => by have := z.1.1.1; omega)]
    exact occ_stay s sub hi l _ h
theorem occ_one (s sub : Str) (hi : Nat) : ∀ (l : List Nat) (free : Nat), (∀ i ∈ l, free ≤ i) →
    (forIn l ((#[] : Array Nat), free) (StrLaws.occBody s sub hi 1)).run.fst.toList = (l.find? fun i => decide (i + sub.length ≤ hi) && subAt s sub i).toList
  | [], free, _ => rfl
  | a :: l, free, hf => by
    have ha : free ≤ a := hf a List.mem_cons_self
    rw [List.forIn_cons]
    by_cases c : a + sub.length ≤ hi ∧ subAt s sub a = true
    · rw [List.find?_cons_of_pos (by simp [c.1, c.2])]
      have e : StrLaws.occBody s sub hi 1 a ((#[] : Array Nat), free) = pure (ForInStep.yield ((#[] : Array Nat).push a, a + sub.length)) := by
        unfold StrLaws.occBody
        rw [if_pos ⟨⟨⟨by simp, ha⟩, c.1⟩, c.2⟩]
      rw [e]
      show (forIn l ((#[] : Array Nat).push a, a + sub.length) (StrLaws.occBody s sub hi 1)).run.fst.toList = _
      rw [occ_stay s sub hi l _ (by simp)]
      rfl
    · rw [List.find?_cons_of_neg (by simpa using c)]
      have e : StrLaws.occBody s sub hi 1 a ((#[] : Array Nat), free) = pure (ForInStep.yield ((#[] : Array Nat), free)) := by
        unfold StrLaws.occBody
        rw [if_neg (fun h => c ⟨h.1.2, h.2⟩)]
      rw [e]
      exact occ_one s sub hi l free fun i h => hf i (List.mem_cons_of_mem _ h)
theorem occ_find (s sub : Str) (lo hi : Nat) : occurrences s sub lo hi 1 = ((List.range' lo (hi + 1 - lo)).find? fun i => decide (i + sub.length ≤ hi) && subAt s sub i).toList := by
  rw [StrLaws.occ_eq]
  exact occ_one s sub hi _ lo fun i h => (List.mem_range'_1.mp h).1
/-- v stands in u at i -/
def AtL (u v : List Nat) (i : Nat) : Prop := i + v.length ≤ u.length ∧ (u.drop i).take v.length = v
theorem atL_iff (u v : List Nat) (i : Nat) : (decide (i + (S v).length ≤ (S u).length) && subAt (S u) (S v) i) = true ↔ AtL u v i := by
  rw [StrLaws.subAt_eq, Bool.and_eq_true, decide_eq_true_iff]
  show (i + (S v).length ≤ (S u).length ∧ (((cs (S u)).drop i).take (S v).length == cs (S v)) = true) ↔ _
  rw [S_tl, S_tl, S_len, S_len, beq_iff_eq]
  exact Iff.rfl
/-- the first place from lo on -/
def FindL (u v : List Nat) (lo : Nat) (r : Int) : Prop := (∃ i : Nat, r = i ∧ lo ≤ i ∧ AtL u v i ∧ ∀ j, lo ≤ j → j < i → ¬ AtL u v j) ∨ (r = -1 ∧ ∀ j, lo ≤ j → ¬ AtL u v j)
theorem find_range' {lo n : Nat} {p : Nat → Bool} {s : Nat} (h : (List.range' lo n).find? p = some s) : lo ≤ s ∧ p s = true ∧ ∀ t, lo ≤ t → t < s → p t = false := by
  obtain ⟨h1, i, hi, h2, h3⟩ := List.find?_eq_some_iff_getElem.mp h
  rw [List.getElem_range'] at h2
  subst h2
  refine ⟨by omega, h1, fun t ht hlt => ?_⟩
  have := h3 (t - lo) (by omega)
  rw [List.getElem_range'] at this
  rw [show lo + 1 * (t - lo) = t by omega] at this
  simpa using this
theorem occ_FindL (u v : List Nat) (lo : Nat) : FindL u v lo (match occurrences (S u) (S v) lo (S u).length 1 with | k :: _ => (k : Int) | [] => -1) := by
  rw [occ_find]
  cases h : (List.range' lo ((S u).length + 1 - lo)).find? fun i => decide (i + (S v).length ≤ (S u).length) && subAt (S u) (S v) i with
  | none =>
    right
    refine ⟨rfl, fun j hj z => ?_⟩
    have l := z.1
    have := List.find?_eq_none.mp h j (List.mem_range'_1.mpr ⟨hj, by rw [S_len]; omega⟩)
    exact this ((atL_iff u v j).mpr z)
  | some i =>
    left
    obtain ⟨h1, h2, h3⟩ := find_range' h
    refine ⟨i, rfl, h1, (atL_iff u v i).mp h2, fun j a b z => ?_⟩
    have := (atL_iff u v j).mpr z
    rw [h3 j a b] at this
    cases this
theorem find_FindL (u v : List Nat) : FindL u v 0 (Txt.find (S u) (S v)) := occ_FindL u v 0
theorem find3_FindL (u v : List Nat) (i : Nat) : FindL u v i (Txt.find3 (S u) (S v) (i : Int)) := by
  unfold Txt.find3
  rw [show fromIndex (S u).length (i : Int) = i by unfold fromIndex; rw [if_neg (by omega)]; omega]
  exact occ_FindL u v i
/-! ### list of a text -/
section
variable {X : Cx}
theorem call_listStr (hc : X.calm = true) : CallR X (.type "list") (fun xs H Q => ∃ z : List Nat, xs = [.str (S z)] ∧ z.length ≤ sizeLine ∧ ∀ l, H l = none → Q (.ref l) (upd H l (.lst (z.map fun c => V.str (S [c]))))) := by
  intro pins s σ H xs us Q I r h
  obtain ⟨z, rfl, hz, q⟩ := h
  obtain ⟨u, rfl, t, rfl⟩ := vals1 r
  refine call_list_str (I.ok.hd hc) (S z) t (fun h' tk acc' c' kp e hacc => ?_) (by show (S z).length ≤ sizeLine; rw [S_len]; exact hz)
  obtain ⟨hsz, hat⟩ := hacc
  have hsz' : acc'.size = z.length := hsz.trans (S_len z)
  refine ⟨.ref s.heap.objs.size, _, I.laid (t' := tk) kp (Nat.le_refl _) (show ObjOk X.prog X.w _ h' _ (.lst (z.map fun c => V.str (S [c]))) from ⟨by rw [List.length_map]; exact hz, acc'.toList, c', ?_, by rw [Array.toArray_toList]; exact e⟩), rfl, q _ (I.hok.fresh (Nat.le_refl _))⟩
  -- the items
  have go : ∀ (ys : List Nat) (vs : List Value), vs.length = ys.length → (∀ (i c : Nat), ys[i]? = some c → ∃ t, vs[i]? = some (Value.str ⟨#[c]⟩ t)) → Vals (ys.map fun c => V.str (S [c])) vs := by
    intro ys
    induction ys with
    | nil => intro vs h _; rw [List.length_eq_zero_iff.mp h]; exact .nil
    | cons c ys ih =>
      intro vs h k
      match vs, h with
      | v :: vs, h =>
        obtain ⟨t, e⟩ := k 0 c rfl
        obtain rfl := Option.some.inj e
        exact .cons ⟨t, rfl⟩ (ih vs (Nat.succ.inj h) fun i c hc => k (i + 1) c hc)
  refine go z acc'.toList (by rw [Array.length_toList]; exact hsz') fun i c hc => ?_
  have hi : i < z.length := (List.getElem?_eq_some_iff.mp hc).1
  have hv : acc'[i]? = some (acc'[i]'(by omega)) := Array.getElem?_eq_getElem _
  obtain ⟨c', t', hc', e'⟩ := hat i _ hv
  rw [e'] at hv
  have : (S z).cps[i]? = some c := by
    show z.toArray[i]? = some c
    rw [List.getElem?_toArray]; exact hc
  rw [this] at hc'
  obtain rfl := Option.some.inj hc'
  exact ⟨t', by rw [Array.getElem?_toList]; exact hv⟩
end
/-! ### isinstance of the error that the suite holds, with an own dict -/
def rIsEd (K : PySem.W.Frag) (C a : Addr) (cls : Value) (d : Option Addr) : List V → Hp → VK → Prop := fun xs H Q => ∃ (c : V) (cv : Value) (b : Bool) (dd : Addr) (fs : List (Str × V)), xs = [.ref a, c] ∧ ClsV c cv ∧ cls = .ref C ∧ d = some dd ∧ H dd = some (.xd fs) ∧ PySem.W.kitOne K (.ref C) cv = some b ∧ Q (.bl b) H
theorem call_isEd {X : Cx} {a C : Addr} {oe : Obj} {cls : Value} {d : Option Addr} {pn : List (Addr × Obj)} (T : ExcC X.K C) (hz : Zc cls d oe) (hf : ∃ vs, oe.data = .fields vs) : CallR (X.suite a ((a, oe) :: pn)) (.builtin "isinstance") (rIsEd X.K C a cls d) := by
  intro pins s σ H xs us Q I r h
  obtain ⟨c, cv, b, dd, fs, rfl, hcv, rfl, rfl, hd, e, q⟩ := h
  obtain ⟨u1, u2, rfl, r1, r2⟩ := vals2 r
  cases (show u1 = Value.ref a from r1)
  have ec := hcv.eq r2
  subst ec
  obtain ⟨hget, _⟩ := I.pin (a, oe) (List.mem_append.mpr (.inl List.mem_cons_self))
  obtain ⟨vs, hv⟩ := hf
  have hx : ObjOk X.prog X.w H s.heap dd (.xd fs) := I.hok dd _ hd
  obtain ⟨mA, hns, hr⟩ := hx
  obtain ⟨od, ho, hl⟩ := lookIn_ns hns
  have J : PySem.W.InstAt s.heap a oe C (some od) := ⟨hget, hz.1, by unfold PySem.W.notCls; rw [hv] <;> rfl, by rw [hz.2]; exact ho⟩
  obtain ⟨cd, hcd, _⟩ := PySem.W.any_some T.hd
  exact PySem.W.kia_one (PySem.W.kitx_exc (by rw [hcd]; rfl) T.hg T.hk T.hs T.ha T.hn T.ht T.hm) I.kIn J e (fun z => nomatch z) fun tk => ⟨.bl b, H, I.kept (t' := tk) fun _ _ z => z, rfl, q⟩
end L2
namespace GQ
open PySem PySem.Spec PyProof.Rows
section
variable {prog : Program} {w : World} {A : Around} {R : Result → Shared → Prop}
theorem list_eq_len (l b : Addr) (items items2 : Array Value) (n n2 : Nat) (hne : items.size ≠ items2.size) {s : Shared} (hl1 : s.heap.get? l = some { cls := .type "list", data := .seq items n }) (hb1 : s.heap.get? b = some { cls := .type "list", data := .seq items2 n2 })
    (fin : R (.ok (.ret (.bool false))) s) :
    wpAny (model prog w) A.in1 (Builtin.«list.__eq__» ⟨[.ref l, .ref b], []⟩) (FinOf prog w A R) (fun e s' => R (.error e) s') s := by
  obtain ⟨hp, g, d, tk, os⟩ := s
  have f3 := AutoSeq1.sub_list_list
  have hne' : (items.size != items2.size) = true := by simp [hne]
  wp_walk using wpAny_loadPart' hl1, wpAny_loadPart' hb1
  exact fin
end
section
variable {prog : Program} {w : World} {A : Around} {E : Value → Shared → Prop} {s : Shared}
theorem rc_list_len {l b : Addr} {items items2 : Array Value} {n n2 : Nat} {Q : Value → Shared → Prop} (hu : A.units < cLine) (hne : items.size ≠ items2.size) (hl1 : s.heap.get? l = some { cls := .type "list", data := .seq items n }) (hb1 : s.heap.get? b = some { cls := .type "list", data := .seq items2 n2 })
    (fin : Q (.bool false) s) : wpAny (model prog w) A (richCompare .Eq (.ref l) (.ref b)) Q E s := by
  refine wpAny_richCompare_same_room (op := .Eq) ⟨_, hl1, rfl⟩ ⟨_, hb1, rfl⟩ F.slot_list_eq (call_here F.slot_list_eq ⟨_, hl1, rfl⟩ F.entry_list_eq (F.args_list_eq_2 _ _) ?_) hu
  exact list_eq_len (R := wants (fun v s' => v ≠ .notImplemented ∧ Q v s') E) l b items items2 n n2 hne hl1 hb1 ⟨(fun x => nomatch x), fin⟩
end
end GQ
namespace L2
open PySem PySem.Spec PyProof.Rows PySem.Builtin PySem.Builtin.Str
section
variable {X : Cx}
/-- xs == ys of two lists of which one is empty -/
def rEqNil : R2 := fun x y H Q => ∃ p q xs ys, x = .ref p ∧ y = .ref q ∧ H p = some (.lst xs) ∧ H q = some (.lst ys) ∧ (xs = [] ∨ ys = []) ∧ Q (.bl (decide (xs.length = ys.length))) H
theorem op_eq_nil (hu : X.A.units < cLine) : OpR X (compareOp .Eq) rEqNil := by
  intro pins s σ H x y v u Q I rx ry h
  obtain ⟨p, q, xs, ys, rfl, rfl, hp, hq, hn, k⟩ := h
  cases (show v = Value.ref p from rx)
  cases (show u = Value.ref q from ry)
  obtain ⟨z1, its, n, r1, hl, e1⟩ := I.lstM hp
  obtain ⟨z2, its2, n2, r2, hl2, e2⟩ := I.lstM hq
  by_cases hl3 : xs.length = ys.length
  · have ex : xs = [] := by
      rcases hn with e | e
      · exact e
      · subst e; exact List.length_eq_zero_iff.mp hl3
    have ey : ys = [] := by
      rcases hn with e | e
      · subst e; exact List.length_eq_zero_iff.mp hl3.symm
      · exact e
    subst ex ey
    cases r1; cases r2
    rw [decide_eq_true hl3] at k
    exact GQ.rc_listG hu (N := 0) (fun i s' => i = 0 ∧ s' = s) (fun i s' hi => by obtain ⟨rfl, rfl⟩ := hi; exact ⟨_, _, _, _, e1, e2, rfl, rfl, fun h1 _ => absurd h1 (by simp)⟩) (fun s' hs => by obtain ⟨_, rfl⟩ := hs; exact ⟨.bl true, H, I, rfl, k⟩) ⟨rfl, rfl⟩
  · rw [decide_eq_false hl3] at k
    refine GQ.rc_list_len hu ?_ e1 e2 ⟨.bl false, H, I, rfl, k⟩
    have := r1.length
    have := r2.length
    simp only [List.size_toArray]
    omega
/-! ### dicts of flat values, shown -/
def FlatD : V → PyData → Prop := fun v d => (v = .non ∧ d = .none) ∨ (∃ b, v = .bl b ∧ d = .bool b) ∨ (∃ i, v = .int i ∧ d = .int i) ∨ ∃ z, v = .str z ∧ d = .str z
def keyD : Key → PyData
  | .inl i => .int i
  | .inr x => .str x
def DictD : List (Key × V) → List (PyData × PyData) → Prop := Paired fun p q => q.1 = keyD p.1 ∧ FlatD p.2 q.2
/-- data, or a dict of flat values -/
def Ds (K : PySem.W.Frag) (H : Hp) (x : V) (d : PyData) : Prop := Dp K H x d ∨ ∃ a kvs ds, x = .ref a ∧ H a = some (.dK kvs) ∧ d = .dict ds ∧ DictD kvs ds
def rReprD (K : PySem.W.Frag) : List V → Hp → VK → Prop := fun xs H Q => ∃ x d, xs = [x] ∧ Ds K H x d ∧ d.showable = true ∧ d.depth ≤ 60 ∧ d.shown.length ≤ sizeLine ∧ Q (.str d.shown) H
theorem FlatD.reads {v : V} {d : PyData} {u : Value} {h : Heap} (f : FlatD v d) (r : RelV v u) : Reads h u d [] := by
  rcases f with ⟨rfl, rfl⟩ | ⟨b, rfl, rfl⟩ | ⟨i, rfl, rfl⟩ | ⟨z, rfl, rfl⟩
  · cases (show u = Value.none from r); exact .none
  · cases (show u = Value.bool b from r); exact .bool _
  · obtain ⟨t, rfl⟩ := r; exact .int _ _
  · obtain ⟨t, rfl⟩ := r; exact .str _ _
theorem keyD_reads {k : Key} {u : Value} {h : Heap} (e : keyIs k u = true) : Reads h u (keyD k) [] := by
  rcases keyIs_shape e with ⟨i, t, rfl, rfl⟩ | ⟨x, t, rfl, rfl⟩
  · exact .int _ _
  · exact .str _ _
theorem dictD_reads {h : Heap} {P : Program} {w : World} {kvs : List (Key × V)} {ds : List (PyData × PyData)} (dd : DictD kvs ds) : ∀ {vs : List (Key × Value)} {es : List DictEntry}, KV kvs vs → Pairs (mixKind P w) es vs →
    ReadsAll h (es.map (·.key)) (ds.map (·.1)) [] ∧ ReadsAll h (es.map (·.val)) (ds.map (·.2)) [] := by
  unfold DictD at dd
  induction dd with
  | nil =>
    intro vs es kv ps
    cases kv
    cases ps
    exact ⟨.nil, .nil⟩
  | @cons p q l1 l2 h1 _ ih =>
    intro vs es kv ps
    unfold KV at kv
    cases kv with
    | cons a t =>
      cases ps with
      | cons hk hv hp =>
        obtain ⟨i1, i2⟩ := ih t hp
        obtain ⟨e1, f⟩ := h1
        obtain ⟨ka, ra⟩ := a
        refine ⟨.cons (as := []) (bs := []) ?_ i1, .cons (as := []) (bs := []) ?_ i2⟩
        · show Reads h _ q.1 []
          rw [e1, ka]
          exact keyD_reads hk
        · have := f.reads (h := h) ra
          rw [← hv] at this
          exact this
theorem call_reprD (hc : X.A.guards = some []) (hu : X.A.units + 64 < cLine) : CallR X (.builtin "repr") (rReprD X.K) := by
  intro pins s σ H xs us Q I r h
  obtain ⟨x, d, rfl, hd, hs, hdp, hz, q⟩ := h
  rcases hd with hd | ⟨a, kvs, ds, rfl, ha, rfl, dd⟩
  · exact call_repr hc hu pins s σ H _ us Q I r ⟨x, d, rfl, .inl hd, hs, hdp, hz, q⟩
  · obtain ⟨u, rfl, r1⟩ := vals1 r
    obtain rfl : u = Value.ref a := r1
    obtain ⟨_, hsys, vs, hkv, od, es, ep, hget, hcl, hdat, hko, hps, _⟩ : ObjOk X.prog X.w H s.heap a (.dK kvs) := I.hok a _ ha
    obtain ⟨i1, i2⟩ := dictD_reads (h := s.heap) dd hkv hps
    have rd : Reads s.heap (.ref a) (.dict ds) (a :: [] ++ []) := .dict hget hcl.1 hdat i1 i2
    refine repr_of_reads' rd hs (fun _ hm => ?_) hc (by omega) (fun _ _ e => e) (fun h' u tk k => ⟨.str _, H, I.kept k, ⟨_, rfl⟩, q⟩) hz
    have e : sysModules = a := by simpa using hm
    rw [← e] at hsys
    exact absurd hsys (by decide)
end
end L2

set_option Elab.async false
set_option linter.all false
set_option maxRecDepth 100000
set_option maxHeartbeats 4000000
/-! What the laws share: the box of draws, what stands, texts of small letters, what is shown. -/
namespace My
open PySem PySem.Spec PyProof.Rows L2
/-! ### the law's box of draws -/
def BoxO (n : Nat) (o : HO) : Prop := ∃ (a m c : Int) (b : Bool), o = .lst [.int a, .bl b, .int m, .int c] ∧ 0 ≤ m ∧ m < 2147483648 ∧ 0 ≤ c ∧ c ≤ n
def BoxAt (H : Hp) (p : Addr) (n : Nat) : Prop := ∃ o, H p = some o ∧ BoxO n o
theorem BoxAt.mono {H : Hp} {p : Addr} {n m : Nat} (h : BoxAt H p n) (l : n ≤ m) : BoxAt H p m := by
  obtain ⟨o, e, a, m', c, b, e2, h1, h2, h3, h4⟩ := h
  exact ⟨o, e, a, m', c, b, e2, h1, h2, h3, by omega⟩
/-- all but the box stands -/
def Kp (p : Addr) (H H' : Hp) : Prop := ∀ b o, b ≠ p → H b = some o → H' b = some o
theorem Kp.refl (p : Addr) (H : Hp) : Kp p H H := fun _ _ _ e => e
theorem Kp.trans {p : Addr} {H H1 H2 : Hp} (a : Kp p H H1) (b : Kp p H1 H2) : Kp p H H2 := fun c o n e => b c o n (a c o n e)
theorem Kp.of {p : Addr} {H H' : Hp} (s : Same H H') : Kp p H H' := fun b o _ e => s b o e
theorem Kp.new {p q : Addr} {H H' : Hp} {o : HO} (k : Kp p H H') (h : H' q = none) : Kp p H (upd H' q o) := fun b ob n e => by
  have := k b ob n e
  rw [upd_ne (ne_of_none this h)]; exact this
theorem BoxAt.new {p q : Addr} {H : Hp} {o : HO} {n : Nat} (h : BoxAt H p n) (hq : H q = none) : BoxAt (upd H q o) p n := by
  obtain ⟨ob, e, r⟩ := h
  exact ⟨ob, by rw [upd_ne (ne_of_none e hq)]; exact e, r⟩
theorem BoxAt.same {p : Addr} {H H' : Hp} {n : Nat} (h : BoxAt H p n) (s : Same H H') : BoxAt H' p n := by
  obtain ⟨ob, e, r⟩ := h
  exact ⟨ob, s _ _ e, r⟩
theorem Same.new {q : Addr} {H H' : Hp} {o : HO} (k : Same H H') (h : H' q = none) : Same H (upd H' q o) := fun b ob e => by
  have := k b ob e
  rw [upd_ne (ne_of_none this h)]; exact this
theorem cutV_to (xs : List V) (n : Nat) : cutV xs none (some (n : Int)) = xs.take n := by
  unfold cutV
  rw [HT.sIx_none, sIx_some, List.drop_zero, Nat.sub_zero]
  rcases Nat.le_total n xs.length with h | h
  · rw [Nat.min_eq_left h]
  · rw [Nat.min_eq_right h, List.take_of_length_le h, List.take_of_length_le (Nat.le_refl _)]
theorem Kp.upd {p : Addr} {H H' : Hp} {o : HO} (k : Kp p H H') : Kp p H (upd H' p o) := fun b ob n e => by
  rw [upd_ne n]; exact k b ob n e
theorem BoxO.at {H : Hp} {p : Addr} {n : Nat} {o : HO} (h : BoxO n o) : BoxAt (upd H p o) p n := ⟨o, upd_same, h⟩
def isT (z : Str) : Bool := (cs z).all low
def Big (u : List Nat) : Prop := u.length ≤ 100000
theorem Big.fits {u : List Nat} (h : Big u) : (S u).length ≤ sizeLine := by rw [S_len]; exact Nat.le_trans h (by decide)
theorem Big.lt {n : Nat} (h : n ≤ 100000) : n < sizeLine := Nat.lt_of_le_of_lt h (by decide)
theorem Big.dbl {u : List Nat} (h : Big u) : (S u).length + (S u).length ≤ sizeLine := by
  rw [S_len]
  have : u.length ≤ 100000 := h
  exact Nat.le_trans (by omega) (by decide : 200000 ≤ sizeLine)
theorem Big.two {a : Nat} {t : List Nat} (h : Big t) : (S (t.drop a)).length + (S (t.take a)).length ≤ sizeLine := by
  rw [S_len, S_len]
  have : t.length ≤ 100000 := h
  exact Nat.le_trans (by rw [List.length_drop, List.length_take]; omega) (by decide : 200000 ≤ sizeLine)
theorem tYesT {σ : L2.St} {H : Hp} {A B : Hp → Prop} (h : A H) : tYes σ H (fun b H3 => if b = true then A H3 else B H3) := by
  show (if true = true then A H else B H)
  rw [if_pos rfl]; exact h
theorem ixN_nat {n j : Nat} (h : j < n) : ixN n (j : Int) = some j := by
  unfold ixN
  rw [if_pos (by omega), if_pos (by omega), Int.toNat_natCast]
theorem ix_listK {X : Cx} {K : PySem.W.Frag} (e : X.K = K) : IxR X (rIxL K) := by rw [← e]; exact ix_list
/-! ### rounds as a product -/
theorem foldl_rep (x : Array Nat) : ∀ (n : Nat) (b : Array Nat), (List.replicate n x).foldl (· ++ ·) b = b ++ (Lev.rounds n x.toList).toArray
  | 0, b => by simp [Lev.rounds]
  | n + 1, b => by
    rw [List.replicate_succ, List.foldl_cons, foldl_rep x n]
    simp [Lev.rounds]
    obtain ⟨x⟩ := x
    simp
theorem rounds_nil : ∀ n, Lev.rounds n ([] : List Nat) = []
  | 0 => rfl
  | n + 1 => by simp [Lev.rounds, rounds_nil n]
theorem mul_S (x : List Nat) (n : Nat) : Txt.mul (S x) (n : Int) = S (Lev.rounds n x) := by
  unfold Txt.mul
  by_cases h : n = 0
  · subst h; rfl
  · rw [if_neg (by omega)]
    by_cases h1 : ((n : Int) == 1 || (S x).length == 0) = true
    · rw [if_pos h1]
      simp only [Bool.or_eq_true, beq_iff_eq] at h1
      rcases h1 with e | e
      · have : n = 1 := by omega
        subst this
        simp [Lev.rounds]
      · rw [S_len] at e
        have : x = [] := List.eq_nil_of_length_eq_zero e
        subst this
        rw [rounds_nil]
    · rw [if_neg h1, Int.toNat_natCast, foldl_rep]
      simp [S]
theorem mulOk_S {x : List Nat} {n : Nat} (hx : x.length ≤ 1000) (hn : n ≤ 1000) : MulOk (S x) (n : Int) := by
  refine ⟨?_, fun _ _ => ?_, fun _ _ => ?_⟩
  · simp only [Bool.or_eq_false_iff, decide_eq_false_iff_not]; omega
  · rw [S_len]
    rcases Nat.eq_zero_or_pos n with e | e
    · subst e; contradiction
    · have : ((2 : Int) ^ 63 - 1) / n ≥ ((2 : Int) ^ 63 - 1) / 1000 := by
        have h1 : (2 ^ 63 - 1 : Int) / 1000 * n ≤ 2 ^ 63 - 1 := by omega
        exact Int.le_ediv_of_mul_le (by omega) h1
      omega
  · rw [S_len, Int.toNat_natCast]
    have : x.length * n ≤ 1000 * 1000 := Nat.mul_le_mul hx hn
    show decide (x.length * n > sizeLine) = false
    rw [decide_eq_false_iff_not]
    exact Nat.not_lt.mpr (Nat.le_trans this (by decide))
/-! ### letters -/
def Low (t : List Nat) : Prop := ∀ c ∈ t, low c = true
theorem Low.isT {t : List Nat} (h : Low t) : isT (S t) = true := by
  unfold My.isT
  rw [S_tl]
  exact List.all_eq_true.mpr h
theorem Low.append {t u : List Nat} (h : Low t) (g : Low u) : Low (t ++ u) := fun c hc => by
  rcases List.mem_append.mp hc with q | q
  · exact h c q
  · exact g c q
theorem Low.take {t : List Nat} (h : Low t) (n : Nat) : Low (t.take n) := fun c hc => h c (List.mem_of_mem_take hc)
theorem Low.drop {t : List Nat} (h : Low t) (n : Nat) : Low (t.drop n) := fun c hc => h c (List.mem_of_mem_drop hc)
theorem Low.nil : Low [] := fun c hc => by cases hc
theorem Low.one {c : Nat} (h : low c = true) : Low [c] := fun d hd => by rw [List.mem_singleton.mp hd]; exact h
theorem Kp.free {p D : Addr} {H H' : Hp} {o : HO} (k : Kp p H H') (h : H D = none) : Kp p H (L2.upd H' D o) := fun b ob n e => by
  rw [upd_ne (ne_of_none e h)]; exact k b ob n e
theorem BoxAt.other {p q : Addr} {H : Hp} {o : HO} {n : Nat} (h : BoxAt H p n) (hq : p ≠ q) : BoxAt (upd H q o) p n := by
  obtain ⟨ob, e, r⟩ := h
  exact ⟨ob, by rw [upd_ne hq]; exact e, r⟩
theorem BoxAt.ne {p q : Addr} {H : Hp} {n : Nat} (h : BoxAt H p n) (hq : H q = none) : p ≠ q := by
  obtain ⟨ob, e, r⟩ := h
  exact ne_of_none e hq
theorem ones_sum (t : List Nat) : (List.map ((fun x : Str => x.length) ∘ fun c => S [c]) t).sum = t.length := by
  induction t with
  | nil => rfl
  | cons c r ih => rw [List.map_cons, List.sum_cons, ih, List.length_cons]; show 1 + _ = _; omega
theorem alpha_at {d : Nat} (h : d < 26) : atI (Str.ofString "abcdefghijklmnopqrstuvwxyz").cps.toList (d : Int) = some (97 + d) := by
  have e : (Str.ofString "abcdefghijklmnopqrstuvwxyz").cps.toList = (List.range 26).map (97 + ·) := by decide +kernel
  rw [e]
  exact atI_nat (by rw [List.getElem?_map, List.getElem?_range h]; rfl)
theorem low_alpha {d : Nat} (h : d < 26) : low (97 + d) = true := by
  unfold low; simp; omega
theorem join_ones (t : List Nat) : Txt.join (Str.ofString "") (t.map fun c => S [c]) = S t := by
  rw [TL.join_eq]
  have e : cs (Str.join (Str.ofString "") (t.map fun c => S [c])) = t := by
    rw [show cs (Str.join (Str.ofString "") (t.map fun c => S [c])) = TL.tl (Str.join (Str.ofString "") (t.map fun c => S [c])) from rfl, TL.tl_join, List.map_map]
    have go : ∀ t : List Nat, TL.joinL [] (t.map fun c => [c]) = t := by
      intro t
      induction t with
      | nil => rfl
      | cons c r ih =>
        cases r with
        | nil => rfl
        | cons d r => show [c] ++ ([] ++ TL.joinL [] ((d :: r).map fun c => [c])) = _; rw [ih]; rfl
    exact go t
  rw [← S_of (Str.join _ _), e]
/-- whether a value is a text, as is_text says -/
def Jd (K : PySem.W.Frag) (H : Hp) (x : V) (b : Bool) : Prop := (∃ z, x = .str z ∧ b = isT z) ∨ ∃ t, TyX K H x (.type t) ∧ kitB t "str" = some false ∧ b = false
/-- an error of class C, made of x -/
def Bad (C : Addr) (H : Hp) (x : V) (E : XK) : Prop := ∀ d H', Same H H' → H d = none → H' d = some (.xd (gvn x)) → E (.ref C) (some d) H'
theorem tyOf_same {K : PySem.W.Frag} {H H' : Hp} {x : V} {t : Value} (h : TyOf K H x t) (s : Same H H') : TyOf K H' x t := by
  cases h
  case non => exact .non
  case bl => exact .bl _
  case int => exact .int _
  case str => exact .str _
  case flt => exact .flt _
  case lst e => exact .lst (s _ _ e)
  case frz e => exact .frz (s _ _ e)
  case tup e => exact .tup (s _ _ e)
  case dK e => exact .dK (s _ _ e)
  case dT e => exact .dT (s _ _ e)
  case ins e cl ha hn htk hm => exact .ins (s _ _ e) cl ha hn htk hm
theorem tyX_same {K : PySem.W.Frag} {H H' : Hp} {x : V} {t : Value} (h : TyX K H x t) (s : Same H H') : TyX K H' x t := by
  cases h
  case base e => exact .base (tyOf_same e s)
  case byt => exact .byt _
  case set e => exact .set (s _ _ e)
  case kList e c => exact .kList e c
  case kTuple e c => exact .kTuple e c
  case kDict e c => exact .kDict e c
  case fTuple e => exact .fTuple (s _ _ e)
  case fDict e => exact .fDict (s _ _ e)
theorem Jd.same {K : PySem.W.Frag} {H H' : Hp} {x : V} {b : Bool} (h : Jd K H x b) (s : Same H H') : Jd K H' x b := by
  rcases h with h | ⟨t, h1, h2, h3⟩
  · exact .inl h
  · exact .inr ⟨t, tyX_same h1 s, h2, h3⟩
/-! ### what can be shown -/
def Sh (d : PyData) : Prop := d.showable = true ∧ d.depth ≤ 60 ∧ d.shown.length ≤ sizeLine
theorem sh_of {d : PyData} (h1 : d.showable = true) (h2 : d.depth ≤ 60) (h3 : d.leavesShort 40 = true) (h4 : d.weight ≤ 100000) : Sh d := by
  refine ⟨h1, h2, ?_⟩
  have e := PyData.shown_le 40 (by omega) d h3
  exact Nat.le_trans e (Nat.le_trans (by omega : (40 + 2) * d.weight + 40 ≤ 4200040) (by decide))
theorem log2_20 {r : Nat} (h : r < 1048576) : r.log2 < 20 := PySem.Flt.log2_lt_of (by decide) h
theorem short_int {r : Nat} (h : r < 1048576) : (PyData.int r).leavesShort 40 = true := by
  have e := int_text_length_le (a := (r : Int)) (k := 20) (by decide) (log2_20 h)
  have e2 : (PyData.int (r : Int)).shown = Str.ofString (toString (r : Int)) := by simp only [PyData.shown]
  unfold PyData.leavesShort
  refine decide_eq_true ?_
  rw [e2, PySem.ofString_length]
  omega
theorem show_int {r : Nat} (h : r < 1048576) : (PyData.int r).showable = true := by
  simp only [PyData.showable, decide_eq_true_eq]
  exact Nat.lt_trans (log2_20 h) (by decide)
theorem weight_int {r : Nat} (h : r < 1048576) : (PyData.int r).weight ≤ 21 := by
  simp only [PyData.weight]
  have := log2_20 h
  split
  · omega
  · show (r : Int).natAbs.log2 + 1 ≤ 21
    rw [Int.natAbs_natCast]; omega
theorem un64 {k : Nat} {A : Around} (hr : Room k A) : A.units + 64 < cLine := by have := hr.un; omega
theorem neSame {z : Str} {A B : Prop} (h : B) : if (!decide (V.str z = V.str z)) = true then A else B := by
  rw [decide_eq_true rfl]; exact iteF h
theorem jd_low {K : PySem.W.Frag} {H : Hp} {t : List Nat} (h : Low t) : Jd K H (.str (S t)) true := .inl ⟨_, rfl, h.isT.symm⟩
theorem eqT {i : Int} {A B : Prop} (h : A) : if decide (V.int i = V.int i) = true then A else B := by
  rw [decide_eq_true rfl]; exact iteT h
theorem eqF {i j : Int} {A B : Prop} (n : i ≠ j) (h : B) : if decide (V.int i = V.int j) = true then A else B := by
  rw [decide_eq_false (fun z => n (V.int.inj z))]; exact iteF h
theorem through2 {t : TE} {σ : L2.St} {H : Hp} {Q : VK} (R : V → Hp → Prop) (h : ∀ Q' : VK, (∀ v H', R v H' → Q' v H') → t σ H Q') (rest : ∀ v H', R v H' → Q v H') : t σ H Q := h Q rest
theorem eqS {z : Str} {A B : Prop} (h : A) : if decide (V.str z = V.str z) = true then A else B := by
  rw [decide_eq_true rfl]; exact iteT h
theorem dp_same {K : PySem.W.Frag} {H H' : Hp} (s : Same H H') {x : V} {d : PyData} (h : Dp K H x d) : Dp K H' x d :=
  Dp.rec (motive_1 := fun x d _ => Dp K H' x d) (motive_2 := fun xs ds _ => DpAll K H' xs ds) .non (fun _ => .bl _) (fun _ => .int _) (fun _ => .str _)
    (fun hs _ ih => .lst (hs.ext s) ih) (fun hs _ ih => .tup (hs.elim (fun h => .inl (h.elim (fun h => .inl (s _ _ h)) fun ⟨o, h⟩ => .inr ⟨o, s _ _ h⟩)) fun h => .inr h) ih) .nil (fun _ _ i1 i2 => .cons i1 i2) h
theorem Ds.same {K : PySem.W.Frag} {H H' : Hp} (s : Same H H') {x : V} {d : PyData} (h : Ds K H x d) : Ds K H' x d := by
  rcases h with h | ⟨a, kvs, ds, e, ea, r⟩
  · exact .inl (dp_same s h)
  · exact .inr ⟨a, kvs, ds, e, s _ _ ea, r⟩
theorem Kp.toSame {p : Addr} {H H1 H2 : Hp} (k : Kp p H1 H2) (s : Same H H1) (h : H p = none) : Same H H2 := fun b o e => k b o (ne_of_none e h) (s b o e)
theorem sh_str {z : List Nat} (h : z.length ≤ 1000) (hc : ∀ c ∈ z, c < 200) : Sh (.str (S z)) := by
  refine sh_of (by simp only [PyData.showable]) (by simp only [PyData.depth]; omega) ?_ ?_
  · unfold PyData.leavesShort
    rw [List.all_eq_true]
    intro c hcm
    have : c ∈ z := by rw [← S_tl z]; exact hcm
    have := hc c this
    exact decide_eq_true (by omega)
  · unfold PyData.weight
    show (S z).length ≤ 100000
    rw [S_len]; omega
/-! ### data that is small enough to be shown -/
structure Fit (x : PyData) (k w : Nat) : Prop where
  s : x.showable = true
  d : x.depth ≤ k
  l : x.leavesShort 40 = true
  w : x.weight ≤ w
structure FitAll (ds : List PyData) (k w : Nat) : Prop where
  s : PyData.showableAll ds = true
  d : PyData.depthAll ds ≤ k
  l : PyData.leavesShortAll 40 ds = true
  w : PyData.weightAll ds ≤ w
structure FitKv (ds : List (PyData × PyData)) (k w : Nat) : Prop where
  s : PyData.showableKv ds = true
  d : PyData.depthKv ds ≤ k
  l : PyData.leavesShortKv 40 ds = true
  w : PyData.weightKv ds ≤ w
theorem Fit.sh {d : PyData} {k w : Nat} (h : Fit d k w) (hk : k ≤ 60) (hw : w ≤ 100000) : Sh d := sh_of h.s (Nat.le_trans h.d hk) h.l (Nat.le_trans h.w hw)
theorem Fit.mono {d : PyData} {k w k' w' : Nat} (h : Fit d k w) (hk : k ≤ k') (hw : w ≤ w') : Fit d k' w' := ⟨h.s, Nat.le_trans h.d hk, h.l, Nat.le_trans h.w hw⟩
theorem FitAll.mono {d : List PyData} {k w k' w' : Nat} (h : FitAll d k w) (hk : k ≤ k') (hw : w ≤ w') : FitAll d k' w' := ⟨h.s, Nat.le_trans h.d hk, h.l, Nat.le_trans h.w hw⟩
theorem FitAll.nil {k : Nat} : FitAll [] k 0 := ⟨rfl, Nat.zero_le _, rfl, Nat.le_refl _⟩
theorem FitAll.cons {d : PyData} {ds : List PyData} {k w1 w2 : Nat} (h : Fit d k w1) (t : FitAll ds k w2) : FitAll (d :: ds) k (w1 + 1 + w2) := by
  refine ⟨?_, ?_, ?_, ?_⟩
  · unfold PyData.showableAll; rw [h.s, t.s]; rfl
  · unfold PyData.depthAll; have := h.d; have := t.d; omega
  · unfold PyData.leavesShortAll; rw [h.l, t.l]; rfl
  · unfold PyData.weightAll; have := h.w; have := t.w; omega
theorem Fit.list {ds : List PyData} {k w : Nat} (t : FitAll ds k w) : Fit (.list ds) (k + 1) w := by
  refine ⟨?_, ?_, ?_, ?_⟩
  · unfold PyData.showable; exact t.s
  · unfold PyData.depth; have := t.d; omega
  · unfold PyData.leavesShort; exact t.l
  · unfold PyData.weight; exact t.w
theorem Fit.tuple {ds : List PyData} {k w : Nat} (t : FitAll ds k w) : Fit (.tuple ds) (k + 1) w := by
  refine ⟨?_, ?_, ?_, ?_⟩
  · unfold PyData.showable; exact t.s
  · unfold PyData.depth; have := t.d; omega
  · unfold PyData.leavesShort; exact t.l
  · unfold PyData.weight; exact t.w
theorem Fit.none {k : Nat} : Fit .none k 0 := ⟨by unfold PyData.showable; rfl, by unfold PyData.depth; omega, by decide +kernel, by unfold PyData.weight; exact Nat.le_refl _⟩
theorem Fit.bool {b : Bool} {k : Nat} : Fit (.bool b) k 0 := ⟨by unfold PyData.showable; rfl, by unfold PyData.depth; omega, by cases b <;> decide +kernel, by unfold PyData.weight; exact Nat.le_refl _⟩
theorem Fit.nat {r k : Nat} (h : r < 1048576) : Fit (.int r) k 21 := ⟨show_int h, by unfold PyData.depth; omega, short_int h, weight_int h⟩
theorem Fit.str {z : List Nat} {k w : Nat} (h : z.length ≤ w) (hc : ∀ c ∈ z, c < 200) : Fit (.str (S z)) k w := by
  refine ⟨by unfold PyData.showable; rfl, by unfold PyData.depth; omega, ?_, ?_⟩
  · unfold PyData.leavesShort
    rw [List.all_eq_true]
    intro c hcm
    have : c ∈ z := by rw [← S_tl z]; exact hcm
    have := hc c this
    exact decide_eq_true (by omega)
  · unfold PyData.weight
    show (S z).length ≤ w
    rw [S_len]; exact h
theorem FitKv.nil {k : Nat} : FitKv [] k 0 := ⟨rfl, Nat.zero_le _, rfl, Nat.le_refl _⟩
theorem FitKv.cons {a b : PyData} {ds : List (PyData × PyData)} {k w1 w2 w3 : Nat} (h : Fit a k w1) (g : Fit b k w2) (t : FitKv ds k w3) : FitKv ((a, b) :: ds) k (w1 + w2 + 2 + w3) := by
  refine ⟨?_, ?_, ?_, ?_⟩
  · unfold PyData.showableKv; rw [h.s, g.s, t.s]; rfl
  · unfold PyData.depthKv; have := h.d; have := g.d; have := t.d; omega
  · unfold PyData.leavesShortKv; rw [h.l, g.l, t.l]; rfl
  · unfold PyData.weightKv; have := h.w; have := g.w; have := t.w; omega
theorem Fit.dict {ds : List (PyData × PyData)} {k w : Nat} (t : FitKv ds k w) : Fit (.dict ds) (k + 1) w := by
  refine ⟨?_, ?_, ?_, ?_⟩
  · unfold PyData.showable; exact t.s
  · unfold PyData.depth; have := t.d; omega
  · unfold PyData.leavesShort; exact t.l
  · unfold PyData.weight; exact t.w
abbrev natsD (ns : List Nat) : List PyData := ns.map fun (n : Nat) => PyData.int n
theorem FitAll.nats {k : Nat} : ∀ {ns : List Nat}, (∀ n ∈ ns, n < 1048576) → FitAll (natsD ns) k (22 * ns.length)
  | [], _ => FitAll.nil
  | n :: ns, h => (FitAll.cons (Fit.nat (h n List.mem_cons_self)) (FitAll.nats fun m hm => h m (List.mem_cons_of_mem _ hm))).mono (Nat.le_refl _) (by rw [List.length_cons]; omega)
theorem Low.lt {t : List Nat} (h : Low t) : ∀ c ∈ t, c < 200 := fun c hc => by
  have := h c hc
  unfold low at this
  simp only [Bool.and_eq_true, decide_eq_true_eq] at this
  omega
theorem dp_nats {K : PySem.W.Frag} {H : Hp} : ∀ ns : List Nat, DpAll K H (ns.map fun n => V.int (n : Nat)) (natsD ns)
  | [] => .nil
  | n :: ns => .cons (.int _) (dp_nats ns)
theorem un0 {k : Nat} {A : Around} (hr : Room k A) : A.units < cLine := Nat.lt_of_le_of_lt (Nat.le_add_right _ 64) (un64 hr)
end My

set_option Elab.async false
set_option linter.all false
set_option maxRecDepth 100000
set_option maxHeartbeats 4000000
/-! Values as data, empty dicts among them: what they are, their classes, == with a text, shown. -/
namespace L2
open PySem PySem.Spec PyProof.Rows
def kvV (p : Int × Int) : Key × V := (Sum.inl p.1, .int p.2)
def kvD (p : Int × Int) : PyData × PyData := (.int p.1, .int p.2)
/-! x is the data d; m: dicts are let, and then no list lies where the modules lie -/
mutual
inductive Dg (K : PySem.W.Frag) (H : Hp) (m : Bool) : V → PyData → Prop
  | non : Dg K H m .non .none
  | bl (b : Bool) : Dg K H m (.bl b) (.bool b)
  | int (i : Int) : Dg K H m (.int i) (.int i)
  | str (x : Str) : Dg K H m (.str x) (.str x)
  | lst {a : Addr} {xs : List V} {ds : List PyData} : SqL K H a xs → (m = true → (a == sysModules) = false) → DgAll K H m xs ds → Dg K H m (.ref a) (.list ds)
  | tup {a : Addr} {xs : List V} {ds : List PyData} : SqT K H a xs → DgAll K H m xs ds → Dg K H m (.ref a) (.tuple ds)
  | emp {a : Addr} : m = true → H a = some (.dK []) → Dg K H m (.ref a) (.dict [])
  | dct {a : Addr} (l : List (Int × Int)) : m = true → H a = some (.dK (l.map kvV)) → Dg K H m (.ref a) (.dict (l.map kvD))
inductive DgAll (K : PySem.W.Frag) (H : Hp) (m : Bool) : List V → List PyData → Prop
  | nil : DgAll K H m [] []
  | cons {v : V} {vs : List V} {d : PyData} {ds : List PyData} : Dg K H m v d → DgAll K H m vs ds → DgAll K H m (v :: vs) (d :: ds)
end
theorem dct_reads {P : Program} {w : World} (h : Heap) : ∀ (l : List (Int × Int)) (vs : List (Key × Value)) (es : List DictEntry), KV (l.map kvV) vs → PySem.Pairs (mixKind P w) es vs →
    ReadsAll h (es.map (·.key)) ((l.map kvD).map (·.1)) [] ∧ ReadsAll h (es.map (·.val)) ((l.map kvD).map (·.2)) []
  | [], _, _, hk, hp => by
    cases hk
    cases hp
    exact ⟨.nil, .nil⟩
  | (k, i) :: l, _, _, hk, hp => by
    cases hk with
    | cons h1 h2 =>
      obtain ⟨e1, r1⟩ := h1
      cases hp with
      | cons p1 p2 p3 =>
        rename_i q qs e es
        obtain ⟨qk, qv⟩ := q
        obtain rfl : Sum.inl k = qk := e1
        obtain ⟨t, rfl⟩ : ∃ t, qv = .int i t := r1
        obtain ⟨ih1, ih2⟩ := dct_reads h l qs es h2 p3
        have k1 : Value.isInt k e.key = true := p1
        obtain ⟨u, eu⟩ := Value.isInt_shape k1
        refine ⟨?_, ?_⟩
        · show ReadsAll h (e.key :: _) (.int k :: _) _
          rw [eu]
          exact ReadsAll.cons (Reads.int k u) ih1
        · show ReadsAll h (e.val :: _) (.int i :: _) _
          rw [p2]
          exact ReadsAll.cons (Reads.int i t) ih2
section
variable {X : Cx} {pins : List (Addr × Obj)} {σ : St} {H : Hp} {s : Shared} {m : Bool}
mutual
theorem Dg.reads (I : Inv X pins σ H s) : ∀ (d : PyData) (v : V) (u : Value), Dg X.K H m v d → RelV v u → ∃ as, Reads s.heap u d as ∧ (m = true → sysModules ∉ as)
  | .none, _, _, h, r => by
    cases h
    cases r
    exact ⟨_, Reads.none, fun _ => List.not_mem_nil⟩
  | .bool b, _, _, h, r => by
    cases h
    cases r
    exact ⟨_, Reads.bool b, fun _ => List.not_mem_nil⟩
  | .int i, _, _, h, r => by
    cases h
    obtain ⟨t, rfl⟩ := r
    exact ⟨_, Reads.int i t, fun _ => List.not_mem_nil⟩
  | .str x, _, _, h, r => by
    cases h
    obtain ⟨t, rfl⟩ := r
    exact ⟨_, Reads.str x t, fun _ => List.not_mem_nil⟩
  | .list ds, _, _, h, r => by
    cases h with
    | lst hs hl ha =>
      cases r
      obtain ⟨its, rv, ⟨o, n, ho, hc, _, hd⟩, _⟩ := I.list hs
      obtain ⟨as, hr, hm⟩ := Dg.readsAll I ds _ its ha rv
      refine ⟨_, Reads.list ho hc hd hr, fun e hh => ?_⟩
      rcases List.mem_cons.mp hh with q | q
      · have := hl e
        rw [← q] at this
        exact absurd this (by decide)
      · exact hm e q
  | .tuple ds, _, _, h, r => by
    cases h with
    | tup hs ha =>
      cases r
      obtain ⟨its, rv, ⟨o, ho, hc, n, hd⟩, _⟩ := I.tuple hs
      obtain ⟨as, hr, hm⟩ := Dg.readsAll I ds _ its ha rv
      exact ⟨_, Reads.tuple ho hc hd hr, hm⟩
  | .dict _, _, _, h, r => by
    cases h with
    | @emp a hm ha =>
      cases r
      obtain ⟨_, hsys, vs, hkv, od, es, ep, hget, hcl, hdat, hko, hps, _⟩ : ObjOk X.prog X.w H s.heap a (.dK []) := I.hok a _ ha
      cases hkv
      have he : es.toList = [] := by
        generalize es.toList = l at hps
        cases hps; rfl
      refine ⟨a :: [] ++ [], .dict hget hcl.1 hdat (by rw [he]; exact .nil) (by rw [he]; exact .nil), fun _ hh => ?_⟩
      have e : sysModules = a := by simpa using hh
      rw [← e] at hsys
      exact absurd hsys (by decide)
    | @dct a l hm ha =>
      cases r
      obtain ⟨_, hsys, vs, hkv, od, es, ep, hget, hcl, hdat, hko, hps, _⟩ : ObjOk X.prog X.w H s.heap a (.dK (l.map kvV)) := I.hok a _ ha
      obtain ⟨r1, r2⟩ := dct_reads s.heap l vs es.toList hkv hps
      refine ⟨a :: [] ++ [], .dict hget hcl.1 hdat r1 r2, fun _ hh => ?_⟩
      have e : sysModules = a := by simpa using hh
      rw [← e] at hsys
      exact absurd hsys (by decide)
theorem Dg.readsAll (I : Inv X pins σ H s) : ∀ (ds : List PyData) (vs : List V) (us : List Value), DgAll X.K H m vs ds → Vals vs us → ∃ as, ReadsAll s.heap us ds as ∧ (m = true → sysModules ∉ as)
  | [], _, _, h, r => by
    cases h
    cases r
    exact ⟨_, ReadsAll.nil, fun _ => List.not_mem_nil⟩
  | d :: ds, _, _, h, r => by
    cases h with
    | cons h1 h2 =>
      cases r with
      | cons r1 r2 =>
        obtain ⟨as, q1, n1⟩ := Dg.reads I d _ _ h1 r1
        obtain ⟨bs, q2, n2⟩ := Dg.readsAll I ds _ _ h2 r2
        exact ⟨_, ReadsAll.cons q1 q2, fun e hh => by
          rcases List.mem_append.mp hh with q | q
          · exact n1 e q
          · exact n2 e q⟩
end
end
theorem Dg.noDict {K : PySem.W.Frag} {H : Hp} {x : V} {d : PyData} (h : Dg K H false x d) : d.hasDict = false :=
  Dg.rec (motive_1 := fun _ d _ => d.hasDict = false) (motive_2 := fun _ ds _ => PyData.hasDictAll ds = false) rfl (fun _ => rfl) (fun _ => rfl) (fun _ => rfl)
    (fun _ _ _ ih => by unfold PyData.hasDict; exact ih) (fun _ _ ih => by unfold PyData.hasDict; exact ih) (fun e => by cases e) (fun _ e => by cases e) rfl (fun _ _ i1 i2 => by unfold PyData.hasDictAll; rw [i1, i2]; rfl) h
theorem SqL.same {K : PySem.W.Frag} {H H' : Hp} {a : Addr} {xs : List V} (h : SqL K H a xs) (s : ∀ b o, H b = some o → H' b = some o) : SqL K H' a xs := h.ext s
theorem Dg.ext {K : PySem.W.Frag} {H H' : Hp} {m : Bool} (s : ∀ b o, H b = some o → H' b = some o) {x : V} {d : PyData} (h : Dg K H m x d) : Dg K H' m x d :=
  Dg.rec (motive_1 := fun x d _ => Dg K H' m x d) (motive_2 := fun xs ds _ => DgAll K H' m xs ds) .non (fun _ => .bl _) (fun _ => .int _) (fun _ => .str _)
    (fun hs hl _ ih => .lst (hs.ext s) hl ih) (fun hs _ ih => .tup (hs.elim (fun h => .inl (h.elim (fun h => .inl (s _ _ h)) fun ⟨o, h⟩ => .inr ⟨o, s _ _ h⟩)) fun h => .inr h) ih) (fun e h => .emp e (s _ _ h)) (fun l e h => .dct l e (s _ _ h)) .nil (fun _ _ i1 i2 => .cons i1 i2) h
theorem DgAll.ext {K : PySem.W.Frag} {H H' : Hp} {m : Bool} (s : ∀ b o, H b = some o → H' b = some o) : ∀ {xs : List V} {ds : List PyData}, DgAll K H m xs ds → DgAll K H' m xs ds
  | _, _, .nil => .nil
  | _, _, .cons h t => .cons (h.ext s) (DgAll.ext s t)
theorem DgAll.len {K : PySem.W.Frag} {H : Hp} {m : Bool} : ∀ {xs : List V} {ds : List PyData}, DgAll K H m xs ds → xs.length = ds.length
  | _, _, .nil => rfl
  | _, _, .cons _ t => by rw [List.length_cons, List.length_cons, DgAll.len t]
theorem DgAll.at {K : PySem.W.Frag} {H : Hp} {m : Bool} : ∀ {xs : List V} {ds : List PyData}, DgAll K H m xs ds → ∀ (i : Nat) (x : V), xs[i]? = some x → ∃ d, ds[i]? = some d ∧ Dg K H m x d
  | _, _, .nil, i, x, h => by cases h
  | _, _, .cons h t, 0, x, e => by
    obtain rfl := Option.some.inj e
    exact ⟨_, rfl, h⟩
  | _, _, .cons h t, i + 1, x, e => DgAll.at t i x e
theorem DgAll.append {K : PySem.W.Frag} {H : Hp} {m : Bool} : ∀ {xs ys : List V} {ds es : List PyData}, DgAll K H m xs ds → DgAll K H m ys es → DgAll K H m (xs ++ ys) (ds ++ es)
  | _, _, _, _, .nil, h => h
  | _, _, _, _, .cons h t, g => .cons h (DgAll.append t g)
theorem DgAll.take {K : PySem.W.Frag} {H : Hp} {m : Bool} : ∀ (n : Nat) {xs : List V} {ds : List PyData}, DgAll K H m xs ds → DgAll K H m (xs.take n) (ds.take n)
  | 0, _, _, _ => by simp; exact .nil
  | n + 1, _, _, .nil => by simp; exact .nil
  | n + 1, _, _, .cons h t => by simp only [List.take_succ_cons]; exact .cons h (DgAll.take n t)
theorem DgAll.drop {K : PySem.W.Frag} {H : Hp} {m : Bool} : ∀ (n : Nat) {xs : List V} {ds : List PyData}, DgAll K H m xs ds → DgAll K H m (xs.drop n) (ds.drop n)
  | 0, _, _, h => h
  | n + 1, _, _, .nil => by simp; exact .nil
  | n + 1, _, _, .cons h t => by simp only [List.drop_succ_cons]; exact DgAll.drop n t
theorem Dg.int_of {K : PySem.W.Frag} {H : Hp} {m : Bool} {x : V} {i : Int} (h : Dg K H m x (.int i)) : x = .int i := by cases h; rfl
theorem Dg.str_of {K : PySem.W.Frag} {H : Hp} {m : Bool} {x : V} {i : Str} (h : Dg K H m x (.str i)) : x = .str i := by cases h; rfl
theorem Dg.tup_of {K : PySem.W.Frag} {H : Hp} {m : Bool} {x : V} {ds : List PyData} (h : Dg K H m x (.tuple ds)) : ∃ a xs, x = .ref a ∧ SqT K H a xs ∧ DgAll K H m xs ds := by
  cases h with
  | tup h1 h2 => exact ⟨_, _, rfl, h1, h2⟩
theorem Dg.lst_of {K : PySem.W.Frag} {H : Hp} {m : Bool} {x : V} {ds : List PyData} (h : Dg K H m x (.list ds)) : ∃ a xs, x = .ref a ∧ SqL K H a xs ∧ (m = true → (a == sysModules) = false) ∧ DgAll K H m xs ds := by
  cases h with
  | lst h1 h2 h3 => exact ⟨_, _, rfl, h1, h2, h3⟩
theorem DgAll.cons_of {K : PySem.W.Frag} {H : Hp} {m : Bool} {xs : List V} {d : PyData} {ds : List PyData} (h : DgAll K H m xs (d :: ds)) : ∃ x ys, xs = x :: ys ∧ Dg K H m x d ∧ DgAll K H m ys ds := by
  cases h with
  | cons h1 h2 => exact ⟨_, _, rfl, h1, h2⟩
theorem DgAll.nil_of {K : PySem.W.Frag} {H : Hp} {m : Bool} {xs : List V} (h : DgAll K H m xs []) : xs = [] := by cases h; rfl
/-! ### the classes of data -/
def tyD : PyData → String
  | .none => "NoneType" | .bool _ => "bool" | .int _ => "int" | .str _ => "str" | .list _ => "list" | .tuple _ => "tuple" | .dict _ => "dict"
theorem Dg.ty {K : PySem.W.Frag} {H : Hp} {m : Bool} {x : V} {d : PyData} (h : Dg K H m x d) : TyX K H x (.type (tyD d)) := by
  cases h with
  | non => exact .base .non
  | bl b => exact .base (.bl b)
  | int i => exact .base (.int i)
  | str z => exact .base (.str z)
  | lst hs _ _ =>
    rcases hs with (h | ⟨o, h⟩) | ⟨o, its, n, e, c, _⟩
    · exact .base (.lst h)
    · exact .base (.frz h)
    · exact .kList e c
  | tup hs _ =>
    rcases hs with (h | ⟨o, h⟩) | ⟨o, its, n, e, c, _⟩
    · exact .base (.tup h)
    · exact .fTuple h
    · exact .kTuple e c
  | emp _ h => exact .base (.dK h)
  | dct l _ h => exact .base (.dK h)
def isTupD : PyData → Bool | .tuple _ => true | _ => false
def isLstD : PyData → Bool | .list _ => true | _ => false
def isStrD : PyData → Bool | .str _ => true | _ => false
def isBlD : PyData → Bool | .bool _ => true | _ => false
def isNumD : PyData → Bool | .bool _ => true | .int _ => true | _ => false
theorem kit_tupD {K : PySem.W.Frag} (d : PyData) : PySem.W.kitOne K (.type (tyD d)) (.type "tuple") = some (isTupD d) := by
  cases d with
  | none => exact kit_ty (by decide +kernel : kitB "NoneType" "tuple" = some false)
  | bool _ => exact kit_ty (by decide +kernel : kitB "bool" "tuple" = some false)
  | int _ => exact kit_ty (by decide +kernel : kitB "int" "tuple" = some false)
  | str _ => exact kit_ty (by decide +kernel : kitB "str" "tuple" = some false)
  | list _ => exact kit_ty (by decide +kernel : kitB "list" "tuple" = some false)
  | tuple _ => exact kit_ty (by decide +kernel : kitB "tuple" "tuple" = some true)
  | dict _ => exact kit_ty (by decide +kernel : kitB "dict" "tuple" = some false)
theorem kit_lstD {K : PySem.W.Frag} (d : PyData) : PySem.W.kitOne K (.type (tyD d)) (.type "list") = some (isLstD d) := by
  cases d with
  | none => exact kit_ty (by decide +kernel : kitB "NoneType" "list" = some false)
  | bool _ => exact kit_ty (by decide +kernel : kitB "bool" "list" = some false)
  | int _ => exact kit_ty (by decide +kernel : kitB "int" "list" = some false)
  | str _ => exact kit_ty (by decide +kernel : kitB "str" "list" = some false)
  | list _ => exact kit_ty (by decide +kernel : kitB "list" "list" = some true)
  | tuple _ => exact kit_ty (by decide +kernel : kitB "tuple" "list" = some false)
  | dict _ => exact kit_ty (by decide +kernel : kitB "dict" "list" = some false)
theorem kit_strD {K : PySem.W.Frag} (d : PyData) : PySem.W.kitOne K (.type (tyD d)) (.type "str") = some (isStrD d) := by
  cases d with
  | none => exact kit_ty (by decide +kernel : kitB "NoneType" "str" = some false)
  | bool _ => exact kit_ty (by decide +kernel : kitB "bool" "str" = some false)
  | int _ => exact kit_ty (by decide +kernel : kitB "int" "str" = some false)
  | str _ => exact kit_ty (by decide +kernel : kitB "str" "str" = some true)
  | list _ => exact kit_ty (by decide +kernel : kitB "list" "str" = some false)
  | tuple _ => exact kit_ty (by decide +kernel : kitB "tuple" "str" = some false)
  | dict _ => exact kit_ty (by decide +kernel : kitB "dict" "str" = some false)
theorem kit_blD {K : PySem.W.Frag} (d : PyData) : PySem.W.kitOne K (.type (tyD d)) (.type "bool") = some (isBlD d) := by
  cases d with
  | none => exact kit_ty (by decide +kernel : kitB "NoneType" "bool" = some false)
  | bool _ => exact kit_ty (by decide +kernel : kitB "bool" "bool" = some true)
  | int _ => exact kit_ty (by decide +kernel : kitB "int" "bool" = some false)
  | str _ => exact kit_ty (by decide +kernel : kitB "str" "bool" = some false)
  | list _ => exact kit_ty (by decide +kernel : kitB "list" "bool" = some false)
  | tuple _ => exact kit_ty (by decide +kernel : kitB "tuple" "bool" = some false)
  | dict _ => exact kit_ty (by decide +kernel : kitB "dict" "bool" = some false)
theorem kit_numD {K : PySem.W.Frag} (d : PyData) : PySem.W.kitOne K (.type (tyD d)) (.type "int") = some (isNumD d) := by
  cases d with
  | none => exact kit_ty (by decide +kernel : kitB "NoneType" "int" = some false)
  | bool _ => exact kit_ty (by decide +kernel : kitB "bool" "int" = some true)
  | int _ => exact kit_ty (by decide +kernel : kitB "int" "int" = some true)
  | str _ => exact kit_ty (by decide +kernel : kitB "str" "int" = some false)
  | list _ => exact kit_ty (by decide +kernel : kitB "list" "int" = some false)
  | tuple _ => exact kit_ty (by decide +kernel : kitB "tuple" "int" = some false)
  | dict _ => exact kit_ty (by decide +kernel : kitB "dict" "int" = some false)
/-! ### shown -/
def rReprG (K : PySem.W.Frag) : List V → Hp → VK → Prop := fun xs H Q => ∃ x d m, xs = [x] ∧ Dg K H m x d ∧ d.showable = true ∧ d.depth ≤ 60 ∧ d.shown.length ≤ sizeLine ∧ Q (.str d.shown) H
theorem call_reprG {X : Cx} (hc : X.A.guards = some []) (hu : X.A.units + 64 < cLine) : CallR X (.builtin "repr") (rReprG X.K) := by
  intro pins s σ H xs us Q I r h
  obtain ⟨x, d, m, rfl, hd, hs, hdp, hz, q⟩ := h
  obtain ⟨u, rfl, r1⟩ := vals1 r
  obtain ⟨as, rd, hn⟩ := Dg.reads I d x u hd r1
  have nd : d.hasDict = true → sysModules ∉ as := fun e => by
    cases m with
    | true => exact hn rfl
    | false => rw [hd.noDict] at e; cases e
  cases hd with
  | non => cases rd; exact P.repr_of_none ⟨.str _, H, I.tok _, ⟨_, rfl⟩, q⟩
  | bl b => cases rd; exact P.repr_of_bool ⟨.str _, H, I.tok _, ⟨_, rfl⟩, q⟩
  | int i =>
    cases rd
    have hi : i.natAbs.log2 < 1920 := of_decide_eq_true hs
    exact P.repr_of_int hi ⟨.str _, H, I.tok _, ⟨_, rfl⟩, q⟩
  | str z => cases rd; exact P.repr_of_str ⟨.str _, H, I.tok _, ⟨_, rfl⟩, q⟩ hz
  | lst h1 h2 h3 =>
    obtain rfl : u = Value.ref _ := r1
    exact repr_of_reads' rd hs nd hc (by omega) (fun _ _ e => e) (fun h' u tk k => ⟨.str _, H, I.kept k, ⟨_, rfl⟩, q⟩) hz
  | tup h1 h2 =>
    obtain rfl : u = Value.ref _ := r1
    exact repr_of_reads' rd hs nd hc (by omega) (fun _ _ e => e) (fun h' u tk k => ⟨.str _, H, I.kept k, ⟨_, rfl⟩, q⟩) hz
  | emp h1 h2 =>
    obtain rfl : u = Value.ref _ := r1
    exact repr_of_reads' rd hs nd hc (by omega) (fun _ _ e => e) (fun h' u tk k => ⟨.str _, H, I.kept k, ⟨_, rfl⟩, q⟩) hz
  | dct l h1 h2 =>
    obtain rfl : u = Value.ref _ := r1
    exact repr_of_reads' rd hs nd hc (by omega) (fun _ _ e => e) (fun h' u tk k => ⟨.str _, H, I.kept k, ⟨_, rfl⟩, q⟩) hz
end L2
namespace DataQ
open PySem PySem.Spec PyProof.Rows
/-! ### a dict is no text -/
section
variable {prog : Program} {w : World} {A : Around} {E : Value → Shared → Prop} {s : Shared}
theorem dict_eq_declines_str (l : Addr) (es : Array DictEntry) (n : Nat) (dd : Option Addr) (sl : Array (Option Value)) (b : Str) (u : Tok) :
    Meets (Builtin.«dict.__eq__» ⟨[.ref l, .str b u], []⟩) (fun _ R s => s.heap.get? l = some { cls := .type "dict", dict := dd, data := .dict es n, slots := sl } ∧ R (.ok (.ret .notImplemented)) s) :=
  .of_wp fun prog w A R s h => by obtain ⟨hp, g, d, tk, os⟩ := s; obtain ⟨hl, h⟩ := h; have f1 := F.sub_str_dict; wp_walk using wpAny_load hl; exact ⟨_, rfl, h⟩
theorem dict_ne_declines_str (l : Addr) (es : Array DictEntry) (n : Nat) (dd : Option Addr) (sl : Array (Option Value)) (b : Str) (u : Tok) :
    Meets (Builtin.«dict.__ne__» ⟨[.ref l, .str b u], []⟩) (fun _ R s => s.heap.get? l = some { cls := .type "dict", dict := dd, data := .dict es n, slots := sl } ∧ R (.ok (.ret .notImplemented)) s) :=
  .of_wp fun prog w A R s h => by obtain ⟨hp, g, d, tk, os⟩ := s; obtain ⟨hl, h⟩ := h; have f1 := F.sub_str_dict; wp_walk using wpAny_load hl; exact ⟨_, rfl, h⟩
theorem str_eq_declines_dict (b : Str) (u : Tok) (l : Addr) (es : Array DictEntry) (n : Nat) (dd : Option Addr) (sl : Array (Option Value)) :
    Meets (Builtin.«str.__eq__» ⟨[.str b u, .ref l], []⟩) (fun _ R s => s.heap.get? l = some { cls := .type "dict", dict := dd, data := .dict es n, slots := sl } ∧ R (.ok (.ret .notImplemented)) s) :=
  .of_wp fun prog w A R s h => by obtain ⟨hp, g, d, tk, os⟩ := s; obtain ⟨hl, h⟩ := h; wp_walk using wpAny_load hl; exact ⟨_, rfl, h⟩
theorem str_ne_declines_dict (b : Str) (u : Tok) (l : Addr) (es : Array DictEntry) (n : Nat) (dd : Option Addr) (sl : Array (Option Value)) :
    Meets (Builtin.«str.__ne__» ⟨[.str b u, .ref l], []⟩) (fun _ R s => s.heap.get? l = some { cls := .type "dict", dict := dd, data := .dict es n, slots := sl } ∧ R (.ok (.ret .notImplemented)) s) :=
  .of_wp fun prog w A R s h => by obtain ⟨hp, g, d, tk, os⟩ := s; obtain ⟨hl, h⟩ := h; wp_walk using wpAny_load hl; exact ⟨_, rfl, h⟩
theorem rc_dict_str {l : Addr} {dd : Option Addr} {es : Array DictEntry} {n : Nat} {sl : Array (Option Value)} (b : Str) (u : Tok) (ho : s.heap.get? l = some { cls := .type "dict", dict := dd, data := .dict es n, slots := sl }) (hu : A.units < cLine)
    {Q : Value → Shared → Prop} (h : Q (.bool false) s) : wpAny (model prog w) A (richCompare .Eq (.ref l) (.str b u)) Q E s :=
  PySem.SeqAt.rc_eq_decline_or (k := false) ⟨_, ho, rfl⟩ (typeIs_str s b u) (by decide) F.sub_str_dict F.slot_dict_eq F.slot_str_eq_refl
    (fun _ hq => call_meets F.slot_dict_eq ⟨_, ho, rfl⟩ F.entry_dict_eq (F.args_dict_eq_2 _ _) (dict_eq_declines_str l es n dd sl b u) ⟨ho, hq⟩)
    (fun _ hq => call_meets F.slot_str_eq_refl (typeIs_str s b u) F.entry_str_eq (F.args_str_eq_2 _ _) (str_eq_declines_dict b u l es n dd sl) ⟨ho, hq⟩)
    (fun _ hq => wpAny_of_eq (rfl : isSame (.ref l) (.str b u) = pure false) hq) (.inr hu) h
theorem rcNe_dict_str {l : Addr} {dd : Option Addr} {es : Array DictEntry} {n : Nat} {sl : Array (Option Value)} (b : Str) (u : Tok) (ho : s.heap.get? l = some { cls := .type "dict", dict := dd, data := .dict es n, slots := sl }) (hu : A.units < cLine)
    {Q : Value → Shared → Prop} (h : Q (.bool true) s) : wpAny (model prog w) A (richCompare .NotEq (.ref l) (.str b u)) Q E s :=
  PySem.SeqAt.rc_ne_decline_or (k := false) ⟨_, ho, rfl⟩ (typeIs_str s b u) (by decide) F.sub_str_dict F.slot_dict_ne F.slot_str_ne_refl
    (fun _ hq => call_meets F.slot_dict_ne ⟨_, ho, rfl⟩ F.entry_dict_ne (F.args_dict_ne_2 _ _) (dict_ne_declines_str l es n dd sl b u) ⟨ho, hq⟩)
    (fun _ hq => call_meets F.slot_str_ne_refl (typeIs_str s b u) F.entry_str_ne (F.args_str_ne_2 _ _) (str_ne_declines_dict b u l es n dd sl) ⟨ho, hq⟩)
    (fun _ hq => wpAny_of_eq (rfl : isSame (.ref l) (.str b u) = pure false) hq) (.inr hu) h
end
end DataQ
namespace L2
open PySem PySem.Spec PyProof.Rows
/-- the data is this text -/
def isS (z : Str) : PyData → Bool
  | .str y => decide (y = z)
  | _ => false
section
variable {X : Cx}
def rEqGS (K : PySem.W.Frag) : R2 := fun x y H Q => ∃ d m z, Dg K H m x d ∧ y = .str z ∧ Q (.bl (isS z d)) H
def rNeGS (K : PySem.W.Frag) : R2 := fun x y H Q => ∃ d m z, Dg K H m x d ∧ y = .str z ∧ Q (.bl (!isS z d)) H
theorem op_eqGS (hu : X.A.units + 64 < cLine) : OpR X (compareOp .Eq) (rEqGS X.K) := by
  intro pins s σ H x y v u Q I rx ry h
  obtain ⟨d, m, z, hd, rfl, q⟩ := h
  have hu' : X.A.units < cLine := by omega
  obtain ⟨as, rd, _⟩ := Dg.reads I d x v hd rx
  obtain ⟨t, rfl⟩ := ry
  cases hd with
  | non => exact op_eq pins s σ H .non (.str z) _ _ Q I rx ⟨t, rfl⟩ ⟨rfl, by rw [decide_eq_false (fun e => V.noConfusion e)]; exact q⟩
  | bl b => exact op_eq pins s σ H (.bl b) (.str z) _ _ Q I rx ⟨t, rfl⟩ ⟨rfl, by rw [decide_eq_false (fun e => V.noConfusion e)]; exact q⟩
  | int i => exact op_eq pins s σ H (.int i) (.str z) _ _ Q I rx ⟨t, rfl⟩ ⟨rfl, by rw [decide_eq_false (fun e => V.noConfusion e)]; exact q⟩
  | str y =>
    refine op_eq pins s σ H (.str y) (.str z) _ _ Q I rx ⟨t, rfl⟩ ⟨rfl, ?_⟩
    have e : decide (V.str y = V.str z) = isS z (.str y) := by
      show _ = decide (y = z)
      rw [Bool.eq_iff_iff]; simp
    rw [e]; exact q
  | lst h1 h2 h3 =>
    obtain rfl : v = Value.ref _ := rx
    obtain ⟨its, rv, ⟨o, n, ho, hc, _, hdd⟩, _⟩ := I.list h1
    exact PySem.SeqAt.RcAt.list_str z t ⟨o, ho, hc, n, hdd⟩ hu' X.prog X.w _ _ ⟨.bl _, H, I, rfl, q⟩
  | tup h1 h2 =>
    obtain rfl : v = Value.ref _ := rx
    obtain ⟨its, rv, ⟨o, ho, hc, n, hdd⟩, _⟩ := I.tuple h1
    exact PySem.SeqAt.RcAt.tuple_str z t ⟨o, ho, hc, n, hdd⟩ hu' X.prog X.w _ _ ⟨.bl _, H, I, rfl, q⟩
  | @emp a h1 ha =>
    obtain rfl : v = Value.ref _ := rx
    obtain ⟨_, hsys, vs, hkv, od, es, ep, hget, hcl, hdat, hko, hps, _⟩ : ObjOk X.prog X.w H s.heap a (.dK []) := I.hok a _ ha
    obtain ⟨oc, odd, odt, osl⟩ := od
    obtain ⟨hc1, hc2⟩ := hcl
    simp only at hc1 hdat
    subst hc1 hdat
    exact DataQ.rc_dict_str z t hget hu' ⟨.bl _, H, I, rfl, q⟩
  | @dct a l h1 ha =>
    obtain rfl : v = Value.ref _ := rx
    obtain ⟨_, hsys, vs, hkv, od, es, ep, hget, hcl, hdat, hko, hps, _⟩ : ObjOk X.prog X.w H s.heap a (.dK (l.map kvV)) := I.hok a _ ha
    obtain ⟨oc, odd, odt, osl⟩ := od
    obtain ⟨hc1, hc2⟩ := hcl
    simp only at hc1 hdat
    subst hc1 hdat
    exact DataQ.rc_dict_str z t hget hu' ⟨.bl _, H, I, rfl, q⟩
theorem op_neGS (hu : X.A.units + 64 < cLine) : OpR X (compareOp .NotEq) (rNeGS X.K) := by
  intro pins s σ H x y v u Q I rx ry h
  obtain ⟨d, m, z, hd, rfl, q⟩ := h
  have hu' : X.A.units < cLine := by omega
  obtain ⟨as, rd, _⟩ := Dg.reads I d x v hd rx
  obtain ⟨t, rfl⟩ := ry
  cases hd with
  | non => exact op_ne pins s σ H .non (.str z) _ _ Q I rx ⟨t, rfl⟩ ⟨rfl, by rw [decide_eq_false (fun e => V.noConfusion e)]; exact q⟩
  | bl b => exact op_ne pins s σ H (.bl b) (.str z) _ _ Q I rx ⟨t, rfl⟩ ⟨rfl, by rw [decide_eq_false (fun e => V.noConfusion e)]; exact q⟩
  | int i => exact op_ne pins s σ H (.int i) (.str z) _ _ Q I rx ⟨t, rfl⟩ ⟨rfl, by rw [decide_eq_false (fun e => V.noConfusion e)]; exact q⟩
  | str y =>
    refine op_ne pins s σ H (.str y) (.str z) _ _ Q I rx ⟨t, rfl⟩ ⟨rfl, ?_⟩
    have e : decide (V.str y = V.str z) = isS z (.str y) := by
      show _ = decide (y = z)
      rw [Bool.eq_iff_iff]; simp
    rw [e]; exact q
  | lst h1 h2 h3 =>
    obtain rfl : v = Value.ref _ := rx
    obtain ⟨its, rv, ⟨o, n, ho, hc, _, hdd⟩, _⟩ := I.list h1
    exact PySem.SeqAt.RcNeAt.list_str z t ⟨o, ho, hc, n, hdd⟩ hu' X.prog X.w _ _ ⟨.bl _, H, I, rfl, q⟩
  | tup h1 h2 =>
    obtain rfl : v = Value.ref _ := rx
    obtain ⟨its, rv, ⟨o, ho, hc, n, hdd⟩, _⟩ := I.tuple h1
    exact PySem.SeqAt.RcNeAt.tuple_str z t ⟨o, ho, hc, n, hdd⟩ hu' X.prog X.w _ _ ⟨.bl _, H, I, rfl, q⟩
  | @emp a h1 ha =>
    obtain rfl : v = Value.ref _ := rx
    obtain ⟨_, hsys, vs, hkv, od, es, ep, hget, hcl, hdat, hko, hps, _⟩ : ObjOk X.prog X.w H s.heap a (.dK []) := I.hok a _ ha
    obtain ⟨oc, odd, odt, osl⟩ := od
    obtain ⟨hc1, hc2⟩ := hcl
    simp only at hc1 hdat
    subst hc1 hdat
    exact DataQ.rcNe_dict_str z t hget hu' ⟨.bl _, H, I, rfl, q⟩
  | @dct a l h1 ha =>
    obtain rfl : v = Value.ref _ := rx
    obtain ⟨_, hsys, vs, hkv, od, es, ep, hget, hcl, hdat, hko, hps, _⟩ : ObjOk X.prog X.w H s.heap a (.dK (l.map kvV)) := I.hok a _ ha
    obtain ⟨oc, odd, odt, osl⟩ := od
    obtain ⟨hc1, hc2⟩ := hcl
    simp only at hc1 hdat
    subst hc1 hdat
    exact DataQ.rcNe_dict_str z t hget hu' ⟨.bl _, H, I, rfl, q⟩
/-- a list display, which does not lie where the modules lie -/
def tLstS (t : TA) : TE := fun σ H Q => t σ H fun xs H1 => xs.length ≤ sizeLine ∧ ∀ l, H1 l = none → (l == sysModules) = false → Q (.ref l) (upd H1 l (.lst xs))
theorem pe_lstS {es : List Expr} {pos : Pos} {t : TA} (h : PA X es t) : PE X (.List es pos) (tLstS t) := by
  refine ⟨fun pins s σ H Q I hq => ?_⟩
  refine wpAny_List_spliced (thn (h.run pos pins s σ H _ I hq) fun us s1 ⟨xs, H1, I1, r, z, q⟩ => ⟨by rw [← r.length]; exact z, ?_⟩)
  have hf : H1 s1.heap.objs.size = none := I1.hok.fresh (Nat.le_refl _)
  have hb := I1.big
  refine ⟨.ref s1.heap.objs.size, upd H1 s1.heap.objs.size (.lst xs), I1.laid (t' := s1.toks) (fun b u e => Heap.get?_push_of_some _ e) (Nat.le_refl _) ?_, rfl, q _ hf ?_⟩
  · exact ⟨z, us, 0, r, Heap.get?_push_size _ rfl⟩
  · rw [beq_eq_false_iff_ne]
    exact Ne.symm (Nat.ne_of_lt hb)
/-- xs != [] -/
def rNeNil : R2 := fun x y H Q => ∃ p q xs, x = .ref p ∧ y = .ref q ∧ H p = some (.lst xs) ∧ H q = some (.lst []) ∧ Q (.bl (!decide (xs = []))) H
theorem op_ne_nil (hu : X.A.units < cLine) : OpR X (compareOp .NotEq) rNeNil := by
  intro pins s σ H x y v u Q I rx ry h
  obtain ⟨p, q, xs, rfl, rfl, hp, hq, k⟩ := h
  cases (show v = Value.ref p from rx)
  cases (show u = Value.ref q from ry)
  obtain ⟨z1, its, n, r1, hl, e1⟩ := I.lstM hp
  obtain ⟨z2, its2, n2, r2, hl2, e2⟩ := I.lstM hq
  cases r2
  have L2 : s.heap.IsList q (#[] : Array Value) := ⟨_, e2, rfl, _, rfl⟩
  have L1 : s.heap.IsList p its.toArray := ⟨_, e1, rfl, _, rfl⟩
  by_cases e : xs = []
  · subst e
    cases r1
    have := PySem.SeqAt.RcNeAt.lists (e := fun _ => true) L1 L2 rfl hu (fun j h1 _ => absurd h1 (Nat.not_lt_zero j))
    exact this X.prog X.w _ _ ⟨.bl _, H, I, rfl, k⟩
  · rw [decide_eq_false e] at k
    have l := r1.length
    have := List.length_pos_iff.mpr e
    exact PySem.SeqAt.RcNeAt.lists_lengths L1 L2 (by simp only [List.size_toArray, bne_iff_ne, ne_eq]; show ¬ its.length = 0; omega) hu X.prog X.w _ _ ⟨.bl _, H, I, rfl, k⟩
/-- D is a dict of the module that tells numbers for texts -/
def KTab (K : PySem.W.Frag) (w : World) (D : Addr) (f : Str → Option Int) : Prop := (∃ es n, KDict K w D es n) ∧ ∀ z, match f z with | none => PySem.W.nsIn K D z = some none | some i => ∃ t, PySem.W.nsIn K D z = some (some (.int i t))
def rNotInTab (D : Addr) (f : Str → Option Int) : R2 := fun x y H Q => ∃ z, x = .str z ∧ y = .ref D ∧ Q (.bl (f z).isNone) H
theorem op_notIn_tab {D : Addr} {f : Str → Option Int} (T : KTab X.K X.w D f) : OpR X (compareOp .NotIn) (rNotInTab D f) := by
  obtain ⟨⟨es, n, kd⟩, hv⟩ := T
  intro pins s σ H x y v u Q I rx ry h
  obtain ⟨z, rfl, rfl, q⟩ := h
  have e := hv z
  cases hf : f z with
  | none =>
    rw [hf] at e q
    exact op_notIn_kd kd pins s σ H _ _ v u Q I rx ry ⟨z, none, rfl, rfl, e, q⟩
  | some i =>
    rw [hf] at e q
    obtain ⟨t, e⟩ := e
    exact op_notIn_kd kd pins s σ H _ _ v u Q I rx ry ⟨z, _, rfl, rfl, e, q⟩
def rIxTab (D : Addr) (f : Str → Option Int) : R2 := fun x y H Q => ∃ z i, x = .ref D ∧ y = .str z ∧ f z = some i ∧ Q (.int i) H
theorem ix_tab {D : Addr} {f : Str → Option Int} (T : KTab X.K X.w D f) : IxR X (rIxTab D f) := by
  obtain ⟨⟨es, n, kd⟩, hv⟩ := T
  intro value slice pins s σ H x y v u Q I rx ry h hs
  obtain ⟨z, i, rfl, rfl, hf, q⟩ := h
  have e := hv z
  rw [hf] at e
  obtain ⟨t, e⟩ := e
  exact ix_kdict value slice pins s σ H _ _ v u Q I rx ry ⟨D, z, .int i, rfl, rfl, ⟨es, n, _, kd.at_, kd.lit, e, ⟨t, rfl⟩⟩, q⟩ hs
theorem call_list_ofS : CallR X (.type "list") (fun xs H Q => ∃ p ys, xs = [.ref p] ∧ (SqL X.K H p ys ∨ SqT X.K H p ys) ∧ ∀ l, H l = none → (l == sysModules) = false → Q (.ref l) (upd H l (.lst ys))) := by
  intro pins s σ H xs us Q I r h
  obtain ⟨p, ys, rfl, hq, q⟩ := h
  obtain ⟨u, rfl, rx⟩ := vals1 r
  cases rx
  have hb := I.big
  have fin : ∀ (its : List Value), Vals ys its → ys.length ≤ sizeLine → ∀ (h' : Heap) (c' : Nat), (∀ b o', s.heap.get? b = some o' → h'.get? b = some o') →
      h'.get? s.heap.objs.size = some { cls := .type "list", dict := none, data := .seq its.toArray c', slots := #[] } → EP X pins σ Q (.ref s.heap.objs.size) { s with heap := h' } := fun its r' hz h' c' kp e =>
    ⟨.ref s.heap.objs.size, _, I.laid (t' := s.toks) kp (Nat.le_refl _) (show ObjOk X.prog X.w _ h' _ (.lst ys) from ⟨hz, its, c', r', e⟩), rfl, q _ (I.hok.fresh (Nat.le_refl _)) (beq_eq_false_iff_ne.mpr (Ne.symm (Nat.ne_of_lt hb)))⟩
  rcases hq with hq | hq
  · obtain ⟨its, r', pl, hz⟩ := I.list hq
    have hlen := r'.length
    obtain ⟨o, ho, hc, n, hd⟩ := pl.isList
    exact call_list_seq p (.inl rfl) ho hc hd (fun h' c' kp e => fin its r' hz h' c' kp e) (by simp only [List.size_toArray] <;> omega)
  · obtain ⟨its, r', pl, hz⟩ := I.tuple hq
    have hlen := r'.length
    obtain ⟨o, ho, hc, n, hd⟩ := pl
    exact call_list_seq p (.inr rfl) ho hc hd (fun h' c' kp e => fin its r' hz h' c' kp e) (by simp only [List.size_toArray] <;> omega)
theorem ix_tupK {K : PySem.W.Frag} (e : X.K = K) : IxR X (rIxT K) := by rw [← e]; exact ix_tup
theorem op_eqGSK {K : PySem.W.Frag} (e : X.K = K) (hu : X.A.units + 64 < cLine) : OpR X (compareOp .Eq) (rEqGS K) := by subst e; exact op_eqGS hu
theorem op_neGSK {K : PySem.W.Frag} (e : X.K = K) (hu : X.A.units + 64 < cLine) : OpR X (compareOp .NotEq) (rNeGS K) := by subst e; exact op_neGS hu
theorem sl_tupAK {K : PySem.W.Frag} (e : X.K = K) : SlR X (rSlA K) := by subst e; exact sl_tupA
end
theorem tab_keys {P : Params} {z : Str} : ∀ {l : List DictEntry} {ks : List Str}, l.map He.keyOf = He.keysIn P ks → z ∉ ks → l.find? (·.key.isStr z) = none ∧ l.any (·.refKey) = false
  | [], _, _, _ => ⟨rfl, rfl⟩
  | e :: r, [], h, _ => by cases h
  | e :: r, k :: ks, h, n => by
    have h1 : He.keyOf e :: r.map He.keyOf = some (k, PyData.keyHash P k) :: He.keysIn P ks := h
    injection h1 with h2 h3
    obtain ⟨i1, i2⟩ := tab_keys h3 (fun z => n (List.mem_cons_of_mem _ z))
    unfold He.keyOf at h2
    split at h2
    · rename_i x t q
      have h4 := Option.some.inj h2
      obtain ⟨h5, h6⟩ := Prod.mk.inj h4
      have e1 : e.key.isStr z = false := by
        rw [q, h5]
        show (k == z) = false
        exact beq_eq_false_iff_ne.mpr fun e => n (by rw [← e]; exact List.mem_cons_self)
      have e2 : e.refKey = false := by unfold DictEntry.refKey; rw [q]
      exact ⟨by rw [List.find?_cons_of_neg (by rw [e1]; exact Bool.false_ne_true)]; exact i1, by rw [List.any_cons, e2, i2]; rfl⟩
    · cases h2
theorem tab_none {K : PySem.W.Frag} {P : Params} {D : Addr} {ks : List Str} {z : Str} (h : He.dicW K D = some (He.keysIn P ks)) (hz : z ∉ ks) : PySem.W.nsIn K D z = some none := by
  unfold He.dicW at h
  unfold PySem.W.nsIn
  cases q : K.lookup D with
  | none => rw [q] at h; cases h
  | some o =>
    obtain ⟨oc, od, dt, osl⟩ := o
    rw [q] at h
    cases oc with
    | type c =>
      cases od with
      | none =>
        cases dt with
        | dict es n =>
          have h1 : (match decide (c = "dict") && (osl.isEmpty && !(D == sysModules)) with
            | true => some (es.toList.map He.keyOf)
            | false => none) = some (He.keysIn P ks) := h
          split at h1
          · obtain ⟨a, b⟩ := tab_keys (Option.some.inj h1) hz
            show (match es.toList.find? (·.key.isStr z) with
              | some e => some (some e.val)
              | none => if es.toList.any (·.refKey) then none else some none) = some none
            rw [a, b]; rfl
          · cases h1
        | _ => cases h
      | some _ => cases h
    | _ => cases h
end L2

set_option Elab.async false
set_option linter.all false
set_option maxRecDepth 100000
set_option maxHeartbeats 4000000
/-! Data beside the box of draws; displays of data. -/
namespace My
open PySem PySem.Spec PyProof.Rows L2
/-- the heap without p -/
def wo (H : Hp) (p : Addr) : Hp := fun b => if b = p then none else H b
theorem wo_ne {H : Hp} {p b : Addr} (h : b ≠ p) : wo H p b = H b := by unfold wo; rw [if_neg h]
theorem wo_at {H : Hp} {p : Addr} : wo H p p = none := by unfold wo; rw [if_pos rfl]
theorem wo_le {H : Hp} {p b : Addr} {o : HO} (h : wo H p b = some o) : H b = some o := by
  by_cases e : b = p
  · rw [e, wo_at] at h; cases h
  · rw [wo_ne e] at h; exact h
theorem wo_upd {H : Hp} {p : Addr} {o : HO} : wo (upd H p o) p = wo H p := by
  funext b
  by_cases e : b = p
  · rw [e, wo_at, wo_at]
  · rw [wo_ne e, wo_ne e, upd_ne e]
theorem Kp.wo {p : Addr} {H H' : Hp} (k : Kp p H H') : Same (wo H p) (wo H' p) := fun b o e => by
  have n : b ≠ p := fun z => by rw [z, wo_at] at e; cases e
  rw [wo_ne n] at e ⊢
  exact k b o n e
theorem wo_same (H : Hp) (p : Addr) : Same (wo H p) H := fun _ _ e => wo_le e
/-- data, of which p is no part -/
abbrev Dw (K : PySem.W.Frag) (p : Addr) (H : Hp) (m : Bool) (x : V) (d : PyData) : Prop := Dg K (wo H p) m x d
abbrev DwAll (K : PySem.W.Frag) (p : Addr) (H : Hp) (m : Bool) (xs : List V) (ds : List PyData) : Prop := DgAll K (wo H p) m xs ds
theorem _root_.L2.Dg.kp {K : PySem.W.Frag} {p : Addr} {H H' : Hp} {m : Bool} {x : V} {d : PyData} (h : Dw K p H m x d) (k : Kp p H H') : Dw K p H' m x d := h.ext k.wo
theorem _root_.L2.DgAll.kp {K : PySem.W.Frag} {p : Addr} {H H' : Hp} {m : Bool} {x : List V} {d : List PyData} (h : DwAll K p H m x d) (k : Kp p H H') : DwAll K p H' m x d := h.ext k.wo
theorem _root_.L2.Dg.dg {K : PySem.W.Frag} {p : Addr} {H : Hp} {m : Bool} {x : V} {d : PyData} (h : Dw K p H m x d) : Dg K H m x d := h.ext (wo_same H p)
theorem _root_.L2.DgAll.dg {K : PySem.W.Frag} {p : Addr} {H : Hp} {m : Bool} {x : List V} {d : List PyData} (h : DwAll K p H m x d) : DgAll K H m x d := h.ext (wo_same H p)
theorem wo_new {H : Hp} {p q : Addr} {o : HO} (h : q ≠ p) : wo (upd H q o) p = upd (wo H p) q o := by
  funext b
  by_cases e : b = p
  · rw [e, wo_at, upd_ne (Ne.symm h), wo_at]
  · rw [wo_ne e]
    by_cases e2 : b = q
    · rw [e2, upd_same, upd_same]
    · rw [upd_ne e2, upd_ne e2, wo_ne e]
/-- a part of the heap that keeps what stands beside p, and all new things -/
structure Res (p : Addr) (H : Hp) (w : Hp → Hp) : Prop where
  sub : ∀ G, Same (w G) G
  kp : ∀ {G G' : Hp}, Kp p G G' → Same (w G) (w G')
  new : ∀ {G : Hp} {r : Addr} {o : HO}, Kp p H G → G p ≠ none → G r = none → w (L2.upd G r o) r = some o
theorem Res.mono {p : Addr} {H H' : Hp} {w : Hp → Hp} (R : Res p H w) (k : Kp p H H') : Res p H' w := ⟨R.sub, R.kp, fun k' n hr => R.new (k.trans k') n hr⟩
theorem res_p {p : Addr} {H : Hp} : Res p H (fun G => wo G p) := ⟨fun G => wo_same G p, fun k => k.wo, fun {G r o} _ n hr => by
  have nr : r ≠ p := fun z => n (by rw [← z]; exact hr)
  show wo (L2.upd G r o) p r = some o
  rw [wo_ne nr]; exact upd_same⟩
theorem res_two {p D : Addr} {H : Hp} {ob : HO} (hD : H D = some ob) (n : D ≠ p) : Res p H (fun G => wo (wo G p) D) := ⟨fun G => fun b o e => wo_le (wo_le e), fun {G G'} k => fun b o e => by
  have n : b ≠ D := fun z => by rw [z, wo_at] at e; cases e
  rw [wo_ne n] at e ⊢
  exact k.wo b o e, fun {G r o} k np hr => by
  have nr : r ≠ p := fun z => np (by rw [← z]; exact hr)
  have nD : r ≠ D := fun z => by rw [z, k D ob n hD] at hr; cases hr
  show wo (wo (L2.upd G r o) p) D r = some o
  rw [wo_ne nD, wo_ne nr]; exact upd_same⟩
theorem _root_.L2.Dg.rk {K : PySem.W.Frag} {p : Addr} {H H' H0 : Hp} {w : Hp → Hp} {m : Bool} {x : V} {d : PyData} (h : Dg K (w H) m x d) (R : Res p H0 w) (k : Kp p H H') : Dg K (w H') m x d := h.ext (R.kp k)
theorem _root_.L2.DgAll.rk {K : PySem.W.Frag} {p : Addr} {H H' H0 : Hp} {w : Hp → Hp} {m : Bool} {x : List V} {d : List PyData} (h : DgAll K (w H) m x d) (R : Res p H0 w) (k : Kp p H H') : DgAll K (w H') m x d := h.ext (R.kp k)
/-! ### displays -/
section
variable {K : PySem.W.Frag} {m : Bool} {p : Addr} {σ : L2.St} {H : Hp} {w : Hp → Hp}
/-- an expression gives the data d, and what stood stands -/
def EvD (K : PySem.W.Frag) (m : Bool) (p : Addr) (w : Hp → Hp) (te : TE) (σ : L2.St) (H : Hp) (d : PyData) : Prop :=
  ∀ H1, Kp p H H1 → H1 p ≠ none → ∀ Q : VK, (∀ x H', Same H1 H' → Dg K (w H') m x d → Q x H') → te σ H1 Q
def EvDs (K : PySem.W.Frag) (m : Bool) (p : Addr) (w : Hp → Hp) (ta : TA) (σ : L2.St) (H : Hp) (ds : List PyData) : Prop :=
  ∀ H1, Kp p H H1 → H1 p ≠ none → ∀ Q : List V → Hp → Prop, (∀ xs H', Same H1 H' → DgAll K (w H') m xs ds → Q xs H') → ta σ H1 Q
def EvI (p : Addr) (te : TE) (σ : L2.St) (H : Hp) (i : Int) : Prop :=
  ∀ H1, Kp p H H1 → H1 p ≠ none → ∀ Q : VK, (∀ H', Same H1 H' → Q (.int i) H') → te σ H1 Q
theorem same_at {H H' : Hp} {p : Addr} (s : Same H H') (h : H p ≠ none) : H' p ≠ none := fun z => by
  cases e : H p with
  | none => exact h e
  | some o => rw [s _ _ e] at z; cases z
theorem evD_c {x : V} {d : PyData} (h : ∀ G, Dg K G m x d) : EvD K m p w (tC x) σ H d := fun H1 _ _ Q q => q x H1 (Same.refl _) (h _)
theorem evD_int (i : Int) : EvD K m p w (tC (.int i)) σ H (.int i) := evD_c fun _ => .int i
theorem evD_str (z : Str) : EvD K m p w (tC (.str z)) σ H (.str z) := evD_c fun _ => .str z
theorem evD_bl (b : Bool) : EvD K m p w (tC (.bl b)) σ H (.bool b) := evD_c fun _ => .bl b
theorem evD_non : EvD K m p w (tC .non) σ H .none := evD_c fun _ => .non
theorem evD_var (R : Res p H w) {i : Nat} {x : V} {d : PyData} (e : σ[i]? = some (some x)) (h : Dg K (w H) m x d) : EvD K m p w (tVar i) σ H d :=
  fun H1 k _ Q q => ⟨x, e, q x H1 (Same.refl _) (h.rk R k)⟩
theorem evI_var {i : Nat} {j : Int} (e : σ[i]? = some (some (.int j))) : EvI p (tVar i) σ H j := fun H1 _ _ Q q => ⟨_, e, q H1 (Same.refl _)⟩
theorem evI_c (j : Int) : EvI p (tC (.int j)) σ H j := fun H1 _ _ Q q => q H1 (Same.refl _)
theorem evD_I {te : TE} {j : Int} (h : EvI p te σ H j) : EvD K m p w te σ H (.int j) := fun H1 k n Q q => h H1 k n Q fun H' s => q _ _ s (.int j)
theorem evI_op {ta tb : TE} {i j : Int} {g : Int → Int → Int} (ha : EvI p ta σ H i) (hb : EvI p tb σ H j) : EvI p (tOp (rI0 fun i j => .int (g i j)) ta tb) σ H (g i j) :=
  fun H1 k n Q q => ha H1 k n _ fun H2 s2 => hb H2 (k.trans (Kp.of s2)) (same_at s2 n) _ fun H3 s3 => ⟨_, _, rfl, rfl, q _ (s2.trans s3)⟩
theorem evI_opC {ta tb : TE} {i j : Int} {C : Int → Int → Prop} {g : Int → Int → Int} (ha : EvI p ta σ H i) (hb : EvI p tb σ H j) (c : C i j) : EvI p (tOp (rI C fun i j => .int (g i j)) ta tb) σ H (g i j) :=
  fun H1 k n Q q => ha H1 k n _ fun H2 s2 => hb H2 (k.trans (Kp.of s2)) (same_at s2 n) _ fun H3 s3 => ⟨_, _, rfl, rfl, c, q _ (s2.trans s3)⟩
theorem evDs_nil : EvDs K m p w tNil σ H [] := fun H1 _ _ Q q => q [] H1 (Same.refl _) .nil
theorem evDs_cons (R : Res p H w) {te : TE} {ta : TA} {d : PyData} {ds : List PyData} (h : EvD K m p w te σ H d) (t : EvDs K m p w ta σ H ds) : EvDs K m p w (tCons te ta) σ H (d :: ds) :=
  fun H1 k n Q q => h H1 k n _ fun x H2 s2 dx => t H2 (k.trans (Kp.of s2)) (same_at s2 n) _ fun xs H3 s3 dxs => q _ _ (s2.trans s3) (.cons (dx.rk R (Kp.of s3)) dxs)
theorem evD_tup (R : Res p H w) {ta : TA} {ds : List PyData} (h : EvDs K m p w ta σ H ds) (l : ds.length ≤ 1000) : EvD K m p w (tTup ta) σ H (.tuple ds) :=
  fun H1 k n Q q => h H1 k n _ fun xs H2 s2 dxs => ⟨by rw [dxs.len]; exact Nat.le_trans l (by decide), fun r hr => by
    have nr : r ≠ p := fun z => same_at s2 n (by rw [← z]; exact hr)
    have s3 : Same H2 (upd H2 r (.tup xs)) := Same.new (Same.refl _) hr
    exact q _ _ (s2.trans s3) (.tup (SqT.of (R.new (k.trans (Kp.of s2)) (same_at s2 n) hr)) (dxs.rk R (Kp.of s3)))⟩
theorem evD_lst (R : Res p H w) {ta : TA} {ds : List PyData} (h : EvDs K false p w ta σ H ds) (l : ds.length ≤ 1000) : EvD K false p w (tLst ta) σ H (.list ds) :=
  fun H1 k n Q q => h H1 k n _ fun xs H2 s2 dxs => ⟨by rw [dxs.len]; exact Nat.le_trans l (by decide), fun r hr => by
    have nr : r ≠ p := fun z => same_at s2 n (by rw [← z]; exact hr)
    have s3 : Same H2 (upd H2 r (.lst xs)) := Same.new (Same.refl _) hr
    exact q _ _ (s2.trans s3) (.lst (SqL.of (R.new (k.trans (Kp.of s2)) (same_at s2 n) hr)) (fun z => by cases z) (dxs.rk R (Kp.of s3)))⟩
theorem evD_lstS (R : Res p H w) {ta : TA} {ds : List PyData} (h : EvDs K m p w ta σ H ds) (l : ds.length ≤ 1000) : EvD K m p w (tLstS ta) σ H (.list ds) :=
  fun H1 k n Q q => h H1 k n _ fun xs H2 s2 dxs => ⟨by rw [dxs.len]; exact Nat.le_trans l (by decide), fun r hr hl => by
    have nr : r ≠ p := fun z => same_at s2 n (by rw [← z]; exact hr)
    have s3 : Same H2 (upd H2 r (.lst xs)) := Same.new (Same.refl _) hr
    exact q _ _ (s2.trans s3) (.lst (SqL.of (R.new (k.trans (Kp.of s2)) (same_at s2 n) hr)) (fun _ => hl) (dxs.rk R (Kp.of s3)))⟩
theorem evD_emp (R : Res p H w) : EvD K true p w tDNewK σ H (.dict []) := fun H1 k n Q q r hr => by
  have nr : r ≠ p := fun z => n (by rw [← z]; exact hr)
  exact q _ _ (Same.new (Same.refl _) hr) (.emp rfl (R.new k n hr))
/-- a display that is assigned, or handed back -/
theorem EvD.here {te : TE} {d : PyData} (h : EvD K m p w te σ H d) (n : H p ≠ none) {Q : VK} (q : ∀ x H', Same H H' → Dg K (w H') m x d → Q x H') : te σ H Q := h H (Kp.refl p H) n Q q
end
theorem BoxAt.some {H : Hp} {p : Addr} {n : Nat} (h : BoxAt H p n) : H p ≠ none := by
  obtain ⟨o, e, _⟩ := h
  rw [e]; exact fun z => by cases z
section
variable {K : PySem.W.Frag} {p : Addr} {σ : L2.St} {H : Hp} {w : Hp → Hp}
theorem evD_listOf (R : Res p H w) {te : TE} {ds : List PyData} (h : EvD K true p w te σ H (.tuple ds)) :
    EvD K true p w (tCB (fun xs H Q => ∃ p ys, xs = [.ref p] ∧ (SqL K H p ys ∨ SqT K H p ys) ∧ ∀ l, H l = none → (l == sysModules) = false → Q (.ref l) (L2.upd H l (.lst ys))) (tCons te tNil)) σ H (.list ds) := fun H1 k n Q q => h H1 k n _ fun x H2 s2 dx => by
  obtain ⟨a, xs, rfl, hs, ha⟩ := dx.tup_of
  have hs' : SqT K H2 a xs := hs.ext (R.sub H2)
  refine ⟨a, xs, rfl, .inr hs', fun l hl low => ?_⟩
  have nl : l ≠ p := fun z => same_at s2 n (by rw [← z]; exact hl)
  have s3 : Same H2 (L2.upd H2 l (.lst xs)) := Same.new (Same.refl _) hl
  exact q _ _ (s2.trans s3) (.lst (SqL.of (R.new (k.trans (Kp.of s2)) (same_at s2 n) hl)) (fun _ => low) (ha.rk R (Kp.of s3)))
theorem evD_catA (R : Res p H w) {m : Bool} {ta tb : TE} {ds es : List PyData} (ha : EvD K m p w ta σ H (.tuple ds)) (hb : EvD K m p w tb σ H (.tuple es)) (l : ds.length + es.length ≤ 10000) : EvD K m p w (tOp (rCatA K) ta tb) σ H (.tuple (ds ++ es)) :=
  fun H1 k n Q q => ha H1 k n _ fun x H2 s2 dx => hb H2 (k.trans (Kp.of s2)) (same_at s2 n) _ fun y H3 s3 dy => by
    have dx := dx.rk R (Kp.of s3)
    obtain ⟨a, xs, rfl, hs, hx⟩ := dx.tup_of
    obtain ⟨b, ys, rfl, ht, hy⟩ := dy.tup_of
    have lx := hx.len
    have ly := hy.len
    refine ⟨a, b, xs, ys, rfl, rfl, hs.ext (R.sub H3), ht.ext (R.sub H3), by rw [lx, ly]; exact Nat.le_trans l (by decide), fun e => ?_, fun _ e => ?_, fun _ _ r hr => ?_⟩
    · subst e
      have : ds = [] := List.length_eq_zero_iff.mp (by rw [← lx]; rfl)
      subst this
      exact q _ _ (s2.trans s3) dy
    · subst e
      have : es = [] := List.length_eq_zero_iff.mp (by rw [← ly]; rfl)
      subst this
      exact q _ _ (s2.trans s3) (by rw [List.append_nil]; exact dx)
    · have nr : r ≠ p := fun z => same_at (s2.trans s3) n (by rw [← z]; exact hr)
      have s4 : Same H3 (L2.upd H3 r (.tup (xs ++ ys))) := Same.new (Same.refl _) hr
      exact q _ _ ((s2.trans s3).trans s4) (.tup (SqT.of (R.new ((k.trans (Kp.of s2)).trans (Kp.of s3)) (same_at (s2.trans s3) n) hr)) ((hx.append hy).rk R (Kp.of s4)))
/-- te[:k], k written -/
theorem evD_head (R : Res p H w) {m : Bool} {te : TE} {ds : List PyData} (h : EvD K m p w te σ H (.tuple ds)) (k : Nat) : EvD K m p w (tSl (rSlA K) te tNoPart (tPart (tC (.int (k : Int))))) σ H (.tuple (ds.take k)) :=
  fun H1 kp n Q q => h H1 kp n _ fun x H2 s2 dx => by
    obtain ⟨a, xs, rfl, hs, hx⟩ := dx.tup_of
    have lx := hx.len
    refine ⟨_, rfl, a, xs, rfl, hs.ext (R.sub H2), fun e => ?_, fun _ r hr => ?_⟩
    · have e2 : HT.sIx xs.length xs.length (some (k : Int)) = xs.length := e.2
      rw [sIx_some] at e2
      exact q _ _ s2 (by rw [List.take_of_length_le (by omega)]; exact dx)
    · have nr : r ≠ p := fun z => same_at s2 n (by rw [← z]; exact hr)
      have s4 : Same H2 (L2.upd H2 r (.tup (cutV xs none (some (k : Int))))) := Same.new (Same.refl _) hr
      refine q _ _ (s2.trans s4) (.tup (SqT.of (R.new (kp.trans (Kp.of s2)) (same_at s2 n) hr)) ?_)
      rw [cutV_to]
      rw [cutV_to] at s4
      exact (hx.take k).rk R (Kp.of s4)
theorem evD_strI {m : Bool} {te : TE} {i : Int} (h : EvI p te σ H i) (l : i.natAbs.log2 < 1920) : EvD K m p w (tCB (fun xs H Q => ∃ i, xs = [.int i] ∧ i.natAbs.log2 < 1920 ∧ Q (.str (toString i)) H) (tCons te tNil)) σ H (.str (toString i)) :=
  fun H1 k n Q q => h H1 k n _ fun H2 s2 => ⟨i, rfl, l, q _ _ s2 (.str _)⟩
theorem evI_int1 {te : TE} {i : Int} (h : EvI p te σ H i) : EvI p (tCB (fun xs H Q => (∃ i, xs = [.int i] ∧ Q (.int i) H) ∨ ∃ k, xs = [.bl k] ∧ Q (.int (if k then 1 else 0)) H) (tCons te tNil)) σ H i :=
  fun H1 k n Q q => h H1 k n _ fun H2 s2 => .inl ⟨i, rfl, q _ s2⟩
/-- a list display of data, so that its items can be drawn -/
theorem menu_here (R : Res p H w) {P : PyData → Prop} {ta : TA} {Q : VK} {ds : List PyData} (n : H p ≠ none) (hd : Res p H w → EvDs K true p w ta σ H ds) (hp : ∀ d ∈ ds, P d) (h0 : 0 < ds.length) (h4 : ds.length ≤ 40)
    (q : ∀ M H' xs, Same H H' → H M = none → M ≠ p → H' M = some (.lst xs) → (M == sysModules) = false → DgAll K (w H') true xs ds → (∀ d ∈ ds, P d) → 0 < ds.length → ds.length ≤ 40 → Q (.ref M) H') : tLstS ta σ H Q := by
  refine hd R H (Kp.refl p H) n _ fun xs H2 s2 dxs => ⟨by rw [dxs.len]; exact Nat.le_trans h4 (by decide), fun r hr low => ?_⟩
  have nr : r ≠ p := fun z => same_at s2 n (by rw [← z]; exact hr)
  have s3 : Same H2 (L2.upd H2 r (.lst xs)) := Same.new (Same.refl _) hr
  exact q r _ xs (s2.trans s3) (s2.free hr) nr upd_same low (dxs.rk R (Kp.of s3)) hp h0 h4
end
theorem cutV_fr (xs : List V) (n : Nat) : cutV xs (some (n : Int)) none = xs.drop n := by
  unfold cutV
  rw [HT.sIx_none, sIx_some]
  rcases Nat.le_total n xs.length with h | h
  · rw [Nat.min_eq_left h, List.take_of_length_le (by rw [List.length_drop]; exact Nat.le_refl _)]
  · rw [Nat.min_eq_right h, List.drop_of_length_le h, List.drop_of_length_le (Nat.le_refl _), List.take_nil]
section
variable {K : PySem.W.Frag} {p : Addr} {H : Hp} {m : Bool} {x : V} {ds : List PyData} {Q : VK}
theorem sl_take (n : H p ≠ none) (dx : Dw K p H m x (.tuple ds)) (k : Nat) (q : ∀ y H', Same H H' → Dw K p H' m y (.tuple (ds.take k)) → Q y H') : rSlA K x none (some (k : Int)) H Q := by
  obtain ⟨a, xs, rfl, hs, hx⟩ := dx.tup_of
  have lx := hx.len
  refine ⟨a, xs, rfl, hs.ext (wo_same H p), fun e => ?_, fun _ r hr => ?_⟩
  · have e2 : HT.sIx xs.length xs.length (some (k : Int)) = xs.length := e.2
    rw [sIx_some] at e2
    exact q _ _ (Same.refl _) (by rw [List.take_of_length_le (by omega)]; exact dx)
  · have nr : r ≠ p := fun z => n (by rw [← z]; exact hr)
    rw [cutV_to]
    have s4 : Same H (L2.upd H r (.tup (xs.take k))) := Same.new (Same.refl _) hr
    exact q _ _ s4 (.tup (SqT.of (by rw [wo_ne nr]; exact upd_same)) ((hx.take k).kp (Kp.of s4)))
theorem sl_drop (n : H p ≠ none) (dx : Dw K p H m x (.tuple ds)) (k : Nat) (q : ∀ y H', Same H H' → Dw K p H' m y (.tuple (ds.drop k)) → Q y H') : rSlA K x (some (k : Int)) none H Q := by
  obtain ⟨a, xs, rfl, hs, hx⟩ := dx.tup_of
  have lx := hx.len
  refine ⟨a, xs, rfl, hs.ext (wo_same H p), fun e => ?_, fun _ r hr => ?_⟩
  · have e2 : HT.sIx xs.length 0 (some (k : Int)) = 0 := e.1
    rw [sIx_some] at e2
    have : ds.drop k = ds := by
      rcases Nat.eq_zero_or_pos k with z | z
      · rw [z, List.drop_zero]
      · have : ds = [] := List.length_eq_zero_iff.mp (by omega)
        rw [this]; simp
    exact q _ _ (Same.refl _) (by rw [this]; exact dx)
  · have nr : r ≠ p := fun z => n (by rw [← z]; exact hr)
    rw [cutV_fr]
    have s4 : Same H (L2.upd H r (.tup (xs.drop k))) := Same.new (Same.refl _) hr
    exact q _ _ s4 (.tup (SqT.of (by rw [wo_ne nr]; exact upd_same)) ((hx.drop k).kp (Kp.of s4)))
theorem cat_tup {y : V} {es : List PyData} (n : H p ≠ none) (dx : Dw K p H m x (.tuple ds)) (dy : Dw K p H m y (.tuple es)) (l : ds.length + es.length ≤ 10000) (q : ∀ z H', Same H H' → Dw K p H' m z (.tuple (ds ++ es)) → Q z H') : rCatA K x y H Q := by
  obtain ⟨a, xs, rfl, hs, hx⟩ := dx.tup_of
  obtain ⟨b, ys, rfl, ht, hy⟩ := dy.tup_of
  have lx := hx.len
  have ly := hy.len
  refine ⟨a, b, xs, ys, rfl, rfl, hs.ext (wo_same H p), ht.ext (wo_same H p), by rw [lx, ly]; exact Nat.le_trans l (by decide), fun e => ?_, fun _ e => ?_, fun _ _ r hr => ?_⟩
  · subst e
    have : ds = [] := List.length_eq_zero_iff.mp (by rw [← lx]; rfl)
    subst this
    exact q _ _ (Same.refl _) dy
  · subst e
    have : es = [] := List.length_eq_zero_iff.mp (by rw [← ly]; rfl)
    subst this
    exact q _ _ (Same.refl _) (by rw [List.append_nil]; exact dx)
  · have nr : r ≠ p := fun z => n (by rw [← z]; exact hr)
    have s4 : Same H (L2.upd H r (.tup (xs ++ ys))) := Same.new (Same.refl _) hr
    exact q _ _ s4 (.tup (SqT.of (by rw [wo_ne nr]; exact upd_same)) ((hx.append hy).kp (Kp.of s4)))
/-- a new tuple of one -/
theorem one_tup {d : PyData} (n : H p ≠ none) (dx : Dw K p H m x d) : ∀ r, H r = none → Same H (L2.upd H r (.tup [x])) ∧ Dw K p (L2.upd H r (.tup [x])) m (.ref r) (.tuple [d]) := fun r hr => by
  have nr : r ≠ p := fun z => n (by rw [← z]; exact hr)
  have s4 : Same H (L2.upd H r (.tup [x])) := Same.new (Same.refl _) hr
  exact ⟨s4, .tup (SqT.of (by rw [wo_ne nr]; exact upd_same)) (.cons (dx.kp (Kp.of s4)) .nil)⟩
end
/-- an item of a list of data -/
theorem _root_.L2.DgAll.nth {K : PySem.W.Frag} {H : Hp} {m : Bool} {xs : List V} {ds : List PyData} (h : DgAll K H m xs ds) {i : Nat} (l : i < ds.length) : ∃ x d, xs[i]? = some x ∧ ds[i]? = some d ∧ Dg K H m x d := by
  have l' : i < xs.length := by rw [h.len]; exact l
  obtain ⟨d, e, g⟩ := h.at i xs[i] (List.getElem?_eq_getElem l')
  exact ⟨_, d, List.getElem?_eq_getElem l', e, g⟩
/-! ### small data -/
def wid (k : Nat) : Nat := 100 * 6 ^ k
def Lv (k : Nat) (d : PyData) : Prop := Fit d k (wid k)
theorem lv_up {k : Nat} {d : PyData} (h : Lv k d) : Lv (k + 1) d := Fit.mono h (Nat.le_succ _) (by unfold wid; rw [Nat.pow_succ]; omega)
theorem FitAll.all {k w : Nat} : ∀ {ds : List PyData}, (∀ d ∈ ds, Fit d k w) → FitAll ds k ((w + 1) * ds.length)
  | [], _ => FitAll.nil
  | d :: ds, h => (FitAll.cons (h d List.mem_cons_self) (FitAll.all fun e he => h e (List.mem_cons_of_mem _ he))).mono (Nat.le_refl _) (by rw [List.length_cons, Nat.mul_succ]; omega)
theorem lv_len {k n : Nat} (h : n ≤ 5) : (wid k + 1) * n ≤ wid (k + 1) := by
  have e : wid (k + 1) = 6 * wid k := by unfold wid; rw [Nat.pow_succ]; omega
  have p : 100 ≤ wid k := by unfold wid; exact Nat.le_mul_of_pos_right 100 (Nat.pow_pos (by decide))
  rw [e]
  have := Nat.mul_le_mul_left (wid k + 1) h
  omega
theorem lv_tup {k : Nat} {ds : List PyData} (h : ∀ d ∈ ds, Lv k d) (l : ds.length ≤ 5) : Lv (k + 1) (.tuple ds) := Fit.mono (Fit.tuple (FitAll.all h)) (Nat.le_refl _) (lv_len l)
theorem lv_lst {k : Nat} {ds : List PyData} (h : ∀ d ∈ ds, Lv k d) (l : ds.length ≤ 5) : Lv (k + 1) (.list ds) := Fit.mono (Fit.list (FitAll.all h)) (Nat.le_refl _) (lv_len l)
theorem lv0 {d : PyData} (k : Nat) (h : Lv 0 d) : Lv k d := by
  induction k with
  | zero => exact h
  | succ k ih => exact lv_up ih
theorem lv_non {k : Nat} : Lv k .none := lv0 k (Fit.none.mono (Nat.le_refl _) (Nat.zero_le _))
theorem lv_bl {k : Nat} {b : Bool} : Lv k (.bool b) := lv0 k (Fit.bool.mono (Nat.le_refl _) (Nat.zero_le _))
theorem fit_int {i : Int} {k : Nat} (h : i.natAbs < 10 ^ 30) : Fit (.int i) k 100 := by
  have lg : i.natAbs.log2 < 100 := PySem.Flt.log2_lt_of (by decide) (Nat.lt_of_lt_of_le h (by decide))
  refine ⟨?_, ?_, ?_, ?_⟩
  · simp only [PyData.showable, decide_eq_true_eq]
    exact Nat.lt_trans lg (by decide)
  · unfold PyData.depth; omega
  · have e := int_text_length_le10 (a := i) (k := 30) (by decide) h
    have e2 : (PyData.int i).shown = Str.ofString (toString i) := by simp only [PyData.shown]
    unfold PyData.leavesShort
    refine decide_eq_true ?_
    rw [e2, PySem.ofString_length]
    omega
  · simp only [PyData.weight]
    split <;> omega
theorem lv_int {k : Nat} {i : Int} (h : i.natAbs < 10 ^ 30) : Lv k (.int i) := lv0 k (fit_int h)
theorem lv_str {k : Nat} {z : List Nat} (h : z.length ≤ 100) (hc : ∀ c ∈ z, c < 200) : Lv k (.str (S z)) := lv0 k (Fit.str h hc)
theorem lv_emp {k : Nat} : Lv (k + 1) (.dict []) := Fit.mono (Fit.dict (k := k) FitKv.nil) (Nat.le_refl _) (Nat.zero_le _)
theorem all_nil {P : PyData → Prop} : ∀ d ∈ ([] : List PyData), P d := fun d h => by cases h
theorem all_cons {P : PyData → Prop} {e : PyData} {es : List PyData} (h : P e) (t : ∀ d ∈ es, P d) : ∀ d ∈ e :: es, P d := fun d hd => by
  rcases List.mem_cons.mp hd with q | q
  · rw [q]; exact h
  · exact t d q
theorem all_app {P : PyData → Prop} {a b : List PyData} (h : ∀ d ∈ a, P d) (g : ∀ d ∈ b, P d) : ∀ d ∈ a.append b, P d := fun d hd => (List.mem_append.mp hd).elim (h d) (g d)
theorem Lv.sh {k : Nat} {d : PyData} (h : Lv k d) (hk : k ≤ 3) : Sh d := by
  have : k = 0 ∨ k = 1 ∨ k = 2 ∨ k = 3 := by omega
  rcases this with rfl | rfl | rfl | rfl
  · exact Fit.sh h (by omega) (by decide)
  · exact Fit.sh h (by omega) (by decide)
  · exact Fit.sh h (by omega) (by decide)
  · exact Fit.sh h (by omega) (by decide)
theorem lv_any {k : Nat} {z : Str} (h : (cs z).length ≤ 100) (hc : (cs z).all (fun c => decide (c < 200)) = true) : Lv k (.str z) := by
  rw [← S_of z]
  exact lv_str h fun c hm => of_decide_eq_true (List.all_eq_true.mp hc c hm)
theorem lv_digit {k a : Nat} (h : a < 5) : Lv k (.str (Str.ofString (toString (a : Int)))) := by
  match a, h with
  | 0, _ => exact lv_any (by decide +kernel) (by decide +kernel)
  | 1, _ => exact lv_any (by decide +kernel) (by decide +kernel)
  | 2, _ => exact lv_any (by decide +kernel) (by decide +kernel)
  | 3, _ => exact lv_any (by decide +kernel) (by decide +kernel)
  | 4, _ => exact lv_any (by decide +kernel) (by decide +kernel)
end My

set_option Elab.async false
set_option linter.all false
set_option maxRecDepth 100000
set_option maxHeartbeats 4000000
/-! Comprehensions of two clauses over ranges; lists of new data that grow. -/
namespace L2
open PySem PySem.Spec PyProof.Rows
theorem lc2_range {lo : Int} {n : Nat} {g g1 : TG} {tt tt1 : TT} {te : TE} {wi1 : TI} {vs vs1 : List Nat} {σ : St} {H1 : Hp} {D : Addr} {Qd : Hp → Prop} (Pv : Nat → Hp → Prop) (h0 : Pv 0 (upd H1 D (.lst [])))
    (hs : ∀ i H, i < n → Pv i H → g (.int (lo + i)) (wipe σ vs) H fun σ2 H2 => wipe σ2 vs = wipe σ vs ∧ tt σ2 H2 fun b H3 =>
      if b = true then wi1 σ2 H3 fun J1 H4 => ∃ W1 : Nat → Nat → Hp → Prop, (∃ m, W1 0 m H4) ∧ ∀ j k H, W1 j k H →
        (J1.stop j H ∧ Pv (i + 1) H) ∨ (J1.go j H ∧ ∃ Nx1 : Hp → Prop, (∀ H', Nx1 H' → ∃ k', k' < k ∧ W1 (j + 1) k' H') ∧ ∀ x H', J1.yld j H x H' → g1 x (wipe σ2 vs1) H' fun σ3 H5 => wipe σ3 vs1 = wipe σ2 vs1 ∧ tt1 σ3 H5 fun b H6 =>
          if b = true then te σ3 H6 fun y H7 => ∃ acc, H7 D = some (.lst acc) ∧ acc.length < sizeLine ∧ Nx1 (upd H7 D (.lst (acc ++ [y]))) else Nx1 H6)
      else Pv (i + 1) H3) (hd : ∀ H, Pv n H → Qd H) :
    ∃ W : Nat → Nat → Hp → Prop, (∃ m, W 0 m (upd H1 D (.lst []))) ∧ ∀ i m H, W i m H →
      ((Itr lo n).stop i H ∧ Qd H) ∨ ((Itr lo n).go i H ∧ ∃ Nx : Hp → Prop, (∀ H', Nx H' → ∃ m', m' < m ∧ W (i + 1) m' H') ∧ ∀ x H', (Itr lo n).yld i H x H' → g x (wipe σ vs) H' fun σ2 H2 => wipe σ2 vs = wipe σ vs ∧ tt σ2 H2 fun b H3 =>
        if b = true then wi1 σ2 H3 fun J1 H4 => ∃ W1 : Nat → Nat → Hp → Prop, (∃ m, W1 0 m H4) ∧ ∀ j k H, W1 j k H →
          (J1.stop j H ∧ Nx H) ∨ (J1.go j H ∧ ∃ Nx1 : Hp → Prop, (∀ H', Nx1 H' → ∃ k', k' < k ∧ W1 (j + 1) k' H') ∧ ∀ x H', J1.yld j H x H' → g1 x (wipe σ2 vs1) H' fun σ3 H5 => wipe σ3 vs1 = wipe σ2 vs1 ∧ tt1 σ3 H5 fun b H6 =>
            if b = true then te σ3 H6 fun y H7 => ∃ acc, H7 D = some (.lst acc) ∧ acc.length < sizeLine ∧ Nx1 (upd H7 D (.lst (acc ++ [y]))) else Nx1 H6)
        else Nx H3) := by
  refine ⟨fun i m H => m = n - i ∧ i ≤ n ∧ Pv i H, ⟨n, by simp, Nat.zero_le _, h0⟩, ?_⟩
  rintro i m H ⟨rfl, hi, p⟩
  by_cases hlt : i < n
  · refine .inr ⟨hlt, Pv (i + 1), fun H' p' => ⟨n - (i + 1), by omega, rfl, hlt, p'⟩, fun x H' y => ?_⟩
    obtain ⟨e, y⟩ := y
    subst e y
    exact hs i _ hlt p
  · have e : i = n := by omega
    subst e
    exact .inl ⟨Nat.le_refl _, hd H p⟩
theorem lcr_inner {lo : Int} {n : Nat} {g : TG} {tt : TT} {te : TE} {vs : List Nat} {σ : St} {H4 : Hp} {D : Addr} {Qd : Hp → Prop} (Pv : Nat → Hp → Prop) (h0 : Pv 0 H4)
    (hs : ∀ i H, i < n → Pv i H → g (.int (lo + i)) (wipe σ vs) H fun σ2 H2 => wipe σ2 vs = wipe σ vs ∧ tt σ2 H2 fun b H3 =>
      if b = true then te σ2 H3 fun y H4 => ∃ acc, H4 D = some (.lst acc) ∧ acc.length < sizeLine ∧ Pv (i + 1) (upd H4 D (.lst (acc ++ [y]))) else Pv (i + 1) H3) (hd : ∀ H, Pv n H → Qd H) :
    ∃ W : Nat → Nat → Hp → Prop, (∃ m, W 0 m H4) ∧ ∀ i m H, W i m H →
      ((Itr lo n).stop i H ∧ Qd H) ∨ ((Itr lo n).go i H ∧ ∃ Nx : Hp → Prop, (∀ H', Nx H' → ∃ m', m' < m ∧ W (i + 1) m' H') ∧ ∀ x H', (Itr lo n).yld i H x H' → g x (wipe σ vs) H' fun σ2 H2 => wipe σ2 vs = wipe σ vs ∧ tt σ2 H2 fun b H3 =>
        if b = true then te σ2 H3 fun y H4 => ∃ acc, H4 D = some (.lst acc) ∧ acc.length < sizeLine ∧ Nx (upd H4 D (.lst (acc ++ [y]))) else Nx H3) := by
  refine ⟨fun i m H => m = n - i ∧ i ≤ n ∧ Pv i H, ⟨n, by simp, Nat.zero_le _, h0⟩, ?_⟩
  rintro i m H ⟨rfl, hi, p⟩
  by_cases hlt : i < n
  · refine .inr ⟨hlt, Pv (i + 1), fun H' p' => ⟨n - (i + 1), by omega, rfl, hlt, p'⟩, fun x H' y => ?_⟩
    obtain ⟨e, y⟩ := y
    subst e y
    exact hs i _ hlt p
  · have e : i = n := by omega
    subst e
    exact .inl ⟨Nat.le_refl _, hd H p⟩
end L2
namespace My
open PySem PySem.Spec PyProof.Rows L2
/-- the list at D, new since H1, holds the data ds, of which it is no part -/
def Ac (K : PySem.W.Frag) (H1 : Hp) (D : Addr) (ds : List PyData) (H : Hp) : Prop := Same H1 H ∧ ∃ acc, H D = some (.lst acc) ∧ DwAll K D H true acc ds
theorem Ac.start {K : PySem.W.Frag} {H1 : Hp} {D : Addr} (hD : H1 D = none) : Ac K H1 D [] (L2.upd H1 D (.lst [])) := ⟨Same.new (Same.refl _) hD, [], upd_same, .nil⟩
theorem Ac.snoc {K : PySem.W.Frag} {H1 H H2 : Hp} {D : Addr} {ds : List PyData} {y : V} {d : PyData} (h : Ac K H1 D ds H) (hD : H1 D = none) (l : ds.length ≤ 10000) (s : Same H H2) (dy : Dw K D H2 true y d) :
    ∃ acc, H2 D = some (.lst acc) ∧ acc.length < sizeLine ∧ Ac K H1 D (ds ++ [d]) (L2.upd H2 D (.lst (acc ++ [y]))) := by
  obtain ⟨s1, acc, e, ha⟩ := h
  refine ⟨acc, s _ _ e, by rw [ha.len]; exact Nat.lt_of_le_of_lt l (by decide), fun b o q => ?_, acc ++ [y], upd_same, ?_⟩
  · rw [upd_ne (ne_of_none q hD)]; exact s _ _ (s1 _ _ q)
  · show DgAll K (wo (L2.upd H2 D _) D) true _ _
    rw [wo_upd]
    exact (ha.kp (Kp.of s)).append (.cons dy .nil)
/-- a new tuple for it -/
theorem dw_tup {K : PySem.W.Frag} {H : Hp} {D q : Addr} {xs : List V} {es : List PyData} (e : H D ≠ none) (hq : H q = none) (h : DwAll K D H true xs es) : Dw K D (L2.upd H q (.tup xs)) true (.ref q) (.tuple es) := by
  have n : q ≠ D := fun z => e (by rw [← z]; exact hq)
  exact .tup (SqT.of (by rw [wo_ne n]; exact upd_same)) (h.kp ((Kp.refl D H).new hq))
theorem Ac.ne {K : PySem.W.Frag} {H1 H : Hp} {D : Addr} {ds : List PyData} (h : Ac K H1 D ds H) : H D ≠ none := by
  obtain ⟨_, acc, e, _⟩ := h
  rw [e]; exact fun z => by cases z
/-- one more tuple of known items -/
theorem Ac.tup {K : PySem.W.Frag} {H1 H : Hp} {D q : Addr} {ds es : List PyData} {xs : List V} (h : Ac K H1 D ds H) (hD : H1 D = none) (l : ds.length ≤ 10000) (hq : H q = none) (hx : ∀ G, DgAll K G true xs es) :
    ∃ acc, L2.upd H q (.tup xs) D = some (.lst acc) ∧ acc.length < sizeLine ∧ Ac K H1 D (ds ++ [.tuple es]) (L2.upd (L2.upd H q (.tup xs)) D (.lst (acc ++ [.ref q]))) :=
  h.snoc hD l (Same.new (Same.refl _) hq) (dw_tup h.ne hq (hx _))
theorem same_wo {H : Hp} {p : Addr} {o : HO} (h : H p = none) : Same H (wo (L2.upd H p o) p) := fun b ob e => by
  have n : b ≠ p := fun z => by rw [z, h] at e; cases e
  rw [wo_ne n, upd_ne n]; exact e
end My

set_option Elab.async false
set_option linter.all false
set_option maxRecDepth 100000
set_option maxHeartbeats 2000000
namespace PySem
open PyProof.Rows
theorem Walks.tupleOn {prog : Program} {w : World} {A : Around} (hh : A.handled = none) (I ax : Addr) (hne : ax ≠ I) (items : Array Value) (k : Nat) (hk : k ≤ items.size) :
    Walks prog w A I [I, ax] [I] (items.size - k) (fun i v => items[k + i]? = some v) (fun i h => h.IsTupleIter I ax (k + i) ∧ h.IsTuple ax items) where
  sub := fun b hb => by simp at hb; simp [hb]
  frame := fun _ _ _ st hk => ⟨st.1.at fun o e => hk I (by simp) o e, st.2.at fun o e => hk ax (by simp) o e⟩
  item := fun i s Q E hi st hQ => by
    have hi' : k + i < items.size := by omega
    refine wpAny_pyNext_tuple_item st.1 st.2 (x := items[k + i]) (by simp [hi']) fun h' hit' hs' => ?_
    exact hQ _ h' s.toks (by simp [hi']) ⟨hit', st.2.extBut hs'.extBut hne⟩ fun b o hb e => hs'.extBut b o (fun h => hb (by simp [h])) e
  done := fun s Q E st hQ => wpAny_pyNext_tuple_end hh st.1 st.2 (by simp; omega) fun h' he' => hQ h' s.toks fun b o hb e => he' b o (fun h => hb (by simp [h])) e
  self := fun _ _ _ _ st hQ => wpAny_pyIter_tupleiter st.1 hQ
section
variable {prog : Program} {w : World} {A : Around} {E : Value → Shared → Prop} {s : Shared}
theorem unpackStar {t : Addr} {items : Array Value} {Q : List Value → Shared → Prop} (hh : A.handled = none) (ht : s.heap.IsTuple t items) (h1 : 1 ≤ items.size) (hz : items.size ≤ sizeLine)
    (hQ : ∀ s', Moved [s.heap.objs.size] (fun a b => b = a) s s' → Q [items[0], .ref s'.heap.objs.size] { s' with heap := s'.heap.push { cls := .type "list", data := .seq (items.toList.drop 1).toArray } }) :
    wpAny (model prog w) A (unpackItems (.ref t) 2 (some 1)) Q E s := by
  have hlt : t ≠ s.heap.objs.size := by obtain ⟨o, ho, _⟩ := ht; exact Nat.ne_of_lt (Heap.lt_size ho)
  unfold unpackItems
  refine wpAny_bind ?_
  unfold notIterableAtAll
  refine wpAny_bind (wpAny_specialOf ht.typeIs F.slot_tuple_iter.lookup ?_)
  refine wpAny_pure ?_
  simp only [Bool.false_eq_true, if_false]
  refine wpAny_bind (wpAny_holding (wpAny_pyIter_tuple ht ?_))
  refine wpAny_bind (wpAny_holding (wpAny_draw_tuple hlt 1 0 _ _ ⟨_, Heap.get?_push_size _ rfl, rfl, rfl⟩ (ht.push _) (by omega) fun h₁ hit₁ hs₁ => ?_))
  have hone : List.take 1 (List.drop 0 items.toList) = [items[0]] := by
    rw [List.drop_zero]
    have : items.toList = items[0] :: items.toList.drop 1 := by
      have := List.drop_eq_getElem_cons (l := items.toList) (i := 0) (by rw [Array.length_toList]; omega)
      simpa using this
    rw [this]; rfl
  rw [hone, if_neg (by simp)]
  have W := (Walks.tupleOn (prog := prog) (w := w) (A := A.in1) hh s.heap.objs.size t hlt items 1 h1).toS
  have k0 : ∀ b o, b ∉ [s.heap.objs.size] → s.heap.get? b = some o → h₁.get? b = some o := fun b o hb e => hs₁.extBut b o (fun z => hb (by simp [z])) (Heap.get?_push_of_some _ e)
  have sz1 : s.heap.objs.size < h₁.objs.size := by
    obtain ⟨o, ho, _⟩ := hit₁
    exact Heap.lt_size ho
  refine wpAny_bind (wpAny_holding (wpAny_collect_iter (T := "tuple_iterator") (.inr (.inr (.inr rfl))) W (fun i s' st => st.1.typeIs) ⟨hit₁, (ht.push _).extBut hs₁.extBut hlt⟩ ?_ (by simp) (fun s' acc hm hacc => ?_) (by omega)))
  · intro b hb
    rcases List.mem_cons.mp hb with rfl | hb
    · exact sz1
    · rw [List.mem_singleton.mp hb]
      obtain ⟨o, ho, _⟩ := ht
      exact Nat.lt_trans (Heap.lt_size ho) sz1
  · have el : acc.toList = items.toList.drop 1 := by
      obtain ⟨e1, e2⟩ := hacc
      apply List.ext_getElem?
      intro i
      rw [List.getElem?_drop, Array.getElem?_toList, Array.getElem?_toList]
      by_cases hi : i < acc.size
      · have g : acc[i]? = some acc[i] := by simp [hi]
        rw [g]; exact (e2 i _ g).symm
      · have a1 : acc[i]? = none := by simp; omega
        have a2 : items[1 + i]? = none := by simp; omega
        rw [a1, a2]
    rw [el, if_neg (by simp)]
    have et : List.take ((items.toList.drop 1).length - (2 - 1 - 1)) (items.toList.drop 1) = items.toList.drop 1 := by rw [show 2 - 1 - 1 = 0 from rfl, Nat.sub_zero, List.take_length]
    have ed : List.drop ((items.toList.drop 1).length - (2 - 1 - 1)) (items.toList.drop 1) = [] := by rw [show 2 - 1 - 1 = 0 from rfl, Nat.sub_zero, List.drop_length]
    rw [et, ed]
    refine wpAny_bind (wpAny_newList (wpAny_pure ?_) ?_)
    · exact hQ s' ⟨fun b o hb e => hm.heap b o hb (k0 b o hb e), hm.gens, hm.drawn, hm.os, hm.toks⟩
    · simp; omega
end
end PySem
namespace L2
open PySem PySem.Spec PyProof.Rows
section
variable {X : Cx} {pos : Pos}
/-- x, *rest = v (v a tuple of one item or more): rest becomes a new list -/
def gStar (K : PySem.W.Frag) (t : TGs) : TG := fun v σ H Q => ∃ a x xs, v = .ref a ∧ SqT K H a (x :: xs) ∧ ∀ p, H p = none → t [x, .ref p] σ (upd H p (.lst xs)) Q
theorem pg_star {e1 e2 : Expr} {k : Nat} {p2 : Pos} {t : TGs} (hc : X.calm = true) (h : PGs X [e1, e2] t)
    (hn : (assignEach [e1, .Starred e2 p2] X.env).length = 2 := by rfl) (hst : (assignEach [e1, .Starred e2 p2] X.env).findIdx? (·.1) = some 1 := by rfl)
    (hm : (assignEach [e1, .Starred e2 p2] X.env).map (·.2) = (assignEach [e1, e2] X.env).map (·.2) := by rfl) : PG X (.Tuple [e1, .Starred e2 p2] k pos) (gStar X.K t) := by
  refine ⟨fun pins s σ H v u Q I r hw => ?_⟩
  obtain ⟨a, x, xs, e1', hq, hw⟩ := hw
  subst e1'
  cases r
  obtain ⟨its, rv, ht, hz⟩ := I.tuple hq
  rw [assign_Tuple]
  refine wpAny_bind (wpAny_standAt ?_)
  unfold unpack
  rw [hn, hst, hm]
  cases rv with
  | cons r0 rv =>
    rename_i u0 us
    refine wpAny_bind (wpAny_holding (unpackStar (items := (u0 :: us).toArray) (I.ok.hd hc) ht (by simp) (by simp; have := rv.length; simp at hz; omega) fun s' mv => ?_))
    have I1 : Inv X pins σ H s' := by
      rw [Moved.eq_with mv]
      exact I.kept (t' := s'.toks) fun b o e => mv.heap b o (fun z => by have h1 := Heap.lt_size e; rw [List.mem_singleton.mp z] at h1; exact Nat.lt_irrefl _ h1) e
    have hf : H s'.heap.objs.size = none := I1.hok.fresh (Nat.le_refl _)
    have I2 : Inv X pins σ (upd H s'.heap.objs.size (.lst xs)) { s' with heap := s'.heap.push { cls := .type "list", data := .seq ((u0 :: us).drop 1).toArray }, toks := s'.toks } := by
      refine I1.laid (t' := s'.toks) (fun b u e => Heap.get?_push_of_some _ e) (Nat.le_refl _) ?_
      exact ⟨by simp at hz; omega, us, 0, rv, Heap.get?_push_size _ rfl⟩
    exact h.run pins _ σ _ [x, .ref s'.heap.objs.size] [u0, .ref s'.heap.objs.size] Q I2 (.cons r0 (.cons rfl .nil)) (hw _ hf)
end
end L2

set_option Elab.async false
set_option linter.all false
set_option maxRecDepth 100000
set_option maxHeartbeats 4000000
/-! A value that is a list or a tuple: its items, a slice of it, walked through; a body behind a call that never comes back. -/
namespace L2
open PySem PySem.Spec PyProof.Rows
section
variable {X : Cx} {K : PySem.W.Frag}
def rIxQ (K : PySem.W.Frag) : R2 := fun x y H Q => rIxL K x y H Q ∨ rIxT K x y H Q
theorem ix_q : IxR X (rIxQ X.K) := by
  intro value slice pins s σ H x y v u Q I rx ry h hs
  rcases h with h | h
  · exact ix_list value slice pins s σ H x y v u Q I rx ry h hs
  · exact ix_tup value slice pins s σ H x y v u Q I rx ry h hs
theorem ix_qK (e : X.K = K) : IxR X (rIxQ K) := by rw [← e]; exact ix_q
def rSlQ (K : PySem.W.Frag) : V → Option Int → Option Int → Hp → VK → Prop := fun x lo hi H Q => rSlL K x lo hi H Q ∨ rSlA K x lo hi H Q
theorem sl_q : SlR X (rSlQ X.K) := SlR.or sl_list sl_tupA
def iSq (K : PySem.W.Frag) (tl : TE) : TI := fun σ H R => tl σ H fun x H1 => ∃ a, x = .ref a ∧ ((∃ xs, SqL K H1 a xs) ∧ R (Itl K a) H1 ∨ (∃ xs, SqT K H1 a xs) ∧ R (Itt K a) H1)
theorem pi_sq {tg l : Expr} {tl : TE} (hl : PE X l tl) : PI X tg l (iSq X.K tl) := by
  refine ⟨fun pins s σ H R I h => ?_⟩
  refine thn (hl.run pins s σ H _ I h) fun v s1 ⟨x, H1, I1, r1, q1⟩ => ?_
  obtain ⟨a, e, q1⟩ := q1
  subst e
  cases r1
  rcases q1 with ⟨⟨xs, hq⟩, q⟩ | ⟨⟨xs, hq⟩, q⟩
  · obtain ⟨its, rv, p, hz⟩ := I1.list hq
    refine wpAny_pyIter_list p.isList ?_
    refine ⟨s1.heap.objs.size, [s1.heap.objs.size], _, _, H1, rfl, I1.kept (t' := s1.toks) fun b o e => Heap.get?_push_of_some _ e, turn_list a _, ⟨_, Heap.get?_push_size _ rfl, rfl, rfl⟩, fun b hb => ?_, q⟩
    have e : b = s1.heap.objs.size := by simpa using hb
    subst e
    exact I1.fpOk (Nat.le_refl _) (I1.hok.fresh (Nat.le_refl _))
  · obtain ⟨its, rv, p, hz⟩ := I1.tuple hq
    refine wpAny_pyIter_tuple (show s1.heap.IsTuple a its.toArray from p) ?_
    refine ⟨s1.heap.objs.size, [s1.heap.objs.size], _, _, H1, rfl, I1.kept (t' := s1.toks) fun b o e => Heap.get?_push_of_some _ e, turn_tuple a _, ⟨_, Heap.get?_push_size _ rfl, rfl, rfl⟩, fun b hb => ?_, q⟩
    have e : b = s1.heap.objs.size := by simpa using hb
    subst e
    exact I1.fpOk (Nat.le_refl _) (I1.hok.fresh (Nat.le_refl _))
theorem pg_tupK {es : List Expr} {k : Nat} {t : TGs} {n : Nat} {pos : Pos} (e : X.K = K) (hc : X.calm = true) (h : PGs X es t)
    (hn : (assignEach es X.env).length = n := by rfl) (hst : (assignEach es X.env).findIdx? (·.1) = none := by rfl) : PG X (.Tuple es k pos) (gTup K n t) := by subst e; exact pg_tup hc h hn hst
/-- a statement behind which nothing is reached -/
theorem pss_dead {st : Stmt} {rest : List Stmt} {t : TS} (h1 : PS X st t) : PSs X (st :: rest) (fun D σ H => t { D with nx := fun _ _ => False } σ H) := by
  refine ⟨fun pins s σ H D I h => ?_⟩
  refine wpAny_execs_cons (thn (h1.run pins s σ H { D with nx := fun _ _ => False } I h) fun f s1 q => ?_)
  cases f with
  | next =>
    obtain ⟨_, _, _, q⟩ := q
    exact q.elim
  | ret v => exact q
  | brk => exact q
  | cont => exact q
end
end L2
namespace My
open PySem PySem.Spec PyProof.Rows L2
/-- a list, or a tuple -/
def SqQ (K : PySem.W.Frag) (H : Hp) (a : Addr) (xs : List V) : Prop := SqL K H a xs ∨ SqT K H a xs
theorem SqQ.same {K : PySem.W.Frag} {H H' : Hp} {a : Addr} {xs : List V} (h : SqQ K H a xs) (s : ∀ b o, H b = some o → H' b = some o) : SqQ K H' a xs := h.elim (fun h => .inl (h.ext s)) (fun h => .inr (h.ext s))
theorem SqQ.ix {K : PySem.W.Frag} {H : Hp} {a : Addr} {xs : List V} {i : Int} {v : V} {Q : VK} (h : SqQ K H a xs) (e : atI xs i = some v) (q : Q v H) : rIxQ K (.ref a) (.int i) H Q :=
  h.elim (fun h => .inl ⟨a, xs, i, v, rfl, rfl, h, e, q⟩) (fun h => .inr ⟨a, xs, i, v, rfl, rfl, h, e, q⟩)
/-- a comprehension over a list or a tuple -/
theorem lc_sq {K : PySem.W.Frag} {a : Addr} {xs : List V} {g : TG} {tt : TT} {te : TE} {vs : List Nat} {σ : L2.St} {H1 : Hp} {Qd : Addr → Hp → Prop} (hq : SqQ K H1 a xs)
    (h : ∀ D, H1 D = none → ∃ Pv : Nat → Hp → Prop, Pv 0 (upd H1 D (.lst [])) ∧ (∀ i H, Pv i H → Same H1 H) ∧
      (∀ i x H, xs[i]? = some x → Pv i H → g x (wipe σ vs) H fun σ2 H2 => wipe σ2 vs = wipe σ vs ∧ tt σ2 H2 fun b H3 =>
        if b = true then te σ2 H3 fun y H4 => ∃ acc, H4 D = some (.lst acc) ∧ acc.length < sizeLine ∧ Pv (i + 1) (upd H4 D (.lst (acc ++ [y]))) else Pv (i + 1) H3) ∧ ∀ H, Pv xs.length H → Qd D H) :
    ((∃ xs, SqL K H1 a xs) ∧ ∀ D, H1 D = none → ∃ W : Nat → Nat → Hp → Prop, (∃ m, W 0 m (upd H1 D (.lst []))) ∧ ∀ i m H, W i m H →
      ((Itl K a).stop i H ∧ Qd D H) ∨ ((Itl K a).go i H ∧ ∃ Nx : Hp → Prop, (∀ H', Nx H' → ∃ m', m' < m ∧ W (i + 1) m' H') ∧ ∀ x H', (Itl K a).yld i H x H' → g x (wipe σ vs) H' fun σ2 H2 => wipe σ2 vs = wipe σ vs ∧ tt σ2 H2 fun b H3 =>
        if b = true then te σ2 H3 fun y H4 => ∃ acc, H4 D = some (.lst acc) ∧ acc.length < sizeLine ∧ Nx (upd H4 D (.lst (acc ++ [y]))) else Nx H3)) ∨ ((∃ xs, SqT K H1 a xs) ∧ ∀ D, H1 D = none → ∃ W : Nat → Nat → Hp → Prop, (∃ m, W 0 m (upd H1 D (.lst []))) ∧ ∀ i m H, W i m H →
      ((Itt K a).stop i H ∧ Qd D H) ∨ ((Itt K a).go i H ∧ ∃ Nx : Hp → Prop, (∀ H', Nx H' → ∃ m', m' < m ∧ W (i + 1) m' H') ∧ ∀ x H', (Itt K a).yld i H x H' → g x (wipe σ vs) H' fun σ2 H2 => wipe σ2 vs = wipe σ vs ∧ tt σ2 H2 fun b H3 =>
        if b = true then te σ2 H3 fun y H4 => ∃ acc, H4 D = some (.lst acc) ∧ acc.length < sizeLine ∧ Nx (upd H4 D (.lst (acc ++ [y]))) else Nx H3)) := by
  rcases hq with hq | hq
  · exact .inl ⟨⟨xs, hq⟩, fun D hD => by obtain ⟨Pv, h0, hl, hs, hd⟩ := h D hD; exact lc_list (K := K) (a := a) (xs := xs) Pv h0 (fun i H hi h => hq.ext (hl i H h)) hs hd⟩
  · exact .inr ⟨⟨xs, hq⟩, fun D hD => by obtain ⟨Pv, h0, hl, hs, hd⟩ := h D hD; exact lc_tup (K := K) (a := a) (xs := xs) Pv h0 (fun i H hi h => hq.ext (hl i H h)) hs hd⟩
theorem walk_zipT {K : PySem.W.Frag} {a b : Addr} {xs ys : List V} {n : Nat} (hn : n = min xs.length ys.length) : Walk (RZ.ItzT K a b) n (fun H => SqT K H a xs ∧ SqT K H b ys) (YPair (fun i => xs[i]?) (fun i => ys[i]?)) := by
  subst hn
  refine ⟨fun i _ hi q => ?_, fun _ q => ⟨xs, ys, q.1, q.2, by omega⟩, fun i H v H' _ q y => ?_⟩
  · have h1 : i < xs.length := by omega
    have h2 : i < ys.length := by omega
    exact ⟨xs, ys, xs[i], ys[i], q.1, q.2, by simp [h1], by simp [h2]⟩
  · obtain ⟨T, x, z, h1, h2, h3, h4, h5⟩ := y
    exact ⟨T, x, z, h1, h2, h3, h4 xs q.1, h5 ys q.2⟩
/-- a comprehension over the pairs of two lists, or of two tuples -/
theorem lc_zipA {K : PySem.W.Frag} {a b : Addr} {xs ys : List V} {g : TG} {tt : TT} {te : TE} {vs : List Nat} {σ : L2.St} {H1 : Hp} {Qd : Addr → Hp → Prop} (hq : (SqL K H1 a xs ∧ SqL K H1 b ys) ∨ (SqT K H1 a xs ∧ SqT K H1 b ys))
    (h : ∀ D, H1 D = none → ∃ Pv : Nat → Hp → Prop, Pv 0 (upd H1 D (.lst [])) ∧ (∀ i H, Pv i H → Same H1 H) ∧
      (∀ i T x y H, xs[i]? = some x → ys[i]? = some y → Pv i H → H T = none → g (.ref T) (wipe σ vs) (upd H T (.tup [x, y])) fun σ2 H2 => wipe σ2 vs = wipe σ vs ∧ tt σ2 H2 fun b H3 =>
        if b = true then te σ2 H3 fun y H4 => ∃ acc, H4 D = some (.lst acc) ∧ acc.length < sizeLine ∧ Pv (i + 1) (upd H4 D (.lst (acc ++ [y]))) else Pv (i + 1) H3) ∧ ∀ H, Pv (min xs.length ys.length) H → Qd D H) :
    (SqL K H1 a xs ∧ SqL K H1 b ys ∧ ∀ D, H1 D = none → ∃ W : Nat → Nat → Hp → Prop, (∃ m, W 0 m (upd H1 D (.lst []))) ∧ ∀ i m H, W i m H →
      ((Itz K a b).stop i H ∧ Qd D H) ∨ ((Itz K a b).go i H ∧ ∃ Nx : Hp → Prop, (∀ H', Nx H' → ∃ m', m' < m ∧ W (i + 1) m' H') ∧ ∀ x H', (Itz K a b).yld i H x H' → g x (wipe σ vs) H' fun σ2 H2 => wipe σ2 vs = wipe σ vs ∧ tt σ2 H2 fun b H3 =>
        if b = true then te σ2 H3 fun y H4 => ∃ acc, H4 D = some (.lst acc) ∧ acc.length < sizeLine ∧ Nx (upd H4 D (.lst (acc ++ [y]))) else Nx H3)) ∨ (SqT K H1 a xs ∧ SqT K H1 b ys ∧ ∀ D, H1 D = none → ∃ W : Nat → Nat → Hp → Prop, (∃ m, W 0 m (upd H1 D (.lst []))) ∧ ∀ i m H, W i m H →
      ((RZ.ItzT K a b).stop i H ∧ Qd D H) ∨ ((RZ.ItzT K a b).go i H ∧ ∃ Nx : Hp → Prop, (∀ H', Nx H' → ∃ m', m' < m ∧ W (i + 1) m' H') ∧ ∀ x H', (RZ.ItzT K a b).yld i H x H' → g x (wipe σ vs) H' fun σ2 H2 => wipe σ2 vs = wipe σ vs ∧ tt σ2 H2 fun b H3 =>
        if b = true then te σ2 H3 fun y H4 => ∃ acc, H4 D = some (.lst acc) ∧ acc.length < sizeLine ∧ Nx (upd H4 D (.lst (acc ++ [y]))) else Nx H3)) := by
  rcases hq with ⟨h1, h2⟩ | ⟨h1, h2⟩
  · refine .inl ⟨h1, h2, fun D hD => ?_⟩
    obtain ⟨Pv, h0, hl, hs, hd⟩ := h D hD
    refine lc_it (walk_zip rfl) Pv h0 (fun i H _ p => ⟨h1.ext (hl i H p), h2.ext (hl i H p)⟩) ?_ hd
    rintro i v H H' hi p ⟨T, x, y, rfl, hT, rfl, ex, ey⟩
    exact hs i T x y H ex ey p hT
  · refine .inr ⟨h1, h2, fun D hD => ?_⟩
    obtain ⟨Pv, h0, hl, hs, hd⟩ := h D hD
    refine lc_it (walk_zipT rfl) Pv h0 (fun i H _ p => ⟨h1.ext (hl i H p), h2.ext (hl i H p)⟩) ?_ hd
    rintro i v H H' hi p ⟨T, x, y, rfl, hT, rfl, ex, ey⟩
    exact hs i T x y H ex ey p hT
theorem _root_.L2.Dg.lst_q {K : PySem.W.Frag} {H : Hp} {m : Bool} {x : V} {ds : List PyData} {d : PyData} (hd : d = .list ds ∨ d = .tuple ds) (h : Dg K H m x d) : ∃ a xs, x = .ref a ∧ SqQ K H a xs ∧ DgAll K H m xs ds := by
  rcases hd with rfl | rfl
  · obtain ⟨a, xs, rfl, hs, _, ha⟩ := h.lst_of
    exact ⟨a, xs, rfl, .inl hs, ha⟩
  · obtain ⟨a, xs, rfl, hs, ha⟩ := h.tup_of
    exact ⟨a, xs, rfl, .inr hs, ha⟩
end My

set_option Elab.async false
set_option linter.all false
set_option maxRecDepth 100000
set_option maxHeartbeats 2000000
namespace My
open PySem PySem.Spec PyProof.Rows L2
def topS (i : Nat) : Stmt := PySem.Challenge.pw_spoiltline_k56_rows_of_numbers.main.body.getD i (.Pass ⟨0, 0, 0, 0⟩)
abbrev s_is_integer : Stmt := topS 4
abbrev N_is_integer : List Str := ["value"]
theorem sc_is_integer : FnScope N_is_integer ["value"] (defScope s_is_integer) := ⟨rfl, rfl, rfl, by decide +kernel, rfl, by decide +kernel, by decide +kernel⟩
abbrev s_is_count : Stmt := topS 5
abbrev N_is_count : List Str := ["value"]
theorem sc_is_count : FnScope N_is_count ["value"] (defScope s_is_count) := ⟨rfl, rfl, rfl, by decide +kernel, rfl, by decide +kernel, by decide +kernel⟩
abbrev s_is_list : Stmt := topS 6
abbrev N_is_list : List Str := ["value"]
theorem sc_is_list : FnScope N_is_list ["value"] (defScope s_is_list) := ⟨rfl, rfl, rfl, by decide +kernel, rfl, by decide +kernel, by decide +kernel⟩
abbrev s_is_row : Stmt := topS 33
abbrev N_is_row : List Str := ["value", "first", "period", "gain", "number"]
theorem sc_is_row : FnScope N_is_row ["value"] (defScope s_is_row) := ⟨rfl, rfl, rfl, by decide +kernel, rfl, by decide +kernel, by decide +kernel⟩
abbrev s_row_at : Stmt := topS 34
abbrev N_row_at : List Str := ["row", "many"]
theorem sc_row_at : FnScope N_row_at ["row", "many"] (defScope s_row_at) := ⟨rfl, rfl, rfl, by decide +kernel, rfl, by decide +kernel, by decide +kernel⟩
abbrev s_built : Stmt := topS 35
abbrev N_built : List Str := ["row", "rises", "starts", "rise", "steps", "ends", "many", "last", "goal", "words", "at", "word", "behind", "entry"]
theorem sc_built : FnScope N_built ["row"] (defScope s_built) := ⟨rfl, rfl, rfl, by decide +kernel, rfl, by decide +kernel, by decide +kernel⟩
abbrev s_is_subadditive : Stmt := topS 36
abbrev N_is_subadditive : List Str := ["row"]
theorem sc_is_subadditive : FnScope N_is_subadditive ["row"] (defScope s_is_subadditive) := ⟨rfl, rfl, rfl, by decide +kernel, rfl, by decide +kernel, by decide +kernel⟩
abbrev s_built_accepting : Stmt := topS 37
abbrev N_built_accepting : List Str := ["row", "rises", "loop", "counted", "owed", "steps", "many", "rise", "goal", "kept", "paid", "at"]
theorem sc_built_accepting : FnScope N_built_accepting ["row"] (defScope s_built_accepting) := ⟨rfl, rfl, rfl, by decide +kernel, rfl, by decide +kernel, by decide +kernel⟩
abbrev s_check_row : Stmt := topS 38
abbrev N_check_row : List Str := ["value"]
theorem sc_check_row : FnScope N_check_row ["value"] (defScope s_check_row) := ⟨rfl, rfl, rfl, by decide +kernel, rfl, by decide +kernel, by decide +kernel⟩
abbrev s_is_rising : Stmt := topS 39
abbrev N_is_rising : List Str := ["numbers", "one", "other"]
theorem sc_is_rising : FnScope N_is_rising ["numbers"] (defScope s_is_rising) := ⟨rfl, rfl, rfl, by decide +kernel, rfl, by decide +kernel, by decide +kernel⟩
abbrev s_number_at : Stmt := topS 40
abbrev N_number_at : List Str := ["row", "many", "first", "period", "gain", "rounds"]
theorem sc_number_at : FnScope N_number_at ["row", "many"] (defScope s_number_at) := ⟨rfl, rfl, rfl, by decide +kernel, rfl, by decide +kernel, by decide +kernel⟩
abbrev s_is_subadditive_row : Stmt := topS 43
abbrev N_is_subadditive_row : List Str := ["row", "one", "other"]
theorem sc_is_subadditive_row : FnScope N_is_subadditive_row ["row"] (defScope s_is_subadditive_row) := ⟨rfl, rfl, rfl, by decide +kernel, rfl, by decide +kernel, by decide +kernel⟩
abbrev s_law_cell : Stmt := topS 45
abbrev N_law_cell : List Str := ["script", "k"]
theorem sc_law_cell : FnScope N_law_cell ["script", "k"] (defScope s_law_cell) := ⟨rfl, rfl, rfl, by decide +kernel, rfl, by decide +kernel, by decide +kernel⟩
abbrev s_law_box : Stmt := topS 46
abbrev N_law_box : List Str := ["great"]
theorem sc_law_box : FnScope N_law_box ["great"] (defScope s_law_box) := ⟨rfl, rfl, rfl, by decide +kernel, rfl, by decide +kernel, by decide +kernel⟩
abbrev s_law_take : Stmt := topS 47
abbrev N_law_take : List Str := ["box", "limit", "digit", "mixed"]
theorem sc_law_take : FnScope N_law_take ["box", "limit"] (defScope s_law_take) := ⟨rfl, rfl, rfl, by decide +kernel, rfl, by decide +kernel, by decide +kernel⟩
abbrev s_law_first : Stmt := topS 48
abbrev N_law_first : List Str := ["box", "size", "way", "rises", "turn", "found", "rise"]
theorem sc_law_first : FnScope N_law_first ["box"] (defScope s_law_first) := ⟨rfl, rfl, rfl, by decide +kernel, rfl, by decide +kernel, by decide +kernel⟩
abbrev s_law_plain : Stmt := topS 49
abbrev N_law_plain : List Str := ["box", "first", "period", "least", "gain"]
theorem sc_law_plain : FnScope N_law_plain ["box"] (defScope s_law_plain) := ⟨rfl, rfl, rfl, by decide +kernel, rfl, by decide +kernel, by decide +kernel⟩
abbrev s_law_numbers : Stmt := topS 50
abbrev N_law_numbers : List Str := ["plain", "size", "found", "turn"]
theorem sc_law_numbers : FnScope N_law_numbers ["plain", "size"] (defScope s_law_numbers) := ⟨rfl, rfl, rfl, by decide +kernel, rfl, by decide +kernel, by decide +kernel⟩
abbrev s_law_is_count : Stmt := topS 51
abbrev N_law_is_count : List Str := ["thing"]
theorem sc_law_is_count : FnScope N_law_is_count ["thing"] (defScope s_law_is_count) := ⟨rfl, rfl, rfl, by decide +kernel, rfl, by decide +kernel, by decide +kernel⟩
abbrev s_law_judged : Stmt := topS 52
abbrev N_law_judged : List Str := ["thing", "first", "period", "gain", "spot"]
theorem sc_law_judged : FnScope N_law_judged ["thing"] (defScope s_law_judged) := ⟨rfl, rfl, rfl, by decide +kernel, rfl, by decide +kernel, by decide +kernel⟩
abbrev s_law_spoiled : Stmt := topS 53
abbrev N_law_spoiled : List Str := ["box", "plain", "first", "period", "gain", "way", "spot", "odd"]
theorem sc_law_spoiled : FnScope N_law_spoiled ["box", "plain"] (defScope s_law_spoiled) := ⟨rfl, rfl, rfl, by decide +kernel, rfl, by decide +kernel, by decide +kernel⟩
abbrev s_law_is_subadditive : Stmt := topS 54
abbrev N_law_is_subadditive : List Str := ["plain", "size", "numbers", "m", "k"]
theorem sc_law_is_subadditive : FnScope N_law_is_subadditive ["plain"] (defScope s_law_is_subadditive) := ⟨rfl, rfl, rfl, by decide +kernel, rfl, by decide +kernel, by decide +kernel⟩
abbrev s_law_row_right : Stmt := topS 55
abbrev N_law_row_right : List Str := ["box", "plain", "numbers", "pack", "other", "size", "count", "due"]
theorem sc_law_row_right : FnScope N_law_row_right ["box", "plain"] (defScope s_law_row_right) := ⟨rfl, rfl, rfl, by decide +kernel, rfl, by decide +kernel, by decide +kernel⟩
abbrev s_law_told : Stmt := topS 56
abbrev N_law_told : List Str := ["door", "thing", "count", "e"]
theorem sc_law_told : FnScope N_law_told ["door", "thing", "count"] (defScope s_law_told) := ⟨rfl, rfl, rfl, by decide +kernel, rfl, by decide +kernel, by decide +kernel⟩
abbrev s_law_copy : Stmt := topS 57
abbrev N_law_copy : List Str := ["thing"]
theorem sc_law_copy : FnScope N_law_copy ["thing"] (defScope s_law_copy) := ⟨rfl, rfl, rfl, by decide +kernel, rfl, by decide +kernel, by decide +kernel⟩
abbrev s_law_refused : Stmt := topS 58
abbrev N_law_refused : List Str := ["door", "thing", "count", "handed", "due", "told", "inner"]
theorem sc_law_refused : FnScope N_law_refused ["door", "thing", "count"] (defScope s_law_refused) := ⟨rfl, rfl, rfl, by decide +kernel, rfl, by decide +kernel, by decide +kernel⟩
abbrev s_law_spoiled_right : Stmt := topS 59
abbrev N_law_spoiled_right : List Str := ["box", "plain", "thing", "odd", "door", "handed", "told", "inner"]
theorem sc_law_spoiled_right : FnScope N_law_spoiled_right ["box", "plain", "thing"] (defScope s_law_spoiled_right) := ⟨rfl, rfl, rfl, by decide +kernel, rfl, by decide +kernel, by decide +kernel⟩
abbrev s_law_right : Stmt := topS 60
abbrev N_law_right : List Str := ["box", "plain", "beside", "turn"]
theorem sc_law_right : FnScope N_law_right ["box"] (defScope s_law_right) := ⟨rfl, rfl, rfl, by decide +kernel, rfl, by decide +kernel, by decide +kernel⟩
abbrev s_law : Stmt := topS 61
abbrev N_law : List Str := ["script", "k"]
theorem sc_law : FnScope N_law ["script"] (defScope s_law) := ⟨rfl, rfl, rfl, by decide +kernel, rfl, by decide +kernel, by decide +kernel⟩
structure Txt (K : PySem.W.Frag) (mg : Str → Option Value) where
  f_is_integer : Addr
  fd_is_integer : FuncData
  F_is_integer : Fun K "is_integer" "is_integer" s_is_integer f_is_integer fd_is_integer
  b_is_integer : Binds K fd_is_integer ["value"] []
  g_is_integer : mg "is_integer" = some (.ref f_is_integer)
  f_is_count : Addr
  fd_is_count : FuncData
  F_is_count : Fun K "is_count" "is_count" s_is_count f_is_count fd_is_count
  b_is_count : Binds K fd_is_count ["value"] []
  g_is_count : mg "is_count" = some (.ref f_is_count)
  f_is_list : Addr
  fd_is_list : FuncData
  F_is_list : Fun K "is_list" "is_list" s_is_list f_is_list fd_is_list
  b_is_list : Binds K fd_is_list ["value"] []
  g_is_list : mg "is_list" = some (.ref f_is_list)
  f_is_row : Addr
  fd_is_row : FuncData
  F_is_row : Fun K "is_row" "is_row" s_is_row f_is_row fd_is_row
  b_is_row : Binds K fd_is_row ["value"] []
  g_is_row : mg "is_row" = some (.ref f_is_row)
  f_row_at : Addr
  fd_row_at : FuncData
  F_row_at : Fun K "row_at" "row_at" s_row_at f_row_at fd_row_at
  b_row_at : Binds K fd_row_at ["row", "many"] []
  g_row_at : mg "row_at" = some (.ref f_row_at)
  f_built : Addr
  fd_built : FuncData
  F_built : Fun K "built" "built" s_built f_built fd_built
  b_built : Binds K fd_built ["row"] []
  g_built : mg "built" = some (.ref f_built)
  f_is_subadditive : Addr
  fd_is_subadditive : FuncData
  F_is_subadditive : Fun K "is_subadditive" "is_subadditive" s_is_subadditive f_is_subadditive fd_is_subadditive
  b_is_subadditive : Binds K fd_is_subadditive ["row"] []
  g_is_subadditive : mg "is_subadditive" = some (.ref f_is_subadditive)
  f_built_accepting : Addr
  fd_built_accepting : FuncData
  F_built_accepting : Fun K "built_accepting" "built_accepting" s_built_accepting f_built_accepting fd_built_accepting
  b_built_accepting : Binds K fd_built_accepting ["row"] []
  g_built_accepting : mg "built_accepting" = some (.ref f_built_accepting)
  f_check_row : Addr
  fd_check_row : FuncData
  F_check_row : Fun K "check_row" "check_row" s_check_row f_check_row fd_check_row
  b_check_row : Binds K fd_check_row ["value"] []
  g_check_row : mg "check_row" = some (.ref f_check_row)
  f_is_rising : Addr
  fd_is_rising : FuncData
  F_is_rising : Fun K "is_rising" "is_rising" s_is_rising f_is_rising fd_is_rising
  b_is_rising : Binds K fd_is_rising ["numbers"] []
  g_is_rising : mg "is_rising" = some (.ref f_is_rising)
  f_number_at : Addr
  fd_number_at : FuncData
  F_number_at : Fun K "number_at" "number_at" s_number_at f_number_at fd_number_at
  b_number_at : Binds K fd_number_at ["row", "many"] []
  g_number_at : mg "number_at" = some (.ref f_number_at)
  f_is_subadditive_row : Addr
  fd_is_subadditive_row : FuncData
  F_is_subadditive_row : Fun K "is_subadditive_row" "is_subadditive_row" s_is_subadditive_row f_is_subadditive_row fd_is_subadditive_row
  b_is_subadditive_row : Binds K fd_is_subadditive_row ["row"] []
  g_is_subadditive_row : mg "is_subadditive_row" = some (.ref f_is_subadditive_row)
  f_law_cell : Addr
  fd_law_cell : FuncData
  F_law_cell : Fun K "_law_cell" "_law_cell" s_law_cell f_law_cell fd_law_cell
  b_law_cell : Binds K fd_law_cell ["script", "k"] []
  g_law_cell : mg "_law_cell" = some (.ref f_law_cell)
  f_law_box : Addr
  fd_law_box : FuncData
  F_law_box : Fun K "_law_box" "_law_box" s_law_box f_law_box fd_law_box
  b_law_box : Binds K fd_law_box ["great"] []
  g_law_box : mg "_law_box" = some (.ref f_law_box)
  f_law_take : Addr
  fd_law_take : FuncData
  F_law_take : Fun K "_law_take" "_law_take" s_law_take f_law_take fd_law_take
  b_law_take : Binds K fd_law_take ["box", "limit"] []
  g_law_take : mg "_law_take" = some (.ref f_law_take)
  f_law_first : Addr
  fd_law_first : FuncData
  F_law_first : Fun K "_law_first" "_law_first" s_law_first f_law_first fd_law_first
  b_law_first : Binds K fd_law_first ["box"] []
  g_law_first : mg "_law_first" = some (.ref f_law_first)
  f_law_plain : Addr
  fd_law_plain : FuncData
  F_law_plain : Fun K "_law_plain" "_law_plain" s_law_plain f_law_plain fd_law_plain
  b_law_plain : Binds K fd_law_plain ["box"] []
  g_law_plain : mg "_law_plain" = some (.ref f_law_plain)
  f_law_numbers : Addr
  fd_law_numbers : FuncData
  F_law_numbers : Fun K "_law_numbers" "_law_numbers" s_law_numbers f_law_numbers fd_law_numbers
  b_law_numbers : Binds K fd_law_numbers ["plain", "size"] []
  g_law_numbers : mg "_law_numbers" = some (.ref f_law_numbers)
  f_law_is_count : Addr
  fd_law_is_count : FuncData
  F_law_is_count : Fun K "_law_is_count" "_law_is_count" s_law_is_count f_law_is_count fd_law_is_count
  b_law_is_count : Binds K fd_law_is_count ["thing"] []
  g_law_is_count : mg "_law_is_count" = some (.ref f_law_is_count)
  f_law_judged : Addr
  fd_law_judged : FuncData
  F_law_judged : Fun K "_law_judged" "_law_judged" s_law_judged f_law_judged fd_law_judged
  b_law_judged : Binds K fd_law_judged ["thing"] []
  g_law_judged : mg "_law_judged" = some (.ref f_law_judged)
  f_law_spoiled : Addr
  fd_law_spoiled : FuncData
  F_law_spoiled : Fun K "_law_spoiled" "_law_spoiled" s_law_spoiled f_law_spoiled fd_law_spoiled
  b_law_spoiled : Binds K fd_law_spoiled ["box", "plain"] []
  g_law_spoiled : mg "_law_spoiled" = some (.ref f_law_spoiled)
  f_law_is_subadditive : Addr
  fd_law_is_subadditive : FuncData
  F_law_is_subadditive : Fun K "_law_is_subadditive" "_law_is_subadditive" s_law_is_subadditive f_law_is_subadditive fd_law_is_subadditive
  b_law_is_subadditive : Binds K fd_law_is_subadditive ["plain"] []
  g_law_is_subadditive : mg "_law_is_subadditive" = some (.ref f_law_is_subadditive)
  f_law_row_right : Addr
  fd_law_row_right : FuncData
  F_law_row_right : Fun K "_law_row_right" "_law_row_right" s_law_row_right f_law_row_right fd_law_row_right
  b_law_row_right : Binds K fd_law_row_right ["box", "plain"] []
  g_law_row_right : mg "_law_row_right" = some (.ref f_law_row_right)
  f_law_told : Addr
  fd_law_told : FuncData
  F_law_told : Fun K "_law_told" "_law_told" s_law_told f_law_told fd_law_told
  b_law_told : Binds K fd_law_told ["door", "thing", "count"] []
  g_law_told : mg "_law_told" = some (.ref f_law_told)
  f_law_copy : Addr
  fd_law_copy : FuncData
  F_law_copy : Fun K "_law_copy" "_law_copy" s_law_copy f_law_copy fd_law_copy
  b_law_copy : Binds K fd_law_copy ["thing"] []
  g_law_copy : mg "_law_copy" = some (.ref f_law_copy)
  f_law_refused : Addr
  fd_law_refused : FuncData
  F_law_refused : Fun K "_law_refused" "_law_refused" s_law_refused f_law_refused fd_law_refused
  b_law_refused : Binds K fd_law_refused ["door", "thing", "count"] []
  g_law_refused : mg "_law_refused" = some (.ref f_law_refused)
  f_law_spoiled_right : Addr
  fd_law_spoiled_right : FuncData
  F_law_spoiled_right : Fun K "_law_spoiled_right" "_law_spoiled_right" s_law_spoiled_right f_law_spoiled_right fd_law_spoiled_right
  b_law_spoiled_right : Binds K fd_law_spoiled_right ["box", "plain", "thing"] []
  g_law_spoiled_right : mg "_law_spoiled_right" = some (.ref f_law_spoiled_right)
  f_law_right : Addr
  fd_law_right : FuncData
  F_law_right : Fun K "_law_right" "_law_right" s_law_right f_law_right fd_law_right
  b_law_right : Binds K fd_law_right ["box"] []
  g_law_right : mg "_law_right" = some (.ref f_law_right)
  f_law : Addr
  fd_law : FuncData
  F_law : Fun K "law" "law" s_law f_law fd_law
  b_law : Binds K fd_law ["script"] []
  g_law : mg "law" = some (.ref f_law)
  z_abs : mg "abs" = none
  z_all : mg "all" = none
  z_bool : mg "bool" = none
  z_int : mg "int" = none
  z_isinstance : mg "isinstance" = none
  z_len : mg "len" = none
  z_list : mg "list" = none
  z_max : mg "max" = none
  z_min : mg "min" = none
  z_range : mg "range" = none
  z_repr : mg "repr" = none
  z_sorted : mg "sorted" = none
  z_sum : mg "sum" = none
  z_tuple : mg "tuple" = none
  z_zip : mg "zip" = none
  t_MOST_SIGNS : Tok
  c_MOST_SIGNS : mg "MOST_SIGNS" = some (.int (5) t_MOST_SIGNS)
  t_MOST_LETTERS : Tok
  c_MOST_LETTERS : mg "MOST_LETTERS" = some (.int (3) t_MOST_LETTERS)
  t_MOST_STATES : Tok
  c_MOST_STATES : mg "MOST_STATES" = some (.int (40) t_MOST_STATES)
  t_MOST_FIRST : Tok
  c_MOST_FIRST : mg "MOST_FIRST" = some (.int (8) t_MOST_FIRST)
  t_MOST_NUMBER : Tok
  c_MOST_NUMBER : mg "MOST_NUMBER" = some (.int (40) t_MOST_NUMBER)
  t_MOST_PERIOD : Tok
  c_MOST_PERIOD : mg "MOST_PERIOD" = some (.int (4) t_MOST_PERIOD)
  t_MOST_GAIN : Tok
  c_MOST_GAIN : mg "MOST_GAIN" = some (.int (12) t_MOST_GAIN)
  t_MOST_WRITTEN : Tok
  c_MOST_WRITTEN : mg "MOST_WRITTEN" = some (.int (3) t_MOST_WRITTEN)
  C_InvalidRow : Addr
  i_InvalidRow : Addr
  e_InvalidRow : ErrX.ETxt K mg "InvalidRow" "InvalidRow.__init__" C_InvalidRow i_InvalidRow
  x_InvalidRow : PySem.W.exmOne K (.ref C_InvalidRow) (.ref C_InvalidRow) = some true
  C_InvalidCount : Addr
  i_InvalidCount : Addr
  e_InvalidCount : ErrX.ETxt K mg "InvalidCount" "InvalidCount.__init__" C_InvalidCount i_InvalidCount
  x_InvalidCount : PySem.W.exmOne K (.ref C_InvalidCount) (.ref C_InvalidCount) = some true
  no_InvalidRow_InvalidCount : PySem.W.exmOne K (.ref C_InvalidRow) (.ref C_InvalidCount) = some false
  no_InvalidCount_InvalidRow : PySem.W.exmOne K (.ref C_InvalidCount) (.ref C_InvalidRow) = some false
end My

set_option Elab.async false
set_option linter.all false
set_option maxRecDepth 100000
set_option maxHeartbeats 8000000
namespace My
open PySem PySem.Spec PyProof.Rows L2
/-! ### what a row is -/
def isI : PyData → Bool | .int _ => true | _ => false
def isCn : PyData → Bool | .int i => decide (0 ≤ i) | _ => false
def numD : PyData → Int | .int i => i | _ => 0
def isSqD : PyData → Bool | .list _ => true | .tuple _ => true | _ => false
/-- the numbers of a row, its period, its gain -/
structure RowN (ns : List Int) (p g : Int) : Prop where
  l1 : 1 ≤ ns.length
  l8 : ns.length ≤ 8
  h0 : ns.getD 0 0 = 0
  up : ∀ i, i + 1 < ns.length → ns.getD i 0 ≤ ns.getD (i + 1) 0
  top : ns.getD (ns.length - 1) 0 ≤ 40
  p1 : 1 ≤ p
  p4 : p ≤ 4
  pl : p ≤ ns.length
  g0 : 0 ≤ g
  g12 : g ≤ 12
  no : ns.getD (ns.length - 1) 0 ≤ ns.getD (ns.length - p.toNat) 0 + g
def RowD (d : PyData) : Prop := ∃ f ns p g, d = .tuple [f, .int p, .int g] ∧ (f = .list (ns.map PyData.int) ∨ f = .tuple (ns.map PyData.int)) ∧ RowN ns p g
noncomputable def rowB (d : PyData) : Bool := @decide (RowD d) (Classical.propDecidable _)
theorem rowB_t {d : PyData} (h : RowD d) : rowB d = true := by unfold rowB; exact @decide_eq_true _ (Classical.propDecidable _) h
theorem rowB_f {d : PyData} (h : ¬ RowD d) : rowB d = false := by unfold rowB; exact @decide_eq_false _ (Classical.propDecidable _) h
theorem rowB_of {d : PyData} (h : rowB d = true) : RowD d := by unfold rowB at h; exact @of_decide_eq_true _ (Classical.propDecidable _) h
theorem RowN.mono {ns : List Int} {p g : Int} (r : RowN ns p g) : ∀ j i, i ≤ j → j < ns.length → ns.getD i 0 ≤ ns.getD j 0
  | 0, i, h, _ => by rw [Nat.le_zero.mp h]; exact Int.le_refl _
  | j + 1, i, h, l => by
    rcases Nat.lt_or_ge j i with c | c
    · have : i = j + 1 := by omega
      rw [this]; exact Int.le_refl _
    · exact Int.le_trans (r.mono j i c (by omega)) (r.up j l)
theorem RowN.nn {ns : List Int} {p g : Int} (r : RowN ns p g) {i : Nat} (h : i < ns.length) : 0 ≤ ns.getD i 0 := by have := r.mono i 0 (Nat.zero_le _) h; rw [r.h0] at this; exact this
theorem RowN.le {ns : List Int} {p g : Int} (r : RowN ns p g) {i : Nat} (h : i < ns.length) : ns.getD i 0 ≤ 40 := Int.le_trans (r.mono (ns.length - 1) i (by omega) (by omega)) r.top
/-- the data of three -/
theorem row_three {d : PyData} (h : RowD d) : ∃ ds a b c, d = .tuple ds ∧ ds = [a, b, c] := by
  obtain ⟨f, ns, p, g, rfl, _⟩ := h
  exact ⟨_, _, _, _, rfl, rfl⟩
theorem kit_sqD {K : PySem.W.Frag} (d : PyData) : PySem.W.kitAny K (.type (tyD d)) [.type "list", .type "tuple"] = some (isSqD d) := by
  have h1 := kit_lstD (K := K) d
  have h2 := kit_tupD (K := K) d
  unfold PySem.W.kitAny
  rw [h1]
  cases d <;> simp [isLstD, isSqD, isTupD, PySem.W.kitAny, h2] <;> rfl
section
variable {P : Program} {w : World} {K : PySem.W.Frag} {mg : Str → Option Value} {base : Heap}
def spD (K : PySem.W.Frag) (f : PyData → Bool) : Sp := fun vs H Q _ => ∃ x d m, vs = [x] ∧ Dg K H m x d ∧ Q (.bl (f d)) H
theorem ok_is_integer (T : Txt K mg) : FnOk P w K mg base CX0 1 T.f_is_integer T.fd_is_integer ["value"] (spD K isI) := by
  refine T.F_is_integer.ok sc_is_integer (fun vs H Q E h => ?_) (fun cdv A outer s H vs Q E hr h => ?_)
  · obtain ⟨x, d, m, rfl, _⟩ := h; rfl
  · obtain ⟨x, d, m, rfl, hd, q⟩ := h
    refine ⟨_, (pss_one (ps_ret (pe_and (pe_callB call_isi (by rfl) T.z_isinstance (by decide +kernel) (pa_cons (pv 0) (pa_cons (pe_bltn (v := .ty "int") (u := .type "int") (by rfl) T.z_int (by decide +kernel) rfl) pa_nil))) (pe_one (pe_not (pe_callB call_isi (by rfl) T.z_isinstance (by decide +kernel) (pa_cons (pv 0) (pa_cons (pe_bltn (v := .ty "bool") (u := .type "bool") (by rfl) T.z_bool (by decide +kernel) rfl) pa_nil)))))))), ?_⟩
    have e : (isNumD d && !isBlD d) = isI d := by cases d <;> rfl
    rw [← e] at q
    refine ⟨_, rfl, _, _, _, _, isNumD d, rfl, .ty _, hd.ty, kit_numD d, _, rfl, ?_⟩
    cases h1 : isNumD d with
    | false => rw [h1] at q; exact iteF q
    | true =>
      rw [h1, Bool.true_and] at q
      exact iteT ⟨_, rfl, _, _, _, _, isBlD d, rfl, .ty _, hd.ty, kit_blD d, _, rfl, q⟩
theorem ok_is_count (T : Txt K mg) : FnOk P w K mg base CX0 2 T.f_is_count T.fd_is_count ["value"] (spD K isCn) := by
  refine T.F_is_count.ok sc_is_count (fun vs H Q E h => ?_) (fun cdv A outer s H vs Q E hr h => ?_)
  · obtain ⟨x, d, m, rfl, _⟩ := h; rfl
  · obtain ⟨x, d, m, rfl, hd, q⟩ := h
    refine ⟨_, (pss_one (ps_ret (pe_and (pe_call (ok_is_integer T) (hr.mono (by decide)) rfl T.g_is_integer T.F_is_integer.kp T.b_is_integer .nil pass0 (pa_cons (pv 0) pa_nil)) (pe_one (pe_cmpR op_ge (pv 0) pe_int (nomark _)))))), ?_⟩
    refine ⟨_, rfl, x, d, m, rfl, hd, _, rfl, ?_⟩
    cases d with
    | int i =>
      obtain rfl := hd.int_of
      exact iteT ⟨_, rfl, _, _, rfl, rfl, q⟩
    | _ => exact iteF q
theorem ok_law_is_count (T : Txt K mg) : FnOk P w K mg base CX0 1 T.f_law_is_count T.fd_law_is_count ["thing"] (spD K isCn) := by
  refine T.F_law_is_count.ok sc_law_is_count (fun vs H Q E h => ?_) (fun cdv A outer s H vs Q E hr h => ?_)
  · obtain ⟨x, d, m, rfl, _⟩ := h; rfl
  · obtain ⟨x, d, m, rfl, hd, q⟩ := h
    refine ⟨_, (pss_one (ps_ret (pe_and (pe_callB call_isi (by rfl) T.z_isinstance (by decide +kernel) (pa_cons (pv 0) (pa_cons (pe_bltn (v := .ty "int") (u := .type "int") (by rfl) T.z_int (by decide +kernel) rfl) pa_nil))) (pe_and (pe_not (pe_callB call_isi (by rfl) T.z_isinstance (by decide +kernel) (pa_cons (pv 0) (pa_cons (pe_bltn (v := .ty "bool") (u := .type "bool") (by rfl) T.z_bool (by decide +kernel) rfl) pa_nil)))) (pe_one (pe_cmpR op_ge (pv 0) pe_int (nomark _))))))), ?_⟩
    refine ⟨_, rfl, _, _, _, _, isNumD d, rfl, .ty _, hd.ty, kit_numD d, _, rfl, ?_⟩
    cases d with
    | int i =>
      obtain rfl := hd.int_of
      exact iteT ⟨_, rfl, _, _, _, _, false, rfl, .ty _, hd.ty, kit_blD _, _, rfl, _, rfl, iteT ⟨_, rfl, _, _, rfl, rfl, q⟩⟩
    | bool b => exact iteT ⟨_, rfl, _, _, _, _, true, rfl, .ty _, hd.ty, kit_blD _, _, rfl, _, rfl, iteF q⟩
    | _ => exact iteF q
theorem ok_is_list (T : Txt K mg) : FnOk P w K mg base CX0 1 T.f_is_list T.fd_is_list ["value"] (fun vs H Q _ => ∃ x d m, vs = [x] ∧ Dg K H m x d ∧ ∀ H', Same H H' → Q (.bl (isSqD d)) H') := by
  refine T.F_is_list.ok sc_is_list (fun vs H Q E h => ?_) (fun cdv A outer s H vs Q E hr h => ?_)
  · obtain ⟨x, d, m, rfl, _⟩ := h; rfl
  · obtain ⟨x, d, m, rfl, hd, q⟩ := h
    refine ⟨_, (pss_one (ps_ret (pe_callB call_isiT (by rfl) T.z_isinstance (by decide +kernel) (pa_cons (pv 0) (pa_cons (pe_tup (pa_cons (pe_bltn (v := .ty "list") (u := .type "list") (by rfl) T.z_list (by decide +kernel) rfl) (pa_cons (pe_bltn (v := .ty "tuple") (u := .type "tuple") (by rfl) T.z_tuple (by decide +kernel) rfl) pa_nil))) pa_nil))))), ?_⟩
    exact ⟨_, rfl, (by show 2 ≤ sizeLine; decide), fun tp htp => ⟨_, tp, _, _, [.type "list", .type "tuple"], isSqD d, rfl, upd_same, .cons (.ty _) (.cons (.ty _) .nil), (hd.ext (Same.new (Same.refl H) htp)).ty, kit_sqD d, q _ (Same.new (Same.refl H) htp)⟩⟩
def spCell (K : PySem.W.Frag) : Sp := fun vs H Q _ => ∃ (a : Addr) (ns : List Int) (k : Nat), vs = [.ref a, .int k] ∧ SqL K H a (ns.map V.int) ∧ ∀ c H', Same H H' → Q (.int c) H'
theorem ok_law_cell (T : Txt K mg) : FnOk P w K mg base CX0 1 T.f_law_cell T.fd_law_cell ["script", "k"] (spCell K) := by
  refine T.F_law_cell.ok sc_law_cell (fun vs H Q E h => ?_) (fun cdv A outer s H vs Q E hr h => ?_)
  · obtain ⟨a, ns, k, rfl, _⟩ := h; rfl
  · obtain ⟨a, ns, k, rfl, hS, q⟩ := h
    refine ⟨_, (pss_one (ps_ret (pe_ifExp (pt_cmpR op_lt (pv 1) (pe_callB call_len_seq (by rfl) T.z_len (by decide +kernel) (pa_cons (pv 0) pa_nil)) (nomark _)) (pe_ix ix_list (pv 0) (pv 1) (fun _ _ => rfl)) (pe_op op_add (pe_op op_mul pe_int (pv 1)) (pe_op op_mod (pe_callB (cr_sum rfl) (by rfl) T.z_sum (by decide +kernel) (pa_cons (pe_slice sl_list (pv 0) po_none (po_some pe_int)) pa_nil)) pe_int))))), ?_⟩
    refine ⟨_, rfl, _, rfl, a, _, rfl, .inl hS, _, _, rfl, rfl, _, rfl, ite2 (fun c => ?_) (fun c => ?_)⟩
    · have c' := of_decide_eq_true c
      have hk : k < ns.length := by rw [List.length_map] at c'; omega
      exact ⟨_, rfl, _, rfl, a, _, _, _, rfl, rfl, hS, atI_nat (j := k) (v := V.int ns[k]) (by rw [List.getElem?_map, List.getElem?_eq_getElem hk]; rfl), q _ H (Same.refl H)⟩
    · refine ⟨_, rfl, _, _, rfl, rfl, .inl (by decide), _, rfl, 1, rfl, a, _, rfl, hS, fun p hp => ?_⟩
      rw [show cutV (ns.map V.int) none (some 1) = (ns.take 1).map V.int by rw [show (some (1 : Int)) = some ((1 : Nat) : Int) from rfl, cutV_to, List.map_take]]
      exact ⟨p, ns.take 1, rfl, SqL.of upd_same, _, _, rfl, rfl, (by show (0 : Int) < 1000081; decide), _, _, rfl, rfl, q _ _ (Same.new (Same.refl H) hp)⟩
def spBox : Sp := fun vs H Q _ => ∃ c : Int, vs = [.int c] ∧ ∀ p o, H p = none → BoxO 0 o → Q (.ref p) (upd H p o)
theorem ok_law_box (T : Txt K mg) : FnOk P w K mg base CX0 1 T.f_law_box T.fd_law_box ["great"] spBox := by
  refine T.F_law_box.ok sc_law_box (fun vs H Q E h => ?_) (fun cdv A outer s H vs Q E hr h => ?_)
  · obtain ⟨c, rfl, _⟩ := h; rfl
  · obtain ⟨c, rfl, q⟩ := h
    refine ⟨_, (pss_one (ps_ret (pe_lst (pa_cons (pe_callB call_abs (by rfl) T.z_abs (by decide +kernel) (pa_cons (pv 0) pa_nil)) (pa_cons (pe_cmpR op_ge (pe_callB call_abs (by rfl) T.z_abs (by decide +kernel) (pa_cons (pv 0) pa_nil)) (pe_op op_pow pe_int pe_int) (nomark _)) (pa_cons (pe_op op_mod (pe_callTy call_int1 (by rfl) T.z_int (by decide +kernel) (pa_cons (pe_callB call_abs (by rfl) T.z_abs (by decide +kernel) (pa_cons (pv 0) pa_nil)) pa_nil)) pe_int) (pa_cons pe_int pa_nil))))))), ?_⟩
    refine ⟨_, rfl, _, rfl, _, rfl, _, rfl, _, _, rfl, rfl, ⟨by decide, by decide, by decide⟩, _, _, rfl, rfl, _, rfl, _, rfl, .inl ⟨_, rfl, _, _, rfl, rfl, (by show (0 : Int) < 2147483629; decide), (by show 4 ≤ sizeLine; decide), fun p hp => q p _ hp ⟨_, _, _, _, rfl, ?_, ?_, Int.le_refl 0, Int.le_refl 0⟩⟩⟩
    · exact Int.emod_nonneg _ (by decide)
    · have := Int.emod_lt_of_pos (if c < 0 then -c else c) (by decide : (0 : Int) < 2147483629)
      omega
/-- a draw below many; the box goes on -/
def spTake : Sp := fun vs H Q _ => ∃ (p : Addr) (n : Nat) (many : Int), vs = [.ref p, .int many] ∧ BoxAt H p n ∧ n < 1000000000 ∧ 0 < many ∧ many < 1000000 ∧
  ∀ (d : Nat) o, (d : Int) < many → BoxO (n + 1) o → Q (.int d) (upd H p o)
theorem ok_law_take (T : Txt K mg) : FnOk P w K mg base CX0 1 T.f_law_take T.fd_law_take ["box", "limit"] spTake := by
  refine T.F_law_take.ok sc_law_take (fun vs H Q E h => ?_) (fun cdv A outer s H vs Q E hr h => ?_)
  · obtain ⟨p, n, m, rfl, _⟩ := h; rfl
  · obtain ⟨p, n, many, rfl, ⟨o, ho, a, m, c, b, rfl, m0, m1, c0, c1⟩, hn, p0, p1, q⟩ := h
    refine ⟨_, (pss_cons (ps_if (PW.pt (pw_and (pt_val (pe_ix ix_list (pv 0) pe_int (fun _ _ => rfl))) (pw_and1 (pt_cmpR op_gt (pe_ix ix_list (pv 0) pe_int (fun _ _ => rfl)) pe_int (nomark _))))) (pss_cons (ps_set (i := 2) sc_law_take.nd rfl (Or.inl rfl) (pe_op op_mod (pe_callTy call_int1 (by rfl) T.z_int (by decide +kernel) (pa_cons (pe_ix ix_list (pv 0) pe_int (fun _ _ => rfl)) pa_nil)) (pv 1)))
      (pss_cons (ps_asg (pe_op op_fdivW (pe_ix ix_list (pv 0) pe_int (fun _ _ => rfl)) (pv 1)) (pg_sub (pv 0) pe_int set_list))
      (pss_one (ps_ret (pv 2))))) pss_nil)
      (pss_cons (ps_asg (pe_op op_add (pe_ix ix_list (pv 0) pe_int (fun _ _ => rfl)) pe_int) (pg_sub (pv 0) pe_int set_list))
      (pss_cons (ps_set (i := 3) sc_law_take.nd rfl (Or.inl rfl) (pe_op op_mod (pe_callTy call_int1 (by rfl) T.z_int (by decide +kernel) (pa_cons (pe_op op_pow (pe_op op_add (pe_op op_add (pe_ix ix_list (pv 0) pe_int (fun _ _ => rfl)) (pe_op op_mul pe_int (pe_ix ix_list (pv 0) pe_int (fun _ _ => rfl)))) pe_int) pe_int) pa_nil)) pe_int))
      (pss_one (ps_ret (pe_op op_mod (pe_op op_fdivW (pe_op op_mod (pe_callTy call_int1 (by rfl) T.z_int (by decide +kernel) (pa_cons (pe_op op_pow (pe_op op_add (pe_op op_mul (pv 3) pe_int) (pe_op op_mul pe_int (pe_ix ix_list (pv 0) pe_int (fun _ _ => rfl)))) pe_int) pa_nil)) pe_int) pe_int) (pv 1))))))), ?_⟩
    have at0 : atI [V.int a, .bl b, .int m, .int c] 0 = some (.int a) := atI_nat (j := 0) rfl
    have at1 : atI [V.int a, .bl b, .int m, .int c] 1 = some (.bl b) := atI_nat (j := 1) rfl
    have at3 : atI [V.int a, .bl b, .int m, .int c] 3 = some (.int c) := atI_nat (j := 3) rfl
    have lm : CDivW a many := ⟨p0, by
      have : many.natAbs < 2 ^ 20 := by omega
      exact Nat.lt_of_lt_of_le (PySem.Flt.log2_lt_of (by decide) this) (by decide)⟩
    have second : tSeq (tAsg (tOp (rI0 fun i j => .int (i + j)) (tOp (rIxL K) (tVar 0) (tC (.int 3))) (tC (.int 1))) (gSub (tVar 0) (tC (.int 3)) rSetL))
        (tSeq (tAsg (tOp (rI (fun _ j => 0 < j) fun i j => .int (i % j)) (tCB (fun xs H Q => (∃ i, xs = [.int i] ∧ Q (.int i) H) ∨ ∃ k, xs = [.bl k] ∧ Q (.int (if k then 1 else 0)) H) (tCons (tOp (rI CPow fun i j => .int (i ^ j.toNat)) (tOp (rI0 fun i j => .int (i + j)) (tOp (rI0 fun i j => .int (i + j)) (tOp (rIxL K) (tVar 0) (tC (.int 2))) (tOp (rI CMul fun i j => .int (i * j)) (tC (.int 15485863)) (tOp (rIxL K) (tVar 0) (tC (.int 3))))) (tC (.int 179424697))) (tC (.int 5))) tNil)) (tC (.int 2147483647))) (gName 3))
        (tRet (tOp (rI (fun _ j => 0 < j) fun i j => .int (i % j)) (tOp (rI CDivW fun i j => .int (i / j)) (tOp (rI (fun _ j => 0 < j) fun i j => .int (i % j)) (tCB (fun xs H Q => (∃ i, xs = [.int i] ∧ Q (.int i) H) ∨ ∃ k, xs = [.bl k] ∧ Q (.int (if k then 1 else 0)) H) (tCons (tOp (rI CPow fun i j => .int (i ^ j.toNat)) (tOp (rI0 fun i j => .int (i + j)) (tOp (rI CMul fun i j => .int (i * j)) (tVar 3) (tC (.int 48271))) (tOp (rI CMul fun i j => .int (i * j)) (tC (.int 104723)) (tOp (rIxL K) (tVar 0) (tC (.int 3))))) (tC (.int 3))) tNil)) (tC (.int 2147483587))) (tC (.int 64))) (tVar 1))))
        { nx := fun _ H' => Q .non H', rt := Q } [some (.ref p), some (.int many), none, none] H := by
      refine ⟨_, rfl, p, _, _, _, rfl, rfl, SqL.of ho, at3, _, _, rfl, rfl, _, rfl, p, _, 3, 3, rfl, rfl, ho, rfl, ?_⟩
      have hu : upd H p (.lst [.int a, .bl b, .int m, .int (c + 1)]) p = some (.lst [.int a, .bl b, .int m, .int (c + 1)]) := upd_same
      refine ⟨_, rfl, p, _, _, _, rfl, rfl, SqL.of hu, atI_nat (j := 2) rfl, _, rfl, p, _, _, _, rfl, rfl, SqL.of hu, atI_nat (j := 3) rfl, _, _, rfl, rfl, .inl (by decide), _, _, rfl, rfl, _, _, rfl, rfl, _, _, rfl, rfl, ⟨by decide, by decide, by omega⟩, .inl ⟨_, rfl, _, _, rfl, rfl, (by show (0 : Int) < 2147483647; decide), ?_⟩⟩
      refine ⟨_, rfl, _, _, rfl, rfl, .inr (by decide), _, rfl, p, _, _, _, rfl, rfl, SqL.of hu, atI_nat (j := 3) rfl, _, _, rfl, rfl, .inl (by decide), _, _, rfl, rfl, _, _, rfl, rfl, ⟨by decide, by decide, by omega⟩, .inl ⟨_, rfl, _, _, rfl, rfl, (by show (0 : Int) < 2147483587; decide), _, _, rfl, rfl, ⟨by decide, by decide⟩, _, rfl, _, _, rfl, rfl, p0, ?_⟩⟩
      have y0 := Int.emod_nonneg ((((m + 15485863 * (c + 1) + 179424697) ^ (5 : Int).toNat % 2147483647) * 48271 + 104723 * (c + 1)) ^ (3 : Int).toNat % 2147483587 / 64) (by omega : many ≠ 0)
      have y1 := Int.emod_lt_of_pos ((((m + 15485863 * (c + 1) + 179424697) ^ (5 : Int).toNat % 2147483647) * 48271 + 104723 * (c + 1)) ^ (3 : Int).toNat % 2147483587 / 64) p0
      show Q (.int ((((m + 15485863 * (c + 1) + 179424697) ^ (5 : Int).toNat % 2147483647) * 48271 + 104723 * (c + 1)) ^ (3 : Int).toNat % 2147483587 / 64 % many)) _
      generalize (((m + 15485863 * (c + 1) + 179424697) ^ (5 : Int).toNat % 2147483647) * 48271 + 104723 * (c + 1)) ^ (3 : Int).toNat % 2147483587 / 64 % many = y at *
      obtain ⟨d, rfl⟩ : ∃ d : Nat, y = d := ⟨y.toNat, by omega⟩
      exact q d _ y1 ⟨a, m, c + 1, b, rfl, m0, m1, by omega, by omega⟩
    refine ⟨_, rfl, p, _, _, _, rfl, rfl, SqL.of ho, at1, b, rfl, ?_⟩
    cases b with
    | false => exact iteF (iteF second)
    | true =>
      refine iteT ⟨_, rfl, p, _, _, _, rfl, rfl, SqL.of ho, at0, _, _, rfl, rfl, _, rfl, ite2 (fun z => ?_) (fun z => second)⟩
      refine ⟨_, rfl, p, _, _, _, rfl, rfl, SqL.of ho, at0, .inl ⟨_, rfl, _, rfl, _, _, rfl, rfl, p0, ?_⟩⟩
      refine ⟨_, rfl, p, _, _, _, rfl, rfl, SqL.of ho, at0, _, rfl, _, _, rfl, rfl, lm, _, rfl, p, _, 0, 0, rfl, rfl, ho, rfl, _, rfl, ?_⟩
      have y0 := Int.emod_nonneg a (by omega : many ≠ 0)
      have y1 := Int.emod_lt_of_pos a p0
      show Q (.int (a % many)) _
      generalize a % many = y at *
      obtain ⟨d, rfl⟩ : ∃ d : Nat, y = d := ⟨y.toNat, by omega⟩
      exact q d _ y1 ⟨a / many, m, c, true, rfl, m0, m1, c0, by omega⟩
end
end My

set_option Elab.async false
set_option linter.all false
set_option maxRecDepth 100000
set_option maxHeartbeats 8000000
namespace My
open PySem PySem.Spec PyProof.Rows L2
def Up (ns : List Int) : Prop := ∀ i, i + 1 < ns.length → ns.getD i 0 ≤ ns.getD (i + 1) 0
theorem at_int {ns : List Int} {i : Nat} (h : i < ns.length) : atI (ns.map V.int) (i : Int) = some (.int (ns.getD i 0)) := by
  refine atI_nat ?_
  rw [List.getElem?_map, List.getElem?_eq_getElem h, List.getD_eq_getElem?_getD, List.getElem?_eq_getElem h]; rfl
theorem at_neg {ns : List Int} {k : Nat} (h1 : 1 ≤ k) (h : k ≤ ns.length) : atI (ns.map V.int) (-(k : Int)) = some (.int (ns.getD (ns.length - k) 0)) := by
  have e : ixN (ns.map V.int).length (-(k : Int)) = some (ns.length - k) := by
    unfold ixN
    rw [List.length_map, if_neg (by omega), if_pos (by omega)]
    congr 1; omega
  unfold atI
  rw [e]
  show (ns.map V.int)[ns.length - k]? = _
  have hl : ns.length - k < ns.length := by omega
  rw [List.getElem?_map, List.getElem?_eq_getElem hl, List.getD_eq_getElem?_getD, List.getElem?_eq_getElem hl]; rfl
def bsUp (ns : List Int) (i : Nat) : List Bool := (List.range i).map fun k => decide (ns.getD k 0 ≤ ns.getD (k + 1) 0)
theorem bsUp_s (ns : List Int) (i : Nat) : bsUp ns (i + 1) = bsUp ns i ++ [decide (ns.getD i 0 ≤ ns.getD (i + 1) 0)] := by
  unfold bsUp
  rw [List.range_succ, List.map_append]; rfl
theorem bsUp_all {ns : List Int} (l1 : 1 ≤ ns.length) : ((bsUp ns (ns.length - 1)).all id = true) ↔ Up ns := by
  unfold bsUp Up
  rw [List.all_map, List.all_eq_true]
  constructor
  · intro h i hi
    have := h i (List.mem_range.mpr (by omega))
    exact of_decide_eq_true this
  · intro h i hi
    exact decide_eq_true (h i (by have := List.mem_range.mp hi; omega))
/-- the number that a row tells -/
def numAt (ns : List Int) (p : Nat) (g : Int) (n : Nat) : Int :=
  if n < ns.length then ns.getD n 0 else ns.getD (n - ((n - ns.length) / p + 1) * p) 0 + (((n - ns.length) / p + 1 : Nat) : Int) * g
def RowAt (K : PySem.W.Frag) (H : Hp) (x : V) (ns : List Int) (p : Nat) (g : Int) : Prop := ∃ r a, x = .ref r ∧ SqT K H r [.ref a, .int (p : Int), .int g] ∧ SqQ K H a (ns.map V.int)
theorem RowAt.same {K : PySem.W.Frag} {H H' : Hp} {x : V} {ns : List Int} {p : Nat} {g : Int} (h : RowAt K H x ns p g) (s : Same H H') : RowAt K H' x ns p g := by
  obtain ⟨r, a, e, h1, h2⟩ := h
  exact ⟨r, a, e, h1.ext s, h2.same s⟩
/-- so many errors together have no greater number than in two parts -/
def SubN (ns : List Int) (p : Nat) (g : Int) : Prop := ∀ i j, i ≤ j → j < ns.length → numAt ns p g (i + j) ≤ numAt ns p g i + numAt ns p g j
section
variable {P : Program} {w : World} {K : PySem.W.Frag} {mg : Str → Option Value} {base : Heap}
theorem ok_is_rising (T : Txt K mg) : FnOk P w K mg base CX0 1 T.f_is_rising T.fd_is_rising ["numbers"] (fun vs H Q _ => ∃ a ns, vs = [.ref a] ∧ SqQ K H a ((ns : List Int).map V.int) ∧ 1 ≤ ns.length ∧ ns.length ≤ 8 ∧ ∀ b H', (b = true ↔ Up ns) → Same H H' → Q (.bl b) H') := by
  refine T.F_is_rising.ok sc_is_rising (fun vs H Q E h => ?_) (fun cdv A outer s H vs Q E hr h => ?_)
  · obtain ⟨a, ns, rfl, _⟩ := h; rfl
  · obtain ⟨a, ns, rfl, hq, l1, l8, q⟩ := h
    refine ⟨_, (pss_one (ps_ret (pe_callB (cr_all rfl) (by rfl) T.z_all (by decide +kernel) (pa_cons (pe_lc (own := [("one", 1), ("other", 2)]) (g := gTup K 2 (gCons (gName 1) (gCons (gName 2) gNil))) (by rfl) sc_is_rising.nd (RZ.pi_zipA rfl T.z_zip (pa_cons (pv 0) (pa_cons (pe_slice sl_q (pv 0) (po_some pe_int) po_none) pa_nil))) (blkOk_by (own := [("one", 1), ("other", 2)]) (N := N_is_rising) (sc := defScope s_is_rising) (by decide +kernel)) (fun _ _ _ _ _ => (pg_tupK (K := K) rfl (by rfl) (pgs_cons (pg_name (i := 1) sc_is_rising.nd rfl (Or.inl rfl)) (pgs_cons (pg_name (i := 2) sc_is_rising.nd rfl (Or.inl rfl)) pgs_nil)))) (fun _ _ _ _ _ => pts_nil) (fun _ _ _ _ _ => (pe_cmpR op_le (pv 1) (pv 2) (nomark _)))) pa_nil)))), ?_⟩
    have fin : ∀ p H1, Same H H1 → ((SqL K H1 a (ns.map V.int) ∧ SqL K H1 p ((ns.map V.int).drop 1)) ∨ (SqT K H1 a (ns.map V.int) ∧ SqT K H1 p ((ns.map V.int).drop 1))) →
        tLc (RZ.iZipA K (fun _ _ q => q [.ref a, .ref p] H1)) (gTup K 2 (gCons (gName 1) (gCons (gName 2) gNil))) tYes (tOp (rI0 fun i j => V.bl (decide (i ≤ j))) (tVar 1) (tVar 2)) [1, 2] [some (.ref a), none, none] H
          (fun v H' => rAll K [v] H' Q) := by
      intro p H1 s1 hs
      refine ⟨a, p, _, _, rfl, lc_zipA hs fun D hD => ⟨fun i H' => Same H1 H' ∧ H' D = some (.lst ((bsUp ns i).map V.bl)), ⟨Same.new (Same.refl _) hD, upd_same⟩, fun i H' h => h.1, ?_, ?_⟩⟩
      · rintro i T0 x y H' hx hy ⟨s', e'⟩ hT
        have hi : i + 1 < ns.length := by
          have := (List.getElem?_eq_some_iff.mp hy).1
          rw [List.length_drop, List.length_map] at this; omega
        have ex : x = .int (ns.getD i 0) := by
          rw [List.getElem?_map, List.getElem?_eq_getElem (by omega)] at hx
          rw [List.getD_eq_getElem?_getD, List.getElem?_eq_getElem (by omega)]
          exact (Option.some.inj hx).symm
        have ey : y = .int (ns.getD (i + 1) 0) := by
          rw [List.getElem?_drop, List.getElem?_map, Nat.add_comm, List.getElem?_eq_getElem hi] at hy
          rw [List.getD_eq_getElem?_getD, List.getElem?_eq_getElem hi]
          exact (Option.some.inj hy).symm
        subst ex ey
        have sT : Same H' (upd H' T0 (.tup [.int (ns.getD i 0), .int (ns.getD (i + 1) 0)])) := Same.new (Same.refl _) hT
        refine ⟨T0, _, rfl, SqT.of upd_same, rfl, _, _, rfl, _, _, rfl, rfl, rfl, tYesT ⟨_, rfl, _, rfl, _, _, rfl, rfl, _, sT _ _ e', ?_, fun b o e => ?_, ?_⟩⟩
        · rw [List.length_map]; unfold bsUp; rw [List.length_map, List.length_range]; exact Nat.lt_of_lt_of_le (by omega : i < 8) (by decide)
        · rw [upd_ne (ne_of_none e hD)]; exact sT _ _ (s' b o e)
        · rw [upd_same, bsUp_s, List.map_append]; rfl
      · rintro H' ⟨s', e'⟩
        have e : min (ns.map V.int).length ((ns.map V.int).drop 1).length = ns.length - 1 := by rw [List.length_drop, List.length_map]; omega
        rw [e] at e'
        exact ⟨D, _, rfl, SqL.of e', q _ _ (bsUp_all l1) (s1.trans s')⟩
    refine ⟨_, rfl, _, rfl, 1, rfl, ?_⟩
    rcases hq with hq | hq
    · refine .inl ⟨a, _, rfl, hq, fun p hp => ?_⟩
      have s1 : Same H (upd H p (.lst (cutV (ns.map V.int) (some ((1 : Nat) : Int)) none))) := Same.new (Same.refl _) hp
      rw [cutV_fr] at s1
      rw [show (some (1 : Int)) = some ((1 : Nat) : Int) from rfl, cutV_fr]
      exact fin p _ s1 (.inl ⟨hq.ext s1, SqL.of upd_same⟩)
    · refine .inr ⟨a, _, rfl, hq, fun e => ?_, fun _ p hp => ?_⟩
      · have e2 : HT.sIx (ns.map V.int).length 0 (some ((1 : Nat) : Int)) = 0 := e.1
        rw [sIx_some, List.length_map] at e2
        omega
      have s1 : Same H (upd H p (.tup (cutV (ns.map V.int) (some ((1 : Nat) : Int)) none))) := Same.new (Same.refl _) hp
      rw [cutV_fr] at s1
      rw [show (some (1 : Int)) = some ((1 : Nat) : Int) from rfl, cutV_fr]
      exact fin p _ s1 (.inr ⟨hq.ext s1, SqT.of upd_same⟩)
def spNum (K : PySem.W.Frag) : Sp := fun vs H Q _ => ∃ x ns p g n, vs = [x, .int ((n : Nat) : Int)] ∧ RowAt K H x ns p g ∧ RowN ns (p : Nat) g ∧ n ≤ 1000 ∧ Q (.int (numAt ns p g n)) H
theorem ok_number_at (T : Txt K mg) : FnOk P w K mg base CX0 1 T.f_number_at T.fd_number_at ["row", "many"] (spNum K) := by
  refine T.F_number_at.ok sc_number_at (fun vs H Q E h => ?_) (fun cdv A outer s H vs Q E hr h => ?_)
  · obtain ⟨x, ns, p, g, n, rfl, _⟩ := h; rfl
  · obtain ⟨x, ns, p, g, n, rfl, ⟨r, a, rfl, hR, hq⟩, rn, hn, q⟩ := h
    refine ⟨_, (pss_cons (ps_asg (pv 0) (pg_tup rfl (pgs_cons (pg_name (i := 2) sc_number_at.nd rfl (Or.inl rfl)) (pgs_cons (pg_name (i := 3) sc_number_at.nd rfl (Or.inl rfl)) (pgs_cons (pg_name (i := 4) sc_number_at.nd rfl (Or.inl rfl)) pgs_nil)))))
      (pss_cons (ps_if (pt_cmpR op_lt (pv 1) (pe_callB call_len_seq (by rfl) T.z_len (by decide +kernel) (pa_cons (pv 2) pa_nil)) (nomark _)) (pss_one (ps_ret (pe_ix ix_q (pv 2) (pv 1) (fun _ _ => rfl)))) pss_nil)
      (pss_cons (ps_set (i := 5) sc_number_at.nd rfl (Or.inl rfl) (pe_op op_add (pe_op op_fdiv (pe_op op_sub (pv 1) (pe_callB call_len_seq (by rfl) T.z_len (by decide +kernel) (pa_cons (pv 2) pa_nil))) (pv 3)) pe_int))
      (pss_one (ps_ret (pe_op op_add (pe_ix ix_q (pv 2) (pe_op op_sub (pv 1) (pe_op op_mul (pv 5) (pv 3))) (fun _ _ => rfl)) (pe_op op_mul (pv 5) (pv 4)))))))), ?_⟩
    have hp1 := rn.p1
    have hp4 := rn.p4
    have hpl := rn.pl
    have hg0 := rn.g0
    have hg1 := rn.g12
    have hl8 := rn.l8
    refine ⟨_, rfl, r, _, rfl, hR, rfl, _, _, rfl, _, _, rfl, _, _, rfl, rfl, ?_⟩
    refine ⟨_, rfl, _, rfl, a, _, rfl, hq, _, _, rfl, rfl, _, rfl, ite2 (fun c => ?_) (fun c => ?_)⟩
    · have c' := of_decide_eq_true c
      rw [List.length_map] at c'
      have hlt : n < ns.length := by omega
      unfold numAt at q
      rw [if_pos hlt] at q
      exact ⟨_, rfl, _, rfl, hq.ix (at_int hlt) q⟩
    · have c' : ¬ ((n : Int) < ((ns.map V.int).length : Int)) := fun z => c (decide_eq_true z)
      rw [List.length_map] at c'
      have hge : ¬ n < ns.length := by omega
      unfold numAt at q
      rw [if_neg hge] at q
      have er : ((n : Int) - ((ns.map V.int).length : Int)) / (p : Int) + 1 = (((n - ns.length) / p + 1 : Nat) : Int) := by
        rw [List.length_map, show (n : Int) - (ns.length : Int) = ((n - ns.length : Nat) : Int) by omega, ← Int.natCast_ediv]; rfl
      have hdm := Nat.div_add_mod (n - ns.length) p
      have hml := Nat.mod_lt (n - ns.length) (by omega : 0 < p)
      have hmul : ((n - ns.length) / p + 1) * p = p * ((n - ns.length) / p) + p := by rw [Nat.add_mul, Nat.mul_comm]; omega
      have ei : (n : Int) - (((n - ns.length) / p + 1 : Nat) : Int) * (p : Int) = ((n - ((n - ns.length) / p + 1) * p : Nat) : Int) := by
        rw [← Int.natCast_mul]; omega
      have hlt : n - ((n - ns.length) / p + 1) * p < ns.length := by omega
      refine ⟨_, rfl, _, rfl, a, _, rfl, hq, _, _, rfl, rfl, _, rfl, _, _, rfl, rfl, ⟨by omega, by omega⟩, _, _, rfl, rfl, ?_⟩
      dsimp only
      rw [er]
      refine ⟨_, rfl, _, rfl, _, rfl, _, rfl, _, _, rfl, rfl, .inr ⟨by omega, by omega⟩, _, _, rfl, rfl, ?_⟩
      dsimp only
      rw [ei]
      exact hq.ix (at_int hlt) ⟨_, rfl, _, rfl, _, _, rfl, rfl, .inr ⟨by omega, by omega⟩, _, _, rfl, rfl, q⟩
theorem ok_is_subadditive_row (T : Txt K mg) : FnOk P w K mg base CX0 2 T.f_is_subadditive_row T.fd_is_subadditive_row ["row"] (fun vs H Q _ => ∃ x ns p g, vs = [x] ∧ RowAt K H x ns p g ∧ RowN ns (p : Nat) g ∧ ∀ b, (b = true ↔ SubN ns p g) → Q (.bl b) H) := by
  refine T.F_is_subadditive_row.ok sc_is_subadditive_row (fun vs H Q E h => ?_) (fun cdv A outer s H vs Q E hr h => ?_)
  · obtain ⟨x, ns, p, g, rfl, _⟩ := h; rfl
  · obtain ⟨x, ns, p, g, rfl, hx, rn, q⟩ := h
    refine ⟨_, (pss_cons (ps_for PassesOwn.never rfl (pi_range1 rfl T.z_range (pa_cons (pe_callB call_len_seq (by rfl) T.z_len (by decide +kernel) (pa_cons (pe_ix ix_tup (pv 0) pe_int (fun _ _ => rfl)) pa_nil)) pa_nil)) (pg_name (i := 1) sc_is_subadditive_row.nd rfl (Or.inl rfl)) (pss_one (ps_for PassesOwn.never rfl (pi_range2 rfl T.z_range (pa_cons (pv 1) (pa_cons (pe_callB call_len_seq (by rfl) T.z_len (by decide +kernel) (pa_cons (pe_ix ix_tup (pv 0) pe_int (fun _ _ => rfl)) pa_nil)) pa_nil))) (pg_name (i := 2) sc_is_subadditive_row.nd rfl (Or.inl rfl)) (pss_one (ps_if (pt_cmpR op_gt (pe_call (ok_number_at T) (hr.mono (by decide)) rfl T.g_number_at T.F_number_at.kp T.b_number_at .nil pass0 (pa_cons (pv 0) (pa_cons (pe_op op_add (pv 1) (pv 2)) pa_nil))) (pe_op op_add (pe_call (ok_number_at T) (hr.mono (by decide)) rfl T.g_number_at T.F_number_at.kp T.b_number_at .nil pass0 (pa_cons (pv 0) (pa_cons (pv 1) pa_nil))) (pe_call (ok_number_at T) (hr.mono (by decide)) rfl T.g_number_at T.F_number_at.kp T.b_number_at .nil pass0 (pa_cons (pv 0) (pa_cons (pv 2) pa_nil)))) (nomark _)) (pss_one (ps_ret pe_bl)) pss_nil)))))
      (pss_one (ps_ret pe_bl))), ?_⟩
    obtain ⟨r, a, rfl, hR, hq⟩ := id hx
    have hl8 := rn.l8
    have hrow : RowAt K H (.ref r) ns p g := hx
    refine ⟨_, rfl, r, _, _, _, rfl, rfl, hR, atI_nat (j := 0) rfl, a, _, rfl, hq, (ns.map V.int).length, rfl, by rw [List.length_map]; omega, by rw [List.length_map]; omega, ?_⟩
    rw [List.length_map]
    refine for_range (lo := 0) (n := ns.length) (fun i σ H' => ∃ x1 x2, σ = [some (.ref r), x1, x2] ∧ H' = H ∧ ∀ i' j, i' < i → i' ≤ j → j < ns.length → numAt ns p g (i' + j) ≤ numAt ns p g i' + numAt ns p g j) ⟨none, none, rfl, rfl, fun i' j h => absurd h (Nat.not_lt_zero i')⟩ ?_ ?_
    · rintro i σ H' hi ⟨x1, x2, rfl, rfl, hall⟩
      rw [Int.zero_add]
      refine ⟨_, rfl, _, rfl, r, _, _, _, rfl, rfl, hR, atI_nat (j := 0) rfl, a, _, rfl, hq, (i : Int), _, rfl, ⟨by omega, by omega, by rw [List.length_map]; omega, by rw [List.length_map]; omega⟩, ?_⟩
      rw [show (((ns.map V.int).length : Int) - (i : Int)).toNat = ns.length - i by rw [List.length_map]; omega]
      refine for_range (lo := (i : Int)) (n := ns.length - i) (fun j σ H'' => ∃ x2, σ = [some (.ref r), some (.int (i : Int)), x2] ∧ H'' = H' ∧ ∀ j', j' < j → numAt ns p g (i + (i + j')) ≤ numAt ns p g i + numAt ns p g (i + j')) ⟨_, rfl, rfl, fun j' h => absurd h (Nat.not_lt_zero j')⟩ ?_ ?_
      · rintro j σ H'' hj ⟨x2, rfl, rfl, hin⟩
        rw [show (i : Int) + (j : Int) = ((i + j : Nat) : Int) by omega]
        refine ⟨_, rfl, _, rfl, _, rfl, _, _, rfl, rfl, _, ns, p, g, i + (i + j), congrArg (fun z => [V.ref r, V.int z]) (by omega : (i : Int) + ((i + j : Nat) : Int) = ((i + (i + j) : Nat) : Int)), hrow, rn, by omega, _, rfl, _, rfl, _, ns, p, g, i, rfl, hrow, rn, by omega, _, rfl, _, rfl, _, ns, p, g, i + j, rfl, hrow, rn, by omega, _, _, rfl, rfl, _, _, rfl, rfl, _, rfl, ite2 (fun c => ?_) (fun c => ?_)⟩
        · have c' := of_decide_eq_true c
          exact q false ⟨fun z => Bool.noConfusion z, fun (S : SubN ns p g) => absurd (S i (i + j) (by omega) (by omega)) (by omega)⟩
        · have c' : ¬ numAt ns p g i + numAt ns p g (i + j) < numAt ns p g (i + (i + j)) := fun z => c (decide_eq_true z)
          refine ⟨_, rfl, rfl, fun j' hj' => ?_⟩
          rcases Nat.lt_or_ge j' j with d | d
          · exact hin j' d
          · have : j' = j := by omega
            subst this; omega
      · rintro σ H'' ⟨x2, rfl, rfl, hin⟩
        refine ⟨_, _, rfl, rfl, fun i' j hi' hij hj => ?_⟩
        rcases Nat.lt_or_ge i' i with d | d
        · exact hall i' j d hij hj
        · have : i' = i := by omega
          subst this
          have := hin (j - i') (by omega)
          rw [show i' + (j - i') = j by omega] at this
          exact this
    · rintro σ H' ⟨x1, x2, rfl, rfl, hall⟩
      exact q true ⟨fun _ i j hij hj => hall i j (by omega) hij hj, fun _ => rfl⟩
end
end My

set_option Elab.async false
set_option linter.all false
set_option maxRecDepth 100000
set_option maxHeartbeats 8000000
namespace My
open PySem PySem.Spec PyProof.Rows L2
theorem all_id {f : PyData → Bool} (l : List PyData) : (l.map f).all id = l.all f := by rw [List.all_map]; rfl
theorem cn_ints : ∀ (ds : List PyData), ds.all isCn = true → ∃ ns : List Int, ds = ns.map PyData.int ∧ ∀ n ∈ ns, 0 ≤ n
  | [], _ => ⟨[], rfl, fun n h => by cases h⟩
  | d :: ds, h => by
    rw [List.all_cons, Bool.and_eq_true] at h
    obtain ⟨ns, rfl, hn⟩ := cn_ints ds h.2
    cases d with
    | int i =>
      have h0 : 0 ≤ i := of_decide_eq_true h.1
      exact ⟨i :: ns, rfl, fun n hm => (List.mem_cons.mp hm).elim (fun e => by rw [e]; exact h0) (hn n)⟩
    | _ => exact absurd h.1 Bool.false_ne_true
theorem dg_ints {K : PySem.W.Frag} {H : Hp} {m : Bool} : ∀ {ns : List Int} {xs : List V}, DgAll K H m xs (ns.map PyData.int) → xs = ns.map V.int
  | [], _, h => h.nil_of
  | n :: ns, _, h => by
    obtain ⟨x, ys, rfl, h1, h2⟩ := h.cons_of
    rw [h1.int_of, dg_ints h2]; rfl
theorem ints_dg {K : PySem.W.Frag} {H : Hp} {m : Bool} : ∀ (ns : List Int), DgAll K H m (ns.map V.int) (ns.map PyData.int)
  | [] => .nil
  | n :: ns => .cons (.int n) (ints_dg ns)
theorem ints_cn : ∀ (ns : List Int), (∀ n ∈ ns, 0 ≤ n) → (ns.map PyData.int).all isCn = true
  | [], _ => rfl
  | n :: ns, h => by
    rw [List.map_cons, List.all_cons, ints_cn ns fun k hk => h k (List.mem_cons_of_mem _ hk), Bool.and_true]
    exact decide_eq_true (h n List.mem_cons_self)
theorem map_int_inj : ∀ {a b : List Int}, a.map PyData.int = b.map PyData.int → a = b
  | [], [], _ => rfl
  | [], _ :: _, h => by cases h
  | _ :: _, [], h => by cases h
  | x :: a, y :: b, h => by
    rw [List.map_cons, List.map_cons] at h
    injection h with h1 h2
    injection h1 with h3
    rw [h3, map_int_inj h2]
theorem mem_getD {ns : List Int} {n : Int} (h : n ∈ ns) : ∃ i, i < ns.length ∧ ns.getD i 0 = n := by
  obtain ⟨i, hi, e⟩ := List.mem_iff_getElem.mp h
  exact ⟨i, hi, by rw [List.getD_eq_getElem?_getD, List.getElem?_eq_getElem hi, ← e]; rfl⟩
theorem RowD.inv {f a b : PyData} (h : RowD (.tuple [f, a, b])) : ∃ ns p g, a = .int p ∧ b = .int g ∧ (f = .list (ns.map PyData.int) ∨ f = .tuple (ns.map PyData.int)) ∧ RowN ns p g := by
  obtain ⟨f', ns, p, g, e, hf, r⟩ := h
  injection e with e
  injection e with e1 e
  injection e with e2 e
  injection e with e3 e
  subst e1
  exact ⟨ns, p, g, e2, e3, hf, r⟩
theorem RowD.es {f a b : PyData} {es : List PyData} (h : RowD (.tuple [f, a, b])) (hf : f = .list es ∨ f = .tuple es) : ∃ ns p g, a = .int p ∧ b = .int g ∧ es = ns.map PyData.int ∧ RowN ns p g := by
  obtain ⟨ns, p, g, ea, eb, h1, r⟩ := h.inv
  refine ⟨ns, p, g, ea, eb, ?_, r⟩
  rcases hf with rfl | rfl
  · rcases h1 with h1 | h1
    · injection h1
    · cases h1
  · rcases h1 with h1 | h1
    · cases h1
    · injection h1
section
variable {P : Program} {w : World} {K : PySem.W.Frag} {mg : Str → Option Value} {base : Heap}
def spRow (K : PySem.W.Frag) : Sp := fun vs H Q _ => ∃ x d m, vs = [x] ∧ Dg K H m x d ∧ ∀ H', Same H H' → Q (.bl (rowB d)) H'
theorem ok_is_row (T : Txt K mg) : FnOk P w K mg base CX0 3 T.f_is_row T.fd_is_row ["value"] (spRow K) := by
  refine T.F_is_row.ok sc_is_row (fun vs H Q E h => ?_) (fun cdv A outer s H vs Q E hr h => ?_)
  · obtain ⟨x, d, m, rfl, _⟩ := h; rfl
  · obtain ⟨x, d, m, rfl, hd, q⟩ := h
    refine ⟨_, (pss_cons (ps_if (PW.pt (pw_or (pt_not (pt_val (pe_callB call_isi (by rfl) T.z_isinstance (by decide +kernel) (pa_cons (pv 0) (pa_cons (pe_bltn (v := .ty "tuple") (u := .type "tuple") (by rfl) T.z_tuple (by decide +kernel) rfl) pa_nil))))) (pw_or1 (pt_cmpR op_ne (pe_callB call_len_seq (by rfl) T.z_len (by decide +kernel) (pa_cons (pv 0) pa_nil)) pe_int (nomark _))))) (pss_one (ps_ret pe_bl)) pss_nil)
      (pss_cons (ps_asg (pv 0) (pg_tup rfl (pgs_cons (pg_name (i := 1) sc_is_row.nd rfl (Or.inl rfl)) (pgs_cons (pg_name (i := 2) sc_is_row.nd rfl (Or.inl rfl)) (pgs_cons (pg_name (i := 3) sc_is_row.nd rfl (Or.inl rfl)) pgs_nil)))))
      (pss_cons (ps_if (PW.pt (pw_or (pt_not (pt_val (pe_call (ok_is_list T) (hr.mono (by decide)) rfl T.g_is_list T.F_is_list.kp T.b_is_list .nil pass0 (pa_cons (pv 1) pa_nil)))) (pw_or (pt_not (pt_chain op_le op_le pe_int (pe_callB call_len_seq (by rfl) T.z_len (by decide +kernel) (pa_cons (pv 1) pa_nil)) (pe_glob (v := .int (8)) rfl T.c_MOST_FIRST ⟨_, rfl⟩))) (pw_or1 (pt_not (pt_val (pe_callB (cr_all rfl) (by rfl) T.z_all (by decide +kernel) (pa_cons (pe_lc (own := [("number", 4)]) (g := gName 4) (by rfl) sc_is_row.nd (pi_sq (pv 1)) (blkOk_by (own := [("number", 4)]) (N := N_is_row) (sc := defScope s_is_row) (by decide +kernel)) (fun _ _ _ _ _ => pg_name (i := 4) sc_is_row.nd rfl (Or.inl rfl)) (fun _ _ _ _ _ => pts_nil) (fun _ _ _ _ _ => (pe_call (ok_is_count T) (hr.mono (by decide)) rfl T.g_is_count T.F_is_count.kp T.b_is_count .nil pass0 (pa_cons (pv 4) pa_nil)))) pa_nil)))))))) (pss_one (ps_ret pe_bl)) pss_nil)
      (pss_cons (ps_if (PW.pt (pw_or (pt_cmpR op_ne (pe_ix ix_q (pv 1) pe_int (fun _ _ => rfl)) pe_int (nomark _)) (pw_or (pt_cmpR op_gt (pe_ix ix_q (pv 1) (pe_un un_neg pe_int) (fun _ _ => rfl)) (pe_glob (v := .int (40)) rfl T.c_MOST_NUMBER ⟨_, rfl⟩) (nomark _)) (pw_or1 (pt_not (pt_val (pe_call (ok_is_rising T) (hr.mono (by decide)) rfl T.g_is_rising T.F_is_rising.kp T.b_is_rising .nil pass0 (pa_cons (pv 1) pa_nil)))))))) (pss_one (ps_ret pe_bl)) pss_nil)
      (pss_cons (ps_if (PW.pt (pw_or (pt_not (pt_val (pe_call (ok_is_integer T) (hr.mono (by decide)) rfl T.g_is_integer T.F_is_integer.kp T.b_is_integer .nil pass0 (pa_cons (pv 2) pa_nil)))) (pw_or (pt_not (pt_chain op_le op_le pe_int (pv 2) (pe_callB (call_min2 rfl) (by rfl) T.z_min (by decide +kernel) (pa_cons (pe_glob (v := .int (4)) rfl T.c_MOST_PERIOD ⟨_, rfl⟩) (pa_cons (pe_callB call_len_seq (by rfl) T.z_len (by decide +kernel) (pa_cons (pv 1) pa_nil)) pa_nil))))) (pw_or1 (pt_not (pt_val (pe_call (ok_is_count T) (hr.mono (by decide)) rfl T.g_is_count T.F_is_count.kp T.b_is_count .nil pass0 (pa_cons (pv 3) pa_nil)))))))) (pss_one (ps_ret pe_bl)) pss_nil)
      (pss_one (ps_ret (pe_and (pe_cmpR op_le (pv 3) (pe_glob (v := .int (12)) rfl T.c_MOST_GAIN ⟨_, rfl⟩) (nomark _)) (pe_one (pe_cmpR op_ge (pe_op op_add (pe_ix ix_q (pv 1) (pe_un un_neg (pv 2)) (fun _ _ => rfl)) (pv 3)) (pe_ix ix_q (pv 1) (pe_un un_neg pe_int) (fun _ _ => rfl)) (nomark _))))))))))), ?_⟩
    refine ⟨_, rfl, _, _, _, _, isTupD d, rfl, .ty _, hd.ty, kit_tupD d, _, rfl, ?_⟩
    cases d with
    | tuple ds =>
      obtain ⟨r, xs, rfl, hR, ha⟩ := hd.tup_of
      have hl := ha.len
      refine iteF ⟨_, rfl, r, xs, rfl, .inr hR, rfl, _, rfl, ?_⟩
      have bad : ¬ RowD (.tuple ds) → ∀ H', Same H H' → Q (.bl false) H' := fun h H' s' => by rw [rowB_f h] at q; exact q H' s'
      by_cases c3 : ds.length = 3
      · rw [decide_eq_true (show V.int (xs.length : Int) = V.int 3 by rw [hl, c3]; rfl)]
        match ds, c3, ha, q, bad with
        | [f, pd, gd], _, ha, q, bad =>
          obtain ⟨x0, ys, rfl, h0, ha⟩ := ha.cons_of
          obtain ⟨x1, ys, rfl, h1, ha⟩ := ha.cons_of
          obtain ⟨x2, ys, rfl, h2, ha⟩ := ha.cons_of
          obtain rfl := ha.nil_of
          refine iteF ⟨_, rfl, r, _, rfl, hR, rfl, _, _, rfl, _, _, rfl, _, _, rfl, rfl, ?_⟩
          refine ⟨_, rfl, x0, f, m, rfl, h0, fun H1 s1 => ⟨_, rfl, ?_⟩⟩
          cases hf : isSqD f with
          | false =>
            refine iteT (iteT (bad (fun h => ?_) _ s1))
            obtain ⟨ns, p, g, _, _, e, _⟩ := h.inv
            rcases e with rfl | rfl <;> cases hf
          | true =>
            obtain ⟨es, he⟩ : ∃ es, f = .list es ∨ f = .tuple es := by
              cases f with
              | list es => exact ⟨es, .inl rfl⟩
              | tuple es => exact ⟨es, .inr rfl⟩
              | _ => cases hf
            obtain ⟨a, ys, rfl, hq, hes⟩ := (h0.ext s1).lst_q he
            have le := hes.len
            refine iteF ?_
            have nl : ¬ (1 ≤ es.length ∧ es.length ≤ 8) → ¬ RowD (.tuple [f, pd, gd]) := fun z h => by
              obtain ⟨ns, p, g, _, _, e, rn⟩ := h.es he
              rw [e, List.length_map] at z
              exact z ⟨rn.l1, rn.l8⟩
            refine ⟨_, rfl, a, ys, rfl, hq, _, _, rfl, rfl, _, rfl, ite2 (fun c1 => ?_) (fun c1 => ?_)⟩
            · have c1' : (1 : Int) ≤ (ys.length : Int) := of_decide_eq_true c1
              refine ⟨_, _, rfl, rfl, _, rfl, ?_⟩
              show if (!decide ((ys.length : Int) ≤ 8)) = true then _ else _
              cases c2 : decide ((ys.length : Int) ≤ 8) with
              | false => exact iteT (iteT (bad (nl fun z => by have := of_decide_eq_false c2; omega) _ s1))
              | true =>
                have c2' := of_decide_eq_true c2
                refine iteF ⟨_, rfl, a, rfl, lc_sq hq fun D hD => ⟨fun i H' => Same H1 H' ∧ H' D = some (.lst (((es.take i).map isCn).map V.bl)), ⟨Same.new (Same.refl _) hD, upd_same⟩, fun i H' h => h.1, ?_, ?_⟩⟩
                · rintro i x H' hx ⟨s', e'⟩
                  obtain ⟨d, hd', dx⟩ := hes.at i x hx
                  refine ⟨rfl, tYesT ⟨_, rfl, x, d, m, rfl, dx.ext s', _, e', ?_, fun b o e => ?_, ?_⟩⟩
                  · rw [List.length_map, List.length_map]
                    exact Nat.lt_of_le_of_lt (List.length_take_le' _ _) (Nat.lt_of_le_of_lt (by omega : es.length ≤ 8) (by decide))
                  · rw [upd_ne (ne_of_none e hD)]; exact s' b o e
                  · rw [upd_same, List.take_add_one, hd', List.map_append, List.map_append]; rfl
                · rintro H2 ⟨s', e'⟩
                  rw [le, List.take_length] at e'
                  refine ⟨D, _, rfl, SqL.of e', _, rfl, ?_⟩
                  show if (!(es.map isCn).all id) = true then _ else _
                  rw [all_id]
                  have s2 : Same H H2 := s1.trans s'
                  cases hall : es.all isCn with
                  | false =>
                    refine iteT (bad (fun h => ?_) _ s2)
                    obtain ⟨ns, p, g, _, _, e, rn⟩ := h.es he
                    rw [e, ints_cn ns fun n hn => by obtain ⟨i, hi, e⟩ := mem_getD hn; rw [← e]; exact rn.nn hi] at hall
                    cases hall
                  | true =>
                    obtain ⟨ns, rfl, hnn⟩ := cn_ints es hall
                    obtain rfl := dg_ints hes
                    have hq2 := hq.same s'
                    rw [List.length_map] at le c1' c2'
                    have l1 : 1 ≤ ns.length := by omega
                    have l8 : ns.length ≤ 8 := by omega
                    have inv : RowD (.tuple [f, pd, gd]) → ∃ p g, pd = .int p ∧ gd = .int g ∧ RowN ns p g := fun h => by
                      obtain ⟨ms, p, g, e1, e2, e, rn⟩ := h.es he
                      rw [map_int_inj e]
                      exact ⟨p, g, e1, e2, rn⟩
                    refine iteF ⟨_, rfl, hq2.ix (show atI _ 0 = _ from at_int (i := 0) (by omega)) ⟨rfl, _, rfl, ?_⟩⟩
                    show if (!decide (V.int (ns.getD 0 0) = V.int 0)) = true then _ else _
                    by_cases z0 : ns.getD 0 0 = 0
                    · rw [decide_eq_true (congrArg V.int z0)]
                      refine iteF ⟨_, rfl, 1, rfl, hq2.ix (show atI _ (-1) = _ from at_neg (k := 1) (by omega) l1) ⟨_, _, rfl, rfl, _, rfl, ite2 (fun c3 => ?_) (fun c3 => ?_)⟩⟩
                      · have c3' := of_decide_eq_true c3
                        refine iteT (bad (fun h => ?_) _ s2)
                        obtain ⟨p, g, _, _, rn⟩ := inv h
                        have := rn.top
                        omega
                      · have c3' : ¬ (40 : Int) < ns.getD (ns.length - 1) 0 := fun z => c3 (decide_eq_true z)
                        refine ⟨_, rfl, a, ns, rfl, hq2, l1, l8, fun b H3 hb s3' => ⟨_, rfl, ?_⟩⟩
                        have s3 := s2.trans s3'
                        cases b with
                        | false =>
                          refine iteT (bad (fun h => ?_) _ s3)
                          obtain ⟨p, g, _, _, rn⟩ := inv h
                          exact Bool.false_ne_true (hb.mpr rn.up)
                        | true =>
                          have up : Up ns := hb.mp rfl
                          have hq3 := hq2.same s3'
                          have h1' := h1.ext s3
                          have h2' := h2.ext s3
                          refine iteF ⟨_, rfl, x1, pd, m, rfl, h1', _, rfl, ?_⟩
                          cases pd with
                          | int p =>
                            obtain rfl := h1.int_of
                            refine iteF ⟨_, rfl, _, _, rfl, rfl, _, rfl, ite2 (fun c4 => ?_) (fun c4 => ?_)⟩
                            · have c4' : (1 : Int) ≤ p := of_decide_eq_true c4
                              refine ⟨_, rfl, a, _, rfl, hq3, _, _, rfl, _, _, rfl, rfl, _, rfl, ?_⟩
                              rw [List.length_map]
                              show if (!decide (p ≤ if (ns.length : Int) < 4 then (ns.length : Int) else 4)) = true then _ else _
                              cases c5 : decide (p ≤ if (ns.length : Int) < 4 then (ns.length : Int) else 4) with
                              | false =>
                                have c5' := of_decide_eq_false c5
                                refine iteT (iteT (bad (fun h => ?_) _ s3))
                                obtain ⟨p', g, e, _, rn⟩ := inv h
                                obtain rfl : p = p' := PyData.int.inj e
                                have := rn.p4
                                have := rn.pl
                                split at c5' <;> omega
                              | true =>
                                have c5' := of_decide_eq_true c5
                                have p4 : p ≤ 4 := by split at c5' <;> omega
                                have pl : p ≤ ns.length := by split at c5' <;> omega
                                obtain ⟨pn, rfl⟩ : ∃ pn : Nat, p = pn := ⟨p.toNat, by omega⟩
                                refine iteF ⟨_, rfl, x2, gd, m, rfl, h2', _, rfl, ?_⟩
                                cases gd with
                                | int g =>
                                  obtain rfl := h2.int_of
                                  show if (!decide (0 ≤ g)) = true then _ else _
                                  cases c6 : decide (0 ≤ g) with
                                  | false =>
                                    refine iteT (bad (fun h => ?_) _ s3)
                                    obtain ⟨p', g', _, e, rn⟩ := inv h
                                    obtain rfl : g = g' := PyData.int.inj e
                                    have := rn.g0
                                    exact of_decide_eq_false c6 this
                                  | true =>
                                    have c6' := of_decide_eq_true c6
                                    refine iteF ⟨_, rfl, _, _, rfl, rfl, _, rfl, ite2 (fun c7 => ?_) (fun c7 => ?_)⟩
                                    · have c7' : g ≤ 12 := of_decide_eq_true c7
                                      refine ⟨_, rfl, _, rfl, _, rfl, hq3.ix (at_neg (k := pn) (by omega) (by omega)) ⟨_, rfl, _, _, rfl, rfl, _, rfl, 1, rfl, hq3.ix (show atI _ (-1) = _ from at_neg (k := 1) (by omega) l1) ⟨_, _, rfl, rfl, ?_⟩⟩⟩
                                      have e : decide (ns.getD (ns.length - 1) 0 ≤ ns.getD (ns.length - pn) 0 + g) = rowB (.tuple [f, .int (pn : Int), .int g]) := by
                                        by_cases c8 : ns.getD (ns.length - 1) 0 ≤ ns.getD (ns.length - pn) 0 + g
                                        · rw [decide_eq_true c8, rowB_t ⟨f, ns, pn, g, rfl, he, ⟨l1, l8, z0, up, by omega, by omega, p4, pl, c6', c7', c8⟩⟩]
                                        · rw [decide_eq_false c8, rowB_f fun h => ?_]
                                          obtain ⟨p', g', e1, e2, rn⟩ := inv h
                                          obtain rfl : (pn : Int) = p' := PyData.int.inj e1
                                          obtain rfl : g = g' := PyData.int.inj e2
                                          exact c8 rn.no
                                      show Q (.bl (decide (ns.getD (ns.length - 1) 0 ≤ ns.getD (ns.length - pn) 0 + g))) _
                                      rw [e]
                                      exact q _ s3
                                    · have c7' : ¬ g ≤ 12 := fun z => c7 (decide_eq_true z)
                                      refine bad (fun h => ?_) _ s3
                                      obtain ⟨p', g', _, e, rn⟩ := inv h
                                      obtain rfl : g = g' := PyData.int.inj e
                                      exact c7' rn.g12
                                | _ => exact iteT (bad (fun h => by obtain ⟨p', g', _, e, rn⟩ := inv h; cases e) _ s3)
                            · have c4' : ¬ (1 : Int) ≤ p := fun z => c4 (decide_eq_true z)
                              refine ⟨_, rfl, iteT (iteT (bad (fun h => ?_) _ s3))⟩
                              obtain ⟨p', g, e, _, rn⟩ := inv h
                              obtain rfl : p = p' := PyData.int.inj e
                              exact c4' rn.p1
                          | _ => exact iteT (iteT (bad (fun h => by obtain ⟨p', g', e, _, rn⟩ := inv h; cases e) _ s3))
                    · rw [decide_eq_false (fun e => z0 (V.int.inj e))]
                      refine iteT (iteT (bad (fun h => ?_) _ s2))
                      obtain ⟨p, g, _, _, rn⟩ := inv h
                      exact z0 rn.h0
            · have c1' : ¬ (1 : Int) ≤ (ys.length : Int) := fun z => c1 (decide_eq_true z)
              exact ⟨_, rfl, iteT (iteT (bad (nl fun z => by omega) _ s1))⟩
      · rw [decide_eq_false (show ¬ V.int (xs.length : Int) = V.int 3 from fun z => c3 (by have := V.int.inj z; omega))]
        refine iteT (bad (fun h => ?_) _ (Same.refl _))
        obtain ⟨ds', a, b, c, e, e2⟩ := row_three h
        injection e with e
        rw [e, e2] at c3
        exact c3 rfl
    | _ => exact iteT (iteT (by rw [rowB_f (fun h => by obtain ⟨f, ns, p, g, e, _⟩ := h; cases e)] at q; exact q _ (Same.refl _)))
end
end My

set_option Elab.async false
set_option linter.all false
set_option maxRecDepth 100000
set_option maxHeartbeats 8000000
namespace My
open PySem PySem.Spec PyProof.Rows L2
theorem Bad.of {C : Addr} {H H1 : Hp} {x : V} {E : XK} (h : Bad C H x E) (s : Same H H1) : ∀ d, H1 d = none → E (.ref C) (some d) (upd H1 d (.xd (gvn x))) := fun d hd =>
  h d _ (fun b o q => by rw [upd_ne (ne_of_none (s b o q) hd)]; exact s b o q) (s.free hd) upd_same
def RowNs (d : PyData) (ns : List Int) (p : Nat) (g : Int) : Prop := ∃ f, d = .tuple [f, .int (p : Int), .int g] ∧ (f = .list (ns.map PyData.int) ∨ f = .tuple (ns.map PyData.int)) ∧ RowN ns (p : Int) g
theorem RowD.ns {d : PyData} (h : RowD d) : ∃ ns p g, RowNs d ns p g := by
  obtain ⟨f, ns, p, g, e, hf, rn⟩ := h
  obtain ⟨pn, rfl⟩ : ∃ pn : Nat, p = pn := ⟨p.toNat, by have := rn.p1; omega⟩
  exact ⟨ns, pn, g, f, e, hf, rn⟩
theorem RowNs.d {d : PyData} {ns : List Int} {p : Nat} {g : Int} (h : RowNs d ns p g) : RowD d := by
  obtain ⟨f, e, hf, rn⟩ := h
  exact ⟨f, ns, p, g, e, hf, rn⟩
theorem RowNs.at {K : PySem.W.Frag} {H : Hp} {m : Bool} {x : V} {d : PyData} {ns : List Int} {p : Nat} {g : Int} (h : RowNs d ns p g) (hd : Dg K H m x d) : RowAt K H x ns p g := by
  obtain ⟨f, rfl, hf, rn⟩ := h
  obtain ⟨r, xs, rfl, hR, ha⟩ := hd.tup_of
  obtain ⟨x0, ys, rfl, h0, ha⟩ := ha.cons_of
  obtain ⟨x1, ys, rfl, h1, ha⟩ := ha.cons_of
  obtain ⟨x2, ys, rfl, h2, ha⟩ := ha.cons_of
  obtain rfl := ha.nil_of
  obtain ⟨a, ys, rfl, hq, hes⟩ := h0.lst_q hf
  obtain rfl := dg_ints hes
  obtain rfl := h1.int_of
  obtain rfl := h2.int_of
  exact ⟨r, a, rfl, hR, hq⟩
section
variable {P : Program} {w : World} {K : PySem.W.Frag} {mg : Str → Option Value} {base : Heap}
def spCk (K : PySem.W.Frag) (C : Addr) : Sp := fun vs H Q E => ∃ x d m, vs = [x] ∧ Dg K H m x d ∧ (rowB d = true → ∀ H', Same H H' → Q .non H') ∧ (rowB d = false → Bad C H x E)
theorem ok_check_row (T : Txt K mg) : FnOk P w K mg base (L2.CX P w) 4 T.f_check_row T.fd_check_row ["value"] (spCk K T.C_InvalidRow) := by
  refine T.F_check_row.okX sc_check_row (fun vs H Q E h => ?_) (fun cdv A outer s H vs Q E hr h => ?_)
  · obtain ⟨x, e, m, rfl, _⟩ := h; rfl
  · obtain ⟨x, d, m, rfl, hd, kT, kF⟩ := h
    refine ⟨_, (pss_one (ps_if (pt_not (pt_val (pe_call (ok_is_row T) (hr.mono (by decide)) rfl T.g_is_row T.F_is_row.kp T.b_is_row .nil pass0 (pa_cons (pv 0) pa_nil)))) (pss_one (ps_raiseE rfl T.e_InvalidRow hr (takes_of rfl rfl rfl rfl) (pa_cons (pv 0) pa_nil))) pss_nil)), ?_⟩
    refine ⟨_, rfl, x, d, m, rfl, hd, fun H1 s1 => ⟨_, rfl, ?_⟩⟩
    cases hs : rowB d with
    | true => exact iteF (kT hs _ s1)
    | false => exact iteT ⟨_, rfl, x, rfl, (kF hs).of s1⟩
def spAt (K : PySem.W.Frag) (C C2 : Addr) : Sp := fun vs H Q E => ∃ x d m y e m2, vs = [x, y] ∧ Dg K H m x d ∧ Dg K H m2 y e ∧ (rowB d = false → Bad C H x E) ∧ (rowB d = true → isCn e = false → Bad C2 H y E) ∧
  (rowB d = true → isCn e = true → ∃ n : Nat, e = .int n ∧ n ≤ 1000 ∧ ∀ ns p g, RowNs d ns p g → ∀ H', Same H H' → Q (.int (numAt ns p g n)) H')
theorem ok_row_at (T : Txt K mg) : FnOk P w K mg base (L2.CX P w) 5 T.f_row_at T.fd_row_at ["row", "many"] (spAt K T.C_InvalidRow T.C_InvalidCount) := by
  refine T.F_row_at.okX sc_row_at (fun vs H Q E h => ?_) (fun cdv A outer s H vs Q E hr h => ?_)
  · obtain ⟨x, d, m, y, e, m2, rfl, _⟩ := h; rfl
  · obtain ⟨x, d, m, y, e, m2, rfl, hd, he, kF, kC, kT⟩ := h
    refine ⟨_, (pss_cons (ps_expr (pe_call (ok_check_row T) (hr.mono (by decide)) rfl T.g_check_row T.F_check_row.kp T.b_check_row .nil (passes_call (takes_of rfl rfl rfl rfl) (fun _ _ _ _ z => z)) (pa_cons (pv 0) pa_nil)))
      (pss_cons (ps_if (pt_not (pt_val (pe_call (ok_is_count T) (hr.mono (by decide)) rfl T.g_is_count T.F_is_count.kp T.b_is_count .nil pass0 (pa_cons (pv 1) pa_nil)))) (pss_one (ps_raiseE rfl T.e_InvalidCount hr (takes_of rfl rfl rfl rfl) (pa_cons (pv 1) pa_nil))) pss_nil)
      (pss_one (ps_ret (pe_call (ok_number_at T) (hr.mono (by decide)) rfl T.g_number_at T.F_number_at.kp T.b_number_at .nil pass0 (pa_cons (pv 0) (pa_cons (pv 1) pa_nil))))))), ?_⟩
    refine ⟨_, rfl, x, d, m, rfl, hd, fun hR H1 s1 => ?_, kF⟩
    refine ⟨_, rfl, y, e, m2, rfl, he.ext s1, _, rfl, ?_⟩
    cases hs : isCn e with
    | false => exact iteT ⟨_, rfl, y, rfl, (kC hR hs).of s1⟩
    | true =>
      obtain ⟨n, rfl, hn, k⟩ := kT hR hs
      obtain ⟨ns, p, g, hN⟩ := (rowB_of hR).ns
      obtain rfl := he.int_of
      obtain ⟨f, e1, e2, rn⟩ := id hN
      exact iteF ⟨_, rfl, _, rfl, x, ns, p, g, n, rfl, hN.at (hd.ext s1), rn, hn, k ns p g hN _ s1⟩
def spSub (K : PySem.W.Frag) (C : Addr) : Sp := fun vs H Q E => ∃ x d m, vs = [x] ∧ Dg K H m x d ∧ (rowB d = false → Bad C H x E) ∧ (rowB d = true → ∀ ns p g, RowNs d ns p g → ∀ b H', (b = true ↔ SubN ns p g) → Same H H' → Q (.bl b) H')
theorem ok_is_subadditive (T : Txt K mg) : FnOk P w K mg base (L2.CX P w) 5 T.f_is_subadditive T.fd_is_subadditive ["row"] (spSub K T.C_InvalidRow) := by
  refine T.F_is_subadditive.okX sc_is_subadditive (fun vs H Q E h => ?_) (fun cdv A outer s H vs Q E hr h => ?_)
  · obtain ⟨x, d, m, rfl, _⟩ := h; rfl
  · obtain ⟨x, d, m, rfl, hd, kF, kT⟩ := h
    refine ⟨_, (pss_cons (ps_expr (pe_call (ok_check_row T) (hr.mono (by decide)) rfl T.g_check_row T.F_check_row.kp T.b_check_row .nil (passes_call (takes_of rfl rfl rfl rfl) (fun _ _ _ _ z => z)) (pa_cons (pv 0) pa_nil)))
      (pss_one (ps_ret (pe_call (ok_is_subadditive_row T) (hr.mono (by decide)) rfl T.g_is_subadditive_row T.F_is_subadditive_row.kp T.b_is_subadditive_row .nil pass0 (pa_cons (pv 0) pa_nil))))), ?_⟩
    refine ⟨_, rfl, x, d, m, rfl, hd, fun hR H1 s1 => ?_, kF⟩
    obtain ⟨ns, p, g, hN⟩ := (rowB_of hR).ns
    obtain ⟨f, e1, e2, rn⟩ := id hN
    exact ⟨_, rfl, x, ns, p, g, rfl, hN.at (hd.ext s1), rn, fun b hb => kT hR ns p g hN b _ hb s1⟩
def spBu (K : PySem.W.Frag) (C : Addr) : Sp := fun vs H Q E => ∃ x d m, vs = [x] ∧ Dg K H m x d ∧ rowB d = false ∧ Bad C H x E
theorem ok_built (T : Txt K mg) : FnOk P w K mg base (L2.CX P w) 5 T.f_built T.fd_built ["row"] (spBu K T.C_InvalidRow) := by
  refine T.F_built.okX sc_built (fun vs H Q E h => ?_) (fun cdv A outer s H vs Q E hr h => ?_)
  · obtain ⟨x, d, m, rfl, _⟩ := h; rfl
  · obtain ⟨x, d, m, rfl, hd, hf, kF⟩ := h
    refine ⟨_, (pss_dead (ps_expr (pe_call (ok_check_row T) (hr.mono (by decide)) rfl T.g_check_row T.F_check_row.kp T.b_check_row .nil (passes_call (takes_of rfl rfl rfl rfl) (fun _ _ _ _ z => z)) (pa_cons (pv 0) pa_nil)))), ?_⟩
    exact ⟨_, rfl, x, d, m, rfl, hd, fun hR => absurd (hf.symm.trans hR) Bool.false_ne_true, fun _ => kF⟩
theorem ok_built_accepting (T : Txt K mg) : FnOk P w K mg base (L2.CX P w) 5 T.f_built_accepting T.fd_built_accepting ["row"] (spBu K T.C_InvalidRow) := by
  refine T.F_built_accepting.okX sc_built_accepting (fun vs H Q E h => ?_) (fun cdv A outer s H vs Q E hr h => ?_)
  · obtain ⟨x, d, m, rfl, _⟩ := h; rfl
  · obtain ⟨x, d, m, rfl, hd, hf, kF⟩ := h
    refine ⟨_, (pss_dead (ps_expr (pe_call (ok_check_row T) (hr.mono (by decide)) rfl T.g_check_row T.F_check_row.kp T.b_check_row .nil (passes_call (takes_of rfl rfl rfl rfl) (fun _ _ _ _ z => z)) (pa_cons (pv 0) pa_nil)))), ?_⟩
    exact ⟨_, rfl, x, d, m, rfl, hd, fun hR => absurd (hf.symm.trans hR) Bool.false_ne_true, fun _ => kF⟩
end
end My

set_option Elab.async false
set_option linter.all false
set_option maxRecDepth 100000
set_option maxHeartbeats 8000000
namespace My
open PySem PySem.Spec PyProof.Rows L2
theorem numAt_low {ns : List Int} {p : Nat} {g : Int} {n : Nat} (h : n < ns.length) : numAt ns p g n = ns.getD n 0 := by unfold numAt; rw [if_pos h]
theorem numAt_step {ns : List Int} {p : Nat} {g : Int} {n : Nat} (h : ns.length ≤ n) (p1 : 1 ≤ p) (pl : p ≤ ns.length) : numAt ns p g n = numAt ns p g (n - p) + g := by
  have e0 : numAt ns p g n = ns.getD (n - ((n - ns.length) / p + 1) * p) 0 + (((n - ns.length) / p + 1 : Nat) : Int) * g := by unfold numAt; rw [if_neg (by omega)]
  by_cases c : ns.length ≤ n - p
  · have e1 : numAt ns p g (n - p) = ns.getD (n - p - ((n - p - ns.length) / p + 1) * p) 0 + (((n - p - ns.length) / p + 1 : Nat) : Int) * g := by unfold numAt; rw [if_neg (by omega)]
    have e2 : (n - ns.length) / p = (n - p - ns.length) / p + 1 := by
      rw [Nat.div_eq_sub_div (by omega) (by omega : p ≤ n - ns.length)]
      congr 2; omega
    rw [e0, e1, e2]
    generalize (n - p - ns.length) / p = t
    rw [show n - (t + 1 + 1) * p = n - p - (t + 1) * p by rw [Nat.add_mul (t + 1) 1 p]; omega]
    rw [show ((t + 1 + 1 : Nat) : Int) = ((t + 1 : Nat) : Int) + 1 by omega, Int.add_mul, Int.one_mul, Int.add_assoc]
  · rw [numAt_low (n := n - p) (by omega), e0, Nat.div_eq_of_lt (by omega)]
    simp
/-- the numbers for 0 and so on -/
def numsV (ns : List Int) (p : Nat) (g : Int) (k : Nat) : List V := (List.range k).map fun n => V.int (numAt ns p g n)
theorem numsV_len {ns : List Int} {p : Nat} {g : Int} {k : Nat} : (numsV ns p g k).length = k := by unfold numsV; rw [List.length_map, List.length_range]
theorem numsV_at {ns : List Int} {p : Nat} {g : Int} {k i : Nat} (h : i < k) : atI (numsV ns p g k) (i : Int) = some (.int (numAt ns p g i)) := by
  refine atI_nat ?_
  unfold numsV
  rw [List.getElem?_map, List.getElem?_range h]; rfl
theorem numsV_s {ns : List Int} {p : Nat} {g : Int} {k : Nat} : numsV ns p g (k + 1) = numsV ns p g k ++ [V.int (numAt ns p g k)] := by
  unfold numsV; rw [List.range_succ, List.map_append]; rfl
theorem numsV_0 {ns : List Int} {p : Nat} {g : Int} : ns.map V.int = numsV ns p g ns.length := by
  unfold numsV
  refine List.ext_getElem (by rw [List.length_map, List.length_map, List.length_range]) fun i h1 h2 => ?_
  rw [List.length_map] at h1
  rw [List.getElem_map, List.getElem_map, List.getElem_range, numAt_low h1, List.getD_eq_getElem?_getD, List.getElem?_eq_getElem h1]; rfl
theorem numsV_take {ns : List Int} {p : Nat} {g : Int} {k j : Nat} (h : j ≤ k) : (numsV ns p g k).take j = numsV ns p g j := by
  unfold numsV
  rw [← List.map_take, List.take_range, Nat.min_eq_left h]
/-- a row as the law keeps it: first, period, gain in a list -/
def Pln (K : PySem.W.Frag) (H : Hp) (L : Addr) (ns : List Int) (p : Nat) (g : Int) : Prop := ∃ F, H L = some (.lst [.ref F, .int (p : Int), .int g]) ∧ H F = some (.lst (ns.map V.int)) ∧ RowN ns (p : Int) g
section
variable {P : Program} {w : World} {K : PySem.W.Frag} {mg : Str → Option Value} {base : Heap}
def spNums (K : PySem.W.Frag) : Sp := fun vs H Q _ => ∃ L ns p g size, vs = [.ref L, .int ((size : Nat) : Int)] ∧ Pln K H L ns p g ∧ size ≤ 500 ∧
  ∀ r H', Same H H' → H' r = some (.lst (numsV ns p g size)) → H r = none → Q (.ref r) H'
theorem ok_law_numbers (T : Txt K mg) : FnOk P w K mg base CX0 1 T.f_law_numbers T.fd_law_numbers ["plain", "size"] (spNums K) := by
  refine T.F_law_numbers.ok sc_law_numbers (fun vs H Q E h => ?_) (fun cdv A outer s H vs Q E hr h => ?_)
  · obtain ⟨L, ns, p, g, size, rfl, _⟩ := h; rfl
  · obtain ⟨L, ns, p, g, size, rfl, ⟨F, eL, eF, rn⟩, hs, q⟩ := h
    refine ⟨_, (pss_cons (ps_set (i := 2) sc_law_numbers.nd rfl (Or.inl rfl) (pe_callTy call_list_of (by rfl) T.z_list (by decide +kernel) (pa_cons (pe_ix ix_list (pv 0) pe_int (fun _ _ => rfl)) pa_nil)))
      (pss_cons (ps_for PassesOwn.never rfl (pi_range1 rfl T.z_range (pa_cons (pv 1) pa_nil)) (pg_name (i := 3) sc_law_numbers.nd rfl (Or.inl rfl)) (pss_one (ps_expr (pe_bm PySem.F.plainAttrs_list PySem.F.slot_list_append PySem.F.type_list_append mt_append (pv 2) (pa_cons (pe_op op_add (pe_ix ix_list (pv 2) (pe_op op_sub (pe_callB call_len_seq (by rfl) T.z_len (by decide +kernel) (pa_cons (pv 2) pa_nil)) (pe_ix ix_list (pv 0) pe_int (fun _ _ => rfl))) (fun _ _ => rfl)) (pe_ix ix_list (pv 0) pe_int (fun _ _ => rfl))) pa_nil)))))
      (pss_one (ps_ret (pe_slice sl_list (pv 2) po_none (po_some (pv 1))))))), ?_⟩
    have l8 := rn.l8
    have p1 := rn.p1
    have pl := rn.pl
    have g12 := rn.g12
    refine ⟨_, rfl, L, _, _, _, rfl, rfl, SqL.of eL, atI_nat (j := 0) rfl, F, _, rfl, .inl (SqL.of eF), fun l hl => ?_⟩
    have s1 : Same H (upd H l (.lst (ns.map V.int))) := Same.new (Same.refl _) hl
    have e1 : (upd H l (.lst (ns.map V.int))) l = some (.lst (ns.map V.int)) := upd_same
    generalize upd H l (.lst (ns.map V.int)) = H1 at s1 e1
    have nL : L ≠ l := ne_of_none eL hl
    refine ⟨_, rfl, (size : Int), rfl, by omega, by omega, ?_⟩
    rw [Int.toNat_natCast]
    refine for_range (lo := 0) (n := size) (fun i σ H' => ∃ x3, σ = [some (.ref L), some (.int (size : Int)), some (.ref l), x3] ∧ Same H H' ∧ H' l = some (.lst (numsV ns p g (ns.length + i)))) ⟨none, rfl, s1, by rw [Nat.add_zero, ← numsV_0]; exact e1⟩ ?_ ?_
    · rintro i σ H' hi ⟨x3, rfl, s', e'⟩
      have eL' := s' _ _ eL
      have ix : ((numsV ns p g (ns.length + i)).length : Int) - (p : Int) = ((ns.length + i - p : Nat) : Int) := by rw [numsV_len]; omega
      refine ⟨_, rfl, .inl ⟨rfl, _, SqL.of e'⟩, _, rfl, _, rfl, l, _, rfl, .inl (SqL.of e'), _, rfl, L, _, _, _, rfl, rfl, SqL.of eL', atI_nat (j := 1) rfl, _, _, rfl, rfl, ?_⟩
      dsimp only
      rw [ix]
      refine ⟨l, _, _, _, rfl, rfl, SqL.of e', numsV_at (by omega), _, rfl, L, _, _, _, rfl, rfl, SqL.of eL', atI_nat (j := 2) rfl, _, _, rfl, rfl, l, _, _, rfl, rfl, e', by rw [numsV_len]; exact Nat.lt_of_lt_of_le (by omega : ns.length + i < 1000) (by decide), _, rfl, fun b o e => ?_, ?_⟩
      · rw [upd_ne (ne_of_none e hl)]; exact s' b o e
      · rw [upd_same, ← Nat.add_assoc, numsV_s, numAt_step (n := ns.length + i) (by omega) (by omega) (by omega)]
    · rintro σ H' ⟨x3, rfl, s', e'⟩
      refine ⟨_, rfl, _, rfl, _, rfl, l, _, rfl, SqL.of e', fun r hr => ?_⟩
      rw [cutV_to, numsV_take (by omega)]
      exact q r _ (s'.trans (Same.new (Same.refl _) hr)) upd_same (s'.free hr)
end
end My

set_option Elab.async false
set_option linter.all false
set_option maxRecDepth 100000
set_option maxHeartbeats 8000000
namespace My
open PySem PySem.Spec PyProof.Rows L2
theorem kp_free {p q : Addr} {H H' : Hp} (k : Kp p H H') (n : H' p ≠ none) (h : H' q = none) : H q = none := by
  cases e : H q with
  | none => rfl
  | some o =>
    have nq : q ≠ p := fun z => n (by rw [← z]; exact h)
    rw [k q o nq e] at h; cases h
theorem getD_lt {ns : List Int} {m : Int} {i : Nat} (h : i < ns.length) : (ns ++ [m]).getD i 0 = ns.getD i 0 := by
  rw [List.getD_eq_getElem?_getD, List.getD_eq_getElem?_getD, List.getElem?_append_left h]
theorem getD_end {ns : List Int} {m : Int} : (ns ++ [m]).getD ns.length 0 = m := by
  rw [List.getD_eq_getElem?_getD, List.getElem?_append_right (Nat.le_refl _)]; simp
/-- numbers that begin with 0 and never fall -/
structure FO (ns : List Int) : Prop where
  l1 : 1 ≤ ns.length
  h0 : ns.getD 0 0 = 0
  up : Up ns
  top : ns.getD (ns.length - 1) 0 ≤ 40
theorem FO.one : FO [0] := ⟨Nat.le_refl _, rfl, fun i h => by simp at h, by decide⟩
theorem FO.snoc {ns : List Int} {m : Int} (f : FO ns) (h1 : ns.getD (ns.length - 1) 0 ≤ m) (h2 : m ≤ 40) : FO (ns ++ [m]) := by
  have l1 := f.l1
  refine ⟨by rw [List.length_append]; omega, by rw [getD_lt (by omega)]; exact f.h0, fun i hi => ?_, ?_⟩
  · rw [List.length_append] at hi
    have hi' : i < ns.length := by simp at hi; exact hi
    rw [getD_lt hi']
    by_cases c : i + 1 < ns.length
    · rw [getD_lt c]; exact f.up i c
    · have e : i + 1 = ns.length := by omega
      rw [e, getD_end, show i = ns.length - 1 by omega]; exact h1
  · rw [List.length_append, show ns.length + [m].length - 1 = ns.length by simp, getD_end]; exact h2
theorem getD_set {ns : List Int} {m : Int} {i j : Nat} : (ns.set j m).getD i 0 = if i = j ∧ j < ns.length then m else ns.getD i 0 := by
  rw [List.getD_eq_getElem?_getD, List.getD_eq_getElem?_getD, List.getElem?_set]
  by_cases c : j = i
  · subst c
    by_cases l : j < ns.length
    · simp [l]
    · simp [l]
  · rw [if_neg c, if_neg (fun z => c z.1.symm)]
theorem FO.mono {ns : List Int} (f : FO ns) : ∀ j i, i ≤ j → j < ns.length → ns.getD i 0 ≤ ns.getD j 0
  | 0, i, h, _ => by rw [Nat.le_zero.mp h]; exact Int.le_refl _
  | j + 1, i, h, l => by
    rcases Nat.lt_or_ge j i with c | c
    · have : i = j + 1 := by omega
      rw [this]; exact Int.le_refl _
    · exact Int.le_trans (f.mono j i c (by omega)) (f.up j l)
theorem FO.last {ns : List Int} (f : FO ns) (l : 2 ≤ ns.length) : FO (ns.set (ns.length - 1) 40) := by
  refine ⟨by rw [List.length_set]; omega, by rw [getD_set, if_neg (by omega)]; exact f.h0, fun i hi => ?_, ?_⟩
  · rw [List.length_set] at hi
    rw [getD_set, getD_set, if_neg (by omega)]
    by_cases c : i + 1 = ns.length - 1
    · rw [if_pos ⟨c, by omega⟩]
      exact Int.le_trans (f.mono (ns.length - 1) i (by omega) (by omega)) f.top
    · rw [if_neg (fun z => c z.1)]; exact f.up i hi
  · rw [List.length_set, getD_set, if_pos ⟨rfl, by omega⟩]; exact Int.le_refl _
section
variable {P : Program} {w : World} {K : PySem.W.Frag} {mg : Str → Option Value} {base : Heap}
def spFirst (K : PySem.W.Frag) : Sp := fun vs H Q _ => ∃ (p : Addr) (n : Nat), vs = [.ref p] ∧ BoxAt H p n ∧ n < 100000000 ∧
  ∀ r ns H', Kp p H H' → BoxAt H' p (n + 20) → H' r = some (.lst (ns.map V.int)) → H r = none → FO ns → ns.length ≤ 8 → Q (.ref r) H'
theorem ok_law_first (T : Txt K mg) : FnOk P w K mg base CX0 2 T.f_law_first T.fd_law_first ["box"] (spFirst K) := by
  refine T.F_law_first.ok sc_law_first (fun vs H Q E h => ?_) (fun cdv A outer s0 H vs Q E hr h => ?_)
  · obtain ⟨p, n, rfl, _⟩ := h; rfl
  · obtain ⟨p, n, rfl, hb, hn, q⟩ := h
    refine ⟨_, (pss_cons (ps_par (i := 1) (j := 2) (by rfl) sc_law_first.nd rfl rfl (by decide) rfl rfl (pa_cons (pe_op op_add pe_int (pe_call (ok_law_take T) (hr.mono (by decide)) rfl T.g_law_take T.F_law_take.kp T.b_law_take .nil pass0 (pa_cons (pv 0) (pa_cons pe_int pa_nil)))) (pa_cons (pe_call (ok_law_take T) (hr.mono (by decide)) rfl T.g_law_take T.F_law_take.kp T.b_law_take .nil pass0 (pa_cons (pv 0) (pa_cons pe_int pa_nil))) pa_nil)) (by rfl))
      (pss_cons (ps_setLc (i := 3) (own := [("turn", 4)]) (g := gName 4) (by rfl) sc_law_first.nd rfl rfl (sw_true rfl rfl rfl (by decide +kernel)) (pi_range1 rfl T.z_range (pa_cons (pe_op op_sub (pv 1) pe_int) pa_nil)) (blkOk_by (own := [("turn", 4)]) (N := N_law_first) (sc := defScope s_law_first) (by decide +kernel)) (fun _ _ _ _ _ => pg_name (i := 4) sc_law_first.nd rfl (Or.inl rfl)) (fun _ _ _ _ _ => pts_nil) (fun _ _ _ _ _ => (pe_ix (ix_listK (K := K) rfl) (pe_lst (pa_cons pe_int (pa_cons pe_int (pa_cons pe_int (pa_cons pe_int (pa_cons pe_int (pa_cons pe_int (pa_cons pe_int (pa_cons pe_int pa_nil))))))))) (pe_call (ok_law_take T) (hr.mono (by decide)) rfl T.g_law_take T.F_law_take.kp T.b_law_take .nil pass0 (pa_cons (pv 0) (pa_cons pe_int pa_nil))) (fun _ _ => rfl))))
      (Evl.pss_cut (ps_if (pt_cmpR op_lt (pv 2) pe_int (nomark _)) (pss_one (ps_set (i := 3) sc_law_first.nd rfl (Or.inl rfl) (pe_callBK (cr_sortedRev (b := true)) (by rfl) T.z_sorted (by decide +kernel) (pa_cons (pv 3) pa_nil) (pk_cons pe_bl pk_nil)))) pss_nil)
      (pss_cons (ps_set (i := 5) sc_law_first.nd rfl (Or.inl rfl) (pe_lst (pa_cons pe_int pa_nil)))
      (pss_cons (ps_for PassesOwn.never rfl (pi_list (pv 3)) (pg_name (i := 6) sc_law_first.nd rfl (Or.inl rfl)) (pss_one (ps_expr (pe_bm PySem.F.plainAttrs_list PySem.F.slot_list_append PySem.F.type_list_append mt_append (pv 5) (pa_cons (pe_callB (call_min2 rfl) (by rfl) T.z_min (by decide +kernel) (pa_cons pe_int (pa_cons (pe_op op_add (pe_ix ix_list (pv 5) (pe_un un_neg pe_int) (fun _ _ => rfl)) (pv 6)) pa_nil))) pa_nil)))))
      (pss_cons (ps_if (PW.pt (pw_and (pt_cmpR op_eq (pv 2) pe_int (nomark _)) (pw_and1 (pt_cmpR op_gt (pv 1) pe_int (nomark _))))) (pss_one (ps_asg pe_int (pg_sub (pv 5) (pe_un un_neg pe_int) set_list))) pss_nil)
      (pss_one (ps_ret (pv 5))))))))), ?_⟩
    refine ⟨_, rfl, p, n, 8, rfl, hb, by omega, by omega, by omega, fun sz o1 hsz ho1 => ⟨_, _, rfl, rfl, _, rfl, p, _, 4, rfl, ho1.at, by omega, by omega, by omega, fun way o2 hway ho2 => ⟨_, _, rfl, ?_⟩⟩⟩
    obtain ⟨H2, e2⟩ : ∃ H2, H2 = upd (upd H p o1) p o2 := ⟨_, rfl⟩
    have k2 : Kp p H H2 := by rw [e2]; exact ((Kp.refl p H).upd).upd
    have b2 : BoxAt H2 p (n + 2) := by rw [e2]; exact ho2.at
    rw [← e2]
    refine ⟨_, rfl, _, _, rfl, rfl, _, rfl, by omega, by omega, fun D hD => ?_⟩
    have nD : D ≠ p := (b2.ne hD).symm
    rw [show ((1 : Int) + (sz : Int) - 1).toNat = sz by omega]
    refine lc_range (lo := 0) (n := sz) (fun i H' => Kp p H2 H' ∧ BoxAt H' p (n + 2 + i) ∧ ∃ rs : List Int, H' D = some (.lst (rs.map V.int)) ∧ rs.length = i ∧ ∀ r ∈ rs, 0 ≤ r)
      ⟨(Kp.refl p H2).new hD, b2.new hD, [], upd_same, rfl, fun r h => by cases h⟩ ?_ ?_
    · rintro i H' hi ⟨k', b', rs, e', l', v'⟩
      refine ⟨rfl, tYesT ⟨(by show 8 ≤ sizeLine; decide), fun L hL => ⟨_, rfl, p, _, 8, rfl, b'.new hL, by omega, by omega, by omega, fun d o hd ho => ?_⟩⟩⟩
      have nL : L ≠ p := (b'.ne hL).symm
      have nLD : L ≠ D := fun z => by rw [z, e'] at hL; cases hL
      obtain ⟨m, hm, em⟩ : ∃ m : Int, 0 ≤ m ∧ [V.int 0, .int 0, .int 1, .int 1, .int 2, .int 3, .int 5, .int 12][d]? = some (.int m) := by
        match d, hd with
        | 0, _ => exact ⟨0, by omega, rfl⟩
        | 1, _ => exact ⟨0, by omega, rfl⟩
        | 2, _ => exact ⟨1, by omega, rfl⟩
        | 3, _ => exact ⟨1, by omega, rfl⟩
        | 4, _ => exact ⟨2, by omega, rfl⟩
        | 5, _ => exact ⟨3, by omega, rfl⟩
        | 6, _ => exact ⟨5, by omega, rfl⟩
        | 7, _ => exact ⟨12, by omega, rfl⟩
        | d + 8, h => exact absurd h (by omega)
      refine ⟨L, _, _, _, rfl, rfl, SqL.of (by rw [upd_ne nL]; exact upd_same), atI_nat (j := d) em, ?_⟩
      refine ⟨_, by rw [upd_ne nD, upd_ne nLD.symm]; exact e', by rw [List.length_map, l']; exact Nat.lt_of_lt_of_le (by omega : i < 1000) (by decide), ?_, (ho.at.other nD.symm).mono (by omega), rs ++ [m], ?_, by rw [List.length_append, l']; rfl, fun r hr => ?_⟩
      · exact fun b o nb e => by rw [upd_ne (ne_of_none e hD)]; exact ((k'.new hL).upd) b o nb e
      · rw [upd_same, List.map_append]; rfl
      · rcases List.mem_append.mp hr with z | z
        · exact v' r z
        · rw [List.mem_singleton.mp z]; exact hm
    · rintro H3 ⟨k', b', rs, e', l', v'⟩
      have k3 := k2.trans k'
      refine ⟨fun σ H' => ∃ (D3 : Addr) (rs : List Int), σ = [some (.ref p), some (.int (1 + (sz : Int))), some (.int (way : Int)), some (.ref D3), none, none, none] ∧ Kp p H H' ∧ BoxAt H' p (n + 2 + sz) ∧ H' D3 = some (.lst (rs.map V.int)) ∧ rs.length = sz ∧ ∀ r ∈ rs, 0 ≤ r, ?_, ?_⟩
      · refine ⟨_, rfl, _, _, rfl, rfl, _, rfl, ite2 (fun _ => ?_) (fun _ => ⟨D, rs, rfl, k3, b', e', l', v'⟩)⟩
        refine ⟨_, rfl, D, rs, rfl, rfl, SqL.of e', fun ns' r hp _ hr => ⟨r, ns', rfl, k3.new hr, b'.new hr, upd_same, by rw [hp.length_eq, l'], fun x hx => v' x (hp.mem_iff.mp hx)⟩⟩
      · rintro σ H4 ⟨D3, rs, rfl, k4, b4, e4, l4, v4⟩
        refine ⟨(by show 1 ≤ sizeLine; decide), fun f hf => ?_⟩
        have nf : f ≠ p := (b4.ne hf).symm
        have nfD : D3 ≠ f := ne_of_none e4 hf
        have ff := kp_free k4 b4.some hf
        refine ⟨_, rfl, D3, rfl, ⟨_, SqL.of (by rw [upd_ne nfD]; exact e4)⟩, ?_⟩
        refine for_list (K := K) (a := D3) (xs := rs.map V.int) (fun i σ H' => ∃ (x6 : Option V) (ns : List Int), σ = [some (.ref p), some (.int (1 + (sz : Int))), some (.int (way : Int)), some (.ref D3), none, some (.ref f), x6] ∧ Kp p H H' ∧ BoxAt H' p (n + 2 + sz) ∧ H' D3 = some (.lst (rs.map V.int)) ∧ H' f = some (.lst (ns.map V.int)) ∧ ns.length = i + 1 ∧ FO ns)
          ⟨none, [0], rfl, k4.new hf, b4.new hf, by rw [upd_ne nfD]; exact e4, upd_same, rfl, FO.one⟩ (fun i σ H' _ ⟨_, _, _, _, _, e, _⟩ => SqL.of e) ?_ ?_
        · rintro i x σ H' hx ⟨x6, ns, rfl, k5, b5, e5, ef, ln, fo⟩
          obtain ⟨r, er, hr⟩ : ∃ r : Int, x = .int r ∧ 0 ≤ r := by
            rw [List.getElem?_map] at hx
            cases er : rs[i]? with
            | none => rw [er] at hx; cases hx
            | some r => rw [er] at hx; exact ⟨r, (Option.some.inj hx).symm, v4 r (List.mem_of_getElem? er)⟩
          subst er
          have hi : i < rs.length := by rw [← List.length_map (f := V.int)]; exact (List.getElem?_eq_some_iff.mp hx).1
          have l1 := fo.l1
          have tp := fo.top
          refine ⟨_, rfl, .inl ⟨rfl, _, SqL.of ef⟩, _, rfl, 1, rfl, f, _, _, _, rfl, rfl, SqL.of ef, (show atI _ (-1) = _ from at_neg (k := 1) (by omega) l1), _, rfl, _, _, rfl, rfl, _, _, rfl, f, _, _, rfl, rfl, ef, by rw [List.length_map]; exact Nat.lt_of_lt_of_le (by omega : ns.length < 1000) (by decide), ?_⟩
          have nfp : p ≠ f := nf.symm
          refine ⟨_, ns ++ [if ns.getD (ns.length - 1) 0 + r < 40 then ns.getD (ns.length - 1) 0 + r else 40], rfl, fun b o nb e => ?_, b5.other nfp, by rw [upd_ne nfD]; exact e5, by rw [upd_same, List.map_append]; rfl, by rw [List.length_append, ln]; rfl, fo.snoc (by split <;> omega) (by split <;> omega)⟩
          rw [upd_ne (ne_of_none e ff)]; exact k5 b o nb e
        · rintro σ H5 ⟨x6, ns, rfl, k5, b5, e5, ef, ln, fo⟩
          rw [List.length_map, l4] at ln
          have l1 := fo.l1
          have fin : Q (.ref f) H5 := q f ns H5 k5 (b5.mono (by omega)) ef ff fo (by omega)
          refine ⟨_, rfl, rfl, _, rfl, ite2 (fun _ => ?_) (fun _ => iteF ⟨_, rfl, fin⟩)⟩
          refine ⟨_, rfl, _, _, rfl, rfl, _, rfl, ite2 (fun c => ?_) (fun _ => ⟨_, rfl, fin⟩)⟩
          have c' : (1 : Int) < 1 + (sz : Int) := of_decide_eq_true c
          refine ⟨_, rfl, 1, rfl, f, _, -1, ns.length - 1, rfl, rfl, ef, ?_, _, rfl, ?_⟩
          · unfold ixN
            rw [List.length_map, if_neg (by omega), if_pos (by omega)]
            congr 1; omega
          · refine q f (ns.set (ns.length - 1) 40) _ (fun b o nb e => ?_) ((b5.other nf.symm).mono (by omega)) (by rw [upd_same, List.map_set]) ff (fo.last (by omega)) (by rw [List.length_set]; omega)
            rw [upd_ne (ne_of_none e ff)]; exact k5 b o nb e
end
end My

set_option Elab.async false
set_option linter.all false
set_option maxRecDepth 100000
set_option maxHeartbeats 8000000
namespace My
open PySem PySem.Spec PyProof.Rows L2
/-- a row as the law keeps it, beside the box at p -/
def Pl (p : Addr) (H : Hp) (L : Addr) (ns : List Int) (q : Nat) (g : Int) : Prop := L ≠ p ∧ ∃ F, F ≠ p ∧ H L = some (.lst [.ref F, .int (q : Int), .int g]) ∧ H F = some (.lst (ns.map V.int)) ∧ RowN ns (q : Int) g
theorem Pl.kp {p : Addr} {H H' : Hp} {L : Addr} {ns : List Int} {q : Nat} {g : Int} (h : Pl p H L ns q g) (k : Kp p H H') : Pl p H' L ns q g := by
  obtain ⟨h1, F, h2, e1, e2, rn⟩ := h
  exact ⟨h1, F, h2, k _ _ h1 e1, k _ _ h2 e2, rn⟩
theorem Pl.pln {K : PySem.W.Frag} {p : Addr} {H : Hp} {L : Addr} {ns : List Int} {q : Nat} {g : Int} (h : Pl p H L ns q g) : Pln K H L ns q g := by
  obtain ⟨h1, F, h2, e1, e2, rn⟩ := h
  exact ⟨F, e1, e2, rn⟩
section
variable {P : Program} {w : World} {K : PySem.W.Frag} {mg : Str → Option Value} {base : Heap}
def spPlain (K : PySem.W.Frag) : Sp := fun vs H Q _ => ∃ (p : Addr) (n : Nat), vs = [.ref p] ∧ BoxAt H p n ∧ n < 10000000 ∧
  ∀ r ns q g H', Kp p H H' → BoxAt H' p (n + 40) → H r = none → Pl p H' r ns q g → Q (.ref r) H'
theorem ok_law_plain (T : Txt K mg) : FnOk P w K mg base CX0 3 T.f_law_plain T.fd_law_plain ["box"] (spPlain K) := by
  refine T.F_law_plain.ok sc_law_plain (fun vs H Q E h => ?_) (fun cdv A outer s0 H vs Q E hr h => ?_)
  · obtain ⟨p, n, rfl, _⟩ := h; rfl
  · obtain ⟨p, n, rfl, hb, hn, q⟩ := h
    refine ⟨_, (pss_cons (ps_set (i := 1) sc_law_plain.nd rfl (Or.inl rfl) (pe_call (ok_law_first T) (hr.mono (by decide)) rfl T.g_law_first T.F_law_first.kp T.b_law_first .nil pass0 (pa_cons (pv 0) pa_nil)))
      (pss_cons (ps_set (i := 2) sc_law_plain.nd rfl (Or.inl rfl) (pe_op op_add pe_int (pe_call (ok_law_take T) (hr.mono (by decide)) rfl T.g_law_take T.F_law_take.kp T.b_law_take .nil pass0 (pa_cons (pv 0) (pa_cons (pe_callB (call_min2 rfl) (by rfl) T.z_min (by decide +kernel) (pa_cons pe_int (pa_cons (pe_callB call_len_seq (by rfl) T.z_len (by decide +kernel) (pa_cons (pv 1) pa_nil)) pa_nil))) pa_nil)))))
      (Evl.pss_cut (ps_if (pt_cmpR op_gt (pe_op op_sub (pe_ix ix_list (pv 1) (pe_un un_neg pe_int) (fun _ _ => rfl)) (pe_ix ix_list (pv 1) (pe_op op_sub (pe_callB call_len_seq (by rfl) T.z_len (by decide +kernel) (pa_cons (pv 1) pa_nil)) (pv 2)) (fun _ _ => rfl))) pe_int (nomark _)) (pss_one (ps_set (i := 2) sc_law_plain.nd rfl (Or.inl rfl) pe_int)) pss_nil)
      (pss_cons (ps_set (i := 3) sc_law_plain.nd rfl (Or.inl rfl) (pe_op op_sub (pe_ix ix_list (pv 1) (pe_un un_neg pe_int) (fun _ _ => rfl)) (pe_ix ix_list (pv 1) (pe_op op_sub (pe_callB call_len_seq (by rfl) T.z_len (by decide +kernel) (pa_cons (pv 1) pa_nil)) (pv 2)) (fun _ _ => rfl))))
      (pss_cons (ps_set (i := 4) sc_law_plain.nd rfl (Or.inl rfl) (pe_ix ix_list (pe_lst (pa_cons (pv 3) (pa_cons (pv 3) (pa_cons (pe_op op_add (pv 3) (pe_call (ok_law_take T) (hr.mono (by decide)) rfl T.g_law_take T.F_law_take.kp T.b_law_take .nil pass0 (pa_cons (pv 0) (pa_cons (pe_op op_sub pe_int (pv 3)) pa_nil)))) (pa_cons pe_int pa_nil))))) (pe_call (ok_law_take T) (hr.mono (by decide)) rfl T.g_law_take T.F_law_take.kp T.b_law_take .nil pass0 (pa_cons (pv 0) (pa_cons pe_int pa_nil))) (fun _ _ => rfl)))
      (pss_one (ps_ret (pe_lst (pa_cons (pv 1) (pa_cons (pv 2) (pa_cons (pv 4) pa_nil))))))))))), ?_⟩
    refine ⟨_, rfl, p, n, rfl, hb, by omega, fun F ns H1 k1 b1 eF nF fo l8 => ?_⟩
    have l1 := fo.l1
    have nFp : F ≠ p := fun z => hb.some (by rw [← z]; exact nF)
    refine ⟨_, rfl, _, rfl, F, _, rfl, .inl (SqL.of eF), _, _, rfl, p, _, _, rfl, b1, by omega, by rw [List.length_map]; split <;> omega, by rw [List.length_map]; split <;> omega, fun d o hd ho => ⟨_, _, rfl, rfl, ?_⟩⟩
    rw [List.length_map] at hd
    have hd4 : d < 4 := by split at hd <;> omega
    have hdl : d < ns.length := by split at hd <;> omega
    obtain ⟨H2, e2⟩ : ∃ H2, H2 = upd H1 p o := ⟨_, rfl⟩
    have k2 : Kp p H H2 := by rw [e2]; exact k1.upd
    have b2 : BoxAt H2 p (n + 21) := by rw [e2]; exact ho.at
    have eF2 : H2 F = some (.lst (ns.map V.int)) := by rw [e2, upd_ne nFp]; exact eF
    rw [← e2]
    have ixp : ∀ pn : Nat, pn ≤ ns.length → (((ns.map V.int).length : Int) - (pn : Int)) = ((ns.length - pn : Nat) : Int) := fun pn h => by rw [List.length_map]; omega
    refine ⟨fun σ H' => ∃ pn : Nat, σ = [some (.ref p), some (.ref F), some (.int (pn : Int)), none, none] ∧ H' = H2 ∧ 1 ≤ pn ∧ pn ≤ 4 ∧ pn ≤ ns.length ∧ ns.getD (ns.length - 1) 0 - ns.getD (ns.length - pn) 0 ≤ 12, ?_, ?_⟩
    · refine ⟨_, rfl, 1, rfl, F, _, _, _, rfl, rfl, SqL.of eF2, (show atI _ (-1) = _ from at_neg (k := 1) (by omega) l1), _, rfl, _, rfl, F, _, rfl, .inl (SqL.of eF2), _, rfl, _, _, rfl, rfl, ?_⟩
      dsimp only
      rw [show (1 : Int) + (d : Int) = ((1 + d : Nat) : Int) by omega, ixp (1 + d) (by omega)]
      refine ⟨F, _, _, _, rfl, rfl, SqL.of eF2, at_int (by omega), _, _, rfl, rfl, _, _, rfl, rfl, _, rfl, ite2 (fun c => ?_) (fun c => ?_)⟩
      · exact ⟨1, rfl, rfl, by omega, by omega, l1, by omega⟩
      · have c' : ¬ (12 : Int) < ns.getD (ns.length - 1) 0 - ns.getD (ns.length - (1 + d)) 0 := fun z => c (decide_eq_true z)
        exact ⟨1 + d, rfl, rfl, by omega, by omega, by omega, by omega⟩
    · rintro σ H' ⟨pn, rfl, rfl, p1, p4, pl, p12⟩
      have low : 0 ≤ ns.getD (ns.length - 1) 0 - ns.getD (ns.length - pn) 0 := by
        have := fo.mono (ns.length - 1) (ns.length - pn) (by omega) (by omega); omega
      refine ⟨_, rfl, 1, rfl, F, _, _, _, rfl, rfl, SqL.of eF2, (show atI _ (-1) = _ from at_neg (k := 1) (by omega) l1), _, rfl, _, rfl, F, _, rfl, .inl (SqL.of eF2), _, rfl, _, _, rfl, rfl, ?_⟩
      dsimp only
      rw [ixp pn pl]
      refine ⟨F, _, _, _, rfl, rfl, SqL.of eF2, at_int (by omega), _, _, rfl, rfl, ?_⟩
      obtain ⟨le, ele⟩ : ∃ le : Nat, ns.getD (ns.length - 1) 0 - ns.getD (ns.length - pn) 0 = le := ⟨(ns.getD (ns.length - 1) 0 - ns.getD (ns.length - pn) 0).toNat, by omega⟩
      rw [ele] at p12
      dsimp only
      rw [ele]
      refine ⟨_, rfl, _, rfl, _, rfl, _, rfl, _, rfl, _, _, rfl, rfl, p, _, (13 - (le : Int)), rfl, b2, by omega, by omega, by omega, fun d2 o2 hd2 ho2 => ⟨_, _, rfl, rfl, (by show 4 ≤ sizeLine; decide), fun M hM => ?_⟩⟩
      have nM : M ≠ p := by
        intro z; rw [z, upd_same] at hM; cases hM
      have b3 : BoxAt (upd (upd H' p o2) M (.lst [.int (le : Int), .int (le : Int), .int ((le : Int) + (d2 : Int)), .int 12])) p (n + 22) := ho2.at.other nM.symm
      refine ⟨_, rfl, p, _, 4, rfl, b3, by omega, by omega, by omega, fun d3 o3 hd3 ho3 => ?_⟩
      obtain ⟨H4, e4⟩ : ∃ H4, H4 = upd (upd (upd H' p o2) M (.lst [.int (le : Int), .int (le : Int), .int ((le : Int) + (d2 : Int)), .int 12])) p o3 := ⟨_, rfl⟩
      have k4 : Kp p H H4 := by rw [e4]; exact ((k2.upd).new hM).upd
      have b4 : BoxAt H4 p (n + 23) := by rw [e4]; exact ho3.at
      have eM : H4 M = some (.lst [.int (le : Int), .int (le : Int), .int ((le : Int) + (d2 : Int)), .int 12]) := by rw [e4, upd_ne nM]; exact upd_same
      have nFM : F ≠ M := fun z => by rw [← z, upd_ne nFp, eF2] at hM; cases hM
      have eF4 : H4 F = some (.lst (ns.map V.int)) := by rw [e4, upd_ne nFp, upd_ne nFM, upd_ne nFp]; exact eF2
      obtain ⟨g, hg1, hg2, em⟩ : ∃ g : Int, (le : Int) ≤ g ∧ g ≤ 12 ∧ [V.int (le : Int), .int (le : Int), .int ((le : Int) + (d2 : Int)), .int 12][d3]? = some (.int g) := by
        match d3, hd3 with
        | 0, _ => exact ⟨le, by omega, by omega, rfl⟩
        | 1, _ => exact ⟨le, by omega, by omega, rfl⟩
        | 2, _ => exact ⟨le + d2, by omega, by omega, rfl⟩
        | 3, _ => exact ⟨12, by omega, by omega, rfl⟩
        | d + 4, h => exact absurd h (by omega)
      rw [← e4]
      refine ⟨M, _, _, _, rfl, rfl, SqL.of eM, atI_nat (j := d3) em, ?_⟩
      refine ⟨_, rfl, _, rfl, _, rfl, (by show 3 ≤ sizeLine; decide), fun r hr => ?_⟩
      have nr : r ≠ p := (b4.ne hr).symm
      have nFr : F ≠ r := ne_of_none eF4 hr
      exact q r ns pn g _ (k4.new hr) ((b4.new hr).mono (by omega)) (kp_free k4 b4.some hr) ⟨nr, F, nFp, upd_same, by rw [upd_ne nFr]; exact eF4, ⟨l1, l8, fo.h0, fo.up, fo.top, by omega, by omega, by omega, by omega, by omega, by rw [Int.toNat_natCast]; omega⟩⟩
theorem ok_law_judged (T : Txt K mg) : FnOk P w K mg base CX0 2 T.f_law_judged T.fd_law_judged ["thing"] (spRow K) := by
  refine T.F_law_judged.ok sc_law_judged (fun vs H Q E h => ?_) (fun cdv A outer s H vs Q E hr h => ?_)
  · obtain ⟨x, d, m, rfl, _⟩ := h; rfl
  · obtain ⟨x, d, m, rfl, hd, q⟩ := h
    refine ⟨_, (pss_cons (ps_if (PW.pt (pw_or (pt_not (pt_val (pe_callB call_isi (by rfl) T.z_isinstance (by decide +kernel) (pa_cons (pv 0) (pa_cons (pe_bltn (v := .ty "tuple") (u := .type "tuple") (by rfl) T.z_tuple (by decide +kernel) rfl) pa_nil))))) (pw_or1 (pt_cmpR op_ne (pe_callB call_len_seq (by rfl) T.z_len (by decide +kernel) (pa_cons (pv 0) pa_nil)) pe_int (nomark _))))) (pss_one (ps_ret pe_bl)) pss_nil)
      (pss_cons (ps_asg (pv 0) (pg_tup rfl (pgs_cons (pg_name (i := 1) sc_law_judged.nd rfl (Or.inl rfl)) (pgs_cons (pg_name (i := 2) sc_law_judged.nd rfl (Or.inl rfl)) (pgs_cons (pg_name (i := 3) sc_law_judged.nd rfl (Or.inl rfl)) pgs_nil)))))
      (pss_cons (ps_if (PW.pt (pw_or (pt_not (pt_val (pe_callB call_isiT (by rfl) T.z_isinstance (by decide +kernel) (pa_cons (pv 1) (pa_cons (pe_tup (pa_cons (pe_bltn (v := .ty "list") (u := .type "list") (by rfl) T.z_list (by decide +kernel) rfl) (pa_cons (pe_bltn (v := .ty "tuple") (u := .type "tuple") (by rfl) T.z_tuple (by decide +kernel) rfl) pa_nil))) pa_nil))))) (pw_or (pt_cmpR op_lt (pe_callB call_len_seq (by rfl) T.z_len (by decide +kernel) (pa_cons (pv 1) pa_nil)) pe_int (nomark _)) (pw_or1 (pt_cmpR op_gt (pe_callB call_len_seq (by rfl) T.z_len (by decide +kernel) (pa_cons (pv 1) pa_nil)) pe_int (nomark _)))))) (pss_one (ps_ret pe_bl)) pss_nil)
      (pss_cons (ps_for PassesOwn.never rfl (pi_range1 rfl T.z_range (pa_cons (pe_callB call_len_seq (by rfl) T.z_len (by decide +kernel) (pa_cons (pv 1) pa_nil)) pa_nil)) (pg_name (i := 4) sc_law_judged.nd rfl (Or.inl rfl)) (pss_one (ps_if (PW.pt (pw_or (pt_not (pt_val (pe_call (ok_law_is_count T) (hr.mono (by decide)) rfl T.g_law_is_count T.F_law_is_count.kp T.b_law_is_count .nil pass0 (pa_cons (pe_ix ix_q (pv 1) (pv 4) (fun _ _ => rfl)) pa_nil)))) (pw_or (pt_cmpR op_gt (pe_ix ix_q (pv 1) (pv 4) (fun _ _ => rfl)) pe_int (nomark _)) (pw_or1 (pt_cmpR op_lt (pe_ix ix_q (pv 1) (pv 4) (fun _ _ => rfl)) (pe_ix ix_q (pv 1) (pe_callB (call_max2 rfl) (by rfl) T.z_max (by decide +kernel) (pa_cons pe_int (pa_cons (pe_op op_sub (pv 4) pe_int) pa_nil))) (fun _ _ => rfl)) (nomark _)))))) (pss_one (ps_ret pe_bl)) pss_nil)))
      (pss_cons (ps_if (PW.pt (pw_or (pt_cmpR op_ne (pe_ix ix_q (pv 1) pe_int (fun _ _ => rfl)) pe_int (nomark _)) (pw_or (pt_not (pt_val (pe_call (ok_law_is_count T) (hr.mono (by decide)) rfl T.g_law_is_count T.F_law_is_count.kp T.b_law_is_count .nil pass0 (pa_cons (pv 2) pa_nil)))) (pw_or (pt_cmpR op_lt (pv 2) pe_int (nomark _)) (pw_or (pt_cmpR op_gt (pv 2) pe_int (nomark _)) (pw_or1 (pt_cmpR op_gt (pv 2) (pe_callB call_len_seq (by rfl) T.z_len (by decide +kernel) (pa_cons (pv 1) pa_nil)) (nomark _)))))))) (pss_one (ps_ret pe_bl)) pss_nil)
      (pss_cons (ps_if (PW.pt (pw_or (pt_not (pt_val (pe_call (ok_law_is_count T) (hr.mono (by decide)) rfl T.g_law_is_count T.F_law_is_count.kp T.b_law_is_count .nil pass0 (pa_cons (pv 3) pa_nil)))) (pw_or1 (pt_cmpR op_gt (pv 3) pe_int (nomark _))))) (pss_one (ps_ret pe_bl)) pss_nil)
      (pss_one (ps_ret (pe_cmpR op_ge (pe_op op_add (pe_ix ix_q (pv 1) (pe_op op_sub (pe_callB call_len_seq (by rfl) T.z_len (by decide +kernel) (pa_cons (pv 1) pa_nil)) (pv 2)) (fun _ _ => rfl)) (pv 3)) (pe_ix ix_q (pv 1) (pe_un un_neg pe_int) (fun _ _ => rfl)) (nomark _)))))))))), ?_⟩
    refine ⟨_, rfl, _, _, _, _, isTupD d, rfl, .ty _, hd.ty, kit_tupD d, _, rfl, ?_⟩
    cases d with
    | tuple ds =>
      obtain ⟨r, xs, rfl, hR, ha⟩ := hd.tup_of
      have hl := ha.len
      refine iteF ⟨_, rfl, r, xs, rfl, .inr hR, rfl, _, rfl, ?_⟩
      have bad : ¬ RowD (.tuple ds) → ∀ H', Same H H' → Q (.bl false) H' := fun h H' s' => by rw [rowB_f h] at q; exact q H' s'
      by_cases c3 : ds.length = 3
      · rw [decide_eq_true (show V.int (xs.length : Int) = V.int 3 by rw [hl, c3]; rfl)]
        match ds, c3, ha, q, bad with
        | [f, pd, gd], _, ha, q, bad =>
          obtain ⟨x0, ys, rfl, h0, ha⟩ := ha.cons_of
          obtain ⟨x1, ys, rfl, h1, ha⟩ := ha.cons_of
          obtain ⟨x2, ys, rfl, h2, ha⟩ := ha.cons_of
          obtain rfl := ha.nil_of
          refine iteF ⟨_, rfl, r, _, rfl, hR, rfl, _, _, rfl, _, _, rfl, _, _, rfl, rfl, ?_⟩
          refine ⟨_, rfl, (by show 2 ≤ sizeLine; decide), fun tp htp => ⟨_, tp, _, _, [.type "list", .type "tuple"], isSqD f, rfl, upd_same, .cons (.ty _) (.cons (.ty _) .nil), (h0.ext (Same.new (Same.refl H) htp)).ty, kit_sqD f, _, rfl, ?_⟩⟩
          have s1 : Same H (upd H tp (.tup [.ty "list", .ty "tuple"])) := Same.new (Same.refl H) htp
          generalize upd H tp (.tup [.ty "list", .ty "tuple"]) = H1 at s1 ⊢
          cases hf : isSqD f with
          | false =>
            refine iteT (iteT (bad (fun h => ?_) _ s1))
            obtain ⟨ns, p, g, _, _, e, _⟩ := h.inv
            rcases e with rfl | rfl <;> cases hf
          | true =>
            obtain ⟨es, he⟩ : ∃ es, f = .list es ∨ f = .tuple es := by
              cases f with
              | list es => exact ⟨es, .inl rfl⟩
              | tuple es => exact ⟨es, .inr rfl⟩
              | _ => cases hf
            obtain ⟨a, ys, rfl, hq, hes⟩ := (h0.ext s1).lst_q he
            have le := hes.len
            have nl : ¬ (1 ≤ es.length ∧ es.length ≤ 8) → ¬ RowD (.tuple [f, pd, gd]) := fun z h => by
              obtain ⟨ns, p, g, _, _, e, rn⟩ := h.es he
              rw [e, List.length_map] at z
              exact z ⟨rn.l1, rn.l8⟩
            refine iteF ⟨_, rfl, a, ys, rfl, hq, _, _, rfl, rfl, _, rfl, ite2 (fun c1 => ?_) (fun c1 => ?_)⟩
            · have c1' : (ys.length : Int) < 1 := of_decide_eq_true c1
              exact iteT (bad (nl fun z => by omega) _ s1)
            have c1' : ¬ (ys.length : Int) < 1 := fun z => c1 (decide_eq_true z)
            refine ⟨_, rfl, a, ys, rfl, hq, _, _, rfl, rfl, _, rfl, ite2 (fun c2 => ?_) (fun c2 => ?_)⟩
            · have c2' : (8 : Int) < (ys.length : Int) := of_decide_eq_true c2
              exact bad (nl fun z => by omega) _ s1
            have c2' : ¬ (8 : Int) < (ys.length : Int) := fun z => c2 (decide_eq_true z)
            refine ⟨_, rfl, a, ys, rfl, hq, (ys.length : Int), rfl, by omega, by omega, ?_⟩
            rw [Int.toNat_natCast]
            have inv : RowD (.tuple [f, pd, gd]) → ∃ ms p g, pd = .int p ∧ gd = .int g ∧ es = ms.map PyData.int ∧ RowN ms p g := fun h => by
              obtain ⟨ms, p, g, e1, e2, e, rn⟩ := h.es he
              exact ⟨ms, p, g, e1, e2, e, rn⟩
            refine for_range (lo := 0) (n := ys.length) (fun i σ H' => ∃ (x4 : Option V) (ns : List Int), σ = [some (.ref r), some (.ref a), some x1, some x2, x4] ∧ H' = H1 ∧ ns.length = i ∧ es.take i = ns.map PyData.int ∧ (∀ n ∈ ns, n ≤ 40) ∧ Up ns) ⟨none, [], rfl, rfl, rfl, rfl, (fun n h => by cases h), fun i h => absurd h (Nat.not_lt_zero _)⟩ ?_ ?_
            · rintro i σ H' hi ⟨x4, ns, rfl, rfl, ln, en, hn, up⟩
              rw [Int.zero_add]
              have hx : ys[i]? = some ys[i] := List.getElem?_eq_getElem hi
              obtain ⟨e, hE, dx⟩ := hes.at i _ hx
              generalize ys[i] = y at hx dx
              refine ⟨_, rfl, _, rfl, hq.ix (atI_nat hx) ⟨y, e, m, rfl, dx, _, rfl, ?_⟩⟩
              have get : ∀ ms : List Int, es = ms.map PyData.int → i < ms.length ∧ e = .int (ms.getD i 0) := fun ms z => by
                rw [z, List.getElem?_map] at hE
                have hlt : i < ms.length := by
                  have : ys.length = ms.length := by rw [le, z, List.length_map]
                  omega
                rw [List.getElem?_eq_getElem hlt] at hE
                refine ⟨hlt, ?_⟩
                rw [List.getD_eq_getElem?_getD, List.getElem?_eq_getElem hlt]
                exact (Option.some.inj hE).symm
              cases e with
              | int v =>
                obtain rfl := dx.int_of
                show if (!decide (0 ≤ v)) = true then _ else _
                cases c4 : decide (0 ≤ v) with
                | false =>
                  refine iteT (iteT (bad (fun h => ?_) _ s1))
                  obtain ⟨ms, p, g, _, _, z, rn⟩ := inv h
                  obtain ⟨hlt, ev⟩ := get ms z
                  have := rn.nn hlt
                  injection ev with ev
                  exact of_decide_eq_false c4 (by omega)
                | true =>
                  have c4' := of_decide_eq_true c4
                  refine iteF ⟨_, rfl, _, rfl, hq.ix (atI_nat hx) ⟨_, _, rfl, rfl, _, rfl, ite2 (fun c5 => ?_) (fun c5 => ?_)⟩⟩
                  · refine iteT (bad (fun h => ?_) _ s1)
                    have c5' := of_decide_eq_true c5
                    obtain ⟨ms, p, g, _, _, z, rn⟩ := inv h
                    obtain ⟨hlt, ev⟩ := get ms z
                    have := rn.le hlt
                    injection ev with ev
                    omega
                  · have c5' : ¬ (40 : Int) < v := fun z => c5 (decide_eq_true z)
                    obtain ⟨u, hu, u0, u1⟩ : ∃ u : Int, ys[i - 1]? = some (.int u) ∧ (i = 0 → u = v) ∧ (0 < i → u = ns.getD (i - 1) 0) := by
                      rcases Nat.eq_zero_or_pos i with z | z
                      · exact ⟨v, by rw [z] at hx ⊢; exact hx, fun _ => rfl, fun z' => absurd z' (by omega)⟩
                      · have hlt : i - 1 < ys.length := by omega
                        have hy := List.getElem?_eq_getElem hlt
                        obtain ⟨e', hE', dx'⟩ := hes.at (i - 1) _ hy
                        have hn1 : i - 1 < ns.length := by omega
                        have e1 : (es.take i)[i - 1]? = some (.int (ns.getD (i - 1) 0)) := by
                          rw [en, List.getElem?_map, List.getElem?_eq_getElem hn1, List.getD_eq_getElem?_getD, List.getElem?_eq_getElem hn1]; rfl
                        rw [List.getElem?_take, if_pos (by omega), hE'] at e1
                        have e2 := Option.some.inj e1
                        subst e2
                        exact ⟨_, by rw [hy, dx'.int_of], fun z' => absurd z' (by omega), fun _ => rfl⟩
                    refine ⟨_, rfl, _, rfl, hq.ix (atI_nat hx) ⟨_, rfl, _, rfl, _, _, rfl, rfl, _, _, rfl, ?_⟩⟩
                    dsimp only
                    rw [show (if (i : Int) - 1 > 0 then (i : Int) - 1 else 0) = ((i - 1 : Nat) : Int) by split <;> omega]
                    refine hq.ix (atI_nat hu) ⟨_, _, rfl, rfl, _, rfl, ite2 (fun c6 => ?_) (fun c6 => ?_)⟩
                    · have c6' : v < u := of_decide_eq_true c6
                      refine bad (fun h => ?_) _ s1
                      obtain ⟨ms, p, g, _, _, z, rn⟩ := inv h
                      obtain ⟨hlt, ev⟩ := get ms z
                      injection ev with ev
                      rcases Nat.eq_zero_or_pos i with z0 | z0
                      · have := u0 z0; omega
                      · have := u1 z0
                        have e3 : ns.getD (i - 1) 0 = ms.getD (i - 1) 0 := by
                          have e4 : (ns.map PyData.int)[i - 1]? = (ms.map PyData.int)[i - 1]? := by rw [← en, List.getElem?_take, if_pos (by omega), z]
                          rw [List.getElem?_map, List.getElem?_map, List.getElem?_eq_getElem (by omega), List.getElem?_eq_getElem (by omega : i - 1 < ms.length)] at e4
                          rw [List.getD_eq_getElem?_getD, List.getD_eq_getElem?_getD, List.getElem?_eq_getElem (by omega), List.getElem?_eq_getElem (by omega : i - 1 < ms.length)]
                          exact PyData.int.inj (Option.some.inj e4)
                        have := rn.mono i (i - 1) (by omega) hlt
                        omega
                    · have c6' : ¬ v < u := fun z => c6 (decide_eq_true z)
                      refine ⟨_, ns ++ [v], rfl, rfl, by rw [List.length_append, ln]; rfl, by rw [List.take_add_one, hE, en, List.map_append]; rfl, fun n hm => ?_, fun j hj => ?_⟩
                      · rcases List.mem_append.mp hm with z | z
                        · exact hn n z
                        · rw [List.mem_singleton.mp z]; omega
                      · rw [List.length_append] at hj
                        have hj' : j < ns.length := by simp at hj; exact hj
                        rw [getD_lt hj']
                        by_cases c : j + 1 < ns.length
                        · rw [getD_lt c]; exact up j c
                        · have e : j + 1 = ns.length := by omega
                          rw [e, getD_end]
                          have := u1 (by omega)
                          rw [show j = i - 1 by omega]
                          omega
              | _ =>
                refine iteT (iteT (bad (fun h => ?_) _ s1))
                obtain ⟨ms, p, g, _, _, z, rn⟩ := inv h
                obtain ⟨hlt, ev⟩ := get ms z
                cases ev
            · rintro σ H' ⟨x4, ns, rfl, rfl, ln, en, hn, up⟩
              rw [le, List.take_length] at en
              subst en
              obtain rfl := dg_ints hes
              rw [List.length_map] at c1' c2' ln
              have l1 : 1 ≤ ns.length := by omega
              have l8 : ns.length ≤ 8 := by omega
              have inv2 : RowD (.tuple [f, pd, gd]) → ∃ p g, pd = .int p ∧ gd = .int g ∧ RowN ns p g := fun h => by
                obtain ⟨ms, p, g, e1, e2, e, rn⟩ := inv h
                rw [map_int_inj e]
                exact ⟨p, g, e1, e2, rn⟩
              have top : ns.getD (ns.length - 1) 0 ≤ 40 := hn _ (by
                rw [List.getD_eq_getElem?_getD, List.getElem?_eq_getElem (by omega : ns.length - 1 < ns.length)]
                exact List.getElem_mem _)
              refine ⟨_, rfl, hq.ix (show atI _ 0 = _ from at_int (i := 0) (by omega)) ⟨rfl, _, rfl, ?_⟩⟩
              show if (!decide (V.int (ns.getD 0 0) = V.int 0)) = true then _ else _
              by_cases z0 : ns.getD 0 0 = 0
              · rw [decide_eq_true (congrArg V.int z0)]
                have h1' := h1.ext s1
                have h2' := h2.ext s1
                refine iteF ⟨_, rfl, x1, pd, m, rfl, h1', _, rfl, ?_⟩
                cases pd with
                | int p =>
                  obtain rfl := h1.int_of
                  show if (!decide (0 ≤ p)) = true then _ else _
                  cases c4 : decide (0 ≤ p) with
                  | false =>
                    refine iteT (iteT (bad (fun h => ?_) _ s1))
                    obtain ⟨p', g', e, _, rn⟩ := inv2 h
                    obtain rfl : p = p' := PyData.int.inj e
                    have := rn.p1
                    exact of_decide_eq_false c4 (by omega)
                  | true =>
                    have c4' := of_decide_eq_true c4
                    refine iteF ⟨_, rfl, _, _, rfl, rfl, _, rfl, ite2 (fun c5 => ?_) (fun c5 => ⟨_, rfl, _, _, rfl, rfl, _, rfl, ite2 (fun c6 => ?_) (fun c6 => ⟨_, rfl, _, rfl, a, _, rfl, hq, _, _, rfl, rfl, _, rfl, ?_⟩)⟩)⟩
                    · refine iteT (bad (fun h => ?_) _ s1)
                      have c5' : p < 1 := of_decide_eq_true c5
                      obtain ⟨p', g', e, _, rn⟩ := inv2 h
                      obtain rfl : p = p' := PyData.int.inj e
                      have := rn.p1
                      omega
                    · refine iteT (bad (fun h => ?_) _ s1)
                      have c6' : 4 < p := of_decide_eq_true c6
                      obtain ⟨p', g', e, _, rn⟩ := inv2 h
                      obtain rfl : p = p' := PyData.int.inj e
                      have := rn.p4
                      omega
                    have c5' : ¬ p < 1 := fun z => c5 (decide_eq_true z)
                    have c6' : ¬ 4 < p := fun z => c6 (decide_eq_true z)
                    rw [List.length_map]
                    refine ite2 (fun c7 => ?_) (fun c7 => ?_)
                    · refine bad (fun h => ?_) _ s1
                      have c7' : (ns.length : Int) < p := of_decide_eq_true c7
                      obtain ⟨p', g', e, _, rn⟩ := inv2 h
                      obtain rfl : p = p' := PyData.int.inj e
                      have := rn.pl
                      omega
                    have c7' : ¬ (ns.length : Int) < p := fun z => c7 (decide_eq_true z)
                    obtain ⟨pn, rfl⟩ : ∃ pn : Nat, p = pn := ⟨p.toNat, by omega⟩
                    refine ⟨_, rfl, x2, gd, m, rfl, h2', _, rfl, ?_⟩
                    cases gd with
                    | int g =>
                      obtain rfl := h2.int_of
                      show if (!decide (0 ≤ g)) = true then _ else _
                      cases c8 : decide (0 ≤ g) with
                      | false =>
                        refine iteT (iteT (bad (fun h => ?_) _ s1))
                        obtain ⟨p', g', _, e, rn⟩ := inv2 h
                        obtain rfl : g = g' := PyData.int.inj e
                        exact of_decide_eq_false c8 rn.g0
                      | true =>
                        have c8' := of_decide_eq_true c8
                        refine iteF ⟨_, rfl, _, _, rfl, rfl, _, rfl, ite2 (fun c9 => ?_) (fun c9 => ?_)⟩
                        · refine bad (fun h => ?_) _ s1
                          have c9' : 12 < g := of_decide_eq_true c9
                          obtain ⟨p', g', _, e, rn⟩ := inv2 h
                          obtain rfl : g = g' := PyData.int.inj e
                          have := rn.g12
                          omega
                        have c9' : ¬ 12 < g := fun z => c9 (decide_eq_true z)
                        refine ⟨_, rfl, _, rfl, a, _, rfl, hq, _, rfl, _, _, rfl, rfl, ?_⟩
                        dsimp only
                        rw [show (((ns.map V.int).length : Int) - (pn : Int)) = ((ns.length - pn : Nat) : Int) by rw [List.length_map]; omega]
                        refine hq.ix (at_int (by omega)) ⟨_, rfl, _, _, rfl, rfl, _, rfl, 1, rfl, hq.ix (show atI _ (-1) = _ from at_neg (k := 1) (by omega) l1) ⟨_, _, rfl, rfl, ?_⟩⟩
                        have e : decide (ns.getD (ns.length - 1) 0 ≤ ns.getD (ns.length - pn) 0 + g) = rowB (.tuple [f, .int (pn : Int), .int g]) := by
                          by_cases c8 : ns.getD (ns.length - 1) 0 ≤ ns.getD (ns.length - pn) 0 + g
                          · rw [decide_eq_true c8, rowB_t ⟨f, ns, pn, g, rfl, he, ⟨l1, l8, z0, up, top, by omega, by omega, by omega, c8', by omega, c8⟩⟩]
                          · rw [decide_eq_false c8, rowB_f fun h => ?_]
                            obtain ⟨p', g', e1, e2, rn⟩ := inv2 h
                            obtain rfl : (pn : Int) = p' := PyData.int.inj e1
                            obtain rfl : g = g' := PyData.int.inj e2
                            exact c8 rn.no
                        show Q (.bl (decide (ns.getD (ns.length - 1) 0 ≤ ns.getD (ns.length - pn) 0 + g))) _
                        rw [e]
                        exact q _ s1
                    | _ => exact iteT (iteT (bad (fun h => by obtain ⟨p', g', _, e, rn⟩ := inv2 h; cases e) _ s1))
                | _ => exact iteT (iteT (bad (fun h => by obtain ⟨p', g', e, _, rn⟩ := inv2 h; cases e) _ s1))
              · rw [decide_eq_false (fun e => z0 (V.int.inj e))]
                refine iteT (iteT (bad (fun h => ?_) _ s1))
                obtain ⟨p, g, _, _, rn⟩ := inv2 h
                exact z0 rn.h0
      · rw [decide_eq_false (show ¬ V.int (xs.length : Int) = V.int 3 from fun z => c3 (by have := V.int.inj z; omega))]
        refine iteT (bad (fun h => ?_) _ (Same.refl _))
        obtain ⟨ds', a, b, c, e, e2⟩ := row_three h
        injection e with e
        rw [e, e2] at c3
        exact c3 rfl
    | _ => exact iteT (iteT (by rw [rowB_f (fun h => by obtain ⟨f, ns, p, g, e, _⟩ := h; cases e)] at q; exact q _ (Same.refl _)))
end
end My

set_option Elab.async false
set_option linter.all false
set_option maxRecDepth 100000
set_option maxHeartbeats 8000000
namespace My
open PySem PySem.Spec PyProof.Rows L2
theorem sub_all {ns : List Int} {p : Nat} {g : Int} (p1 : 1 ≤ p) (pl : p ≤ ns.length) (S : SubN ns p g) : ∀ s m k, m + k = s → numAt ns p g (m + k) ≤ numAt ns p g m + numAt ns p g k := by
  intro s
  induction s using Nat.strongRecOn with
  | _ s ih =>
    intro m k e
    by_cases c : ns.length ≤ m
    · have := ih (s - p) (by omega) (m - p) k (by omega)
      rw [numAt_step (n := m + k) (by omega) p1 pl, numAt_step (n := m) c p1 pl, show m + k - p = m - p + k by omega]
      omega
    · by_cases c2 : ns.length ≤ k
      · have := ih (s - p) (by omega) m (k - p) (by omega)
        rw [numAt_step (n := m + k) (by omega) p1 pl, numAt_step (n := k) c2 p1 pl, show m + k - p = m + (k - p) by omega]
        omega
      · rcases Nat.le_total m k with d | d
        · exact S m k d (by omega)
        · have := S k m d (by omega)
          rw [Nat.add_comm m k]; omega
section
variable {P : Program} {w : World} {K : PySem.W.Frag} {mg : Str → Option Value} {base : Heap}
theorem ok_law_is_subadditive (T : Txt K mg) : FnOk P w K mg base CX0 2 T.f_law_is_subadditive T.fd_law_is_subadditive ["plain"] (fun vs H Q _ => ∃ L ns p g, vs = [.ref L] ∧ Pln K H L ns p g ∧ ∀ b H', (b = true ↔ SubN ns p g) → Same H H' → Q (.bl b) H') := by
  refine T.F_law_is_subadditive.ok sc_law_is_subadditive (fun vs H Q E h => ?_) (fun cdv A outer s H vs Q E hr h => ?_)
  · obtain ⟨L, ns, p, g, rfl, _⟩ := h; rfl
  · obtain ⟨L, ns, p, g, rfl, hP, q⟩ := h
    refine ⟨_, (pss_cons (ps_set (i := 1) sc_law_is_subadditive.nd rfl (Or.inl rfl) (pe_op op_add (pe_op op_add (pe_callB call_len_seq (by rfl) T.z_len (by decide +kernel) (pa_cons (pe_ix ix_list (pv 0) pe_int (fun _ _ => rfl)) pa_nil)) (pe_ix ix_list (pv 0) pe_int (fun _ _ => rfl))) pe_int))
      (pss_cons (ps_set (i := 2) sc_law_is_subadditive.nd rfl (Or.inr rfl) (pe_call (ok_law_numbers T) (hr.mono (by decide)) rfl T.g_law_numbers T.F_law_numbers.kp T.b_law_numbers .nil pass0 (pa_cons (pv 0) (pa_cons (pe_op op_mul pe_int (pv 1)) pa_nil))))
      (pss_cons (ps_for PassesOwn.never rfl (pi_range1 rfl T.z_range (pa_cons (pv 1) pa_nil)) (pg_name (i := 3) sc_law_is_subadditive.nd rfl (Or.inr rfl)) (pss_one (ps_if (pt_cmpR (op_ne_nil (un0 hr)) (pe_lc (own := [("k", 4)]) (g := gName 4) (by rfl) sc_law_is_subadditive.nd (pi_range1 rfl T.z_range (pa_cons (pv 1) pa_nil)) (blkOk_by (own := [("k", 4)]) (N := N_law_is_subadditive) (sc := defScope s_law_is_subadditive) (by decide +kernel)) (fun _ _ _ _ _ => pg_name (i := 4) sc_law_is_subadditive.nd rfl (Or.inl rfl)) (fun _ _ _ _ _ => (pts_one (pt_cmpR op_gt (pe_ix (ix_listK (K := K) rfl) (pv 2) (pe_op op_add (pv 3) (pv 4)) (fun _ _ => rfl)) (pe_op op_add (pe_ix (ix_listK (K := K) rfl) (pv 2) (pv 3) (fun _ _ => rfl)) (pe_ix (ix_listK (K := K) rfl) (pv 2) (pv 4) (fun _ _ => rfl))) (nomark _)))) (fun _ _ _ _ _ => (pv 4))) (pe_lst pa_nil) (nomark _)) (pss_one (ps_ret pe_bl)) pss_nil)))
      (pss_one (ps_ret pe_bl))))), ?_⟩
    obtain ⟨F, eL, eF, rn⟩ := id hP
    have l8 := rn.l8
    have p1 := rn.p1
    have p4 := rn.p4
    have pl := rn.pl
    refine ⟨_, rfl, L, _, _, _, rfl, rfl, SqL.of eL, atI_nat (j := 0) rfl, F, _, rfl, .inl (SqL.of eF), _, rfl, L, _, _, _, rfl, rfl, SqL.of eL, atI_nat (j := 1) rfl, _, _, rfl, rfl, _, _, rfl, rfl, ?_⟩
    obtain ⟨sz, esz⟩ : ∃ sz : Nat, sz = ns.length + p + 1 := ⟨_, rfl⟩
    dsimp only
    rw [show (((ns.map V.int).length : Int) + (p : Int) + 1) = (sz : Int) by rw [List.length_map]; omega]
    refine ⟨_, rfl, _, rfl, _, _, rfl, rfl, .inl ⟨by omega, by omega⟩, L, ns, p, g, 2 * sz, congrArg (fun z => [V.ref L, V.int z]) (by omega : (2 : Int) * (sz : Int) = ((2 * sz : Nat) : Int)), hP, by omega, fun N H1 s1 eN nN => ?_⟩
    refine ⟨_, rfl, (sz : Int), rfl, by omega, by omega, ?_⟩
    rw [Int.toNat_natCast]
    refine for_range (lo := 0) (n := sz) (fun i σ H' => ∃ x3, σ = [some (.ref L), some (.int (sz : Int)), some (.ref N), x3, none] ∧ Same H1 H' ∧ ∀ m k, m < i → k < sz → numAt ns p g (m + k) ≤ numAt ns p g m + numAt ns p g k) ⟨none, rfl, Same.refl _, fun m k h => absurd h (Nat.not_lt_zero _)⟩ ?_ ?_
    · rintro i σ H2 hi ⟨x3, rfl, s2, hall⟩
      rw [Int.zero_add]
      refine ⟨_, rfl, (sz : Int), rfl, by omega, by omega, fun D hD => ?_⟩
      rw [Int.toNat_natCast]
      refine lc_range (lo := 0) (n := sz) (fun j H' => Same H2 H' ∧ ∃ acc : List V, H' D = some (.lst acc) ∧ acc.length ≤ j ∧ (acc = [] ↔ ∀ k, k < j → numAt ns p g (i + k) ≤ numAt ns p g i + numAt ns p g k))
        ⟨Same.new (Same.refl _) hD, [], upd_same, Nat.le_refl _, ⟨fun _ k h => absurd h (Nat.not_lt_zero _), fun _ => rfl⟩⟩ ?_ ?_
      · rintro j H' hj ⟨s', acc, e', la, hiff⟩
        rw [Int.zero_add]
        have eN' := s' _ _ (s2 _ _ eN)
        refine ⟨rfl, ?_⟩
        refine ⟨_, rfl, _, rfl, _, rfl, _, _, rfl, rfl, N, _, _, _, rfl, rfl, SqL.of eN', (show atI _ ((i : Int) + (j : Int)) = some (.int (numAt ns p g (i + j))) by rw [show (i : Int) + (j : Int) = ((i + j : Nat) : Int) by omega]; exact numsV_at (by omega)), _, rfl, _, rfl, N, _, _, _, rfl, rfl, SqL.of eN', numsV_at (by omega), _, rfl, _, rfl, N, _, _, _, rfl, rfl, SqL.of eN', numsV_at (by omega), _, _, rfl, rfl, _, _, rfl, rfl, _, rfl, ite2 (fun c => ?_) (fun c => ?_)⟩
        · have c' := of_decide_eq_true c
          refine ⟨_, rfl, acc, e', Nat.lt_of_lt_of_le (by omega : acc.length < 1000) (by decide), fun b o e => ?_, _, upd_same, by rw [List.length_append]; simp; omega, ⟨fun z => by simp at z, fun z => ?_⟩⟩
          · rw [upd_ne (ne_of_none e hD)]; exact s' b o e
          · have := z j (by omega); omega
        · have c' : ¬ numAt ns p g i + numAt ns p g j < numAt ns p g (i + j) := fun z => c (decide_eq_true z)
          refine ⟨s', acc, e', by omega, ⟨fun z k hk => ?_, fun z => hiff.mpr fun k hk => z k (by omega)⟩⟩
          rcases Nat.lt_or_ge k j with d | d
          · exact hiff.mp z k d
          · have : k = j := by omega
            subst this; omega
      · rintro H' ⟨s', acc, e', la, hiff⟩
        refine ⟨(by show 0 ≤ sizeLine; decide), fun M hM => ⟨D, M, acc, rfl, rfl, by rw [upd_ne (ne_of_none e' hM)]; exact e', upd_same, _, rfl, ?_⟩⟩
        have s3 : Same H2 (upd H' M (.lst [])) := s'.trans (Same.new (Same.refl _) hM)
        show if (!decide (acc = [])) = true then _ else _
        by_cases c : acc = []
        · rw [decide_eq_true c]
          refine iteF ⟨_, rfl, s2.trans s3, fun m k hm hk => ?_⟩
          rcases Nat.lt_or_ge m i with d | d
          · exact hall m k d hk
          · have : m = i := by omega
            subst this; exact hiff.mp c k hk
        · rw [decide_eq_false c]
          exact iteT (q false _ ⟨fun z => Bool.noConfusion z, fun (S : SubN ns p g) => absurd (hiff.mpr fun k _ => sub_all (by omega) (by omega) S _ i k rfl) c⟩ ((s1.trans s2).trans s3))
    · rintro σ H2 ⟨x3, rfl, s2, hall⟩
      exact q true _ ⟨fun _ i j hij hj => hall i j (by omega) (by omega), fun _ => rfl⟩ (s1.trans s2)
theorem kb_row_at_many_row (T : Txt K mg) : KBinds K T.fd_row_at ["row", "many"] ["many", "row"] (fun us ws => match us, ws with | [], [x1, x0] => [x0, x1] | _, _ => []) (fun us ws => match us, ws with | [], [x1, x0] => [x0, x1] | _, _ => []) := by
  obtain ⟨oc, od, kV, doc, pm, an, cdv, ct, osl, e, _, _⟩ := T.F_row_at.ex
  refine ⟨fun s us ws _ hl => ?_, fun r rz => ?_⟩
  · match us, ws, hl with
    | [], [x1, x0], _ =>
      rw [e]
      exact .of_eq rfl
  · match r, rz with
    | .nil, .cons r1 (.cons r0 (.nil)) => exact .cons r0 (.cons r1 (.nil))
    | .nil, .nil => exact .nil
    | .nil, .cons _ (.nil) => exact .nil
    | .nil, .cons _ (.cons _ (.cons _ _)) => exact .nil
    | .cons _ _, _ => exact .nil

theorem kb_built_row (T : Txt K mg) : KBinds K T.fd_built ["row"] ["row"] (fun us ws => match us, ws with | [], [x0] => [x0] | _, _ => []) (fun us ws => match us, ws with | [], [x0] => [x0] | _, _ => []) := by
  obtain ⟨oc, od, kV, doc, pm, an, cdv, ct, osl, e, _, _⟩ := T.F_built.ex
  refine ⟨fun s us ws _ hl => ?_, fun r rz => ?_⟩
  · match us, ws, hl with
    | [], [x0], _ =>
      rw [e]
      exact .of_eq rfl
  · match r, rz with
    | .nil, .cons r0 (.nil) => exact .cons r0 (.nil)
    | .nil, .nil => exact .nil
    | .nil, .cons _ (.cons _ _) => exact .nil
    | .cons _ _, _ => exact .nil

end
end My

set_option Elab.async false
set_option linter.all false
set_option maxRecDepth 100000
set_option maxHeartbeats 8000000
namespace My
open PySem PySem.Spec PyProof.Rows L2
section
variable {P : Program} {w : World} {K : PySem.W.Frag} {mg : Str → Option Value} {base : Heap}
def spTold (K : PySem.W.Frag) : Sp := fun vs H Q _ => ∃ k x d m y e m2, vs = [.int ((k : Nat) : Int), x, y] ∧ k < 6 ∧ Dg K H m x d ∧ Dg K H m2 y e ∧
  (rowB d = false ∨ (rowB d = true ∧ isCn e = false ∧ k < 2)) ∧
  (rowB d = false → ∀ r H', Same H H' → H' r = some (.lst [.str (Str.ofString "row"), x]) → H r = none → Q (.ref r) H') ∧
  (rowB d = true → ∀ r H', Same H H' → H' r = some (.lst [.str (Str.ofString "count"), y]) → H r = none → Q (.ref r) H')
theorem ok_law_told (T : Txt K mg) : FnOk P w K mg base CX0 6 T.f_law_told T.fd_law_told ["door", "thing", "count"] (spTold K) := by
  refine T.F_law_told.ok sc_law_told (fun vs H Q E h => ?_) (fun cdv A outer s0 H vs Q E hr h => ?_)
  · obtain ⟨k, x, d, m, y, e, m2, rfl, _⟩ := h; rfl
  · obtain ⟨k, x, d, m, y, e, m2, rfl, hk, hd, he, pre, kR, kC⟩ := h
    refine ⟨_, (pss_one (ps_tryAll (i := 3) rfl rfl sc_law_told.nd rfl rfl takes0 (fun W pn xe tk _ => (pss_cons (ps_if (pt_cmpR op_eq (pv 0) pe_int (nomark _)) (pss_one (ps_expr (pe_callS (ok_row_at T) (hr.mono (by decide)) rfl T.g_row_at T.F_row_at.kp T.b_row_at (fun σ => passAt tk σ) (pa_cons (pv 1) (pa_cons (pv 2) pa_nil))))) pss_nil)
      (pss_cons (ps_if (pt_cmpR op_eq (pv 0) pe_int (nomark _)) (pss_one (ps_expr (pe_callKS (ok_row_at T) (hr.mono (by decide)) rfl T.g_row_at T.F_row_at.kp (kb_row_at_many_row T) (fun σ => passAt tk σ) (pk_cons (pv 2) (pk_cons (pv 1) pk_nil))))) pss_nil)
      (pss_cons (ps_if (pt_cmpR op_eq (pv 0) pe_int (nomark _)) (pss_one (ps_expr (pe_callS (ok_is_subadditive T) (hr.mono (by decide)) rfl T.g_is_subadditive T.F_is_subadditive.kp T.b_is_subadditive (fun σ => passAt tk σ) (pa_cons (pv 1) pa_nil)))) pss_nil)
      (pss_cons (ps_if (pt_cmpR op_eq (pv 0) pe_int (nomark _)) (pss_one (ps_expr (pe_callS (ok_built T) (hr.mono (by decide)) rfl T.g_built T.F_built.kp T.b_built (fun σ => passAt tk σ) (pa_cons (pv 1) pa_nil)))) pss_nil)
      (pss_cons (ps_if (pt_cmpR op_eq (pv 0) pe_int (nomark _)) (pss_one (ps_expr (pe_callS (ok_built_accepting T) (hr.mono (by decide)) rfl T.g_built_accepting T.F_built_accepting.kp T.b_built_accepting (fun σ => passAt tk σ) (pa_cons (pv 1) pa_nil)))) pss_nil)
      (pss_cons (ps_if (pt_cmpR op_eq (pv 0) pe_int (nomark _)) (pss_one (ps_expr (pe_callKS (ok_built T) (hr.mono (by decide)) rfl T.g_built T.F_built.kp (kb_built_row T) (fun σ => passAt tk σ) (pk_cons (pv 1) pk_nil)))) pss_nil)
      (pss_one (ps_ret (pe_lst pa_nil)))))))))) (.more ⟨rfl, by decide, Or.inl T.e_InvalidRow.gC⟩ (fun a oe cls d pn hz hf => (pss_one (ps_ret (pe_lst (pa_cons pe_str (pa_cons (pe_gvn T.e_InvalidRow hz hf (pv 3)) pa_nil)))))) (.more ⟨rfl, by decide, Or.inl T.e_InvalidCount.gC⟩ (fun a oe cls d pn hz hf => (pss_one (ps_ret (pe_lst (pa_cons pe_str (pa_cons (pe_gvn T.e_InvalidCount hz hf (pv 3)) pa_nil)))))) .last)))), ?_⟩
    have two : 2 ≤ sizeLine := by decide
    have no : ∀ {A : Prop}, rowB d = true → isCn e = true → A := fun ht hc => (pre.elim (fun z => by rw [z] at ht; cases ht) (fun z => by rw [z.2.1] at hc; cases hc))
    have no2 : ∀ {A : Prop}, 2 ≤ k → rowB d = true → A := fun h2 ht => (pre.elim (fun z => by rw [z] at ht; cases ht) (fun z => absurd z.2.2 (by omega)))
    have hf2 : 2 ≤ k → rowB d = false := fun h2 => pre.elim id (fun z => absurd z.2.2 (by omega))
    refine ⟨_, rfl, rfl, _, rfl, ite2 (fun c => ?_) (fun c0 => ⟨_, rfl, rfl, _, rfl, ite2 (fun c => ?_) (fun c1 => ⟨_, rfl, rfl, _, rfl, ite2 (fun c => ?_) (fun c2 => ⟨_, rfl, rfl, _, rfl, ite2 (fun c => ?_) (fun c3 => ⟨_, rfl, rfl, _, rfl, ite2 (fun c => ?_) (fun c4 => ⟨_, rfl, rfl, _, rfl, ite2 (fun c => ?_) (fun c5 => ?_)⟩)⟩)⟩)⟩)⟩)⟩
    · exact ⟨_, rfl, _, rfl, x, d, m, y, e, m2, rfl, hd, he, (fun hf dd H1 s1 hdn ed => ⟨true, T.x_InvalidRow, fun _ a ha => ⟨_, rfl, rfl, rfl, dd, _, rfl, ed, two, fun r hr => kR hf r _ (s1.trans (Same.new (Same.refl _) hr)) upd_same (s1.free hr)⟩, fun z => by cases z⟩), (fun ht hc dd H1 s1 hdn ed => ⟨false, T.no_InvalidCount_InvalidRow, (fun z => by cases z), fun _ => ⟨true, T.x_InvalidCount, fun _ a ha => ⟨_, rfl, rfl, rfl, dd, _, rfl, ed, two, fun r hr => kC ht r _ (s1.trans (Same.new (Same.refl _) hr)) upd_same (s1.free hr)⟩, fun z => by cases z⟩⟩), fun ht hc => no ht hc⟩
    · exact ⟨_, rfl, _, rfl, x, d, m, y, e, m2, rfl, hd, he, (fun hf dd H1 s1 hdn ed => ⟨true, T.x_InvalidRow, fun _ a ha => ⟨_, rfl, rfl, rfl, dd, _, rfl, ed, two, fun r hr => kR hf r _ (s1.trans (Same.new (Same.refl _) hr)) upd_same (s1.free hr)⟩, fun z => by cases z⟩), (fun ht hc dd H1 s1 hdn ed => ⟨false, T.no_InvalidCount_InvalidRow, (fun z => by cases z), fun _ => ⟨true, T.x_InvalidCount, fun _ a ha => ⟨_, rfl, rfl, rfl, dd, _, rfl, ed, two, fun r hr => kC ht r _ (s1.trans (Same.new (Same.refl _) hr)) upd_same (s1.free hr)⟩, fun z => by cases z⟩⟩), fun ht hc => no ht hc⟩
    · have k2 : k = 2 := by have := V.int.inj (of_decide_eq_true c); omega
      exact ⟨_, rfl, x, d, m, rfl, hd, (fun hf dd H1 s1 hdn ed => ⟨true, T.x_InvalidRow, fun _ a ha => ⟨_, rfl, rfl, rfl, dd, _, rfl, ed, two, fun r hr => kR hf r _ (s1.trans (Same.new (Same.refl _) hr)) upd_same (s1.free hr)⟩, fun z => by cases z⟩), fun ht => no2 (by omega) ht⟩
    · have k2 : k = 3 := by have := V.int.inj (of_decide_eq_true c); omega
      exact ⟨_, rfl, x, d, m, rfl, hd, hf2 (by omega), (fun dd H1 s1 hdn ed => ⟨true, T.x_InvalidRow, fun _ a ha => ⟨_, rfl, rfl, rfl, dd, _, rfl, ed, two, fun r hr => kR (hf2 (by omega)) r _ (s1.trans (Same.new (Same.refl _) hr)) upd_same (s1.free hr)⟩, fun z => by cases z⟩)⟩
    · have k2 : k = 4 := by have := V.int.inj (of_decide_eq_true c); omega
      exact ⟨_, rfl, x, d, m, rfl, hd, hf2 (by omega), (fun dd H1 s1 hdn ed => ⟨true, T.x_InvalidRow, fun _ a ha => ⟨_, rfl, rfl, rfl, dd, _, rfl, ed, two, fun r hr => kR (hf2 (by omega)) r _ (s1.trans (Same.new (Same.refl _) hr)) upd_same (s1.free hr)⟩, fun z => by cases z⟩)⟩
    · have k2 : k = 5 := by have := V.int.inj (of_decide_eq_true c); omega
      exact ⟨_, rfl, x, d, m, rfl, hd, hf2 (by omega), (fun dd H1 s1 hdn ed => ⟨true, T.x_InvalidRow, fun _ a ha => ⟨_, rfl, rfl, rfl, dd, _, rfl, ed, two, fun r hr => kR (hf2 (by omega)) r _ (s1.trans (Same.new (Same.refl _) hr)) upd_same (s1.free hr)⟩, fun z => by cases z⟩)⟩
    · exfalso
      have n0 : ¬ k = 0 := fun z => c0 (decide_eq_true (by rw [z]; rfl))
      have n1 : ¬ k = 1 := fun z => c1 (decide_eq_true (by rw [z]; rfl))
      have n2 : ¬ k = 2 := fun z => c2 (decide_eq_true (by rw [z]; rfl))
      have n3 : ¬ k = 3 := fun z => c3 (decide_eq_true (by rw [z]; rfl))
      have n4 : ¬ k = 4 := fun z => c4 (decide_eq_true (by rw [z]; rfl))
      have n5 : ¬ k = 5 := fun z => c5 (decide_eq_true (by rw [z]; rfl))
      omega
def spCopy (K : PySem.W.Frag) : Sp := fun vs H Q _ => ∃ x d m, vs = [x] ∧ Dg K H m x d ∧ (∀ ds, d = .tuple ds → ds.length ≤ 1000) ∧
  ∀ y H', Same H H' → Dg K H' m y d → (∀ es, d = .list es → ∃ F xs, y = .ref F ∧ H F = none ∧ H' F = some (.lst xs) ∧ xs.length = es.length) →
    (∀ es rest, d = .tuple (.list es :: rest) → ∃ r F xs vs, y = .ref r ∧ SqT K H' r (.ref F :: vs) ∧ H F = none ∧ H' F = some (.lst xs) ∧ xs.length = es.length) → Q y H'
theorem ok_law_copy (T : Txt K mg) : FnOk P w K mg base CX0 1 T.f_law_copy T.fd_law_copy ["thing"] (spCopy K) := by
  refine T.F_law_copy.ok sc_law_copy (fun vs H Q E h => ?_) (fun cdv A outer s0 H vs Q E hr h => ?_)
  · obtain ⟨x, d, m, rfl, _⟩ := h; rfl
  · obtain ⟨x, d, m, rfl, hd, bd, q⟩ := h
    refine ⟨_, (pss_cons (ps_if (PW.pt (pw_and (pt_val (pe_callB call_isi (by rfl) T.z_isinstance (by decide +kernel) (pa_cons (pv 0) (pa_cons (pe_bltn (v := .ty "tuple") (u := .type "tuple") (by rfl) T.z_tuple (by decide +kernel) rfl) pa_nil)))) (pw_and (pt_cmpR op_gt (pe_callB call_len_seq (by rfl) T.z_len (by decide +kernel) (pa_cons (pv 0) pa_nil)) pe_int (nomark _)) (pw_and1 (pt_val (pe_callB call_isi (by rfl) T.z_isinstance (by decide +kernel) (pa_cons (pe_ix ix_tup (pv 0) pe_int (fun _ _ => rfl)) (pa_cons (pe_bltn (v := .ty "list") (u := .type "list") (by rfl) T.z_list (by decide +kernel) rfl) pa_nil)))))))) (pss_one (ps_ret (pe_op op_catA (pe_tup (pa_cons (pe_callTy call_list_ofS (by rfl) T.z_list (by decide +kernel) (pa_cons (pe_ix ix_tup (pv 0) pe_int (fun _ _ => rfl)) pa_nil)) pa_nil)) (pe_slice sl_tupA (pv 0) (po_some pe_int) po_none)))) pss_nil)
      (pss_one (ps_ret (pe_ifExp (pt_val (pe_callB call_isi (by rfl) T.z_isinstance (by decide +kernel) (pa_cons (pv 0) (pa_cons (pe_bltn (v := .ty "list") (u := .type "list") (by rfl) T.z_list (by decide +kernel) rfl) pa_nil)))) (pe_callTy call_list_ofS (by rfl) T.z_list (by decide +kernel) (pa_cons (pv 0) pa_nil)) (pv 0))))), ?_⟩
    refine ⟨_, rfl, _, _, _, _, isTupD d, rfl, .ty _, hd.ty, kit_tupD d, _, rfl, ?_⟩
    have fin : (∀ es rest, d ≠ .tuple (.list es :: rest)) → ∀ D : Ends, D.rt = Q → tRet (tIf (tB (tCB (rIsi K) (tCons (tVar 0) (tCons (tC (.ty "list")) tNil)))) (tCB (fun xs H Q => ∃ p ys, xs = [.ref p] ∧ (SqL K H p ys ∨ SqT K H p ys) ∧ ∀ l, H l = none → (l == sysModules) = false → Q (.ref l) (L2.upd H l (.lst ys))) (tCons (tVar 0) tNil)) (tVar 0)) D [some x] H := by
      intro nt D hD
      subst hD
      refine ⟨_, rfl, _, _, _, _, isLstD d, rfl, .ty _, hd.ty, kit_lstD d, _, rfl, ?_⟩
      cases d with
      | list es =>
        obtain ⟨a, xs, rfl, hsq, low, ha⟩ := hd.lst_of
        exact iteT ⟨_, rfl, a, xs, rfl, .inl hsq, fun F hF lowF => q (.ref F) _ (Same.new (Same.refl _) hF) (.lst (SqL.of upd_same) (fun _ => lowF) (ha.ext (Same.new (Same.refl _) hF))) (fun es' e => ⟨F, xs, rfl, hF, upd_same, by rw [ha.len, PyData.list.inj e]⟩) (fun es rest e => by cases e)⟩
      | tuple ds => exact iteF ⟨_, rfl, q x H (Same.refl _) hd (fun es e => by cases e) (fun es rest e => absurd e (nt es rest))⟩
      | _ => exact iteF ⟨_, rfl, q x H (Same.refl _) hd (fun es e => by cases e) (fun es rest e => by cases e)⟩
    cases d with
    | tuple ds =>
      obtain ⟨r, xs, rfl, hR, ha⟩ := hd.tup_of
      have hl := ha.len
      refine iteT ⟨_, rfl, r, xs, rfl, .inr hR, _, _, rfl, rfl, _, rfl, ?_⟩
      match ds, ha, hl, bd, q, fin with
      | [], ha, hl, _, _, fin =>
        rw [decide_eq_false (show ¬ (0 : Int) < (xs.length : Int) by rw [hl]; simp)]
        exact iteF (iteF (fin (fun es rest e => by cases e) _ rfl))
      | e :: es, ha, hl, bd, q, fin =>
        rw [decide_eq_true (show (0 : Int) < (xs.length : Int) by rw [hl, List.length_cons]; omega)]
        obtain ⟨x0, ys, rfl, h0, hs⟩ := ha.cons_of
        have ly := hs.len
        have bl := bd _ rfl
        rw [List.length_cons] at bl
        refine iteT ⟨_, rfl, r, _, _, _, rfl, rfl, hR, atI_nat (j := 0) rfl, _, _, _, _, isLstD e, rfl, .ty _, h0.ty, kit_lstD e, _, rfl, ?_⟩
        cases e with
        | list es' =>
          obtain ⟨a, zs, rfl, hsq, low, hz⟩ := h0.lst_of
          refine iteT ⟨_, rfl, r, _, _, _, rfl, rfl, hR, atI_nat (j := 0) rfl, a, zs, rfl, .inl hsq, fun F hF lowF => ⟨(by show 1 ≤ sizeLine; decide), fun t ht => ?_⟩⟩
          have s1 : Same H (upd H F (.lst zs)) := Same.new (Same.refl _) hF
          have s2 : Same (upd H F (.lst zs)) (upd (upd H F (.lst zs)) t (.tup [.ref F])) := Same.new (Same.refl _) ht
          have eF := s2 _ _ (show (upd H F (.lst zs)) F = some (.lst zs) from upd_same)
          have et : (upd (upd H F (.lst zs)) t (.tup [.ref F])) t = some (.tup [.ref F]) := upd_same
          have s12 := s1.trans s2
          generalize upd (upd H F (.lst zs)) t (.tup [.ref F]) = H2 at s12 eF et ⊢
          refine ⟨_, rfl, 1, rfl, r, _, rfl, hR.ext s12, fun e => ?_, fun _ u hu => ?_⟩
          · have e2 : HT.sIx (V.ref a :: ys).length 0 (some ((1 : Nat) : Int)) = 0 := e.1
            rw [sIx_some, List.length_cons] at e2
            omega
          rw [show (some (1 : Int)) = some ((1 : Nat) : Int) from rfl, cutV_fr, show (V.ref a :: ys).drop 1 = ys from rfl]
          have s3 : Same H2 (upd H2 u (.tup ys)) := Same.new (Same.refl _) hu
          have eF3 := s3 _ _ eF
          have et3 := s3 _ _ et
          have eu : (upd H2 u (.tup ys)) u = some (.tup ys) := upd_same
          have s13 := s12.trans s3
          generalize upd H2 u (.tup ys) = H3 at s13 eF3 et3 eu ⊢
          have dF : ∀ H', Same H3 H' → Dg K H' m (.ref F) (.list es') := fun H' s' => .lst (SqL.of (s' _ _ eF3)) (fun _ => lowF) (hz.ext (s13.trans s'))
          refine ⟨t, u, [.ref F], ys, rfl, rfl, SqT.of et3, SqT.of eu, by rw [ly]; exact Nat.le_trans (by simp; omega : [V.ref F].length + es.length ≤ 2000) (by decide), (fun e => by cases e), fun _ e => ?_, fun _ _ v hv => ?_⟩
          · subst e
            have : es = [] := List.length_eq_zero_iff.mp (by rw [← ly]; rfl)
            subst this
            exact q _ _ s13 (.tup (SqT.of et3) (.cons (dF _ (Same.refl _)) .nil)) (fun es e => by cases e) (fun es rest e => ⟨t, F, zs, [], rfl, SqT.of et3, hF, eF3, by injection e with e; injection e with e1 e2; injection e1 with e1; rw [hz.len, e1]⟩)
          · have s4 : Same H3 (upd H3 v (.tup ([V.ref F] ++ ys))) := Same.new (Same.refl _) hv
            exact q _ _ (s13.trans s4) (.tup (SqT.of upd_same) (.cons (dF _ s4) (hs.ext (s13.trans s4)))) (fun es e => by cases e) (fun es rest e => ⟨v, F, zs, ys, rfl, SqT.of upd_same, hF, s4 _ _ eF3, by injection e with e; injection e with e1 e2; injection e1 with e1; rw [hz.len, e1]⟩)
        | _ => exact iteF (fin (fun es rest e => by cases e) _ rfl)
    | _ => exact iteF (iteF (fin (fun es rest e => by cases e) _ rfl))
end
end My

set_option Elab.async false
set_option linter.all false
set_option maxRecDepth 100000
set_option maxHeartbeats 8000000
namespace My
open PySem PySem.Spec PyProof.Rows L2
structure BdR (d : PyData) : Prop where
  t : ∀ ds, d = .tuple ds → ds.length ≤ 1000
  i : ∀ es rest, d = .tuple (.list es :: rest) → es.length ≤ 1000
  l : ∀ es, d = .list es → es.length ≤ 1000
theorem SqT.put {K : PySem.W.Frag} {H : Hp} {F t : Addr} {ys xs : List V} {o : HO} (h : SqT K H t xs) (e : H F = some (.lst ys)) : SqT K (upd H F o) t xs := by
  rcases h with (h | ⟨ob, h⟩) | h
  · have n : t ≠ F := fun z => by rw [z, e] at h; cases h
    exact .inl (.inl (by rw [upd_ne n]; exact h))
  · have n : t ≠ F := fun z => by rw [z, e] at h; cases h
    exact .inl (.inr ⟨ob, by rw [upd_ne n]; exact h⟩)
  · exact .inr h
theorem cut_last (xs : List V) (m : V) : cutV (xs ++ [m]) (some (-1)) none = [m] := by
  unfold cutV
  have e : HT.sIx (xs ++ [m]).length 0 (some (-1)) = xs.length := by
    show (if (-1 : Int) < 0 then ((-1 : Int) + ((xs ++ [m]).length : Int)).toNat else min (-1 : Int).toNat (xs ++ [m]).length) = xs.length
    rw [if_pos (by decide), List.length_append]
    simp
    omega
  rw [e, HT.sIx_none, List.drop_left, List.length_append]
  simp
section
variable {P : Program} {w : World} {K : PySem.W.Frag} {mg : Str → Option Value} {base : Heap}
def spRef (K : PySem.W.Frag) : Sp := fun vs H Q _ => ∃ k x d m y e m2, vs = [.int ((k : Nat) : Int), x, y] ∧ k < 6 ∧ Dg K H m x d ∧ Dg K H m2 y e ∧ rowB d = false ∧ Sh d ∧ BdR d ∧ ∀ H', Same H H' → Q (.bl true) H'
theorem ok_law_refused (T : Txt K mg) : FnG P w K mg base CX0 7 T.f_law_refused T.fd_law_refused ["door", "thing", "count"] (spRef K) := by
  refine T.F_law_refused.okG sc_law_refused (fun vs H Q E h => ?_) (fun cdv A outer s0 H vs Q E hgd hr h => ?_)
  · obtain ⟨k, x, d, m, y, e, m2, rfl, _⟩ := h; rfl
  · obtain ⟨k, x, d, m, y, e, m2, rfl, hk, hd, he, hf, sh, bd, q⟩ := h
    have hun := un64 hr
    refine ⟨_, (pss_cons (ps_par (i := 3) (j := 4) (by rfl) sc_law_refused.nd rfl rfl (by decide) rfl rfl (pa_cons (pe_call (ok_law_copy T) (hr.mono (by decide)) rfl T.g_law_copy T.F_law_copy.kp T.b_law_copy .nil pass0 (pa_cons (pv 1) pa_nil)) (pa_cons (pe_callB (call_reprG hgd hun) (by rfl) T.z_repr (by decide +kernel) (pa_cons (pv 1) pa_nil)) pa_nil)) (by rfl))
      (pss_cons (ps_set (i := 5) sc_law_refused.nd rfl (Or.inl rfl) (pe_call (ok_law_told T) (hr.mono (by decide)) rfl T.g_law_told T.F_law_told.kp T.b_law_told .nil pass0 (pa_cons (pv 0) (pa_cons (pv 3) (pa_cons (pv 2) pa_nil)))))
      (pss_cons (ps_if (PW.pt (pw_or (pt_cmpR op_ne (pe_callB call_len_seq (by rfl) T.z_len (by decide +kernel) (pa_cons (pv 5) pa_nil)) pe_int (nomark _)) (pw_or (pt_cmpR op_ne (pe_ix ix_list (pv 5) pe_int (fun _ _ => rfl)) pe_str (nomark _)) (pw_or1 (pt_cmpR op_ne (pe_callB (call_reprG hgd hun) (by rfl) T.z_repr (by decide +kernel) (pa_cons (pe_ix ix_list (pv 5) pe_int (fun _ _ => rfl)) pa_nil)) (pv 4) (nomark _)))))) (pss_one (ps_ret pe_bl)) pss_nil)
      (Evl.pss_cut (ps_if (PW.pt (pw_and (pt_val (pe_callB call_isi (by rfl) T.z_isinstance (by decide +kernel) (pa_cons (pv 3) (pa_cons (pe_bltn (v := .ty "tuple") (u := .type "tuple") (by rfl) T.z_tuple (by decide +kernel) rfl) pa_nil)))) (pw_and (pt_cmpR op_gt (pe_callB call_len_seq (by rfl) T.z_len (by decide +kernel) (pa_cons (pv 3) pa_nil)) pe_int (nomark _)) (pw_and1 (pt_val (pe_callB call_isi (by rfl) T.z_isinstance (by decide +kernel) (pa_cons (pe_ix ix_q (pv 3) pe_int (fun _ _ => rfl)) (pa_cons (pe_bltn (v := .ty "list") (u := .type "list") (by rfl) T.z_list (by decide +kernel) rfl) pa_nil)))))))) (pss_cons (ps_set (i := 6) sc_law_refused.nd rfl (Or.inl rfl) (pe_ix ix_tup (pe_ix ix_list (pv 5) pe_int (fun _ _ => rfl)) pe_int (fun _ _ => rfl)))
      (pss_cons (ps_expr (pe_bm PySem.F.plainAttrs_list PySem.F.slot_list_append PySem.F.type_list_append mt_append (pv 6) (pa_cons pe_str pa_nil)))
      (pss_one (ps_ret (pe_cmpR (op_eqD (un64 hr)) (pe_slice sl_list (pe_ix ix_q (pv 3) pe_int (fun _ _ => rfl)) (po_some (pe_un un_neg pe_int)) po_none) (pe_lst (pa_cons pe_str pa_nil)) (nomark _)))))) pss_nil)
      (pss_cons (ps_if (pt_val (pe_callB call_isi (by rfl) T.z_isinstance (by decide +kernel) (pa_cons (pv 3) (pa_cons (pe_bltn (v := .ty "list") (u := .type "list") (by rfl) T.z_list (by decide +kernel) rfl) pa_nil)))) (pss_cons (ps_set (i := 6) sc_law_refused.nd rfl (Or.inl rfl) (pe_ix ix_list (pv 5) pe_int (fun _ _ => rfl)))
      (pss_cons (ps_expr (pe_bm PySem.F.plainAttrs_list PySem.F.slot_list_append PySem.F.type_list_append mt_append (pv 6) (pa_cons pe_str pa_nil)))
      (pss_one (ps_ret (pe_cmpR (op_eqD (un64 hr)) (pe_slice sl_q (pv 3) (po_some (pe_un un_neg pe_int)) po_none) (pe_lst (pa_cons pe_str pa_nil)) (nomark _)))))) pss_nil)
      (pss_one (ps_ret pe_bl))))))), ?_⟩
    refine ⟨_, rfl, x, d, m, rfl, hd, bd.t, fun h H1 s1 dh hl ht => ⟨_, rfl, x, d, m, rfl, hd.ext s1, sh.1, sh.2.1, sh.2.2, ⟨_, _, rfl, ?_⟩⟩⟩
    refine ⟨_, rfl, _, rfl, _, rfl, k, h, d, m, y, e, m2, rfl, hk, dh, he.ext s1, .inl hf, fun _ r H2 s2 er nr => ?_, fun z => by rw [hf] at z; cases z⟩
    have dh2 := dh.ext s2
    have s12 := s1.trans s2
    refine ⟨_, rfl, r, _, rfl, .inl (SqL.of er), rfl, _, rfl, ?_⟩
    rw [decide_eq_true (show V.int (([V.str (Str.ofString "row"), h] : List V).length : Int) = V.int 2 from rfl)]
    refine iteF ⟨_, rfl, r, _, _, _, rfl, rfl, SqL.of er, atI_nat (j := 0) rfl, rfl, _, rfl, neSame ?_⟩
    refine ⟨_, rfl, r, _, _, _, rfl, rfl, SqL.of er, atI_nat (j := 1) rfl, h, d, m, rfl, dh2, sh.1, sh.2.1, sh.2.2, _, rfl, rfl, _, rfl, neSame ?_⟩
    refine ⟨fun σ H' => σ = [some (.int (k : Int)), some x, some y, some h, some (.str d.shown), some (.ref r), none] ∧ H' = H2 ∧ ∀ es rest, d ≠ .tuple (.list es :: rest), ?_, ?_⟩
    · refine ⟨_, rfl, _, _, _, _, isTupD d, rfl, .ty _, dh2.ty, kit_tupD d, _, rfl, ?_⟩
      cases d with
      | tuple ds =>
        obtain ⟨t, xs, rfl, hR, ha⟩ := dh2.tup_of
        have hlen := ha.len
        refine iteT ⟨_, rfl, t, xs, rfl, .inr hR, _, _, rfl, rfl, _, rfl, ?_⟩
        match ds, ha, hlen, ht, bd with
        | [], ha, hlen, _, _ =>
          rw [decide_eq_false (show ¬ (0 : Int) < (xs.length : Int) by rw [hlen]; simp)]
          exact iteF (iteF ⟨rfl, rfl, fun es rest e => by cases e⟩)
        | e0 :: es0, ha, hlen, ht, bd =>
          rw [decide_eq_true (show (0 : Int) < (xs.length : Int) by rw [hlen, List.length_cons]; omega)]
          obtain ⟨x0, ys, rfl, h0, hs⟩ := ha.cons_of
          refine iteT ⟨_, rfl, .inr ⟨t, _, _, _, rfl, rfl, hR, atI_nat (j := 0) rfl, _, _, _, _, isLstD e0, rfl, .ty _, h0.ty, kit_lstD e0, _, rfl, ?_⟩⟩
          cases e0 with
          | list es' =>
            obtain ⟨t', F, zs, vs, et, hR', hF, eF, ln⟩ := ht es' es0 rfl
            obtain rfl : t = t' := V.ref.inj et
            have eF2 := s2 _ _ eF
            have hR2 : SqT K H2 t (.ref F :: vs) := hR'.ext s2
            have lz : zs.length ≤ 1000 := by rw [ln]; exact bd.i es' es0 rfl
            refine iteT ⟨_, rfl, r, _, _, _, rfl, rfl, SqL.of er, atI_nat (j := 1) rfl, t, _, _, _, rfl, rfl, hR2, atI_nat (j := 0) rfl, ?_⟩
            refine ⟨_, rfl, .inl ⟨rfl, _, SqL.of eF2⟩, F, _, _, rfl, rfl, eF2, Nat.lt_of_le_of_lt lz (by decide), ?_⟩
            have s3 : Same H (upd H2 F (.lst (zs ++ [.str (Str.ofString "more")]))) := fun b o e => by rw [upd_ne (ne_of_none e hF)]; exact s12 b o e
            have e3 : (upd H2 F (.lst (zs ++ [.str (Str.ofString "more")]))) F = some (.lst (zs ++ [.str (Str.ofString "more")])) := upd_same
            have hR3 : SqT K (upd H2 F (.lst (zs ++ [.str (Str.ofString "more")]))) t (.ref F :: vs) := SqT.put hR2 eF2
            generalize upd H2 F (.lst (zs ++ [.str (Str.ofString "more")])) = H3 at s3 e3 hR3 ⊢
            refine ⟨_, rfl, .inr ⟨t, _, _, _, rfl, rfl, hR3, atI_nat (j := 0) rfl, 1, rfl, -1, rfl, F, _, rfl, SqL.of e3, fun c hc => ?_⟩⟩
            rw [cut_last]
            have s4 : Same H3 (upd H3 c (.lst [.str (Str.ofString "more")])) := Same.new (Same.refl _) hc
            have e4 : (upd H3 c (.lst [.str (Str.ofString "more")])) c = some (.lst [.str (Str.ofString "more")]) := upd_same
            generalize upd H3 c (.lst [.str (Str.ofString "more")]) = H4 at s4 e4 ⊢
            refine ⟨(by show 1 ≤ sizeLine; decide), fun b hb => ?_⟩
            have s5 : Same H4 (upd H4 b (.lst [.str (Str.ofString "more")])) := Same.new (Same.refl _) hb
            refine ⟨.list [.str (Str.ofString "more")], .list [.str (Str.ofString "more")], .lst (SqL.of (s5 _ _ e4)) (.cons (.str _) .nil), .lst (SqL.of upd_same) (.cons (.str _) .nil), by decide +kernel, by decide +kernel, ?_⟩
            rw [show PyData.eqv (.list [.str (Str.ofString "more")]) (.list [.str (Str.ofString "more")]) = true by decide +kernel]
            exact q _ ((s3.trans s4).trans s5)
          | _ => exact iteF ⟨rfl, rfl, fun es rest e => by cases e⟩
      | _ => exact iteF (iteF ⟨rfl, rfl, fun es rest e => by cases e⟩)
    · rintro σ H' ⟨rfl, rfl, nt⟩
      refine ⟨_, rfl, _, _, _, _, isLstD d, rfl, .ty _, dh2.ty, kit_lstD d, _, rfl, ?_⟩
      cases d with
      | list es =>
        obtain ⟨F, zs, rfl, hF, eF, ln⟩ := hl es rfl
        have eF2 := s2 _ _ eF
        have lz : zs.length ≤ 1000 := by rw [ln]; exact bd.l es rfl
        refine iteT ⟨_, rfl, r, _, _, _, rfl, rfl, SqL.of er, atI_nat (j := 1) rfl, ?_⟩
        refine ⟨_, rfl, .inl ⟨rfl, _, SqL.of eF2⟩, F, _, _, rfl, rfl, eF2, Nat.lt_of_le_of_lt lz (by decide), ?_⟩
        have s3 : Same H (upd H' F (.lst (zs ++ [.str (Str.ofString "more")]))) := fun b o e => by rw [upd_ne (ne_of_none e hF)]; exact s12 b o e
        have e3 : (upd H' F (.lst (zs ++ [.str (Str.ofString "more")]))) F = some (.lst (zs ++ [.str (Str.ofString "more")])) := upd_same
        generalize upd H' F (.lst (zs ++ [.str (Str.ofString "more")])) = H3 at s3 e3 ⊢
        refine ⟨_, rfl, 1, rfl, -1, rfl, .inl ⟨F, _, rfl, SqL.of e3, fun c hc => ?_⟩⟩
        rw [cut_last]
        have s4 : Same H3 (upd H3 c (.lst [.str (Str.ofString "more")])) := Same.new (Same.refl _) hc
        have e4 : (upd H3 c (.lst [.str (Str.ofString "more")])) c = some (.lst [.str (Str.ofString "more")]) := upd_same
        generalize upd H3 c (.lst [.str (Str.ofString "more")]) = H4 at s4 e4 ⊢
        refine ⟨(by show 1 ≤ sizeLine; decide), fun b hb => ?_⟩
        have s5 : Same H4 (upd H4 b (.lst [.str (Str.ofString "more")])) := Same.new (Same.refl _) hb
        refine ⟨.list [.str (Str.ofString "more")], .list [.str (Str.ofString "more")], .lst (SqL.of (s5 _ _ e4)) (.cons (.str _) .nil), .lst (SqL.of upd_same) (.cons (.str _) .nil), by decide +kernel, by decide +kernel, ?_⟩
        rw [show PyData.eqv (.list [.str (Str.ofString "more")]) (.list [.str (Str.ofString "more")]) = true by decide +kernel]
        exact q _ ((s3.trans s4).trans s5)
      | _ => exact iteF (q _ s12)
end
end My

set_option Elab.async false
set_option linter.all false
set_option maxRecDepth 100000
set_option maxHeartbeats 8000000
namespace My
open PySem PySem.Spec PyProof.Rows L2
section
variable {K : PySem.W.Frag} {m : Bool} {p : Addr} {σ : L2.St} {H : Hp}
/-- an expression gives a list of data -/
def EvL (K : PySem.W.Frag) (p : Addr) (te : TE) (σ : L2.St) (H : Hp) (ds : List PyData) : Prop :=
  ∀ H1, Kp p H H1 → H1 p ≠ none → ∀ Q : VK, (∀ b xs H2, Same H1 H2 → H2 b = some (.lst xs) → b ≠ p → DgAll K (wo H2 p) false xs ds → Q (.ref b) H2) → te σ H1 Q
theorem evL_D {te : TE} {ds : List PyData} (h : EvL K p te σ H ds) : EvD K false p (fun G => wo G p) te σ H (.list ds) := fun H1 k n Q q => h H1 k n _ fun b xs H2 s2 e nb dx => q _ _ s2 (.lst (SqL.of (by show wo H2 p b = _; rw [wo_ne nb]; exact e)) (fun z => by cases z) dx)
theorem evL_var {i : Nat} {F : Addr} {xs : List V} {ds : List PyData} (e : σ[i]? = some (some (.ref F))) (eF : H F = some (.lst xs)) (n : F ≠ p) (d : DgAll K (wo H p) false xs ds) : EvL K p (tVar i) σ H ds :=
  fun H1 k _ Q q => ⟨_, e, q F xs H1 (Same.refl _) (k _ _ n eF) n (d.kp k)⟩
theorem evL_lst {ta : TA} {ds : List PyData} (h : EvDs K false p (fun G => wo G p) ta σ H ds) (l : ds.length ≤ 1000) : EvL K p (tLst ta) σ H ds :=
  fun H1 k n Q q => h H1 k n _ fun xs H2 s2 dxs => ⟨by rw [dxs.len]; exact Nat.le_trans l (by decide), fun r hr => by
    have nr : r ≠ p := fun z => same_at s2 n (by rw [← z]; exact hr)
    have s3 : Same H2 (upd H2 r (.lst xs)) := Same.new (Same.refl _) hr
    exact q r xs _ (s2.trans s3) upd_same nr (dxs.kp (Kp.of s3))⟩
theorem evL_cat {ta tb : TE} {ds es : List PyData} (ha : EvL K p ta σ H ds) (hb : EvL K p tb σ H es) (l : ds.length + es.length ≤ 1000) : EvL K p (tOp rCat ta tb) σ H (ds ++ es) :=
  fun H1 k n Q q => ha H1 k n _ fun b xs H2 s2 e2 nb dx => hb H2 (k.trans (Kp.of s2)) (same_at s2 n) _ fun c ys H3 s3 e3 nc dy =>
    ⟨b, c, xs, ys, rfl, rfl, s3 _ _ e2, e3, by rw [dx.len, dy.len]; exact Nat.le_trans l (by decide), fun r hr => by
      have nr : r ≠ p := fun z => same_at (s2.trans s3) n (by rw [← z]; exact hr)
      have s4 : Same H3 (upd H3 r (.lst (xs ++ ys))) := Same.new (Same.refl _) hr
      exact q r _ _ ((s2.trans s3).trans s4) upd_same nr (((dx.kp (Kp.of s3)).append dy).kp (Kp.of s4))⟩
theorem evL_to {te ti : TE} {ds : List PyData} {j : Nat} (h : EvL K p te σ H ds) (hi : EvI p ti σ H ((j : Nat) : Int)) : EvL K p (tSl (rSlL K) te tNoPart (tPart ti)) σ H (ds.take j) :=
  fun H1 k n Q q => h H1 k n _ fun b xs H2 s2 e2 nb dx => hi H2 (k.trans (Kp.of s2)) (same_at s2 n) _ fun H3 s3 =>
    ⟨_, rfl, b, xs, rfl, SqL.of (s3 _ _ e2), fun r hr => by
      have nr : r ≠ p := fun z => same_at (s2.trans s3) n (by rw [← z]; exact hr)
      rw [cutV_to]
      have s4 : Same H3 (upd H3 r (.lst (xs.take j))) := Same.new (Same.refl _) hr
      exact q r _ _ ((s2.trans s3).trans s4) upd_same nr (((dx.kp (Kp.of s3)).take j).kp (Kp.of s4))⟩
theorem evL_fr {te ti : TE} {ds : List PyData} {j : Nat} (h : EvL K p te σ H ds) (hi : EvI p ti σ H ((j : Nat) : Int)) : EvL K p (tSl (rSlL K) te (tPart ti) tNoPart) σ H (ds.drop j) :=
  fun H1 k n Q q => h H1 k n _ fun b xs H2 s2 e2 nb dx => hi H2 (k.trans (Kp.of s2)) (same_at s2 n) _ fun H3 s3 =>
    ⟨_, rfl, b, xs, rfl, SqL.of (s3 _ _ e2), fun r hr => by
      have nr : r ≠ p := fun z => same_at (s2.trans s3) n (by rw [← z]; exact hr)
      rw [cutV_fr]
      have s4 : Same H3 (upd H3 r (.lst (xs.drop j))) := Same.new (Same.refl _) hr
      exact q r _ _ ((s2.trans s3).trans s4) upd_same nr (((dx.kp (Kp.of s3)).drop j).kp (Kp.of s4))⟩
theorem evL_rev {te : TE} {ns : List Int} (h : EvL K p te σ H (ns.map PyData.int)) : EvL K p (tRevL K te) σ H (ns.reverse.map PyData.int) :=
  fun H1 k n Q q => h H1 k n _ fun b xs H2 s2 e2 nb dx => ⟨b, xs, rfl, SqL.of e2, fun r hr => by
    have nr : r ≠ p := fun z => same_at s2 n (by rw [← z]; exact hr)
    have ex := dg_ints dx
    rw [ex, ← List.map_reverse]
    have s4 : Same H2 (upd H2 r (.lst (ns.reverse.map V.int))) := Same.new (Same.refl _) hr
    exact q r _ _ (s2.trans s4) upd_same nr (ints_dg _)⟩
theorem rep_ints (a : Int) : ∀ j : Nat, (List.replicate j [V.int a]).flatten = (List.replicate j a).map V.int
  | 0 => rfl
  | j + 1 => by rw [List.replicate_succ, List.flatten_cons, rep_ints a j, List.replicate_succ, List.map_cons]; rfl
theorem evL_rep {ti : TE} {j : Nat} (hi : EvI p ti σ H ((j : Nat) : Int)) (l : j ≤ 100) : EvL K p (tOp rRep (tLst (tCons (tC (.int 40)) tNil)) ti) σ H ((List.replicate j (40 : Int)).map PyData.int) :=
  fun H1 k n Q q => ⟨(by show 1 ≤ sizeLine; decide), fun b hb => by
    have nb : b ≠ p := fun z => n (by rw [← z]; exact hb)
    have s1 : Same H1 (upd H1 b (.lst [.int 40])) := Same.new (Same.refl _) hb
    refine hi _ (k.trans (Kp.of s1)) (same_at s1 n) _ fun H3 s3 => ?_
    refine ⟨b, (j : Int), [.int 40], rfl, rfl, s3 _ _ upd_same, by omega, by omega, by rw [Int.toNat_natCast]; simp; exact Nat.le_trans l (by decide), fun r hr => ?_⟩
    rw [Int.toNat_natCast, rep_ints]
    have nr : r ≠ p := fun z => same_at (s1.trans s3) n (by rw [← z]; exact hr)
    have s4 : Same H3 (upd H3 r (.lst ((List.replicate j (40 : Int)).map V.int))) := Same.new (Same.refl _) hr
    exact q r _ _ ((s1.trans s3).trans s4) upd_same nr (ints_dg _)⟩
theorem evI_len {i : Nat} {F : Addr} {xs : List V} (e : σ[i]? = some (some (.ref F))) (eF : H F = some (.lst xs)) (n : F ≠ p) :
    EvI p (tCB (fun xs H Q => ∃ p ys, xs = [.ref p] ∧ (SqL K H p ys ∨ SqT K H p ys) ∧ Q (.int (ys.length : Nat)) H) (tCons (tVar i) tNil)) σ H (xs.length : Nat) :=
  fun H1 k _ Q q => ⟨_, e, F, xs, rfl, .inl (SqL.of (k _ _ n eF)), q H1 (Same.refl _)⟩
theorem evI_ix {i : Nat} {F : Addr} {xs : List V} {ti : TE} {j v : Int} (e : σ[i]? = some (some (.ref F))) (eF : H F = some (.lst xs)) (n : F ≠ p) (hi : EvI p ti σ H j) (ha : atI xs j = some (.int v)) : EvI p (tOp (rIxL K) (tVar i) ti) σ H v :=
  fun H1 k np Q q => ⟨_, e, hi H1 k np _ fun H2 s2 => ⟨F, xs, j, .int v, rfl, rfl, SqL.of (s2 _ _ (k _ _ n eF)), ha, q _ s2⟩⟩
theorem evI_max {ti : TE} {j : Int} (hi : EvI p ti σ H j) : EvI p (tCB (fun xs H Q => ∃ i j, xs = [.int i, .int j] ∧ Q (.int (if j > i then j else i)) H) (tCons (tC (.int 0)) (tCons ti tNil))) σ H (if j > 0 then j else 0) :=
  fun H1 k np Q q => hi H1 k np _ fun H2 s2 => ⟨0, j, rfl, q _ s2⟩
theorem evI_neg {ti : TE} {i : Int} (h : EvI p ti σ H i) : EvI p (tUn (rU fun i => .int (-i)) ti) σ H (-i) := fun H1 k n Q q => h H1 k n _ fun H2 s2 => ⟨i, rfl, q _ s2⟩
theorem evI_as {ti : TE} {i j : Int} (h : EvI p ti σ H i) (e : i = j) : EvI p ti σ H j := e ▸ h
/-- a display of data, one of them drawn -/
theorem menu_take {n k : Nat} {kk : Int} {ta : TA} {ds : List PyData} {Q : VK} (hb : BoxAt H p n) (hn : n < 1000000000) (h0 : σ[0]? = some (some (.ref p))) (hd : EvDs K m p (fun G => wo G p) ta σ H ds) (lk : ds.length = k) (ek : kk = (k : Int)) (k0 : 0 < k) (k9 : k ≤ 40)
    (q : ∀ x d H', Kp p H H' → BoxAt H' p (n + 1) → d ∈ ds → Dw K p H' m x d → Q x H') : tOp (rIxL K) (tLst ta) (tCall spTake [] E0 (tCons (tVar 0) (tCons (tC (.int kk)) tNil))) σ H Q := by
  subst ek
  refine hd H (Kp.refl p H) hb.some _ fun xs H2 s2 dxs => ⟨by rw [dxs.len, lk]; exact Nat.le_trans k9 (by decide), fun M hM => ?_⟩
  have nM : M ≠ p := fun z => same_at s2 hb.some (by rw [← z]; exact hM)
  have s3 : Same H2 (upd H2 M (.lst xs)) := Same.new (Same.refl _) hM
  refine ⟨_, h0, p, n, k, rfl, (hb.same s2).new hM, hn, by omega, by omega, fun d o hd' ho => ?_⟩
  obtain ⟨x, dd, ex, ed, dg⟩ := dxs.nth (i := d) (by omega)
  refine ⟨M, xs, d, x, rfl, rfl, SqL.of (by rw [upd_ne nM]; exact upd_same), atI_nat ex, q x dd _ ((Kp.of (s2.trans s3)).upd) ho.at (List.mem_of_getElem? ed) ?_⟩
  exact (dg.kp (Kp.of s3)).kp ((Kp.refl p _).upd)
theorem evD_dct : EvD K true p (fun G => wo G p) (tDisp [(tC (.int 0), tC (.int 0))]) σ H (.dict [(.int 0, .int 0)]) := fun H1 k n Q q r hr => by
  have nr : r ≠ p := fun z => n (by rw [← z]; exact hr)
  refine ⟨upd_same, [(Sum.inl 0, .int 0)], rfl, by decide, ?_⟩
  rw [upd_upd]
  exact q _ _ (Same.new (Same.refl _) hr) (.dct [(0, 0)] rfl (by show wo _ p r = _; rw [wo_ne nr]; exact upd_same))
end
theorem bd3 {ds : List PyData} {a b : PyData} (h : ds.length ≤ 1000) : BdR (.tuple [.list ds, a, b]) :=
  ⟨fun es e => by injection e with e; rw [← e]; show 3 ≤ 1000; omega, fun es rest e => by injection e with e; injection e with e1 e2; injection e1 with e1; rw [← e1]; exact h, fun es e => by cases e⟩
theorem fit3 {ds : List PyData} {a b : PyData} (h : ∀ e ∈ ds, Fit e 1 600) (l : ds.length ≤ 20) (ha : Fit a 1 600) (hb : Fit b 1 600) : Fit (.tuple [.list ds, a, b]) 3 90000 := by
  have f1 : Fit (.list ds) 2 13000 := (Fit.list (FitAll.all h)).mono (Nat.le_refl _) (by have := Nat.mul_le_mul_left 601 l; omega)
  exact (Fit.tuple (FitAll.cons f1 (FitAll.cons (ha.mono (by omega) (Nat.le_refl _)) (FitAll.cons (hb.mono (by omega) (Nat.le_refl _)) FitAll.nil)))).mono (Nat.le_refl _) (by omega)
theorem fit_i {i : Int} (h0 : -1000 ≤ i) (h : i ≤ 1000) : Fit (.int i) 1 600 := (fit_int (i := i) (k := 1) (Nat.lt_of_le_of_lt (by omega : i.natAbs ≤ 1000) (by decide))).mono (Nat.le_refl _) (by omega)
theorem fit_ints {ns : List Int} (h : ∀ n ∈ ns, 0 ≤ n ∧ n ≤ 40) : ∀ e ∈ ns.map PyData.int, Fit e 1 600 := fun e he => by
  obtain ⟨n, hn, rfl⟩ := List.mem_map.mp he
  exact fit_i (by have := (h n hn).1; omega) (by have := (h n hn).2; omega)
end My

set_option Elab.async false
set_option linter.all false
set_option maxRecDepth 100000
set_option maxHeartbeats 8000000
namespace My
open PySem PySem.Spec PyProof.Rows L2
section
variable {P : Program} {w : World} {K : PySem.W.Frag} {mg : Str → Option Value} {base : Heap}
def spSpo (K : PySem.W.Frag) : Sp := fun vs H Q _ => ∃ p n L ns q g, vs = [.ref p, .ref L] ∧ BoxAt H p n ∧ n < 10000000 ∧ Pl p H L ns q g ∧
  ∀ x d m H', Kp p H H' → BoxAt H' p (n + 10) → Dw K p H' m x d → Fit d 3 90000 → BdR d → Q x H'
theorem ok_law_spoiled (T : Txt K mg) : FnOk P w K mg base CX0 2 T.f_law_spoiled T.fd_law_spoiled ["box", "plain"] (spSpo K) := by
  refine T.F_law_spoiled.ok sc_law_spoiled (fun vs H Q E h => ?_) (fun cdv A outer s0 H vs Q E hr h => ?_)
  · obtain ⟨p, n, L, ns, q, g, rfl, _⟩ := h; rfl
  · obtain ⟨p, n, L, ns, q, g, rfl, hb, hn, ⟨nL, F0, nF0, eL, eF0, rn⟩, kQ⟩ := h
    refine ⟨_, (pss_cons (ps_par3 (i := 2) (j := 3) (l := 4) (by rfl) sc_law_spoiled.nd rfl rfl rfl (by decide) (by decide) (by decide) rfl rfl rfl (pa_cons (pe_callTy call_list_of (by rfl) T.z_list (by decide +kernel) (pa_cons (pe_ix ix_list (pv 1) pe_int (fun _ _ => rfl)) pa_nil)) (pa_cons (pe_ix ix_list (pv 1) pe_int (fun _ _ => rfl)) (pa_cons (pe_ix ix_list (pv 1) pe_int (fun _ _ => rfl)) pa_nil))) (by rfl))
      (pss_cons (ps_par (i := 5) (j := 6) (by rfl) sc_law_spoiled.nd rfl rfl (by decide) rfl rfl (pa_cons (pe_call (ok_law_take T) (hr.mono (by decide)) rfl T.g_law_take T.F_law_take.kp T.b_law_take .nil pass0 (pa_cons (pv 0) (pa_cons pe_int pa_nil))) (pa_cons (pe_call (ok_law_take T) (hr.mono (by decide)) rfl T.g_law_take T.F_law_take.kp T.b_law_take .nil pass0 (pa_cons (pv 0) (pa_cons (pe_callB call_len_seq (by rfl) T.z_len (by decide +kernel) (pa_cons (pe_ix ix_list (pv 1) pe_int (fun _ _ => rfl)) pa_nil)) pa_nil))) pa_nil)) (by rfl))
      (pss_cons (ps_set (i := 7) sc_law_spoiled.nd rfl (Or.inl rfl) (pe_ix ix_list (pe_lst (pa_cons pe_non (pa_cons pe_bl (pa_cons pe_str (pa_cons (pe_un un_neg pe_int) (pa_cons (pe_lst (pa_cons pe_int pa_nil)) (pa_cons pe_int pa_nil))))))) (pe_call (ok_law_take T) (hr.mono (by decide)) rfl T.g_law_take T.F_law_take.kp T.b_law_take .nil pass0 (pa_cons (pv 0) (pa_cons pe_int pa_nil))) (fun _ _ => rfl)))
      (pss_cons (ps_if (pt_cmpR op_eq (pv 5) pe_int (nomark _)) (pss_one (ps_ret (pe_tup (pa_cons (pe_op op_cat (pe_op op_cat (pe_slice sl_list (pv 2) po_none (po_some (pv 6))) (pe_lst (pa_cons (pv 7) pa_nil))) (pe_slice sl_list (pv 2) (po_some (pe_op op_add (pv 6) pe_int)) po_none)) (pa_cons (pv 3) (pa_cons (pv 4) pa_nil)))))) pss_nil)
      (pss_cons (ps_if (pt_cmpR op_eq (pv 5) pe_int (nomark _)) (pss_one (ps_ret (pe_tup (pa_cons (pe_op op_cat (pe_op op_cat (pe_slice sl_list (pv 2) po_none (po_some (pv 6))) (pe_lst (pa_cons (pe_op op_add (pe_ix ix_list (pv 2) (pv 6) (fun _ _ => rfl)) pe_int) pa_nil))) (pe_slice sl_list (pv 2) (po_some (pe_op op_add (pv 6) pe_int)) po_none)) (pa_cons (pv 3) (pa_cons (pv 4) pa_nil)))))) pss_nil)
      (pss_cons (ps_if (pt_cmpR op_eq (pv 5) pe_int (nomark _)) (pss_one (ps_ret (pe_tup (pa_cons (pe_revL (pv 2)) (pa_cons (pv 3) (pa_cons (pv 4) pa_nil)))))) pss_nil)
      (pss_cons (ps_if (pt_cmpR op_eq (pv 5) pe_int (nomark _)) (pss_one (ps_ret (pe_tup (pa_cons (pe_op op_cat (pv 2) (pe_op op_rep (pe_lst (pa_cons pe_int pa_nil)) (pe_op op_sub pe_int (pe_callB call_len_seq (by rfl) T.z_len (by decide +kernel) (pa_cons (pv 2) pa_nil))))) (pa_cons (pv 3) (pa_cons (pv 4) pa_nil)))))) pss_nil)
      (pss_cons (ps_if (pt_cmpR op_eq (pv 5) pe_int (nomark _)) (pss_one (ps_ret (pe_tup (pa_cons (pe_lst pa_nil) (pa_cons (pv 3) (pa_cons (pv 4) pa_nil)))))) pss_nil)
      (pss_cons (ps_if (pt_cmpR op_eq (pv 5) pe_int (nomark _)) (pss_one (ps_ret (pe_tup (pa_cons (pv 2) (pa_cons (pe_ix ix_list (pe_lst (pa_cons pe_int (pa_cons pe_int (pa_cons (pe_un un_neg pe_int) (pa_cons pe_non (pa_cons pe_bl (pa_cons pe_str (pa_cons (pe_lst (pa_cons pe_int pa_nil)) pa_nil)))))))) (pe_call (ok_law_take T) (hr.mono (by decide)) rfl T.g_law_take T.F_law_take.kp T.b_law_take .nil pass0 (pa_cons (pv 0) (pa_cons pe_int pa_nil))) (fun _ _ => rfl)) (pa_cons (pv 4) pa_nil)))))) pss_nil)
      (pss_cons (ps_if (pt_cmpR op_eq (pv 5) pe_int (nomark _)) (pss_one (ps_ret (pe_tup (pa_cons (pv 2) (pa_cons (pe_op op_add (pe_callB call_len_seq (by rfl) T.z_len (by decide +kernel) (pa_cons (pv 2) pa_nil)) pe_int) (pa_cons (pv 4) pa_nil)))))) pss_nil)
      (pss_cons (ps_if (pt_cmpR op_eq (pv 5) pe_int (nomark _)) (pss_one (ps_ret (pe_tup (pa_cons (pv 2) (pa_cons (pv 3) (pa_cons (pe_ix ix_list (pe_lst (pa_cons pe_int (pa_cons (pe_un un_neg pe_int) (pa_cons pe_non (pa_cons pe_bl (pa_cons pe_str (pa_cons (pe_lst (pa_cons pe_int pa_nil)) pa_nil))))))) (pe_call (ok_law_take T) (hr.mono (by decide)) rfl T.g_law_take T.F_law_take.kp T.b_law_take .nil pass0 (pa_cons (pv 0) (pa_cons pe_int pa_nil))) (fun _ _ => rfl)) pa_nil)))))) pss_nil)
      (pss_cons (ps_if (pt_cmpR op_eq (pv 5) pe_int (nomark _)) (pss_one (ps_ret (pe_tup (pa_cons (pv 2) (pa_cons (pv 3) (pa_cons (pe_callB (call_max2 rfl) (by rfl) T.z_max (by decide +kernel) (pa_cons pe_int (pa_cons (pe_op op_sub (pe_op op_sub (pe_ix ix_list (pv 2) (pe_un un_neg pe_int) (fun _ _ => rfl)) (pe_ix ix_list (pv 2) (pe_op op_sub (pe_callB call_len_seq (by rfl) T.z_len (by decide +kernel) (pa_cons (pv 2) pa_nil)) (pv 3)) (fun _ _ => rfl))) pe_int) pa_nil))) pa_nil)))))) pss_nil)
      (pss_cons (ps_if (pt_cmpR op_eq (pv 5) pe_int (nomark _)) (pss_one (ps_ret (pe_lst (pa_cons (pv 2) (pa_cons (pv 3) (pa_cons (pv 4) pa_nil)))))) pss_nil)
      (pss_cons (ps_if (pt_cmpR op_eq (pv 5) pe_int (nomark _)) (pss_one (ps_ret (pe_ix ix_list (pe_lst (pa_cons (pe_tup (pa_cons (pv 2) (pa_cons (pv 3) pa_nil))) (pa_cons (pe_tup (pa_cons (pv 2) (pa_cons (pv 3) (pa_cons (pv 4) (pa_cons pe_int pa_nil))))) (pa_cons (pe_tup (pa_cons (pv 3) (pa_cons (pv 2) (pa_cons (pv 4) pa_nil)))) pa_nil)))) (pe_call (ok_law_take T) (hr.mono (by decide)) rfl T.g_law_take T.F_law_take.kp T.b_law_take .nil pass0 (pa_cons (pv 0) (pa_cons pe_int pa_nil))) (fun _ _ => rfl)))) pss_nil)
      (pss_cons (ps_if (pt_cmpR op_eq (pv 5) pe_int (nomark _)) (pss_one (ps_ret (pe_tup (pa_cons (pe_ix ix_list (pe_lst (pa_cons pe_non (pa_cons pe_str (pa_cons pe_int (pa_cons (pe_disp (pps_cons pe_int pe_int pps_nil) (by rfl) (by rfl) (fun z => by cases z) (by decide)) pa_nil))))) (pe_call (ok_law_take T) (hr.mono (by decide)) rfl T.g_law_take T.F_law_take.kp T.b_law_take .nil pass0 (pa_cons (pv 0) (pa_cons pe_int pa_nil))) (fun _ _ => rfl)) (pa_cons (pv 3) (pa_cons (pv 4) pa_nil)))))) pss_nil)
      (pss_cons (ps_if (pt_cmpR op_eq (pv 5) pe_int (nomark _)) (pss_one (ps_ret (pe_tup (pa_cons (pe_op op_cat (pe_op op_cat (pe_slice sl_list (pv 2) po_none (po_some (pv 6))) (pe_lst (pa_cons pe_int pa_nil))) (pe_slice sl_list (pv 2) (po_some (pe_op op_add (pv 6) pe_int)) po_none)) (pa_cons (pv 3) (pa_cons (pv 4) pa_nil)))))) pss_nil)
      (pss_cons (ps_if (pt_cmpR op_eq (pv 5) pe_int (nomark _)) (pss_one (ps_ret (pe_tup (pa_cons (pv 2) (pa_cons (pe_op op_add pe_int (pe_op op_mod (pe_callTy call_int1 (by rfl) T.z_int (by decide +kernel) (pa_cons (pv 3) pa_nil)) pe_int)) (pa_cons (pv 4) pa_nil)))))) pss_nil)
      (pss_one (ps_ret (pe_ix ix_list (pe_lst (pa_cons pe_non (pa_cons pe_int (pa_cons pe_str (pa_cons (pe_tup pa_nil) (pa_cons (pv 2) (pa_cons pe_bl pa_nil))))))) (pe_call (ok_law_take T) (hr.mono (by decide)) rfl T.g_law_take T.F_law_take.kp T.b_law_take .nil pass0 (pa_cons (pv 0) (pa_cons pe_int pa_nil))) (fun _ _ => rfl))))))))))))))))))))), ?_⟩
    have l1 := rn.l1
    have l8 := rn.l8
    have p1 := rn.p1
    have p4 := rn.p4
    have pl := rn.pl
    have g0 := rn.g0
    have g12 := rn.g12
    have inb : ∀ n ∈ ns, 0 ≤ n ∧ n ≤ 40 := fun n hn => by
      obtain ⟨i, hi, e⟩ := mem_getD hn
      rw [← e]; exact ⟨rn.nn hi, rn.le hi⟩
    refine ⟨_, rfl, L, _, _, _, rfl, rfl, SqL.of eL, atI_nat (j := 0) rfl, F0, _, rfl, .inl (SqL.of eF0), fun F hF => ?_⟩
    have nF : F ≠ p := (hb.ne hF).symm
    have s1 : Same H (upd H F (.lst (ns.map V.int))) := Same.new (Same.refl _) hF
    have eF1 : (upd H F (.lst (ns.map V.int))) F = some (.lst (ns.map V.int)) := upd_same
    generalize upd H F (.lst (ns.map V.int)) = H1 at s1 eF1 ⊢
    have eL1 := s1 _ _ eL
    have b1 := hb.same s1
    refine ⟨_, rfl, L, _, _, _, rfl, rfl, SqL.of eL1, atI_nat (j := 1) rfl, _, rfl, L, _, _, _, rfl, rfl, SqL.of eL1, atI_nat (j := 2) rfl, _, _, _, rfl, ?_⟩
    refine ⟨_, rfl, p, n, 15, rfl, b1, by omega, by omega, by omega, fun way o1 hw ho1 => ?_⟩
    have eL2 : (upd H1 p o1) L = some (.lst [.ref F0, .int (q : Int), .int g]) := by rw [upd_ne nL]; exact eL1
    have eF02 : (upd H1 p o1) F0 = some (.lst (ns.map V.int)) := by rw [upd_ne nF0]; exact s1 _ _ eF0
    refine ⟨_, rfl, _, rfl, L, _, _, _, rfl, rfl, SqL.of eL2, atI_nat (j := 0) rfl, F0, _, rfl, .inl (SqL.of eF02), p, _, _, rfl, ho1.at, by omega, by rw [List.length_map]; omega, by rw [List.length_map]; omega, fun spot o2 hs ho2 => ⟨_, _, rfl, ?_⟩⟩
    rw [List.length_map] at hs
    obtain ⟨H2, e2⟩ : ∃ H2, H2 = upd (upd H1 p o1) p o2 := ⟨_, rfl⟩
    have k2 : Kp p H H2 := by rw [e2]; exact ((Kp.of s1).upd).upd
    have b2 : BoxAt H2 p (n + 2) := by rw [e2]; exact ho2.at
    have eF2 : H2 F = some (.lst (ns.map V.int)) := by rw [e2, upd_ne nF, upd_ne nF]; exact eF1
    rw [← e2]
    have fits : ∀ d ∈ [PyData.none, .bool true, .str (Str.ofString "1"), .int (-1), .list [.int 1], .int 41], Fit d 1 600 := by
      refine all_cons (Fit.none.mono (Nat.le_refl _) (Nat.zero_le _)) (all_cons (Fit.bool.mono (Nat.le_refl _) (Nat.zero_le _)) (all_cons ((lv_any (k := 1) (by decide +kernel) (by decide +kernel)).mono (Nat.le_refl _) (by decide)) (all_cons (fit_i (by omega) (by omega)) (all_cons ?_ (all_cons (fit_i (by omega) (by omega)) all_nil)))))
      exact (Fit.list (FitAll.cons (fit_int (i := 1) (k := 0) (by decide)) FitAll.nil)).mono (Nat.le_refl _) (by omega)
    refine menu_take (m := false) (k := 6) (n := n + 2) b2 (by omega) rfl (evDs_cons res_p evD_non (evDs_cons res_p (evD_bl _) (evDs_cons res_p (evD_str _) (evDs_cons res_p (evD_I (evI_neg (evI_c 1))) (evDs_cons res_p (evL_D (evL_lst (evDs_cons res_p (evD_int 1) evDs_nil) (by simp))) (evDs_cons res_p (evD_int 41) evDs_nil)))))) rfl rfl (by omega) (by omega) fun xo od H3 k3 b3 hod dod => ?_
    have fod : Fit od 1 600 := fits od hod
    have kk3 := k2.trans k3
    have eF3 := k3 _ _ nF eF2
    have bl : ∀ od ∈ [PyData.none, .bool true, .str (Str.ofString "1"), .int (-1), .list [.int 1], .int 41], True := fun _ _ => trivial
    have np := b3.some
    have fin : ∀ x d m H', Kp p H3 H' → BoxAt H' p (n + 10) → Dw K p H' m x d → Fit d 3 90000 → BdR d → Q x H' := fun x d m H' k b dx f bd => kQ x d m H' (kk3.trans k) b dx f bd
    have here : ∀ {te : TE} {d : PyData} {m : Bool} {σ : L2.St}, EvD K m p (fun G => wo G p) te σ H3 d → Fit d 3 90000 → BdR d → te σ H3 Q := fun h f bd => h.here np fun x H' s dx => fin x _ _ H' (Kp.of s) ((b3.same s).mono (by omega)) dx f bd
    have tri : ∀ {te : TE} {ds : List PyData} {σ : L2.St}, σ[3]? = some (some (.int (q : Int))) → σ[4]? = some (some (.int g)) → EvL K p te σ H3 ds → (∀ e ∈ ds, Fit e 1 600) → ds.length ≤ 20 → tTup (tCons te (tCons (tVar 3) (tCons (tVar 4) tNil))) σ H3 Q := fun h3 h4 h f l =>
      here (evD_tup res_p (evDs_cons res_p (evL_D h) (evDs_cons res_p (evD_var (m := false) res_p h3 (.int _)) (evDs_cons res_p (evD_var res_p h4 (.int _)) evDs_nil))) (by simp)) (fit3 f l (fit_i (by omega) (by omega)) (fit_i (by omega) (by omega))) (bd3 (by omega))
    obtain ⟨σ, eσ⟩ : ∃ σ : L2.St, σ = [some (.ref p), some (.ref L), some (.ref F), some (.int (q : Int)), some (.int g), some (.int (way : Int)), some (.int (spot : Int)), some xo] := ⟨_, rfl⟩
    have vF : EvL K p (tVar 2) σ H3 (ns.map PyData.int) := evL_var (by rw [eσ]; rfl) eF3 nF (ints_dg ns)
    have vT : EvL K p (tSl (rSlL K) (tVar 2) tNoPart (tPart (tVar 6))) σ H3 ((ns.map PyData.int).take spot) := evL_to vF (evI_var (by rw [eσ]; rfl))
    have vD : EvL K p (tSl (rSlL K) (tVar 2) (tPart (tOp (rI0 fun i j => .int (i + j)) (tVar 6) (tC (.int 1)))) tNoPart) σ H3 ((ns.map PyData.int).drop (spot + 1)) := evL_fr vF (evI_as (evI_op (g := fun i j => i + j) (evI_var (j := (spot : Int)) (by rw [eσ]; rfl)) (evI_c 1)) (by omega))
    have fI := fit_ints inb
    have fT : ∀ e ∈ (ns.map PyData.int).take spot, Fit e 1 600 := fun e h => fI e (List.mem_of_mem_take h)
    have fD : ∀ e ∈ (ns.map PyData.int).drop (spot + 1), Fit e 1 600 := fun e h => fI e (List.mem_of_mem_drop h)
    have lT : ((ns.map PyData.int).take spot).length ≤ 8 := by rw [List.length_take, List.length_map]; omega
    have lD : ((ns.map PyData.int).drop (spot + 1)).length ≤ 8 := by rw [List.length_drop, List.length_map]; omega
    have mid : ∀ {te : TE} {d : PyData}, EvD K false p (fun G => wo G p) te σ H3 d → Fit d 1 600 → tTup (tCons (tOp rCat (tOp rCat (tSl (rSlL K) (tVar 2) tNoPart (tPart (tVar 6))) (tLst (tCons te tNil))) (tSl (rSlL K) (tVar 2) (tPart (tOp (rI0 fun i j => .int (i + j)) (tVar 6) (tC (.int 1)))) tNoPart)) (tCons (tVar 3) (tCons (tVar 4) tNil))) σ H3 Q := fun {te d} h f => by
      refine tri (by rw [eσ]; rfl) (by rw [eσ]; rfl) (evL_cat (evL_cat vT (evL_lst (evDs_cons res_p h evDs_nil) (by simp)) (by simp; omega)) vD (by simp; omega)) (fun e he => ?_) (by rw [List.length_append, List.length_append]; simp at lT lD ⊢; omega)
      rcases List.mem_append.mp he with z | z
      · rcases List.mem_append.mp z with z | z
        · exact fT e z
        · rw [List.mem_singleton.mp z]; exact f
      · exact fD e z
    subst eσ
    have firstAt : ∀ H', Kp p H3 H' → Dw K p H' false (.ref F) (.list (ns.map PyData.int)) := fun H' k => .lst (SqL.of (by rw [wo_ne nF]; exact k _ _ nF eF3)) (fun z => by cases z) (ints_dg ns)
    have tup_fin : ∀ xs ds m H', Kp p H3 H' → BoxAt H' p (n + 4) → DgAll K (wo H' p) m xs ds → Fit (.tuple ds) 3 90000 → BdR (.tuple ds) → ∀ r, H' r = none → Q (.ref r) (upd H' r (.tup xs)) := fun xs ds m H' k b dxs f bd r hr => by
      have nr : r ≠ p := (b.ne hr).symm
      exact fin _ _ m _ (k.new hr) ((b.new hr).mono (by omega)) (.tup (SqT.of (by rw [wo_ne nr]; exact upd_same)) (dxs.kp ((Kp.refl p _).new hr))) f bd
    have three : 3 ≤ sizeLine := by decide
    have fnil : Fit PyData.none 1 600 := Fit.none.mono (Nat.le_refl _) (Nat.zero_le _)
    have fbl : ∀ b, Fit (PyData.bool b) 1 600 := fun b => Fit.bool.mono (Nat.le_refl _) (Nat.zero_le _)
    have fst : ∀ z : Str, (cs z).length ≤ 100 → (cs z).all (fun c => decide (c < 200)) = true → Fit (PyData.str z) 1 600 := fun z h1 h2 => (lv_any (k := 1) h1 h2).mono (Nat.le_refl _) (by decide)
    have flst : ∀ i : Int, i.natAbs < 10 ^ 30 → Fit (PyData.list [.int i]) 1 600 := fun i h => (Fit.list (FitAll.cons (fit_int (k := 0) h) FitAll.nil)).mono (Nat.le_refl _) (by omega)
    have iv : 0 ≤ ns.getD spot 0 ∧ ns.getD spot 0 ≤ 40 := ⟨rn.nn (by omega), rn.le (by omega)⟩
    refine ⟨_, rfl, rfl, _, rfl, ite2 (fun _ => ?_) (fun _ => ?_)⟩
    · exact mid (evD_var res_p rfl dod) fod
    refine ⟨_, rfl, rfl, _, rfl, ite2 (fun _ => ?_) (fun _ => ?_)⟩
    · exact mid (evD_I (evI_op (g := fun i j => i + j) (evI_ix rfl eF3 nF (evI_var rfl) (at_int (by omega))) (evI_c 1))) (fit_i (by omega) (by omega))
    refine ⟨_, rfl, rfl, _, rfl, ite2 (fun _ => ?_) (fun _ => ?_)⟩
    · exact tri rfl rfl (evL_rev vF) (fit_ints fun n hn => inb n (List.mem_reverse.mp hn)) (by rw [List.length_map, List.length_reverse]; omega)
    refine ⟨_, rfl, rfl, _, rfl, ite2 (fun _ => ?_) (fun _ => ?_)⟩
    · refine tri rfl rfl (evL_cat vF (evL_rep (evI_as (evI_op (g := fun i j => i - j) (evI_c 9) (evI_len rfl eF3 nF)) (show (9 : Int) - ((ns.map V.int).length : Int) = ((9 - ns.length : Nat) : Int) by rw [List.length_map]; omega)) (by omega)) (by simp; omega)) (fun e he => ?_) (by simp; omega)
      rcases List.mem_append.mp he with z | z
      · exact fI e z
      · exact fit_ints (ns := List.replicate (9 - ns.length) 40) (fun n hn => by rw [List.eq_of_mem_replicate hn]; omega) e z
    refine ⟨_, rfl, rfl, _, rfl, ite2 (fun _ => ?_) (fun _ => ?_)⟩
    · exact tri rfl rfl (evL_lst evDs_nil (by simp)) (fun e h => by cases h) (by simp)
    refine ⟨_, rfl, rfl, _, rfl, ite2 (fun _ => ?_) (fun _ => ?_)⟩
    · refine ⟨_, rfl, menu_take (m := false) (k := 7) (n := n + 3) b3 (by omega) rfl (evDs_cons res_p (evD_int 0) (evDs_cons res_p (evD_int 5) (evDs_cons res_p (evD_I (evI_neg (evI_c 1))) (evDs_cons res_p evD_non (evDs_cons res_p (evD_bl _) (evDs_cons res_p (evD_str _) (evDs_cons res_p (evL_D (evL_lst (evDs_cons res_p (evD_int 1) evDs_nil) (by simp))) evDs_nil))))))) rfl rfl (by omega) (by omega) fun x d H' k' b' hm dx => ⟨_, rfl, three, tup_fin [.ref F, x, .int g] [.list (ns.map PyData.int), d, .int g] false H' k' b' (.cons (firstAt H' k') (.cons dx (.cons (.int _) .nil))) (fit3 fI (by rw [List.length_map]; omega) ?_ (fit_i (by omega) (by omega))) (bd3 (by rw [List.length_map]; omega))⟩⟩
      revert d
      exact fun d hm _ => (all_cons (P := fun d => Fit d 1 600) (fit_i (by omega) (by omega)) (all_cons (fit_i (by omega) (by omega)) (all_cons (fit_i (by omega) (by omega)) (all_cons fnil (all_cons (fbl _) (all_cons (fst _ (by decide +kernel) (by decide +kernel)) (all_cons (flst 1 (by decide)) all_nil))))))) d hm
    refine ⟨_, rfl, rfl, _, rfl, ite2 (fun _ => ?_) (fun _ => ?_)⟩
    · refine here (evD_tup res_p (evDs_cons res_p (evL_D vF) (evDs_cons res_p (evD_I (evI_op (g := fun i j => i + j) (evI_len rfl eF3 nF) (evI_c 1))) (evDs_cons res_p (evD_var res_p rfl (.int _)) evDs_nil))) (by simp)) (fit3 fI (by rw [List.length_map]; omega) (fit_i ?_ ?_) (fit_i (by omega) (by omega))) (bd3 (by rw [List.length_map]; omega))
      · rw [List.length_map]; omega
      · rw [List.length_map]; omega
    refine ⟨_, rfl, rfl, _, rfl, ite2 (fun _ => ?_) (fun _ => ?_)⟩
    · refine ⟨_, rfl, _, rfl, menu_take (m := false) (k := 6) (n := n + 3) b3 (by omega) rfl (evDs_cons res_p (evD_int 13) (evDs_cons res_p (evD_I (evI_neg (evI_c 1))) (evDs_cons res_p evD_non (evDs_cons res_p (evD_bl _) (evDs_cons res_p (evD_str _) (evDs_cons res_p (evL_D (evL_lst (evDs_cons res_p (evD_int 0) evDs_nil) (by simp))) evDs_nil)))))) rfl rfl (by omega) (by omega) fun x d H' k' b' hm dx => ⟨three, tup_fin [.ref F, .int q, x] [.list (ns.map PyData.int), .int q, d] false H' k' b' (.cons (firstAt H' k') (.cons (.int _) (.cons dx .nil))) (fit3 fI (by rw [List.length_map]; omega) (fit_i (by omega) (by omega)) ?_) (bd3 (by rw [List.length_map]; omega))⟩⟩
      revert d
      exact fun d hm _ => (all_cons (P := fun d => Fit d 1 600) (fit_i (by omega) (by omega)) (all_cons (fit_i (by omega) (by omega)) (all_cons fnil (all_cons (fbl _) (all_cons (fst _ (by decide +kernel) (by decide +kernel)) (all_cons (flst 0 (by decide)) all_nil)))))) d hm
    refine ⟨_, rfl, rfl, _, rfl, ite2 (fun _ => ?_) (fun _ => ?_)⟩
    · have hlow := rn.mono (ns.length - 1) (ns.length - q) (by omega) (by omega)
      have htop := rn.top
      have hz := rn.nn (i := ns.length - q) (by omega)
      refine here (evD_tup res_p (evDs_cons res_p (evL_D vF) (evDs_cons res_p (evD_var (m := false) res_p rfl (.int _)) (evDs_cons res_p (evD_I (evI_max (evI_op (g := fun i j => i - j) (evI_op (g := fun i j => i - j) (evI_ix rfl eF3 nF (evI_neg (evI_c 1)) (show atI _ (-1) = _ from at_neg (k := 1) (by omega) l1)) (evI_ix rfl eF3 nF (evI_as (evI_op (g := fun i j => i - j) (evI_len rfl eF3 nF) (evI_var (j := (q : Int)) rfl)) (show ((ns.map V.int).length : Int) - (q : Int) = ((ns.length - q : Nat) : Int) by rw [List.length_map]; omega)) (at_int (by omega)))) (evI_c 1)))) evDs_nil))) (by simp)) (fit3 fI (by rw [List.length_map]; omega) (fit_i (by omega) (by omega)) (fit_i ?_ ?_)) (bd3 (by rw [List.length_map]; omega))
      · split <;> omega
      · split <;> omega
    refine ⟨_, rfl, rfl, _, rfl, ite2 (fun _ => ?_) (fun _ => ?_)⟩
    · refine here (evL_D (evL_lst (evDs_cons res_p (evL_D vF) (evDs_cons res_p (evD_var (m := false) res_p rfl (.int _)) (evDs_cons res_p (evD_var res_p rfl (.int _)) evDs_nil))) (by simp))) ?_ ⟨fun es e => (by cases e), fun es rest e => (by cases e), fun es e => by injection e with e; rw [← e]; show 3 ≤ 1000; omega⟩
      have f := fit3 fI (by rw [List.length_map]; omega) (fit_i (i := (q : Int)) (by omega) (by omega)) (fit_i (i := g) (by omega) (by omega))
      exact ⟨f.s, f.d, f.l, f.w⟩
    refine ⟨_, rfl, rfl, _, rfl, ite2 (fun _ => ?_) (fun _ => ?_)⟩
    · refine menu_take (m := false) (k := 3) (n := n + 3) b3 (by omega) rfl (evDs_cons res_p (evD_tup res_p (evDs_cons res_p (evL_D vF) (evDs_cons res_p (evD_var res_p rfl (.int _)) evDs_nil)) (by simp)) (evDs_cons res_p (evD_tup res_p (evDs_cons res_p (evL_D vF) (evDs_cons res_p (evD_var res_p rfl (.int _)) (evDs_cons res_p (evD_var res_p rfl (.int _)) (evDs_cons res_p (evD_int 0) evDs_nil)))) (by simp)) (evDs_cons res_p (evD_tup res_p (evDs_cons res_p (evD_var res_p rfl (.int _)) (evDs_cons res_p (evL_D vF) (evDs_cons res_p (evD_var res_p rfl (.int _)) evDs_nil))) (by simp)) evDs_nil))) rfl rfl (by omega) (by omega) fun x d H' k' b' hm dx => ?_
      have fq : Fit (PyData.int (q : Int)) 2 600 := (fit_i (by omega) (by omega)).mono (by omega) (Nat.le_refl _)
      have fg : Fit (PyData.int g) 2 600 := (fit_i (by omega) (by omega)).mono (by omega) (Nat.le_refl _)
      have f0 : Fit (PyData.int 0) 2 600 := (fit_i (by omega) (by omega)).mono (by omega) (Nat.le_refl _)
      have fF : Fit (.list (ns.map PyData.int)) 2 13000 := (Fit.list (FitAll.all fI)).mono (Nat.le_refl _) (by have := Nat.mul_le_mul_left 601 (show (ns.map PyData.int).length ≤ 20 by rw [List.length_map]; omega); omega)
      have lF : (ns.map PyData.int).length ≤ 1000 := by rw [List.length_map]; omega
      have two : ∀ d ∈ [PyData.tuple [.list (ns.map PyData.int), .int (q : Int)], .tuple [.list (ns.map PyData.int), .int (q : Int), .int g, .int 0], .tuple [.int (q : Int), .list (ns.map PyData.int), .int g]], Fit d 3 90000 ∧ BdR d := by
        refine all_cons ⟨(Fit.tuple (FitAll.cons fF (FitAll.cons fq FitAll.nil))).mono (Nat.le_refl _) (by omega), ?_⟩ (all_cons ⟨(Fit.tuple (FitAll.cons fF (FitAll.cons fq (FitAll.cons fg (FitAll.cons f0 FitAll.nil))))).mono (Nat.le_refl _) (by omega), ?_⟩ (all_cons ⟨(Fit.tuple (FitAll.cons fq (FitAll.cons fF (FitAll.cons fg FitAll.nil)))).mono (Nat.le_refl _) (by omega), ?_⟩ all_nil))
        · exact ⟨fun es e => by injection e with e; rw [← e]; simp, fun es rest e => by injection e with e; injection e with e1 e2; injection e1 with e1; rw [← e1]; exact lF, fun es e => by cases e⟩
        · exact ⟨fun es e => by injection e with e; rw [← e]; simp, fun es rest e => by injection e with e; injection e with e1 e2; injection e1 with e1; rw [← e1]; exact lF, fun es e => by cases e⟩
        · exact ⟨fun es e => by injection e with e; rw [← e]; simp, (fun es rest e => by injection e with e; injection e with e1 e2; cases e1), fun es e => by cases e⟩
      exact fin x d false H' k' (b'.mono (by omega)) dx (two d hm).1 (two d hm).2
    refine ⟨_, rfl, rfl, _, rfl, ite2 (fun _ => ?_) (fun _ => ?_)⟩
    · refine menu_take (m := true) (k := 4) (n := n + 3) b3 (by omega) rfl (evDs_cons res_p evD_non (evDs_cons res_p (evD_str _) (evDs_cons res_p (evD_int 0) (evDs_cons res_p evD_dct evDs_nil)))) rfl rfl (by omega) (by omega) fun x d H' k' b' hm dx => ⟨_, rfl, _, rfl, three, tup_fin [x, .int q, .int g] [d, .int q, .int g] true H' k' b' (.cons dx (.cons (.int _) (.cons (.int _) .nil))) ?_ ?_⟩
      · have f : Fit d 2 600 := (all_cons (P := fun d => Fit d 2 600) (fnil.mono (by omega) (Nat.le_refl _)) (all_cons ((fst _ (by decide +kernel) (by decide +kernel)).mono (by omega) (Nat.le_refl _)) (all_cons ((fit_i (by omega) (by omega)).mono (by omega) (Nat.le_refl _)) (all_cons ((Fit.dict (FitKv.cons (fit_int (i := 0) (k := 1) (by decide)) (fit_int (i := 0) (k := 1) (by decide)) FitKv.nil)).mono (Nat.le_refl _) (by omega)) all_nil)))) d hm
        exact (Fit.tuple (FitAll.cons f (FitAll.cons ((fit_i (i := (q : Int)) (by omega) (by omega)).mono (by omega) (Nat.le_refl _)) (FitAll.cons ((fit_i (i := g) (by omega) (by omega)).mono (by omega) (Nat.le_refl _)) FitAll.nil)))).mono (Nat.le_refl _) (by omega)
      · refine ⟨fun es e => by injection e with e; rw [← e]; simp, fun es rest e => ?_, fun es e => by cases e⟩
        injection e with e
        injection e with e1 e2
        rw [e1] at hm
        simp at hm
    refine ⟨_, rfl, rfl, _, rfl, ite2 (fun _ => ?_) (fun _ => ?_)⟩
    · exact mid (evD_int 40) (fit_i (by omega) (by omega))
    refine ⟨_, rfl, rfl, _, rfl, ite2 (fun _ => ?_) (fun _ => ?_)⟩
    · have m0 := Int.emod_nonneg (q : Int) (by decide : (4 : Int) ≠ 0)
      have m1 := Int.emod_lt_of_pos (q : Int) (by decide : (0 : Int) < 4)
      exact here (evD_tup res_p (evDs_cons res_p (evL_D vF) (evDs_cons res_p (evD_I (evI_op (g := fun i j => i + j) (evI_c 1) (evI_opC (g := fun i j => i % j) (C := fun _ j => 0 < j) (evI_int1 (evI_var (j := (q : Int)) rfl)) (evI_c 4) (by show (0 : Int) < 4; decide)))) (evDs_cons res_p (evD_var res_p rfl (.int _)) evDs_nil))) (by simp)) (fit3 fI (by rw [List.length_map]; omega) (fit_i (by omega) (by omega)) (fit_i (by omega) (by omega))) (bd3 (by rw [List.length_map]; omega))
    refine menu_take (m := false) (k := 6) (n := n + 3) b3 (by omega) rfl (evDs_cons res_p evD_non (evDs_cons res_p (evD_int 0) (evDs_cons res_p (evD_str _) (evDs_cons res_p (evD_tup res_p evDs_nil (by simp)) (evDs_cons res_p (evL_D vF) (evDs_cons res_p (evD_bl _) evDs_nil)))))) rfl rfl (by omega) (by omega) fun x d H' k' b' hm dx => ?_
    have fF : Fit (.list (ns.map PyData.int)) 2 13000 := (Fit.list (FitAll.all fI)).mono (Nat.le_refl _) (by have := Nat.mul_le_mul_left 601 (show (ns.map PyData.int).length ≤ 20 by rw [List.length_map]; omega); omega)
    have lF : (ns.map PyData.int).length ≤ 1000 := by rw [List.length_map]; omega
    have up : ∀ {d : PyData}, Fit d 1 600 → Fit d 3 90000 := fun f => f.mono (by omega) (by omega)
    have all : ∀ d ∈ [PyData.none, .int 0, .str (Str.ofString "row"), .tuple [], .list (ns.map PyData.int), .bool true], Fit d 3 90000 ∧ BdR d := by
      refine all_cons ⟨up fnil, ?_⟩ (all_cons ⟨up (fit_i (by omega) (by omega)), ?_⟩ (all_cons ⟨up (fst _ (by decide +kernel) (by decide +kernel)), ?_⟩ (all_cons ⟨(Fit.tuple (k := 2) FitAll.nil).mono (by omega) (by omega), ?_⟩ (all_cons ⟨fF.mono (by omega) (by omega), ?_⟩ (all_cons ⟨up (fbl _), ?_⟩ all_nil)))))
      · exact ⟨fun es e => (by cases e), fun es rest e => (by cases e), fun es e => by cases e⟩
      · exact ⟨fun es e => (by cases e), fun es rest e => (by cases e), fun es e => by cases e⟩
      · exact ⟨fun es e => (by cases e), fun es rest e => (by cases e), fun es e => by cases e⟩
      · exact ⟨fun es e => (by injection e with e; rw [← e]; simp), fun es rest e => (by cases e), fun es e => by cases e⟩
      · exact ⟨fun es e => (by cases e), fun es rest e => (by cases e), fun es e => by injection e with e; rw [← e]; exact lF⟩
      · exact ⟨fun es e => (by cases e), fun es rest e => (by cases e), fun es e => by cases e⟩
    exact fin x d false H' k' (b'.mono (by omega)) dx (all d hm).1 (all d hm).2
end
end My

set_option Elab.async false
set_option linter.all false
set_option maxRecDepth 100000
set_option maxHeartbeats 8000000
namespace My
open PySem PySem.Spec PyProof.Rows L2
theorem RowNs.inj {d : PyData} {ns ns' : List Int} {q q' : Nat} {g g' : Int} (a : RowNs d ns q g) (b : RowNs d ns' q' g') : ns' = ns ∧ q' = q ∧ g' = g := by
  obtain ⟨f, e1, hf, _⟩ := a
  obtain ⟨f', e2, hf', _⟩ := b
  rw [e1] at e2
  injection e2 with e2
  injection e2 with ef e2
  injection e2 with eq e2
  injection e2 with eg e2
  subst ef
  refine ⟨?_, by injection eq with eq; omega, by injection eg with eg; exact eg.symm⟩
  rcases hf with h | h <;> rcases hf' with h' | h' <;> rw [h] at h'
  · injection h' with h'; exact (map_int_inj h').symm
  · cases h'
  · cases h'
  · injection h' with h'; exact (map_int_inj h').symm
theorem numAt_bd {ns : List Int} {p : Nat} {g : Int} (r : RowN ns (p : Int) g) {n : Nat} (h : n ≤ 1000) : 0 ≤ numAt ns p g n ∧ numAt ns p g n ≤ 20000 := by
  have g0 := r.g0
  have g12 := r.g12
  have p1 := r.p1
  have pl := r.pl
  by_cases c : n < ns.length
  · rw [numAt_low c]
    exact ⟨r.nn c, by have := r.le c; omega⟩
  · have e0 : numAt ns p g n = ns.getD (n - ((n - ns.length) / p + 1) * p) 0 + (((n - ns.length) / p + 1 : Nat) : Int) * g := by unfold numAt; rw [if_neg c]
    have hdm := Nat.div_add_mod (n - ns.length) p
    have hml := Nat.mod_lt (n - ns.length) (by omega : 0 < p)
    have hmul : ((n - ns.length) / p + 1) * p = p * ((n - ns.length) / p) + p := by rw [Nat.add_mul, Nat.mul_comm]; omega
    have hlt : n - ((n - ns.length) / p + 1) * p < ns.length := by omega
    have hd : (n - ns.length) / p ≤ n - ns.length := Nat.div_le_self _ _
    have a0 := r.nn hlt
    have a1 := r.le hlt
    have m0 : 0 ≤ (((n - ns.length) / p + 1 : Nat) : Int) * g := Int.mul_nonneg (Int.natCast_nonneg _) g0
    have m1 : (((n - ns.length) / p + 1 : Nat) : Int) * g ≤ (((n - ns.length) / p + 1 : Nat) : Int) * 12 := Int.mul_le_mul_of_nonneg_left g12 (Int.natCast_nonneg _)
    have hq : ((((n - ns.length) / p + 1 : Nat) : Int)) ≤ 1001 := Int.ofNat_le.mpr (by omega : (n - ns.length) / p + 1 ≤ 1001)
    rw [e0]
    generalize (((n - ns.length) / p + 1 : Nat) : Int) = r at m0 m1 hq ⊢
    omega
theorem sh_i {i : Int} (h0 : -100000 ≤ i) (h : i ≤ 100000) : Sh (.int i) := (fit_int (i := i) (k := 0) (Nat.lt_of_le_of_lt (by omega : i.natAbs ≤ 100000) (by decide))).sh (by omega) (by omega)
section
variable {P : Program} {w : World} {K : PySem.W.Frag} {mg : Str → Option Value} {base : Heap}
def spRr (K : PySem.W.Frag) : Sp := fun vs H Q _ => ∃ p n L ns q g, vs = [.ref p, .ref L] ∧ BoxAt H p n ∧ n < 10000000 ∧ Pl p H L ns q g ∧
  ∀ H', Kp p H H' → BoxAt H' p (n + 10) → Q (.bl true) H'
theorem kb_is_row_value (T : Txt K mg) : KBinds K T.fd_is_row ["value"] ["value"] (fun us ws => match us, ws with | [], [x0] => [x0] | _, _ => []) (fun us ws => match us, ws with | [], [x0] => [x0] | _, _ => []) := by
  obtain ⟨oc, od, kV, doc, pm, an, cdv, ct, osl, e, _, _⟩ := T.F_is_row.ex
  refine ⟨fun s us ws _ hl => ?_, fun r rz => ?_⟩
  · match us, ws, hl with
    | [], [x0], _ =>
      rw [e]
      exact .of_eq rfl
  · match r, rz with
    | .nil, .cons r0 (.nil) => exact .cons r0 (.nil)
    | .nil, .nil => exact .nil
    | .nil, .cons _ (.cons _ _) => exact .nil
    | .cons _ _, _ => exact .nil

theorem kb_is_subadditive_row (T : Txt K mg) : KBinds K T.fd_is_subadditive ["row"] ["row"] (fun us ws => match us, ws with | [], [x0] => [x0] | _, _ => []) (fun us ws => match us, ws with | [], [x0] => [x0] | _, _ => []) := by
  obtain ⟨oc, od, kV, doc, pm, an, cdv, ct, osl, e, _, _⟩ := T.F_is_subadditive.ex
  refine ⟨fun s us ws _ hl => ?_, fun r rz => ?_⟩
  · match us, ws, hl with
    | [], [x0], _ =>
      rw [e]
      exact .of_eq rfl
  · match r, rz with
    | .nil, .cons r0 (.nil) => exact .cons r0 (.nil)
    | .nil, .nil => exact .nil
    | .nil, .cons _ (.cons _ _) => exact .nil
    | .cons _ _, _ => exact .nil

theorem ok_law_row_right (T : Txt K mg) : FnG P w K mg base CX0 6 T.f_law_row_right T.fd_law_row_right ["box", "plain"] (spRr K) := by
  refine T.F_law_row_right.okG sc_law_row_right (fun vs H Q E h => ?_) (fun cdv A outer s0 H vs Q E hgd hr h => ?_)
  · obtain ⟨p, n, L, ns, q, g, rfl, _⟩ := h; rfl
  · obtain ⟨p, n, L, ns, q, g, rfl, hb, hn, hP, kQ⟩ := h
    have hun := un64 hr
    refine ⟨_, (pss_cons (ps_set (i := 2) sc_law_row_right.nd rfl (Or.inl rfl) (pe_call (ok_law_numbers T) (hr.mono (by decide)) rfl T.g_law_numbers T.F_law_numbers.kp T.b_law_numbers .nil pass0 (pa_cons (pv 1) (pa_cons pe_int pa_nil))))
      (pss_cons (ps_set (i := 3) sc_law_row_right.nd rfl (Or.inl rfl) (pe_tup (pa_cons (pe_callTy call_list_of (by rfl) T.z_list (by decide +kernel) (pa_cons (pe_ix ix_list (pv 1) pe_int (fun _ _ => rfl)) pa_nil)) (pa_cons (pe_ix ix_list (pv 1) pe_int (fun _ _ => rfl)) (pa_cons (pe_ix ix_list (pv 1) pe_int (fun _ _ => rfl)) pa_nil)))))
      (pss_cons (ps_set (i := 4) sc_law_row_right.nd rfl (Or.inl rfl) (pe_tup (pa_cons (pe_callTy call_tuple_of (by rfl) T.z_tuple (by decide +kernel) (pa_cons (pe_ix ix_list (pv 1) pe_int (fun _ _ => rfl)) pa_nil)) (pa_cons (pe_ix ix_list (pv 1) pe_int (fun _ _ => rfl)) (pa_cons (pe_ix ix_list (pv 1) pe_int (fun _ _ => rfl)) pa_nil)))))
      (pss_cons (ps_if (PW.pt (pw_or (pt_cmpR op_notBl (pe_call (ok_is_row T) (hr.mono (by decide)) rfl T.g_is_row T.F_is_row.kp T.b_is_row .nil pass0 (pa_cons (pv 3) pa_nil)) pe_bl (nomark _)) (pw_or1 (pt_cmpR op_notBl (pe_callKS (E := fun _ => E0) (ok_is_row T) (hr.mono (by decide)) rfl T.g_is_row T.F_is_row.kp (kb_is_row_value T) (fun σ pins H s e s2 I c => pass0 pins σ H s e s2 I c) (pk_cons (pv 4) pk_nil)) pe_bl (nomark _))))) (pss_one (ps_ret pe_bl)) pss_nil)
      (pss_cons (ps_set (i := 5) sc_law_row_right.nd rfl (Or.inl rfl) (pe_callB call_len_seq (by rfl) T.z_len (by decide +kernel) (pa_cons (pe_ix ix_list (pv 1) pe_int (fun _ _ => rfl)) pa_nil)))
      (pss_cons (ps_for PassesOwn.never rfl (pi_list (pe_lst (pa_cons pe_int (pa_cons (pe_op op_sub (pv 5) pe_int) (pa_cons (pv 5) (pa_cons (pe_op op_add (pv 5) (pe_ix ix_list (pv 1) pe_int (fun _ _ => rfl))) (pa_cons (pe_call (ok_law_take T) (hr.mono (by decide)) rfl T.g_law_take T.F_law_take.kp T.b_law_take .nil pass0 (pa_cons (pv 0) (pa_cons pe_int pa_nil))) (pa_cons (pe_call (ok_law_take T) (hr.mono (by decide)) rfl T.g_law_take T.F_law_take.kp T.b_law_take .nil pass0 (pa_cons (pv 0) (pa_cons pe_int pa_nil))) (pa_cons pe_int pa_nil))))))))) (pg_name (i := 6) sc_law_row_right.nd rfl (Or.inl rfl)) (pss_one (ps_if (PW.pt (pw_or (pt_cmpR op_ne (pe_callB (call_reprG hgd hun) (by rfl) T.z_repr (by decide +kernel) (pa_cons (pe_call (ok_row_at T) (hr.mono (by decide)) rfl T.g_row_at T.F_row_at.kp T.b_row_at .nil passL (pa_cons (pv 3) (pa_cons (pv 6) pa_nil))) pa_nil)) (pe_callB (call_reprG hgd hun) (by rfl) T.z_repr (by decide +kernel) (pa_cons (pe_ix ix_list (pv 2) (pv 6) (fun _ _ => rfl)) pa_nil)) (nomark _)) (pw_or1 (pt_cmpR op_ne (pe_callKS (E := fun _ => E0) (ok_row_at T) (hr.mono (by decide)) rfl T.g_row_at T.F_row_at.kp (kb_row_at_many_row T) (fun σ pins H s e s2 I c => passL pins σ H s e s2 I c) (pk_cons (pv 6) (pk_cons (pv 4) pk_nil))) (pe_ix ix_list (pv 2) (pv 6) (fun _ _ => rfl)) (nomark _))))) (pss_one (ps_ret pe_bl)) pss_nil)))
      (pss_cons (ps_set (i := 7) sc_law_row_right.nd rfl (Or.inl rfl) (pe_call (ok_law_is_subadditive T) (hr.mono (by decide)) rfl T.g_law_is_subadditive T.F_law_is_subadditive.kp T.b_law_is_subadditive .nil pass0 (pa_cons (pv 1) pa_nil)))
      (pss_cons (ps_if (PW.pt (pw_or (pt_cmpR op_ne (pe_callB (call_reprG hgd hun) (by rfl) T.z_repr (by decide +kernel) (pa_cons (pe_call (ok_is_subadditive T) (hr.mono (by decide)) rfl T.g_is_subadditive T.F_is_subadditive.kp T.b_is_subadditive .nil passL (pa_cons (pv 3) pa_nil)) pa_nil)) (pe_callB (call_reprG hgd hun) (by rfl) T.z_repr (by decide +kernel) (pa_cons (pv 7) pa_nil)) (nomark _)) (pw_or1 (pt_cmpR op_ne (pe_callB (call_reprG hgd hun) (by rfl) T.z_repr (by decide +kernel) (pa_cons (pe_callKS (E := fun _ => E0) (ok_is_subadditive T) (hr.mono (by decide)) rfl T.g_is_subadditive T.F_is_subadditive.kp (kb_is_subadditive_row T) (fun σ pins H s e s2 I c => passL pins σ H s e s2 I c) (pk_cons (pv 4) pk_nil)) pa_nil)) (pe_callB (call_reprG hgd hun) (by rfl) T.z_repr (by decide +kernel) (pa_cons (pv 7) pa_nil)) (nomark _))))) (pss_one (ps_ret pe_bl)) pss_nil)
      (pss_one (ps_ret (pe_cmpR op_eq (pe_callB (call_reprG hgd hun) (by rfl) T.z_repr (by decide +kernel) (pa_cons (pv 3) pa_nil)) (pe_callB (call_reprG hgd hun) (by rfl) T.z_repr (by decide +kernel) (pa_cons (pe_tup (pa_cons (pe_ix ix_list (pv 1) pe_int (fun _ _ => rfl)) (pa_cons (pe_ix ix_list (pv 1) pe_int (fun _ _ => rfl)) (pa_cons (pe_ix ix_list (pv 1) pe_int (fun _ _ => rfl)) pa_nil)))) pa_nil)) (nomark _)))))))))))), ?_⟩
    obtain ⟨nL, F, nF, eL, eF, rn⟩ := id hP
    have l1 := rn.l1
    have l8 := rn.l8
    have p1 := rn.p1
    have p4 := rn.p4
    have pl := rn.pl
    have g0 := rn.g0
    have g12 := rn.g12
    have inb : ∀ n ∈ ns, 0 ≤ n ∧ n ≤ 40 := fun n hn => by
      obtain ⟨i, hi, e⟩ := mem_getD hn
      rw [← e]; exact ⟨rn.nn hi, rn.le hi⟩
    have three : 3 ≤ sizeLine := by decide
    have seven : 7 ≤ sizeLine := by decide
    refine ⟨_, rfl, L, ns, q, g, 401, rfl, hP.pln, by omega, fun N H1 s1 eN nN => ?_⟩
    have nN' : N ≠ p := fun z => hb.some (by rw [← z]; exact nN)
    have eL1 := s1 _ _ eL
    have eF1 := s1 _ _ eF
    refine ⟨_, rfl, L, _, _, _, rfl, rfl, SqL.of eL1, atI_nat (j := 0) rfl, F, _, rfl, .inl (SqL.of eF1), fun A hA => ?_⟩
    have nA : A ≠ p := fun z => (same_at s1 hb.some) (by rw [← z]; exact hA)
    have s2 : Same H1 (upd H1 A (.lst (ns.map V.int))) := Same.new (Same.refl _) hA
    have eA : (upd H1 A (.lst (ns.map V.int))) A = some (.lst (ns.map V.int)) := upd_same
    generalize upd H1 A (.lst (ns.map V.int)) = H2 at s2 eA ⊢
    have eL2 := s2 _ _ eL1
    refine ⟨_, rfl, L, _, _, _, rfl, rfl, SqL.of eL2, atI_nat (j := 1) rfl, _, rfl, L, _, _, _, rfl, rfl, SqL.of eL2, atI_nat (j := 2) rfl, three, fun P1 hP1 => ?_⟩
    have nP1 : P1 ≠ p := fun z => (same_at (s1.trans s2) hb.some) (by rw [← z]; exact hP1)
    have s3 : Same H2 (upd H2 P1 (.tup [.ref A, .int (q : Int), .int g])) := Same.new (Same.refl _) hP1
    have eP1 : (upd H2 P1 (.tup [.ref A, .int (q : Int), .int g])) P1 = some (.tup [.ref A, .int (q : Int), .int g]) := upd_same
    generalize upd H2 P1 (.tup [.ref A, .int (q : Int), .int g]) = H3 at s3 eP1 ⊢
    have eL3 := s3 _ _ eL2
    have eF3 := s3 _ _ (s2 _ _ eF1)
    refine ⟨_, rfl, L, _, _, _, rfl, rfl, SqL.of eL3, atI_nat (j := 0) rfl, F, _, rfl, .inl ⟨SqL.of eF3, fun B hB => ?_⟩⟩
    have nB : B ≠ p := fun z => (same_at ((s1.trans s2).trans s3) hb.some) (by rw [← z]; exact hB)
    have s4 : Same H3 (upd H3 B (.tup (ns.map V.int))) := Same.new (Same.refl _) hB
    have eB : (upd H3 B (.tup (ns.map V.int))) B = some (.tup (ns.map V.int)) := upd_same
    generalize upd H3 B (.tup (ns.map V.int)) = H4 at s4 eB ⊢
    have eL4 := s4 _ _ eL3
    refine ⟨_, rfl, L, _, _, _, rfl, rfl, SqL.of eL4, atI_nat (j := 1) rfl, _, rfl, L, _, _, _, rfl, rfl, SqL.of eL4, atI_nat (j := 2) rfl, three, fun P2 hP2 => ?_⟩
    have nP2 : P2 ≠ p := fun z => (same_at (((s1.trans s2).trans s3).trans s4) hb.some) (by rw [← z]; exact hP2)
    have s5 : Same H4 (upd H4 P2 (.tup [.ref B, .int (q : Int), .int g])) := Same.new (Same.refl _) hP2
    have eP2 : (upd H4 P2 (.tup [.ref B, .int (q : Int), .int g])) P2 = some (.tup [.ref B, .int (q : Int), .int g]) := upd_same
    generalize upd H4 P2 (.tup [.ref B, .int (q : Int), .int g]) = H5 at s5 eP2 ⊢
    have s35 := s4.trans s5
    have sH5 : Same H H5 := ((s1.trans s2).trans s3).trans s35
    have eA5 := s35 _ _ (s3 _ _ eA)
    have eP15 := s35 _ _ eP1
    have eB5 := s5 _ _ eB
    have eN5 := s35 _ _ (s3 _ _ (s2 _ _ eN))
    have dP : ∀ H', Kp p H5 H' → Dg K H' false (.ref P1) (.tuple [.list (ns.map PyData.int), .int (q : Int), .int g]) := fun H' k =>
      .tup (SqT.of (k _ _ nP1 eP15)) (.cons (.lst (SqL.of (k _ _ nA eA5)) (fun z => by cases z) (ints_dg ns)) (.cons (.int _) (.cons (.int _) .nil)))
    have dO : ∀ H', Kp p H5 H' → Dg K H' false (.ref P2) (.tuple [.tuple (ns.map PyData.int), .int (q : Int), .int g]) := fun H' k =>
      .tup (SqT.of (k _ _ nP2 eP2)) (.cons (.tup (SqT.of (k _ _ nB eB5)) (ints_dg ns)) (.cons (.int _) (.cons (.int _) .nil)))
    have n1 : RowNs (.tuple [.list (ns.map PyData.int), .int (q : Int), .int g]) ns q g := ⟨_, rfl, .inl rfl, rn⟩
    have n2 : RowNs (.tuple [.tuple (ns.map PyData.int), .int (q : Int), .int g]) ns q g := ⟨_, rfl, .inr rfl, rn⟩
    have r1 := rowB_t n1.d
    have r2 := rowB_t n2.d
    refine ⟨_, rfl, .ref P1, _, false, rfl, dP _ (Kp.refl p _), fun H6 s6 => ?_⟩
    rw [r1]
    refine ⟨true, true, rfl, rfl, _, rfl, iteF ⟨_, rfl, .ref P2, _, false, rfl, dO H6 (Kp.of s6), fun H7 s7 => ?_⟩⟩
    rw [r2]
    refine ⟨true, true, rfl, rfl, _, rfl, iteF ?_⟩
    have s57 := s6.trans s7
    have sH7 := sH5.trans s57
    have eL7 := sH7 _ _ eL
    have eF7 := sH7 _ _ eF
    refine ⟨_, rfl, L, _, _, _, rfl, rfl, SqL.of eL7, atI_nat (j := 0) rfl, F, _, rfl, .inl (SqL.of eF7), ?_⟩
    rw [List.length_map]
    refine ⟨_, rfl, _, _, rfl, rfl, _, rfl, _, rfl, _, rfl, L, _, _, _, rfl, rfl, SqL.of eL7, atI_nat (j := 1) rfl, _, _, rfl, rfl, _, rfl, p, n, 30, rfl, hb.same sH7, by omega, by omega, by omega, fun d1 o1 hd1 ho1 => ⟨_, rfl, p, _, 401, rfl, ho1.at, by omega, by omega, by omega, fun d2 o2 hd2 ho2 => ⟨seven, fun C hC => ?_⟩⟩⟩
    have nC : C ≠ p := fun z => by rw [z, upd_same] at hC; cases hC
    obtain ⟨cs, ecs⟩ : ∃ cs : List V, cs = [.int 0, .int ((ns.length : Int) - 1), .int (ns.length : Int), .int ((ns.length : Int) + (q : Int)), .int (d1 : Int), .int (d2 : Int), .int 400] := ⟨_, rfl⟩
    have hcs : ∀ x ∈ cs, ∃ c : Nat, x = .int (c : Int) ∧ c ≤ 400 := fun x hx => by
      rw [ecs] at hx
      simp only [List.mem_cons, List.not_mem_nil, or_false] at hx
      rcases hx with z | z | z | z | z | z | z
      · exact ⟨0, z, by omega⟩
      · exact ⟨ns.length - 1, by rw [z]; congr 1; omega, by omega⟩
      · exact ⟨ns.length, z, by omega⟩
      · exact ⟨ns.length + q, by rw [z]; congr 1, by omega⟩
      · exact ⟨d1, z, by omega⟩
      · exact ⟨d2, z, by omega⟩
      · exact ⟨400, z, by omega⟩
    obtain ⟨H8, e8⟩ : ∃ H8, H8 = upd (upd (upd H7 p o1) p o2) C (.lst cs) := ⟨_, rfl⟩
    have k8 : Kp p H7 H8 := by rw [e8]; exact (((Kp.refl p H7).upd).upd).new hC
    have b8 : BoxAt H8 p (n + 2) := by rw [e8]; exact ho2.at.other nC.symm
    have eC : H8 C = some (.lst cs) := by rw [e8]; exact upd_same
    have k58 : Kp p H5 H8 := (Kp.of s57).trans k8
    have kH8 : Kp p H H8 := (Kp.of sH7).trans k8
    have eN8 := k58 _ _ nN' eN5
    refine ⟨C, rfl, ⟨cs, SqL.of (by rw [ecs]; exact upd_same)⟩, ?_⟩
    refine for_list (K := K) (a := C) (xs := cs) (fun i σ H' => ∃ x6, σ = [some (.ref p), some (.ref L), some (.ref N), some (.ref P1), some (.ref P2), some (.int (ns.length : Int)), x6, none] ∧ Same H8 H') ⟨none, rfl, fun b o e => by rw [e8, ecs] at e; exact e⟩ (fun i σ H' _ ⟨_, _, s'⟩ => SqL.of (s' _ _ eC)) ?_ ?_
    · rintro i x σ H' hx ⟨x6, rfl, s'⟩
      obtain ⟨c, rfl, hc⟩ := hcs x (List.mem_of_getElem? hx)
      have bd := numAt_bd rn (n := c) (by omega)
      have sh := sh_i (i := numAt ns q g c) (by omega) (by omega)
      have cn : isCn (.int (c : Int)) = true := by
        show decide ((0 : Int) ≤ (c : Int)) = true
        exact decide_eq_true (by omega)
      refine ⟨_, rfl, _, rfl, .ref P1, _, false, .int (c : Int), .int (c : Int), false, rfl, dP _ (k58.trans (Kp.of s')), .int _, (fun z => by rw [r1] at z; cases z), (fun _ z => by rw [cn] at z; cases z), fun _ _ => ⟨c, rfl, by omega, fun ns' q' g' hN H9 s9 => ?_⟩⟩
      obtain ⟨rfl, rfl, rfl⟩ := n1.inj hN
      have eN9 := s9 _ _ (s' _ _ eN8)
      refine ⟨_, .int _, false, rfl, .int _, sh.1, sh.2.1, sh.2.2, _, rfl, _, rfl, N, _, _, _, rfl, rfl, SqL.of eN9, numsV_at (by omega), _, .int _, false, rfl, .int _, sh.1, sh.2.1, sh.2.2, rfl, _, rfl, neSame ?_⟩
      refine ⟨_, rfl, _, rfl, .ref P2, _, false, .int (c : Int), .int (c : Int), false, rfl, dO _ (k58.trans (Kp.of (s'.trans s9))), .int _, (fun z => by rw [r2] at z; cases z), (fun _ z => by rw [cn] at z; cases z), fun _ _ => ⟨c, rfl, by omega, fun ns' q' g' hN H10 s10 => ?_⟩⟩
      obtain ⟨rfl, rfl, rfl⟩ := n2.inj hN
      refine ⟨_, rfl, _, rfl, N, _, _, _, rfl, rfl, SqL.of (s10 _ _ eN9), numsV_at (by omega), rfl, _, rfl, ?_⟩
      rw [decide_eq_true rfl]
      exact iteF ⟨_, rfl, (s'.trans s9).trans s10⟩
    · rintro σ H9 ⟨x6, rfl, s'⟩
      have kH9 := kH8.trans (Kp.of s')
      have k59 := k58.trans (Kp.of s')
      refine ⟨_, rfl, L, ns, q, g, rfl, (hP.kp kH9).pln, fun b H10 hb10 s10 => ?_⟩
      have shb : Sh (.bool b) := (Fit.bool (k := 0)).sh (by omega) (by omega)
      have same : ∀ b', (b' = true ↔ SubN ns q g) → b' = b := fun b' h => by
        rw [Bool.eq_iff_iff]; exact h.trans hb10.symm
      have shp : Sh (.tuple [.list (ns.map PyData.int), .int (q : Int), .int g]) := (fit3 (fit_ints inb) (by rw [List.length_map]; omega) (fit_i (by omega) (by omega)) (fit_i (by omega) (by omega))).sh (by omega) (by omega)
      refine ⟨_, rfl, .ref P1, _, false, rfl, dP _ (k59.trans (Kp.of s10)), (fun z => by rw [r1] at z; cases z), fun _ ns' q' g' hN b' H11 hb' s11 => ?_⟩
      obtain ⟨rfl, rfl, rfl⟩ := n1.inj hN
      obtain rfl := same b' hb'
      refine ⟨_, .bool b', false, rfl, .bl _, shb.1, shb.2.1, shb.2.2, _, rfl, _, .bool b', false, rfl, .bl _, shb.1, shb.2.1, shb.2.2, rfl, _, rfl, neSame ?_⟩
      refine ⟨_, rfl, .ref P2, _, false, rfl, dO _ (k59.trans (Kp.of (s10.trans s11))), (fun z => by rw [r2] at z; cases z), fun _ ns' q' g' hN b2 H12 hb2 s12 => ?_⟩
      obtain ⟨rfl, rfl, rfl⟩ := n2.inj hN
      obtain rfl := same b2 hb2
      refine ⟨_, .bool b2, false, rfl, .bl _, shb.1, shb.2.1, shb.2.2, _, rfl, _, .bool b2, false, rfl, .bl _, shb.1, shb.2.1, shb.2.2, rfl, _, rfl, neSame ?_⟩
      have s912 := (s10.trans s11).trans s12
      have k12 := kH9.trans (Kp.of s912)
      have eL12 := k12 _ _ nL eL
      have eF12 := k12 _ _ nF eF
      refine ⟨_, rfl, .ref P1, _, false, rfl, dP _ (k59.trans (Kp.of s912)), shp.1, shp.2.1, shp.2.2, _, rfl, L, _, _, _, rfl, rfl, SqL.of eL12, atI_nat (j := 0) rfl, _, rfl, L, _, _, _, rfl, rfl, SqL.of eL12, atI_nat (j := 1) rfl, _, rfl, L, _, _, _, rfl, rfl, SqL.of eL12, atI_nat (j := 2) rfl, three, fun R hR => ?_⟩
      have sR : Same H12 (upd H12 R (.tup [.ref F, .int (q' : Int), .int g'])) := Same.new (Same.refl _) hR
      refine ⟨.ref R, .tuple [.list (ns'.map PyData.int), .int (q' : Int), .int g'], false, rfl, .tup (SqT.of upd_same) (.cons (.lst (SqL.of (sR _ _ eF12)) (fun z => by cases z) (ints_dg _)) (.cons (.int _) (.cons (.int _) .nil))), shp.1, shp.2.1, shp.2.2, rfl, ?_⟩
      rw [decide_eq_true rfl]
      exact kQ _ (k12.trans (Kp.of sR)) (((b8.same s').same (s912.trans sR)).mono (by omega))
end
end My

set_option Elab.async false
set_option linter.all false
set_option maxRecDepth 100000
set_option maxHeartbeats 8000000
namespace My
open PySem PySem.Spec PyProof.Rows L2
section
variable {P : Program} {w : World} {K : PySem.W.Frag} {mg : Str → Option Value} {base : Heap}
def spSr (K : PySem.W.Frag) : Sp := fun vs H Q _ => ∃ p n L ns q g x d m, vs = [.ref p, .ref L, x] ∧ BoxAt H p n ∧ n < 10000000 ∧ Pl p H L ns q g ∧ Dw K p H m x d ∧ Fit d 3 90000 ∧ BdR d ∧
  ∀ H', Kp p H H' → BoxAt H' p (n + 40) → Q (.bl true) H'
theorem ok_law_spoiled_right (T : Txt K mg) : FnG P w K mg base CX0 8 T.f_law_spoiled_right T.fd_law_spoiled_right ["box", "plain", "thing"] (spSr K) := by
  refine T.F_law_spoiled_right.okG sc_law_spoiled_right (fun vs H Q E h => ?_) (fun cdv A outer s0 H vs Q E hgd hr h => ?_)
  · obtain ⟨p, n, L, ns, q, g, x, d, m, rfl, _⟩ := h; rfl
  · obtain ⟨p, n, L, ns, q, g, x, d, m, rfl, hb, hn, hP, hd, ft, bd, kQ⟩ := h
    have hun := un64 hr
    refine ⟨_, (pss_cons (ps_if (pt_cmpR op_ne (pe_callB (call_reprG hgd hun) (by rfl) T.z_repr (by decide +kernel) (pa_cons (pe_call (ok_is_row T) (hr.mono (by decide)) rfl T.g_is_row T.F_is_row.kp T.b_is_row .nil pass0 (pa_cons (pe_call (ok_law_copy T) (hr.mono (by decide)) rfl T.g_law_copy T.F_law_copy.kp T.b_law_copy .nil pass0 (pa_cons (pv 2) pa_nil)) pa_nil)) pa_nil)) (pe_callB (call_reprG hgd hun) (by rfl) T.z_repr (by decide +kernel) (pa_cons (pe_call (ok_law_judged T) (hr.mono (by decide)) rfl T.g_law_judged T.F_law_judged.kp T.b_law_judged .nil pass0 (pa_cons (pv 2) pa_nil)) pa_nil)) (nomark _)) (pss_one (ps_ret pe_bl)) pss_nil)
      (pss_cons (ps_set (i := 3) sc_law_spoiled_right.nd rfl (Or.inl rfl) (pe_ix ix_list (pe_lst (pa_cons (pe_un un_neg pe_int) (pa_cons pe_non (pa_cons pe_bl (pa_cons pe_str (pa_cons (pe_lst (pa_cons pe_int pa_nil)) pa_nil)))))) (pe_call (ok_law_take T) (hr.mono (by decide)) rfl T.g_law_take T.F_law_take.kp T.b_law_take .nil pass0 (pa_cons (pv 0) (pa_cons pe_int pa_nil))) (fun _ _ => rfl)))
      (Evl.pss_cut (ps_if (pt_not (pt_val (pe_call (ok_law_judged T) (hr.mono (by decide)) rfl T.g_law_judged T.F_law_judged.kp T.b_law_judged .nil pass0 (pa_cons (pv 2) pa_nil)))) (pss_one (ps_for PassesOwn.never rfl (pi_range1 rfl T.z_range (pa_cons pe_int pa_nil)) (pg_name (i := 4) sc_law_spoiled_right.nd rfl (Or.inl rfl)) (pss_one (ps_if (pt_not (pt_val (pe_callG (ok_law_refused T) hgd (hr.mono (by decide)) rfl T.g_law_refused T.F_law_refused.kp T.b_law_refused .nil pass0 (pa_cons (pv 4) (pa_cons (pv 2) (pa_cons (pe_ix ix_list (pe_lst (pa_cons (pv 3) (pa_cons pe_int pa_nil))) (pe_call (ok_law_take T) (hr.mono (by decide)) rfl T.g_law_take T.F_law_take.kp T.b_law_take .nil pass0 (pa_cons (pv 0) (pa_cons pe_int pa_nil))) (fun _ _ => rfl)) pa_nil)))))) (pss_one (ps_ret pe_bl)) pss_nil)))) pss_nil)
      (pss_cons (ps_for PassesOwn.never rfl (pi_range1 rfl T.z_range (pa_cons pe_int pa_nil)) (pg_name (i := 4) sc_law_spoiled_right.nd rfl (Or.inl rfl)) (pss_cons (ps_set (i := 5) sc_law_spoiled_right.nd rfl (Or.inl rfl) (pe_ifExp (pt_val (pe_callB call_isi (by rfl) T.z_isinstance (by decide +kernel) (pa_cons (pv 3) (pa_cons (pe_bltn (v := .ty "list") (u := .type "list") (by rfl) T.z_list (by decide +kernel) rfl) pa_nil)))) (pe_callTy call_list_of (by rfl) T.z_list (by decide +kernel) (pa_cons (pv 3) pa_nil)) (pv 3)))
      (pss_cons (ps_set (i := 6) sc_law_spoiled_right.nd rfl (Or.inl rfl) (pe_call (ok_law_told T) (hr.mono (by decide)) rfl T.g_law_told T.F_law_told.kp T.b_law_told .nil pass0 (pa_cons (pv 4) (pa_cons (pe_tup (pa_cons (pe_callTy call_list_of (by rfl) T.z_list (by decide +kernel) (pa_cons (pe_ix ix_list (pv 1) pe_int (fun _ _ => rfl)) pa_nil)) (pa_cons (pe_ix ix_list (pv 1) pe_int (fun _ _ => rfl)) (pa_cons (pe_ix ix_list (pv 1) pe_int (fun _ _ => rfl)) pa_nil)))) (pa_cons (pv 5) pa_nil)))))
      (pss_cons (ps_if (PW.pt (pw_or (pt_cmpR op_ne (pe_callB call_len_seq (by rfl) T.z_len (by decide +kernel) (pa_cons (pv 6) pa_nil)) pe_int (nomark _)) (pw_or (pt_cmpR op_ne (pe_ix ix_list (pv 6) pe_int (fun _ _ => rfl)) pe_str (nomark _)) (pw_or1 (pt_cmpR op_ne (pe_callB (call_reprG hgd hun) (by rfl) T.z_repr (by decide +kernel) (pa_cons (pe_ix ix_list (pv 6) pe_int (fun _ _ => rfl)) pa_nil)) (pe_callB (call_reprG hgd hun) (by rfl) T.z_repr (by decide +kernel) (pa_cons (pv 3) pa_nil)) (nomark _)))))) (pss_one (ps_ret pe_bl)) pss_nil)
      (pss_one (ps_if (pt_val (pe_callB call_isi (by rfl) T.z_isinstance (by decide +kernel) (pa_cons (pv 3) (pa_cons (pe_bltn (v := .ty "list") (u := .type "list") (by rfl) T.z_list (by decide +kernel) rfl) pa_nil)))) (pss_cons (ps_set (i := 7) sc_law_spoiled_right.nd rfl (Or.inl rfl) (pe_ix ix_list (pv 6) pe_int (fun _ _ => rfl)))
      (pss_cons (ps_expr (pe_bm PySem.F.plainAttrs_list PySem.F.slot_list_append PySem.F.type_list_append mt_append (pv 7) (pa_cons (pv 4) pa_nil)))
      (pss_one (ps_if (pt_cmpR (op_neD (un64 hr)) (pe_slice sl_list (pv 5) (po_some (pe_un un_neg pe_int)) po_none) (pe_lst (pa_cons (pv 4) pa_nil)) (nomark _)) (pss_one (ps_ret pe_bl)) pss_nil)))) pss_nil))))))
      (pss_one (ps_ret pe_bl)))))), ?_⟩
    have shb : ∀ b, Sh (.bool b) := fun b => (Fit.bool (k := 0)).sh (by omega) (by omega)
    have dgH := hd.dg
    refine ⟨_, rfl, x, d, m, rfl, dgH, bd.t, fun y H1 s1 dy _ _ => ⟨y, d, m, rfl, dy, fun H2 s2 => ⟨_, .bool (rowB d), false, rfl, .bl _, (shb _).1, (shb _).2.1, (shb _).2.2, _, rfl, x, d, m, rfl, (dgH.ext s1).ext s2, fun H3 s3 => ⟨_, .bool (rowB d), false, rfl, .bl _, (shb _).1, (shb _).2.1, (shb _).2.2, rfl, _, rfl, neSame ?_⟩⟩⟩⟩
    have s13 := (s1.trans s2).trans s3
    have b3 := hb.same s13
    refine menu_take (m := false) (k := 5) (n := n) b3 (by omega) rfl (evDs_cons res_p (evD_I (evI_neg (evI_c 1))) (evDs_cons res_p evD_non (evDs_cons res_p (evD_bl _) (evDs_cons res_p (evD_str _) (evDs_cons res_p (evL_D (evL_lst (evDs_cons res_p (evD_int 0) evDs_nil) (by simp))) evDs_nil))))) rfl rfl (by omega) (by omega) fun xo od H4 k4 b4 hod dod => ?_
    have k14 : Kp p H H4 := (Kp.of s13).trans k4
    have fits : ∀ d ∈ [PyData.int (-1), .none, .bool true, .str (Str.ofString "4"), .list [.int 0]], Fit d 1 600 ∧ isCn d = false ∧ ∀ es, d = .list es → es.length ≤ 1 := by
      refine all_cons ⟨fit_i (by omega) (by omega), by decide +kernel, fun es e => by cases e⟩ (all_cons ⟨Fit.none.mono (Nat.le_refl _) (Nat.zero_le _), by decide +kernel, fun es e => by cases e⟩ (all_cons ⟨Fit.bool.mono (Nat.le_refl _) (Nat.zero_le _), by decide +kernel, fun es e => by cases e⟩ (all_cons ⟨(lv_any (k := 1) (by decide +kernel) (by decide +kernel)).mono (Nat.le_refl _) (by decide), by decide +kernel, fun es e => by cases e⟩ (all_cons ⟨?_, by decide +kernel, fun es e => by injection e with e; rw [← e]; simp⟩ all_nil))))
      exact (Fit.list (FitAll.cons (fit_int (i := 0) (k := 0) (by decide)) FitAll.nil)).mono (Nat.le_refl _) (by omega)
    obtain ⟨fod, cod, lod⟩ := fits od hod
    have sod : Sh od := fod.sh (by omega) (by omega)
    refine ⟨fun σ H' => ∃ x4, σ = [some (.ref p), some (.ref L), some x, some xo, x4, none, none, none] ∧ Kp p H4 H' ∧ BoxAt H' p (n + 10), ?_, ?_⟩
    · refine ⟨_, rfl, x, d, m, rfl, (hd.kp k14).dg, fun H5 s5 => ⟨_, rfl, ?_⟩⟩
      cases hf : rowB d with
      | true => exact iteF ⟨_, rfl, Kp.of s5, (b4.same s5).mono (by omega)⟩
      | false =>
        refine iteT ⟨6, rfl, by decide, by decide, ?_⟩
        refine for_range (lo := 0) (n := 6) (fun i σ H' => ∃ x4, σ = [some (.ref p), some (.ref L), some x, some xo, x4, none, none, none] ∧ Kp p H4 H' ∧ BoxAt H' p (n + 1 + i)) ⟨_, rfl, Kp.of s5, (b4.same s5).mono (by omega)⟩ ?_ ?_
        · rintro i σ H6 hi ⟨x4, rfl, k6, b6⟩
          rw [Int.zero_add]
          refine ⟨_, rfl, _, rfl, ?_⟩
          refine menu_take (m := false) (k := 2) (n := n + 1 + i) b6 (by omega) rfl (evDs_cons res_p (evD_var res_p rfl (dod.kp k6)) (evDs_cons res_p (evD_int 3) evDs_nil)) rfl rfl (by omega) (by omega) fun y e H7 k7 b7 hm dy => ?_
          refine ⟨i, x, d, m, y, e, false, rfl, hi, ((hd.kp k14).kp (k6.trans k7)).dg, dy.dg, hf, ft.sh (by omega) (by omega), bd, fun H8 s8 => ⟨_, rfl, iteF ⟨_, rfl, (k6.trans k7).trans (Kp.of s8), (b7.same s8).mono (by omega)⟩⟩⟩
        · rintro σ H6 ⟨x4, rfl, k6, b6⟩
          exact ⟨_, rfl, k6, b6.mono (by omega)⟩
    rintro σ H5 ⟨x4, rfl, k5, b5⟩
    refine ⟨2, rfl, by decide, by decide, ?_⟩
    refine for_range (lo := 0) (n := 2) (fun i σ H' => ∃ x4 x5 x6 x7, σ = [some (.ref p), some (.ref L), some x, some xo, x4, x5, x6, x7] ∧ Same H5 H') ⟨_, _, _, _, rfl, Same.refl _⟩ ?_ ?_
    · rintro i σ H6 hi ⟨x4, x5, x6, x7, rfl, s6⟩
      rw [Int.zero_add]
      have do6 : Dg K H6 false xo od := (dod.kp (k5.trans (Kp.of s6))).dg
      show tSeq _ _ _ _ _
      unfold L2.tSeq
      show tAsg _ _ _ _ _
      unfold L2.tAsg
      refine through2 (fun y H' => Same H6 H' ∧ Dg K H' false y od ∧ ∀ es, od = .list es → ∃ F xs, y = .ref F ∧ H6 F = none ∧ H' F = some (.lst xs) ∧ xs.length ≤ 1) (fun Q' q => ?_) (fun y H7 ⟨s7, dy, hl⟩ => ?_)
      · refine ⟨_, rfl, _, _, _, _, isLstD od, rfl, .ty _, do6.ty, kit_lstD od, _, rfl, ?_⟩
        cases od with
        | list es =>
          obtain ⟨a, xs, rfl, hsq, low, ha⟩ := do6.lst_of
          refine iteT ⟨_, rfl, a, xs, rfl, .inl hsq, fun F hF => q _ _ ⟨Same.new (Same.refl _) hF, .lst (SqL.of upd_same) (fun z => by cases z) (ha.ext (Same.new (Same.refl _) hF)), fun es' e => ⟨F, xs, rfl, hF, upd_same, ?_⟩⟩⟩
          rw [ha.len]; exact lod _ rfl
        | _ => exact iteF ⟨_, rfl, q _ _ ⟨Same.refl _, do6, fun es e => by cases e⟩⟩
      have P7 := ((hP.kp k14).kp (k5.trans (Kp.of (s6.trans s7))))
      obtain ⟨nL, F0, nF0, eL, eF, rn⟩ := P7
      have l1 := rn.l1
      have three : 3 ≤ sizeLine := by decide
      refine ⟨_, rfl, _, rfl, L, _, _, _, rfl, rfl, SqL.of eL, atI_nat (j := 0) rfl, F0, _, rfl, .inl (SqL.of eF), fun A1 hA1 => ?_⟩
      have s8 : Same H7 (upd H7 A1 (.lst (ns.map V.int))) := Same.new (Same.refl _) hA1
      have eA : (upd H7 A1 (.lst (ns.map V.int))) A1 = some (.lst (ns.map V.int)) := upd_same
      generalize upd H7 A1 (.lst (ns.map V.int)) = H8 at s8 eA ⊢
      have eL8 := s8 _ _ eL
      refine ⟨_, rfl, L, _, _, _, rfl, rfl, SqL.of eL8, atI_nat (j := 1) rfl, _, rfl, L, _, _, _, rfl, rfl, SqL.of eL8, atI_nat (j := 2) rfl, three, fun P1 hP1 => ?_⟩
      have s9 : Same H8 (upd H8 P1 (.tup [.ref A1, .int (q : Int), .int g])) := Same.new (Same.refl _) hP1
      have eP1 : (upd H8 P1 (.tup [.ref A1, .int (q : Int), .int g])) P1 = some (.tup [.ref A1, .int (q : Int), .int g]) := upd_same
      generalize upd H8 P1 (.tup [.ref A1, .int (q : Int), .int g]) = H9 at s9 eP1 ⊢
      have eA9 := s9 _ _ eA
      have n1 : RowNs (.tuple [.list (ns.map PyData.int), .int (q : Int), .int g]) ns q g := ⟨_, rfl, .inl rfl, rn⟩
      have r1 := rowB_t n1.d
      have s79 := s8.trans s9
      have dP : Dg K H9 false (.ref P1) (.tuple [.list (ns.map PyData.int), .int (q : Int), .int g]) :=
        .tup (SqT.of eP1) (.cons (.lst (SqL.of eA9) (fun z => by cases z) (ints_dg ns)) (.cons (.int _) (.cons (.int _) .nil)))
      refine ⟨_, rfl, i, .ref P1, _, false, y, od, false, rfl, by omega, dP, dy.ext s79, .inr ⟨r1, cod, hi⟩, (fun z => by rw [r1] at z; cases z), fun _ r H10 s10 er nr => ?_⟩
      have s710 := s79.trans s10
      have dy10 := dy.ext s710
      have do10 := do6.ext (s7.trans s710)
      refine ⟨_, rfl, r, _, rfl, .inl (SqL.of er), rfl, _, rfl, ?_⟩
      rw [decide_eq_true (show V.int (([V.str (Str.ofString "count"), y] : List V).length : Int) = V.int 2 from rfl)]
      refine iteF ⟨_, rfl, r, _, _, _, rfl, rfl, SqL.of er, atI_nat (j := 0) rfl, rfl, _, rfl, neSame ?_⟩
      refine ⟨_, rfl, r, _, _, _, rfl, rfl, SqL.of er, atI_nat (j := 1) rfl, y, od, false, rfl, dy10, sod.1, sod.2.1, sod.2.2, _, rfl, xo, od, false, rfl, do10, sod.1, sod.2.1, sod.2.2, rfl, _, rfl, neSame ?_⟩
      have s610 := s7.trans s710
      refine ⟨_, rfl, _, _, _, _, isLstD od, rfl, .ty _, do10.ty, kit_lstD od, _, rfl, ?_⟩
      cases od with
      | list es =>
        obtain ⟨F, zs, rfl, hF, eF7, lz⟩ := hl es rfl
        have eF10 := s710 _ _ eF7
        refine iteT ⟨_, rfl, r, _, _, _, rfl, rfl, SqL.of er, atI_nat (j := 1) rfl, ?_⟩
        refine ⟨_, rfl, .inl ⟨rfl, _, SqL.of eF10⟩, _, rfl, F, _, _, rfl, rfl, eF10, Nat.lt_of_le_of_lt lz (by decide), ?_⟩
        have s11 : Same H6 (upd H10 F (.lst (zs ++ [.int (i : Int)]))) := fun b o e => by rw [upd_ne (ne_of_none e hF)]; exact s610 b o e
        have e11 : (upd H10 F (.lst (zs ++ [.int (i : Int)]))) F = some (.lst (zs ++ [.int (i : Int)])) := upd_same
        generalize upd H10 F (.lst (zs ++ [.int (i : Int)])) = H11 at s11 e11 ⊢
        refine ⟨_, rfl, 1, rfl, -1, rfl, F, _, rfl, SqL.of e11, fun c hc => ?_⟩
        rw [cut_last]
        have s12 : Same H11 (upd H11 c (.lst [.int (i : Int)])) := Same.new (Same.refl _) hc
        have e12 : (upd H11 c (.lst [.int (i : Int)])) c = some (.lst [.int (i : Int)]) := upd_same
        generalize upd H11 c (.lst [.int (i : Int)]) = H12 at s12 e12 ⊢
        refine ⟨_, rfl, (by show 1 ≤ sizeLine; decide), fun b hb => ?_⟩
        have s13 : Same H12 (upd H12 b (.lst [.int (i : Int)])) := Same.new (Same.refl _) hb
        have sh2 : ∀ j : Nat, j < 2 → SeqAt.shaped (.list [.int (j : Int)]) = true ∧ PyData.eqv (.list [.int (j : Int)]) (.list [.int (j : Int)]) = true := fun j hj => by
          match j, hj with
          | 0, _ => exact ⟨by decide +kernel, by decide +kernel⟩
          | 1, _ => exact ⟨by decide +kernel, by decide +kernel⟩
        refine ⟨.list [.int (i : Int)], .list [.int (i : Int)], .lst (SqL.of (s13 _ _ e12)) (.cons (.int _) .nil), .lst (SqL.of upd_same) (.cons (.int _) .nil), (sh2 i hi).1, (sh2 i hi).1, ?_⟩
        rw [(sh2 i hi).2]
        exact ⟨_, rfl, iteF ⟨_, _, _, _, rfl, s6.trans ((s11.trans s12).trans s13)⟩⟩
      | _ => exact iteF ⟨_, _, _, _, rfl, s6.trans s610⟩
    · rintro σ H6 ⟨x4, x5, x6, x7, rfl, s6⟩
      exact kQ _ (k14.trans (k5.trans (Kp.of s6))) ((b5.same s6).mono (by omega))
def spRt (K : PySem.W.Frag) : Sp := fun vs H Q _ => ∃ p n, vs = [.ref p] ∧ BoxAt H p n ∧ n < 1000 ∧ ∀ H', Kp p H H' → Q (.bl true) H'
theorem ok_law_right (T : Txt K mg) : FnG P w K mg base CX0 9 T.f_law_right T.fd_law_right ["box"] (spRt K) := by
  refine T.F_law_right.okG sc_law_right (fun vs H Q E h => ?_) (fun cdv A outer s0 H vs Q E hgd hr h => ?_)
  · obtain ⟨p, n, rfl, _⟩ := h; rfl
  · obtain ⟨p, n, rfl, hb, hn, kQ⟩ := h
    have hun := un64 hr
    refine ⟨_, (pss_cons (ps_par (i := 1) (j := 2) (by rfl) sc_law_right.nd rfl rfl (by decide) rfl rfl (pa_cons (pe_call (ok_law_plain T) (hr.mono (by decide)) rfl T.g_law_plain T.F_law_plain.kp T.b_law_plain .nil pass0 (pa_cons (pv 0) pa_nil)) (pa_cons (pe_call (ok_law_plain T) (hr.mono (by decide)) rfl T.g_law_plain T.F_law_plain.kp T.b_law_plain .nil pass0 (pa_cons (pv 0) pa_nil)) pa_nil)) (by rfl))
      (pss_cons (ps_if (PW.pt (pw_or (pt_not (pt_val (pe_callG (ok_law_row_right T) hgd (hr.mono (by decide)) rfl T.g_law_row_right T.F_law_row_right.kp T.b_law_row_right .nil pass0 (pa_cons (pv 0) (pa_cons (pv 1) pa_nil))))) (pw_or1 (pt_not (pt_val (pe_callG (ok_law_row_right T) hgd (hr.mono (by decide)) rfl T.g_law_row_right T.F_law_row_right.kp T.b_law_row_right .nil pass0 (pa_cons (pv 0) (pa_cons (pv 2) pa_nil)))))))) (pss_one (ps_ret pe_bl)) pss_nil)
      (pss_cons (ps_for PassesOwn.never rfl (pi_range1 rfl T.z_range (pa_cons pe_int pa_nil)) (pg_name (i := 3) sc_law_right.nd rfl (Or.inl rfl)) (pss_one (ps_if (pt_not (pt_val (pe_callG (ok_law_spoiled_right T) hgd (hr.mono (by decide)) rfl T.g_law_spoiled_right T.F_law_spoiled_right.kp T.b_law_spoiled_right .nil pass0 (pa_cons (pv 0) (pa_cons (pv 1) (pa_cons (pe_call (ok_law_spoiled T) (hr.mono (by decide)) rfl T.g_law_spoiled T.F_law_spoiled.kp T.b_law_spoiled .nil pass0 (pa_cons (pv 0) (pa_cons (pv 1) pa_nil))) pa_nil)))))) (pss_one (ps_ret pe_bl)) pss_nil)))
      (pss_one (ps_ret (pe_callG (ok_law_row_right T) hgd (hr.mono (by decide)) rfl T.g_law_row_right T.F_law_row_right.kp T.b_law_row_right .nil pass0 (pa_cons (pv 0) (pa_cons (pv 1) pa_nil)))))))), ?_⟩
    refine ⟨_, rfl, p, n, rfl, hb, by omega, fun L1 n1 q1 g1 H1 k1 b1 f1 P1 => ⟨_, rfl, p, _, rfl, b1, by omega, fun L2 n2 q2 g2 H2 k2 b2 f2 P2 => ⟨_, _, rfl, ?_⟩⟩⟩
    have P1' := P1.kp k2
    have k12 := k1.trans k2
    refine ⟨_, rfl, _, rfl, p, _, L1, n1, q1, g1, rfl, b2, by omega, P1', fun H3 k3 b3 => ⟨_, rfl, ?_⟩⟩
    refine iteF ⟨_, rfl, _, rfl, p, _, L2, n2, q2, g2, rfl, b3, by omega, P2.kp k3, fun H4 k4 b4 => ⟨_, rfl, iteF ?_⟩⟩
    have k14 := (k12.trans k3).trans k4
    refine ⟨2, rfl, by decide, by decide, ?_⟩
    refine for_range (lo := 0) (n := 2) (fun i σ H' => ∃ x3, σ = [some (.ref p), some (.ref L1), some (.ref L2), x3] ∧ Kp p H4 H' ∧ BoxAt H' p (n + 100 + 50 * i)) ⟨none, rfl, Kp.refl p _, b4.mono (by omega)⟩ ?_ ?_
    · rintro i σ H5 hi ⟨x3, rfl, k5, b5⟩
      refine ⟨_, rfl, _, rfl, _, rfl, _, rfl, p, _, L1, n1, q1, g1, rfl, b5, by omega, (P1'.kp (k3.trans k4)).kp k5, fun x d m H6 k6 b6 dx fx bx => ⟨p, _, L1, n1, q1, g1, x, d, m, rfl, b6, by omega, ((P1'.kp (k3.trans k4)).kp k5).kp k6, dx, fx, bx, fun H7 k7 b7 => ⟨_, rfl, iteF ⟨_, rfl, (k5.trans k6).trans k7, b7.mono (by omega)⟩⟩⟩⟩
    · rintro σ H5 ⟨x3, rfl, k5, b5⟩
      exact ⟨_, rfl, _, rfl, p, _, L1, n1, q1, g1, rfl, b5, by omega, (P1'.kp (k3.trans k4)).kp k5, fun H6 k6 b6 => kQ _ ((k14.trans k5).trans k6)⟩
def spLaw (K : PySem.W.Frag) : Sp := fun vs H Q _ => ∃ (a : Addr) (ns : List Int), vs = [.ref a] ∧ SqL K H a (ns.map V.int) ∧ ns.length ≤ 63 ∧ ∀ H', Q (.bl true) H'
theorem ok_law (T : Txt K mg) : FnG P w K mg base CX0 10 T.f_law T.fd_law ["script"] (spLaw K) := by
  refine T.F_law.okG sc_law (fun vs H Q E h => ?_) (fun cdv A outer s H vs Q E hgd hr h => ?_)
  · obtain ⟨a, ns, rfl, _⟩ := h; rfl
  · obtain ⟨a, ns, rfl, hS, hlen, q⟩ := h
    refine ⟨_, (pss_cons (ps_for PassesOwn.never rfl (pi_range1 rfl T.z_range (pa_cons (pe_callB (call_max2 rfl) (by rfl) T.z_max (by decide +kernel) (pa_cons pe_int (pa_cons (pe_callB (call_min2 rfl) (by rfl) T.z_min (by decide +kernel) (pa_cons pe_int (pa_cons (pe_callB call_len_seq (by rfl) T.z_len (by decide +kernel) (pa_cons (pv 0) pa_nil)) pa_nil))) pa_nil))) pa_nil)) (pg_name (i := 1) sc_law.nd rfl (Or.inl rfl)) (pss_one (ps_if (pt_not (pt_val (pe_callG (ok_law_right T) hgd (hr.mono (by decide)) rfl T.g_law_right T.F_law_right.kp T.b_law_right .nil pass0 (pa_cons (pe_call (ok_law_box T) (hr.mono (by decide)) rfl T.g_law_box T.F_law_box.kp T.b_law_box .nil pass0 (pa_cons (pe_call (ok_law_cell T) (hr.mono (by decide)) rfl T.g_law_cell T.F_law_cell.kp T.b_law_cell .nil pass0 (pa_cons (pv 0) (pa_cons (pv 1) pa_nil))) pa_nil)) pa_nil)))) (pss_one (ps_ret pe_bl)) pss_nil)))
      (pss_one (ps_ret pe_bl))), ?_⟩
    refine ⟨_, rfl, a, _, rfl, .inl hS, _, _, rfl, _, _, rfl, _, rfl, ?_, ?_, ?_⟩
    · split <;> split <;> omega
    · split <;> split <;> omega
    refine for_range (lo := 0) (fun i σ H' => ∃ x1, σ = [some (.ref a), x1] ∧ Same H H') ⟨_, rfl, Same.refl _⟩ ?_ ?_
    · rintro i σ H' hi ⟨x1, rfl, sH⟩
      rw [Int.zero_add]
      refine ⟨_, rfl, _, rfl, a, ns, i, rfl, hS.ext sH, fun c H1 s1 => ?_⟩
      refine ⟨c, rfl, fun p o hp ho => ?_⟩
      have sH1 := sH.trans s1
      have hpH : H p = none := sH1.free hp
      have s2 : Same H (upd H1 p o) := Same.new sH1 hp
      refine ⟨p, 0, rfl, ho.at, by omega, fun H2 k2 => ⟨true, rfl, iteF ?_⟩⟩
      exact ⟨_, rfl, k2.toSame s2 hpH⟩
    · rintro σ H' ⟨x1, rfl, sH⟩
      exact q H'
end
end My

set_option Elab.async false
set_option linter.all false
set_option maxRecDepth 100000
set_option maxHeartbeats 8000000
namespace My
open PySem PySem.Spec PyProof.Rows L2
theorem exm_of {K : PySem.W.Frag} {S T : Addr} {b : Bool} (h1 : PySem.W.subIn K (.ref T) (.type "BaseException") = some true) (h2 : PySem.W.isClsIn K T = true) (h3 : PySem.W.typeIn K (.ref T) = some (.type "type")) (h4 : PySem.W.subIn K (.ref S) (.ref T) = some b) :
    PySem.W.exmOne K (.ref S) (.ref T) = some b := by
  have e1 : (PySem.W.subIn K (.ref T) (.type "BaseException") == some true) = true := by rw [h1] <;> rfl
  have e2 : ((PySem.W.clsIn K T).isSome && PySem.W.typeIn K (.ref T) == some (.type "type")) = true := by
    have h2' : (PySem.W.clsIn K T).isSome = true := h2
    rw [h2', h3] <;> rfl
  show (if (PySem.W.subIn K (.ref T) (.type "BaseException") == some true) = true then (if ((PySem.W.clsIn K T).isSome && PySem.W.typeIn K (.ref T) == some (.type "type")) = true then PySem.W.subIn K (.ref S) (.ref T) else none) else none) = some b
  rw [if_pos e1, if_pos e2]
  exact h4
theorem all_mk {P : Program} {w : World} {K : PySem.W.Frag} {h : Heap} {mg : Str → Option Value} {fa : Addr} (X : K.In h) (G : h.Ns mainGlobals mg) (hfa : mg "law" = some (.ref fa))
    {C0 I0 B0 : Addr} {nm0 q0 : Str} {N0 : Addr} {bs0 : List Value} {sn0 : List Str} {sub0 : List Value} {ab0 : Bool} {col0 : Option Bool} {dd0 : Option Addr} {m00 m10 m20 m30 m50 : Option Value}
    {ei0 en0 : Option Addr} {es0 : Array (Option Value)} {eo0 ed0 ep0 ec0 et0 : Value} {p10 p20 q10 q20 q30 q40 : Pos}
    {C1 I1 B1 : Addr} {nm1 q1 : Str} {N1 : Addr} {bs1 : List Value} {sn1 : List Str} {sub1 : List Value} {ab1 : Bool} {col1 : Option Bool} {dd1 : Option Addr} {m01 m11 m21 m31 m51 : Option Value}
    {ei1 en1 : Option Addr} {es1 : Array (Option Value)} {eo1 ed1 ep1 ec1 et1 : Value} {p11 p21 q11 q21 q31 q41 : Pos}
    {f0 : Addr} {od0 an0 : Option Addr} {sl0 : Array (Option Value)} {oc0 kV0 dc0 pm0 cd0 ct0 : Value}
    {f1 : Addr} {od1 an1 : Option Addr} {sl1 : Array (Option Value)} {oc1 kV1 dc1 pm1 cd1 ct1 : Value}
    {f2 : Addr} {od2 an2 : Option Addr} {sl2 : Array (Option Value)} {oc2 kV2 dc2 pm2 cd2 ct2 : Value}
    {f3 : Addr} {od3 an3 : Option Addr} {sl3 : Array (Option Value)} {oc3 kV3 dc3 pm3 cd3 ct3 : Value}
    {f4 : Addr} {od4 an4 : Option Addr} {sl4 : Array (Option Value)} {oc4 kV4 dc4 pm4 cd4 ct4 : Value}
    {f5 : Addr} {od5 an5 : Option Addr} {sl5 : Array (Option Value)} {oc5 kV5 dc5 pm5 cd5 ct5 : Value}
    {f6 : Addr} {od6 an6 : Option Addr} {sl6 : Array (Option Value)} {oc6 kV6 dc6 pm6 cd6 ct6 : Value}
    {f7 : Addr} {od7 an7 : Option Addr} {sl7 : Array (Option Value)} {oc7 kV7 dc7 pm7 cd7 ct7 : Value}
    {f8 : Addr} {od8 an8 : Option Addr} {sl8 : Array (Option Value)} {oc8 kV8 dc8 pm8 cd8 ct8 : Value}
    {f9 : Addr} {od9 an9 : Option Addr} {sl9 : Array (Option Value)} {oc9 kV9 dc9 pm9 cd9 ct9 : Value}
    {f10 : Addr} {od10 an10 : Option Addr} {sl10 : Array (Option Value)} {oc10 kV10 dc10 pm10 cd10 ct10 : Value}
    {f11 : Addr} {od11 an11 : Option Addr} {sl11 : Array (Option Value)} {oc11 kV11 dc11 pm11 cd11 ct11 : Value}
    {f12 : Addr} {od12 an12 : Option Addr} {sl12 : Array (Option Value)} {oc12 kV12 dc12 pm12 cd12 ct12 : Value}
    {f13 : Addr} {od13 an13 : Option Addr} {sl13 : Array (Option Value)} {oc13 kV13 dc13 pm13 cd13 ct13 : Value}
    {f14 : Addr} {od14 an14 : Option Addr} {sl14 : Array (Option Value)} {oc14 kV14 dc14 pm14 cd14 ct14 : Value}
    {f15 : Addr} {od15 an15 : Option Addr} {sl15 : Array (Option Value)} {oc15 kV15 dc15 pm15 cd15 ct15 : Value}
    {f16 : Addr} {od16 an16 : Option Addr} {sl16 : Array (Option Value)} {oc16 kV16 dc16 pm16 cd16 ct16 : Value}
    {f17 : Addr} {od17 an17 : Option Addr} {sl17 : Array (Option Value)} {oc17 kV17 dc17 pm17 cd17 ct17 : Value}
    {f18 : Addr} {od18 an18 : Option Addr} {sl18 : Array (Option Value)} {oc18 kV18 dc18 pm18 cd18 ct18 : Value}
    {f19 : Addr} {od19 an19 : Option Addr} {sl19 : Array (Option Value)} {oc19 kV19 dc19 pm19 cd19 ct19 : Value}
    {f20 : Addr} {od20 an20 : Option Addr} {sl20 : Array (Option Value)} {oc20 kV20 dc20 pm20 cd20 ct20 : Value}
    {f21 : Addr} {od21 an21 : Option Addr} {sl21 : Array (Option Value)} {oc21 kV21 dc21 pm21 cd21 ct21 : Value}
    {f22 : Addr} {od22 an22 : Option Addr} {sl22 : Array (Option Value)} {oc22 kV22 dc22 pm22 cd22 ct22 : Value}
    {f23 : Addr} {od23 an23 : Option Addr} {sl23 : Array (Option Value)} {oc23 kV23 dc23 pm23 cd23 ct23 : Value}
    {f24 : Addr} {od24 an24 : Option Addr} {sl24 : Array (Option Value)} {oc24 kV24 dc24 pm24 cd24 ct24 : Value}
    {f25 : Addr} {od25 an25 : Option Addr} {sl25 : Array (Option Value)} {oc25 kV25 dc25 pm25 cd25 ct25 : Value}
    {f26 : Addr} {od26 an26 : Option Addr} {sl26 : Array (Option Value)} {oc26 kV26 dc26 pm26 cd26 ct26 : Value}
    {f27 : Addr} {od27 an27 : Option Addr} {sl27 : Array (Option Value)} {oc27 kV27 dc27 pm27 cd27 ct27 : Value}
    {f28 : Addr} {od28 an28 : Option Addr} {sl28 : Array (Option Value)} {oc28 kV28 dc28 pm28 cd28 ct28 : Value}
    {t_MOST_SIGNS : Tok}
    {t_MOST_LETTERS : Tok}
    {t_MOST_STATES : Tok}
    {t_MOST_FIRST : Tok}
    {t_MOST_NUMBER : Tok}
    {t_MOST_PERIOD : Tok}
    {t_MOST_GAIN : Tok}
    {t_MOST_WRITTEN : Tok}
    (eC0 : PySem.W.nsIn K mainGlobals "InvalidRow" = some (some (.ref C0)))
    (eL0 : K.lookup C0 = some (excClassObj nm0 q0 C0 N0 bs0 [.ref B0, .type "Exception", .type "BaseException", .type "object"] true sn0 sub0 ab0 col0 dd0 m00 m10 m20 m30 m50 "Exception.__new__"))
    (etk0 : PySem.W.takerIn K C0 "given" = some none)
    (esa0 : PySem.W.findIn K (.ref C0) "__setattr__" = some (some (.builtin "object.__setattr__")))
    (ega0 : PySem.W.findIn K (.ref C0) "__getattribute__" = some (some (.builtin "BaseException.__getattribute__")))
    (egg0 : PySem.W.findIn K (.ref C0) "__getattr__" = some none)
    (eno0 : PySem.W.findIn K (.ref C0) "given" = some none)
    (ein0 : PySem.W.findIn K (.ref C0) "__init__" = some (some (.ref I0)))
    (eti0 : PySem.W.typeIn K (.ref I0) = some (.type "function"))
    (ekC0 : PySem.W.keepIn K (.ref C0) = true)
    (eeC0 : PySem.W.subIn K (.ref C0) (.type "BaseException") = some true)
    (etC0 : PySem.W.typeIn K (.ref C0) = some (.type "type"))
    (ehC0 : PySem.W.hasDictIn K C0 = true)
    (eiC0 : PySem.W.isClsIn K C0 = true)
    (esC0 : PySem.W.subIn K (.ref C0) (.ref C0) = some true)
    (efn0 : K.lookup I0 = some ⟨eo0, ei0, .func (PySem.W.fnOf "__init__" "InvalidRow.__init__" (ErrX.iA p10 p20) (ErrX.iB q10 q20 q30 q40) ErrX.iS .none .none ed0 ep0 en0 ec0 et0), es0⟩)
    (eco0 : PySem.W.codeIn K ec0 "InvalidRow.__init__" = true)
    (eC1 : PySem.W.nsIn K mainGlobals "InvalidCount" = some (some (.ref C1)))
    (eL1 : K.lookup C1 = some (excClassObj nm1 q1 C1 N1 bs1 [.ref B1, .type "Exception", .type "BaseException", .type "object"] true sn1 sub1 ab1 col1 dd1 m01 m11 m21 m31 m51 "Exception.__new__"))
    (etk1 : PySem.W.takerIn K C1 "given" = some none)
    (esa1 : PySem.W.findIn K (.ref C1) "__setattr__" = some (some (.builtin "object.__setattr__")))
    (ega1 : PySem.W.findIn K (.ref C1) "__getattribute__" = some (some (.builtin "BaseException.__getattribute__")))
    (egg1 : PySem.W.findIn K (.ref C1) "__getattr__" = some none)
    (eno1 : PySem.W.findIn K (.ref C1) "given" = some none)
    (ein1 : PySem.W.findIn K (.ref C1) "__init__" = some (some (.ref I1)))
    (eti1 : PySem.W.typeIn K (.ref I1) = some (.type "function"))
    (ekC1 : PySem.W.keepIn K (.ref C1) = true)
    (eeC1 : PySem.W.subIn K (.ref C1) (.type "BaseException") = some true)
    (etC1 : PySem.W.typeIn K (.ref C1) = some (.type "type"))
    (ehC1 : PySem.W.hasDictIn K C1 = true)
    (eiC1 : PySem.W.isClsIn K C1 = true)
    (esC1 : PySem.W.subIn K (.ref C1) (.ref C1) = some true)
    (efn1 : K.lookup I1 = some ⟨eo1, ei1, .func (PySem.W.fnOf "__init__" "InvalidCount.__init__" (ErrX.iA p11 p21) (ErrX.iB q11 q21 q31 q41) ErrX.iS .none .none ed1 ep1 en1 ec1 et1), es1⟩)
    (eco1 : PySem.W.codeIn K ec1 "InvalidCount.__init__" = true)
    (en_0_1 : PySem.W.subIn K (.ref C0) (.ref C1) = some false)
    (en_1_0 : PySem.W.subIn K (.ref C1) (.ref C0) = some false)
    (a0 : PySem.W.nsIn K mainGlobals "is_integer" = some (some (.ref f0)))
    (l0 : K.lookup f0 = some ⟨oc0, od0, .func (PySem.W.fnOf "is_integer" "is_integer" (defArgs s_is_integer) (defBody s_is_integer) (defScope s_is_integer) .none kV0 dc0 pm0 an0 cd0 ct0), sl0⟩)
    (c0 : PySem.W.codeIn K cd0 "is_integer" = true)
    (k0 : PySem.W.keepIn K (.ref f0) = true)
    (a1 : PySem.W.nsIn K mainGlobals "is_count" = some (some (.ref f1)))
    (l1 : K.lookup f1 = some ⟨oc1, od1, .func (PySem.W.fnOf "is_count" "is_count" (defArgs s_is_count) (defBody s_is_count) (defScope s_is_count) .none kV1 dc1 pm1 an1 cd1 ct1), sl1⟩)
    (c1 : PySem.W.codeIn K cd1 "is_count" = true)
    (k1 : PySem.W.keepIn K (.ref f1) = true)
    (a2 : PySem.W.nsIn K mainGlobals "is_list" = some (some (.ref f2)))
    (l2 : K.lookup f2 = some ⟨oc2, od2, .func (PySem.W.fnOf "is_list" "is_list" (defArgs s_is_list) (defBody s_is_list) (defScope s_is_list) .none kV2 dc2 pm2 an2 cd2 ct2), sl2⟩)
    (c2 : PySem.W.codeIn K cd2 "is_list" = true)
    (k2 : PySem.W.keepIn K (.ref f2) = true)
    (a3 : PySem.W.nsIn K mainGlobals "is_row" = some (some (.ref f3)))
    (l3 : K.lookup f3 = some ⟨oc3, od3, .func (PySem.W.fnOf "is_row" "is_row" (defArgs s_is_row) (defBody s_is_row) (defScope s_is_row) .none kV3 dc3 pm3 an3 cd3 ct3), sl3⟩)
    (c3 : PySem.W.codeIn K cd3 "is_row" = true)
    (k3 : PySem.W.keepIn K (.ref f3) = true)
    (a4 : PySem.W.nsIn K mainGlobals "row_at" = some (some (.ref f4)))
    (l4 : K.lookup f4 = some ⟨oc4, od4, .func (PySem.W.fnOf "row_at" "row_at" (defArgs s_row_at) (defBody s_row_at) (defScope s_row_at) .none kV4 dc4 pm4 an4 cd4 ct4), sl4⟩)
    (c4 : PySem.W.codeIn K cd4 "row_at" = true)
    (k4 : PySem.W.keepIn K (.ref f4) = true)
    (a5 : PySem.W.nsIn K mainGlobals "built" = some (some (.ref f5)))
    (l5 : K.lookup f5 = some ⟨oc5, od5, .func (PySem.W.fnOf "built" "built" (defArgs s_built) (defBody s_built) (defScope s_built) .none kV5 dc5 pm5 an5 cd5 ct5), sl5⟩)
    (c5 : PySem.W.codeIn K cd5 "built" = true)
    (k5 : PySem.W.keepIn K (.ref f5) = true)
    (a6 : PySem.W.nsIn K mainGlobals "is_subadditive" = some (some (.ref f6)))
    (l6 : K.lookup f6 = some ⟨oc6, od6, .func (PySem.W.fnOf "is_subadditive" "is_subadditive" (defArgs s_is_subadditive) (defBody s_is_subadditive) (defScope s_is_subadditive) .none kV6 dc6 pm6 an6 cd6 ct6), sl6⟩)
    (c6 : PySem.W.codeIn K cd6 "is_subadditive" = true)
    (k6 : PySem.W.keepIn K (.ref f6) = true)
    (a7 : PySem.W.nsIn K mainGlobals "built_accepting" = some (some (.ref f7)))
    (l7 : K.lookup f7 = some ⟨oc7, od7, .func (PySem.W.fnOf "built_accepting" "built_accepting" (defArgs s_built_accepting) (defBody s_built_accepting) (defScope s_built_accepting) .none kV7 dc7 pm7 an7 cd7 ct7), sl7⟩)
    (c7 : PySem.W.codeIn K cd7 "built_accepting" = true)
    (k7 : PySem.W.keepIn K (.ref f7) = true)
    (a8 : PySem.W.nsIn K mainGlobals "check_row" = some (some (.ref f8)))
    (l8 : K.lookup f8 = some ⟨oc8, od8, .func (PySem.W.fnOf "check_row" "check_row" (defArgs s_check_row) (defBody s_check_row) (defScope s_check_row) .none kV8 dc8 pm8 an8 cd8 ct8), sl8⟩)
    (c8 : PySem.W.codeIn K cd8 "check_row" = true)
    (k8 : PySem.W.keepIn K (.ref f8) = true)
    (a9 : PySem.W.nsIn K mainGlobals "is_rising" = some (some (.ref f9)))
    (l9 : K.lookup f9 = some ⟨oc9, od9, .func (PySem.W.fnOf "is_rising" "is_rising" (defArgs s_is_rising) (defBody s_is_rising) (defScope s_is_rising) .none kV9 dc9 pm9 an9 cd9 ct9), sl9⟩)
    (c9 : PySem.W.codeIn K cd9 "is_rising" = true)
    (k9 : PySem.W.keepIn K (.ref f9) = true)
    (a10 : PySem.W.nsIn K mainGlobals "number_at" = some (some (.ref f10)))
    (l10 : K.lookup f10 = some ⟨oc10, od10, .func (PySem.W.fnOf "number_at" "number_at" (defArgs s_number_at) (defBody s_number_at) (defScope s_number_at) .none kV10 dc10 pm10 an10 cd10 ct10), sl10⟩)
    (c10 : PySem.W.codeIn K cd10 "number_at" = true)
    (k10 : PySem.W.keepIn K (.ref f10) = true)
    (a11 : PySem.W.nsIn K mainGlobals "is_subadditive_row" = some (some (.ref f11)))
    (l11 : K.lookup f11 = some ⟨oc11, od11, .func (PySem.W.fnOf "is_subadditive_row" "is_subadditive_row" (defArgs s_is_subadditive_row) (defBody s_is_subadditive_row) (defScope s_is_subadditive_row) .none kV11 dc11 pm11 an11 cd11 ct11), sl11⟩)
    (c11 : PySem.W.codeIn K cd11 "is_subadditive_row" = true)
    (k11 : PySem.W.keepIn K (.ref f11) = true)
    (a12 : PySem.W.nsIn K mainGlobals "_law_cell" = some (some (.ref f12)))
    (l12 : K.lookup f12 = some ⟨oc12, od12, .func (PySem.W.fnOf "_law_cell" "_law_cell" (defArgs s_law_cell) (defBody s_law_cell) (defScope s_law_cell) .none kV12 dc12 pm12 an12 cd12 ct12), sl12⟩)
    (c12 : PySem.W.codeIn K cd12 "_law_cell" = true)
    (k12 : PySem.W.keepIn K (.ref f12) = true)
    (a13 : PySem.W.nsIn K mainGlobals "_law_box" = some (some (.ref f13)))
    (l13 : K.lookup f13 = some ⟨oc13, od13, .func (PySem.W.fnOf "_law_box" "_law_box" (defArgs s_law_box) (defBody s_law_box) (defScope s_law_box) .none kV13 dc13 pm13 an13 cd13 ct13), sl13⟩)
    (c13 : PySem.W.codeIn K cd13 "_law_box" = true)
    (k13 : PySem.W.keepIn K (.ref f13) = true)
    (a14 : PySem.W.nsIn K mainGlobals "_law_take" = some (some (.ref f14)))
    (l14 : K.lookup f14 = some ⟨oc14, od14, .func (PySem.W.fnOf "_law_take" "_law_take" (defArgs s_law_take) (defBody s_law_take) (defScope s_law_take) .none kV14 dc14 pm14 an14 cd14 ct14), sl14⟩)
    (c14 : PySem.W.codeIn K cd14 "_law_take" = true)
    (k14 : PySem.W.keepIn K (.ref f14) = true)
    (a15 : PySem.W.nsIn K mainGlobals "_law_first" = some (some (.ref f15)))
    (l15 : K.lookup f15 = some ⟨oc15, od15, .func (PySem.W.fnOf "_law_first" "_law_first" (defArgs s_law_first) (defBody s_law_first) (defScope s_law_first) .none kV15 dc15 pm15 an15 cd15 ct15), sl15⟩)
    (c15 : PySem.W.codeIn K cd15 "_law_first" = true)
    (k15 : PySem.W.keepIn K (.ref f15) = true)
    (a16 : PySem.W.nsIn K mainGlobals "_law_plain" = some (some (.ref f16)))
    (l16 : K.lookup f16 = some ⟨oc16, od16, .func (PySem.W.fnOf "_law_plain" "_law_plain" (defArgs s_law_plain) (defBody s_law_plain) (defScope s_law_plain) .none kV16 dc16 pm16 an16 cd16 ct16), sl16⟩)
    (c16 : PySem.W.codeIn K cd16 "_law_plain" = true)
    (k16 : PySem.W.keepIn K (.ref f16) = true)
    (a17 : PySem.W.nsIn K mainGlobals "_law_numbers" = some (some (.ref f17)))
    (l17 : K.lookup f17 = some ⟨oc17, od17, .func (PySem.W.fnOf "_law_numbers" "_law_numbers" (defArgs s_law_numbers) (defBody s_law_numbers) (defScope s_law_numbers) .none kV17 dc17 pm17 an17 cd17 ct17), sl17⟩)
    (c17 : PySem.W.codeIn K cd17 "_law_numbers" = true)
    (k17 : PySem.W.keepIn K (.ref f17) = true)
    (a18 : PySem.W.nsIn K mainGlobals "_law_is_count" = some (some (.ref f18)))
    (l18 : K.lookup f18 = some ⟨oc18, od18, .func (PySem.W.fnOf "_law_is_count" "_law_is_count" (defArgs s_law_is_count) (defBody s_law_is_count) (defScope s_law_is_count) .none kV18 dc18 pm18 an18 cd18 ct18), sl18⟩)
    (c18 : PySem.W.codeIn K cd18 "_law_is_count" = true)
    (k18 : PySem.W.keepIn K (.ref f18) = true)
    (a19 : PySem.W.nsIn K mainGlobals "_law_judged" = some (some (.ref f19)))
    (l19 : K.lookup f19 = some ⟨oc19, od19, .func (PySem.W.fnOf "_law_judged" "_law_judged" (defArgs s_law_judged) (defBody s_law_judged) (defScope s_law_judged) .none kV19 dc19 pm19 an19 cd19 ct19), sl19⟩)
    (c19 : PySem.W.codeIn K cd19 "_law_judged" = true)
    (k19 : PySem.W.keepIn K (.ref f19) = true)
    (a20 : PySem.W.nsIn K mainGlobals "_law_spoiled" = some (some (.ref f20)))
    (l20 : K.lookup f20 = some ⟨oc20, od20, .func (PySem.W.fnOf "_law_spoiled" "_law_spoiled" (defArgs s_law_spoiled) (defBody s_law_spoiled) (defScope s_law_spoiled) .none kV20 dc20 pm20 an20 cd20 ct20), sl20⟩)
    (c20 : PySem.W.codeIn K cd20 "_law_spoiled" = true)
    (k20 : PySem.W.keepIn K (.ref f20) = true)
    (a21 : PySem.W.nsIn K mainGlobals "_law_is_subadditive" = some (some (.ref f21)))
    (l21 : K.lookup f21 = some ⟨oc21, od21, .func (PySem.W.fnOf "_law_is_subadditive" "_law_is_subadditive" (defArgs s_law_is_subadditive) (defBody s_law_is_subadditive) (defScope s_law_is_subadditive) .none kV21 dc21 pm21 an21 cd21 ct21), sl21⟩)
    (c21 : PySem.W.codeIn K cd21 "_law_is_subadditive" = true)
    (k21 : PySem.W.keepIn K (.ref f21) = true)
    (a22 : PySem.W.nsIn K mainGlobals "_law_row_right" = some (some (.ref f22)))
    (l22 : K.lookup f22 = some ⟨oc22, od22, .func (PySem.W.fnOf "_law_row_right" "_law_row_right" (defArgs s_law_row_right) (defBody s_law_row_right) (defScope s_law_row_right) .none kV22 dc22 pm22 an22 cd22 ct22), sl22⟩)
    (c22 : PySem.W.codeIn K cd22 "_law_row_right" = true)
    (k22 : PySem.W.keepIn K (.ref f22) = true)
    (a23 : PySem.W.nsIn K mainGlobals "_law_told" = some (some (.ref f23)))
    (l23 : K.lookup f23 = some ⟨oc23, od23, .func (PySem.W.fnOf "_law_told" "_law_told" (defArgs s_law_told) (defBody s_law_told) (defScope s_law_told) .none kV23 dc23 pm23 an23 cd23 ct23), sl23⟩)
    (c23 : PySem.W.codeIn K cd23 "_law_told" = true)
    (k23 : PySem.W.keepIn K (.ref f23) = true)
    (a24 : PySem.W.nsIn K mainGlobals "_law_copy" = some (some (.ref f24)))
    (l24 : K.lookup f24 = some ⟨oc24, od24, .func (PySem.W.fnOf "_law_copy" "_law_copy" (defArgs s_law_copy) (defBody s_law_copy) (defScope s_law_copy) .none kV24 dc24 pm24 an24 cd24 ct24), sl24⟩)
    (c24 : PySem.W.codeIn K cd24 "_law_copy" = true)
    (k24 : PySem.W.keepIn K (.ref f24) = true)
    (a25 : PySem.W.nsIn K mainGlobals "_law_refused" = some (some (.ref f25)))
    (l25 : K.lookup f25 = some ⟨oc25, od25, .func (PySem.W.fnOf "_law_refused" "_law_refused" (defArgs s_law_refused) (defBody s_law_refused) (defScope s_law_refused) .none kV25 dc25 pm25 an25 cd25 ct25), sl25⟩)
    (c25 : PySem.W.codeIn K cd25 "_law_refused" = true)
    (k25 : PySem.W.keepIn K (.ref f25) = true)
    (a26 : PySem.W.nsIn K mainGlobals "_law_spoiled_right" = some (some (.ref f26)))
    (l26 : K.lookup f26 = some ⟨oc26, od26, .func (PySem.W.fnOf "_law_spoiled_right" "_law_spoiled_right" (defArgs s_law_spoiled_right) (defBody s_law_spoiled_right) (defScope s_law_spoiled_right) .none kV26 dc26 pm26 an26 cd26 ct26), sl26⟩)
    (c26 : PySem.W.codeIn K cd26 "_law_spoiled_right" = true)
    (k26 : PySem.W.keepIn K (.ref f26) = true)
    (a27 : PySem.W.nsIn K mainGlobals "_law_right" = some (some (.ref f27)))
    (l27 : K.lookup f27 = some ⟨oc27, od27, .func (PySem.W.fnOf "_law_right" "_law_right" (defArgs s_law_right) (defBody s_law_right) (defScope s_law_right) .none kV27 dc27 pm27 an27 cd27 ct27), sl27⟩)
    (c27 : PySem.W.codeIn K cd27 "_law_right" = true)
    (k27 : PySem.W.keepIn K (.ref f27) = true)
    (a28 : PySem.W.nsIn K mainGlobals "law" = some (some (.ref f28)))
    (l28 : K.lookup f28 = some ⟨oc28, od28, .func (PySem.W.fnOf "law" "law" (defArgs s_law) (defBody s_law) (defScope s_law) .none kV28 dc28 pm28 an28 cd28 ct28), sl28⟩)
    (c28 : PySem.W.codeIn K cd28 "law" = true)
    (k28 : PySem.W.keepIn K (.ref f28) = true)
    (z_abs : PySem.W.nsIn K mainGlobals "abs" = some none)
    (z_all : PySem.W.nsIn K mainGlobals "all" = some none)
    (z_bool : PySem.W.nsIn K mainGlobals "bool" = some none)
    (z_int : PySem.W.nsIn K mainGlobals "int" = some none)
    (z_isinstance : PySem.W.nsIn K mainGlobals "isinstance" = some none)
    (z_len : PySem.W.nsIn K mainGlobals "len" = some none)
    (z_list : PySem.W.nsIn K mainGlobals "list" = some none)
    (z_max : PySem.W.nsIn K mainGlobals "max" = some none)
    (z_min : PySem.W.nsIn K mainGlobals "min" = some none)
    (z_range : PySem.W.nsIn K mainGlobals "range" = some none)
    (z_repr : PySem.W.nsIn K mainGlobals "repr" = some none)
    (z_sorted : PySem.W.nsIn K mainGlobals "sorted" = some none)
    (z_sum : PySem.W.nsIn K mainGlobals "sum" = some none)
    (z_tuple : PySem.W.nsIn K mainGlobals "tuple" = some none)
    (z_zip : PySem.W.nsIn K mainGlobals "zip" = some none)
    (n_MOST_SIGNS : PySem.W.nsIn K mainGlobals "MOST_SIGNS" = some (some (.int (5) t_MOST_SIGNS)))
    (n_MOST_LETTERS : PySem.W.nsIn K mainGlobals "MOST_LETTERS" = some (some (.int (3) t_MOST_LETTERS)))
    (n_MOST_STATES : PySem.W.nsIn K mainGlobals "MOST_STATES" = some (some (.int (40) t_MOST_STATES)))
    (n_MOST_FIRST : PySem.W.nsIn K mainGlobals "MOST_FIRST" = some (some (.int (8) t_MOST_FIRST)))
    (n_MOST_NUMBER : PySem.W.nsIn K mainGlobals "MOST_NUMBER" = some (some (.int (40) t_MOST_NUMBER)))
    (n_MOST_PERIOD : PySem.W.nsIn K mainGlobals "MOST_PERIOD" = some (some (.int (4) t_MOST_PERIOD)))
    (n_MOST_GAIN : PySem.W.nsIn K mainGlobals "MOST_GAIN" = some (some (.int (12) t_MOST_GAIN)))
    (n_MOST_WRITTEN : PySem.W.nsIn K mainGlobals "MOST_WRITTEN" = some (some (.int (3) t_MOST_WRITTEN))) :
    ∃ fd : FuncData, (∀ (s : Shared) (v : Value), BindsTo s fd ⟨[v], []⟩ [("script", v)]) ∧ ∀ base : Heap, K.In base → base.Ns mainGlobals mg → FnG P w K mg base CX0 10 fa fd ["script"] (spLaw K) := by
  have e := hfa.symm.trans (PySem.W.mg_of X G a28)
  cases e
  have F0 := fun_mk (st := s_is_integer) l0 c0 k0
  have b0 := F0.binds (ps := ["value"]) fun _ _ _ _ _ _ us hl => match us, hl with | [_], _ => rfl
  have F1 := fun_mk (st := s_is_count) l1 c1 k1
  have b1 := F1.binds (ps := ["value"]) fun _ _ _ _ _ _ us hl => match us, hl with | [_], _ => rfl
  have F2 := fun_mk (st := s_is_list) l2 c2 k2
  have b2 := F2.binds (ps := ["value"]) fun _ _ _ _ _ _ us hl => match us, hl with | [_], _ => rfl
  have F3 := fun_mk (st := s_is_row) l3 c3 k3
  have b3 := F3.binds (ps := ["value"]) fun _ _ _ _ _ _ us hl => match us, hl with | [_], _ => rfl
  have F4 := fun_mk (st := s_row_at) l4 c4 k4
  have b4 := F4.binds (ps := ["row", "many"]) fun _ _ _ _ _ _ us hl => match us, hl with | [_, _], _ => rfl
  have F5 := fun_mk (st := s_built) l5 c5 k5
  have b5 := F5.binds (ps := ["row"]) fun _ _ _ _ _ _ us hl => match us, hl with | [_], _ => rfl
  have F6 := fun_mk (st := s_is_subadditive) l6 c6 k6
  have b6 := F6.binds (ps := ["row"]) fun _ _ _ _ _ _ us hl => match us, hl with | [_], _ => rfl
  have F7 := fun_mk (st := s_built_accepting) l7 c7 k7
  have b7 := F7.binds (ps := ["row"]) fun _ _ _ _ _ _ us hl => match us, hl with | [_], _ => rfl
  have F8 := fun_mk (st := s_check_row) l8 c8 k8
  have b8 := F8.binds (ps := ["value"]) fun _ _ _ _ _ _ us hl => match us, hl with | [_], _ => rfl
  have F9 := fun_mk (st := s_is_rising) l9 c9 k9
  have b9 := F9.binds (ps := ["numbers"]) fun _ _ _ _ _ _ us hl => match us, hl with | [_], _ => rfl
  have F10 := fun_mk (st := s_number_at) l10 c10 k10
  have b10 := F10.binds (ps := ["row", "many"]) fun _ _ _ _ _ _ us hl => match us, hl with | [_, _], _ => rfl
  have F11 := fun_mk (st := s_is_subadditive_row) l11 c11 k11
  have b11 := F11.binds (ps := ["row"]) fun _ _ _ _ _ _ us hl => match us, hl with | [_], _ => rfl
  have F12 := fun_mk (st := s_law_cell) l12 c12 k12
  have b12 := F12.binds (ps := ["script", "k"]) fun _ _ _ _ _ _ us hl => match us, hl with | [_, _], _ => rfl
  have F13 := fun_mk (st := s_law_box) l13 c13 k13
  have b13 := F13.binds (ps := ["great"]) fun _ _ _ _ _ _ us hl => match us, hl with | [_], _ => rfl
  have F14 := fun_mk (st := s_law_take) l14 c14 k14
  have b14 := F14.binds (ps := ["box", "limit"]) fun _ _ _ _ _ _ us hl => match us, hl with | [_, _], _ => rfl
  have F15 := fun_mk (st := s_law_first) l15 c15 k15
  have b15 := F15.binds (ps := ["box"]) fun _ _ _ _ _ _ us hl => match us, hl with | [_], _ => rfl
  have F16 := fun_mk (st := s_law_plain) l16 c16 k16
  have b16 := F16.binds (ps := ["box"]) fun _ _ _ _ _ _ us hl => match us, hl with | [_], _ => rfl
  have F17 := fun_mk (st := s_law_numbers) l17 c17 k17
  have b17 := F17.binds (ps := ["plain", "size"]) fun _ _ _ _ _ _ us hl => match us, hl with | [_, _], _ => rfl
  have F18 := fun_mk (st := s_law_is_count) l18 c18 k18
  have b18 := F18.binds (ps := ["thing"]) fun _ _ _ _ _ _ us hl => match us, hl with | [_], _ => rfl
  have F19 := fun_mk (st := s_law_judged) l19 c19 k19
  have b19 := F19.binds (ps := ["thing"]) fun _ _ _ _ _ _ us hl => match us, hl with | [_], _ => rfl
  have F20 := fun_mk (st := s_law_spoiled) l20 c20 k20
  have b20 := F20.binds (ps := ["box", "plain"]) fun _ _ _ _ _ _ us hl => match us, hl with | [_, _], _ => rfl
  have F21 := fun_mk (st := s_law_is_subadditive) l21 c21 k21
  have b21 := F21.binds (ps := ["plain"]) fun _ _ _ _ _ _ us hl => match us, hl with | [_], _ => rfl
  have F22 := fun_mk (st := s_law_row_right) l22 c22 k22
  have b22 := F22.binds (ps := ["box", "plain"]) fun _ _ _ _ _ _ us hl => match us, hl with | [_, _], _ => rfl
  have F23 := fun_mk (st := s_law_told) l23 c23 k23
  have b23 := F23.binds (ps := ["door", "thing", "count"]) fun _ _ _ _ _ _ us hl => match us, hl with | [_, _, _], _ => rfl
  have F24 := fun_mk (st := s_law_copy) l24 c24 k24
  have b24 := F24.binds (ps := ["thing"]) fun _ _ _ _ _ _ us hl => match us, hl with | [_], _ => rfl
  have F25 := fun_mk (st := s_law_refused) l25 c25 k25
  have b25 := F25.binds (ps := ["door", "thing", "count"]) fun _ _ _ _ _ _ us hl => match us, hl with | [_, _, _], _ => rfl
  have F26 := fun_mk (st := s_law_spoiled_right) l26 c26 k26
  have b26 := F26.binds (ps := ["box", "plain", "thing"]) fun _ _ _ _ _ _ us hl => match us, hl with | [_, _, _], _ => rfl
  have F27 := fun_mk (st := s_law_right) l27 c27 k27
  have b27 := F27.binds (ps := ["box"]) fun _ _ _ _ _ _ us hl => match us, hl with | [_], _ => rfl
  have F28 := fun_mk (st := s_law) l28 c28 k28
  have b28 := F28.binds (ps := ["script"]) fun _ _ _ _ _ _ us hl => match us, hl with | [_], _ => rfl
  have ov0 : PySem.W.excOver K C0 ErrX.tailE = true := by
    unfold PySem.W.excOver PySem.W.clsIn
    rw [eL0]
    show (C0 == C0 && true) = true
    rw [beq_self_eq_true]; rfl
  have E0 : ErrX.ETxt K mg "InvalidRow" "InvalidRow.__init__" C0 I0 := { gC := PySem.W.mg_of X G eC0, cls := ⟨nm0, q0, N0, bs0, _, sn0, sub0, ab0, col0, dd0, m00, m10, m20, m30, m50, eL0, rfl⟩, ov := ov0, tk := etk0, sa := esa0, ga := ega0, gg := egg0, noN := eno0, iC := ein0, tC := eti0, kC := ekC0, exC := eeC0, tyC := etC0, hdC := ehC0, fn := ⟨_, _, _, _, _, _, _, _, _, _, _, _, _, _, efn0, eco0⟩ }
  have ov1 : PySem.W.excOver K C1 ErrX.tailE = true := by
    unfold PySem.W.excOver PySem.W.clsIn
    rw [eL1]
    show (C1 == C1 && true) = true
    rw [beq_self_eq_true]; rfl
  have E1 : ErrX.ETxt K mg "InvalidCount" "InvalidCount.__init__" C1 I1 := { gC := PySem.W.mg_of X G eC1, cls := ⟨nm1, q1, N1, bs1, _, sn1, sub1, ab1, col1, dd1, m01, m11, m21, m31, m51, eL1, rfl⟩, ov := ov1, tk := etk1, sa := esa1, ga := ega1, gg := egg1, noN := eno1, iC := ein1, tC := eti1, kC := ekC1, exC := eeC1, tyC := etC1, hdC := ehC1, fn := ⟨_, _, _, _, _, _, _, _, _, _, _, _, _, _, efn1, eco1⟩ }
  exact ⟨PySem.W.fnOf "law" "law" (defArgs s_law) (defBody s_law) (defScope s_law) .none kV28 dc28 pm28 an28 cd28 ct28, fun s v => .of_eq rfl, fun base _ _ => ok_law ({ f_is_integer := f0, fd_is_integer := _, F_is_integer := F0, b_is_integer := b0, g_is_integer := PySem.W.mg_of X G a0, f_is_count := f1, fd_is_count := _, F_is_count := F1, b_is_count := b1, g_is_count := PySem.W.mg_of X G a1, f_is_list := f2, fd_is_list := _, F_is_list := F2, b_is_list := b2, g_is_list := PySem.W.mg_of X G a2, f_is_row := f3, fd_is_row := _, F_is_row := F3, b_is_row := b3, g_is_row := PySem.W.mg_of X G a3, f_row_at := f4, fd_row_at := _, F_row_at := F4, b_row_at := b4, g_row_at := PySem.W.mg_of X G a4, f_built := f5, fd_built := _, F_built := F5, b_built := b5, g_built := PySem.W.mg_of X G a5, f_is_subadditive := f6, fd_is_subadditive := _, F_is_subadditive := F6, b_is_subadditive := b6, g_is_subadditive := PySem.W.mg_of X G a6, f_built_accepting := f7, fd_built_accepting := _, F_built_accepting := F7, b_built_accepting := b7, g_built_accepting := PySem.W.mg_of X G a7, f_check_row := f8, fd_check_row := _, F_check_row := F8, b_check_row := b8, g_check_row := PySem.W.mg_of X G a8, f_is_rising := f9, fd_is_rising := _, F_is_rising := F9, b_is_rising := b9, g_is_rising := PySem.W.mg_of X G a9, f_number_at := f10, fd_number_at := _, F_number_at := F10, b_number_at := b10, g_number_at := PySem.W.mg_of X G a10, f_is_subadditive_row := f11, fd_is_subadditive_row := _, F_is_subadditive_row := F11, b_is_subadditive_row := b11, g_is_subadditive_row := PySem.W.mg_of X G a11, f_law_cell := f12, fd_law_cell := _, F_law_cell := F12, b_law_cell := b12, g_law_cell := PySem.W.mg_of X G a12, f_law_box := f13, fd_law_box := _, F_law_box := F13, b_law_box := b13, g_law_box := PySem.W.mg_of X G a13, f_law_take := f14, fd_law_take := _, F_law_take := F14, b_law_take := b14, g_law_take := PySem.W.mg_of X G a14, f_law_first := f15, fd_law_first := _, F_law_first := F15, b_law_first := b15, g_law_first := PySem.W.mg_of X G a15, f_law_plain := f16, fd_law_plain := _, F_law_plain := F16, b_law_plain := b16, g_law_plain := PySem.W.mg_of X G a16, f_law_numbers := f17, fd_law_numbers := _, F_law_numbers := F17, b_law_numbers := b17, g_law_numbers := PySem.W.mg_of X G a17, f_law_is_count := f18, fd_law_is_count := _, F_law_is_count := F18, b_law_is_count := b18, g_law_is_count := PySem.W.mg_of X G a18, f_law_judged := f19, fd_law_judged := _, F_law_judged := F19, b_law_judged := b19, g_law_judged := PySem.W.mg_of X G a19, f_law_spoiled := f20, fd_law_spoiled := _, F_law_spoiled := F20, b_law_spoiled := b20, g_law_spoiled := PySem.W.mg_of X G a20, f_law_is_subadditive := f21, fd_law_is_subadditive := _, F_law_is_subadditive := F21, b_law_is_subadditive := b21, g_law_is_subadditive := PySem.W.mg_of X G a21, f_law_row_right := f22, fd_law_row_right := _, F_law_row_right := F22, b_law_row_right := b22, g_law_row_right := PySem.W.mg_of X G a22, f_law_told := f23, fd_law_told := _, F_law_told := F23, b_law_told := b23, g_law_told := PySem.W.mg_of X G a23, f_law_copy := f24, fd_law_copy := _, F_law_copy := F24, b_law_copy := b24, g_law_copy := PySem.W.mg_of X G a24, f_law_refused := f25, fd_law_refused := _, F_law_refused := F25, b_law_refused := b25, g_law_refused := PySem.W.mg_of X G a25, f_law_spoiled_right := f26, fd_law_spoiled_right := _, F_law_spoiled_right := F26, b_law_spoiled_right := b26, g_law_spoiled_right := PySem.W.mg_of X G a26, f_law_right := f27, fd_law_right := _, F_law_right := F27, b_law_right := b27, g_law_right := PySem.W.mg_of X G a27, f_law := fa, fd_law := _, F_law := F28, b_law := b28, g_law := PySem.W.mg_of X G a28, z_abs := PySem.W.mg_none_of X G z_abs, z_all := PySem.W.mg_none_of X G z_all, z_bool := PySem.W.mg_none_of X G z_bool, z_int := PySem.W.mg_none_of X G z_int, z_isinstance := PySem.W.mg_none_of X G z_isinstance, z_len := PySem.W.mg_none_of X G z_len, z_list := PySem.W.mg_none_of X G z_list, z_max := PySem.W.mg_none_of X G z_max, z_min := PySem.W.mg_none_of X G z_min, z_range := PySem.W.mg_none_of X G z_range, z_repr := PySem.W.mg_none_of X G z_repr, z_sorted := PySem.W.mg_none_of X G z_sorted, z_sum := PySem.W.mg_none_of X G z_sum, z_tuple := PySem.W.mg_none_of X G z_tuple, z_zip := PySem.W.mg_none_of X G z_zip, t_MOST_SIGNS := t_MOST_SIGNS, c_MOST_SIGNS := PySem.W.mg_of X G n_MOST_SIGNS, t_MOST_LETTERS := t_MOST_LETTERS, c_MOST_LETTERS := PySem.W.mg_of X G n_MOST_LETTERS, t_MOST_STATES := t_MOST_STATES, c_MOST_STATES := PySem.W.mg_of X G n_MOST_STATES, t_MOST_FIRST := t_MOST_FIRST, c_MOST_FIRST := PySem.W.mg_of X G n_MOST_FIRST, t_MOST_NUMBER := t_MOST_NUMBER, c_MOST_NUMBER := PySem.W.mg_of X G n_MOST_NUMBER, t_MOST_PERIOD := t_MOST_PERIOD, c_MOST_PERIOD := PySem.W.mg_of X G n_MOST_PERIOD, t_MOST_GAIN := t_MOST_GAIN, c_MOST_GAIN := PySem.W.mg_of X G n_MOST_GAIN, t_MOST_WRITTEN := t_MOST_WRITTEN, c_MOST_WRITTEN := PySem.W.mg_of X G n_MOST_WRITTEN, C_InvalidRow := C0, i_InvalidRow := I0, e_InvalidRow := E0, x_InvalidRow := exm_of eeC0 eiC0 etC0 esC0, C_InvalidCount := C1, i_InvalidCount := I1, e_InvalidCount := E1, x_InvalidCount := exm_of eeC1 eiC1 etC1 esC1, no_InvalidRow_InvalidCount := exm_of eeC1 eiC1 etC1 en_0_1, no_InvalidCount_InvalidRow := exm_of eeC0 eiC0 etC0 en_1_0 } : Txt K mg)⟩
end My
open PySem PySem.W PyProof.Rows
set_option maxRecDepth 100000 in
set_option maxHeartbeats 0 in
theorem PySem.Challenge.cw_spoiltline_k56_rows_of_numbers_holds : PySem.Challenge.rw_spoiltline_k56_rows_of_numbers.Holds := by
  w_on; o_law; k_head; (case hw => w_witness2)
  k_fill
  refine L2.walk_G (l := PySem.Challenge.rw_spoiltline_k56_rows_of_numbers) (n := 63) (k := 10) (x := "script") (sp := My.spLaw) rfl (by decide) rfl ⟨rfl, by decide, by decide⟩ (fun w h Y => PySem.W.kIn_of Y) ?F (fun _ _ a ns hl _ hS => ⟨a, ns, rfl, hS, hl, fun _ => rfl⟩)
  case F =>
    intro w mg fa h KX G hmg
    refine' My.all_mk KX G hmg ?eC0 ?eL0 ?etk0 ?esa0 ?ega0 ?egg0 ?eno0 ?ein0 ?eti0 ?ekC0 ?eeC0 ?etC0 ?ehC0 ?eiC0 ?esC0 ?efn0 ?eco0 ?eC1 ?eL1 ?etk1 ?esa1 ?ega1 ?egg1 ?eno1 ?ein1 ?eti1 ?ekC1 ?eeC1 ?etC1 ?ehC1 ?eiC1 ?esC1 ?efn1 ?eco1 ?en_0_1 ?en_1_0 ?a0 ?l0 ?c0 ?k0 ?a1 ?l1 ?c1 ?k1 ?a2 ?l2 ?c2 ?k2 ?a3 ?l3 ?c3 ?k3 ?a4 ?l4 ?c4 ?k4 ?a5 ?l5 ?c5 ?k5 ?a6 ?l6 ?c6 ?k6 ?a7 ?l7 ?c7 ?k7 ?a8 ?l8 ?c8 ?k8 ?a9 ?l9 ?c9 ?k9 ?a10 ?l10 ?c10 ?k10 ?a11 ?l11 ?c11 ?k11 ?a12 ?l12 ?c12 ?k12 ?a13 ?l13 ?c13 ?k13 ?a14 ?l14 ?c14 ?k14 ?a15 ?l15 ?c15 ?k15 ?a16 ?l16 ?c16 ?k16 ?a17 ?l17 ?c17 ?k17 ?a18 ?l18 ?c18 ?k18 ?a19 ?l19 ?c19 ?k19 ?a20 ?l20 ?c20 ?k20 ?a21 ?l21 ?c21 ?k21 ?a22 ?l22 ?c22 ?k22 ?a23 ?l23 ?c23 ?k23 ?a24 ?l24 ?c24 ?k24 ?a25 ?l25 ?c25 ?k25 ?a26 ?l26 ?c26 ?k26 ?a27 ?l27 ?c27 ?k27 ?a28 ?l28 ?c28 ?k28 ?z_abs ?z_all ?z_bool ?z_int ?z_isinstance ?z_len ?z_list ?z_max ?z_min ?z_range ?z_repr ?z_sorted ?z_sum ?z_tuple ?z_zip ?n_MOST_SIGNS ?n_MOST_LETTERS ?n_MOST_STATES ?n_MOST_FIRST ?n_MOST_NUMBER ?n_MOST_PERIOD ?n_MOST_GAIN ?n_MOST_WRITTEN
    (case eC0 => k_is)
    (case eL0 => k_is)
    (case etk0 => k_is)
    (case esa0 => k_is)
    (case ega0 => k_is)
    (case egg0 => k_is)
    (case eno0 => k_is)
    (case ein0 => k_is)
    (case eti0 => k_is)
    (case ekC0 => k_is)
    (case eeC0 => k_is)
    (case etC0 => k_is)
    (case ehC0 => k_is)
    (case eiC0 => k_is)
    (case esC0 => k_is)
    (case efn0 => k_is)
    (case eco0 => k_is)
    (case eC1 => k_is)
    (case eL1 => k_is)
    (case etk1 => k_is)
    (case esa1 => k_is)
    (case ega1 => k_is)
    (case egg1 => k_is)
    (case eno1 => k_is)
    (case ein1 => k_is)
    (case eti1 => k_is)
    (case ekC1 => k_is)
    (case eeC1 => k_is)
    (case etC1 => k_is)
    (case ehC1 => k_is)
    (case eiC1 => k_is)
    (case esC1 => k_is)
    (case efn1 => k_is)
    (case eco1 => k_is)
    (case en_0_1 => k_is)
    (case en_1_0 => k_is)
    (case a0 => k_is)
    (case l0 => k_is)
    (case c0 => k_is)
    (case k0 => k_is)
    (case a1 => k_is)
    (case l1 => k_is)
    (case c1 => k_is)
    (case k1 => k_is)
    (case a2 => k_is)
    (case l2 => k_is)
    (case c2 => k_is)
    (case k2 => k_is)
    (case a3 => k_is)
    (case l3 => k_is)
    (case c3 => k_is)
    (case k3 => k_is)
    (case a4 => k_is)
    (case l4 => k_is)
    (case c4 => k_is)
    (case k4 => k_is)
    (case a5 => k_is)
    (case l5 => k_is)
    (case c5 => k_is)
    (case k5 => k_is)
    (case a6 => k_is)
    (case l6 => k_is)
    (case c6 => k_is)
    (case k6 => k_is)
    (case a7 => k_is)
    (case l7 => k_is)
    (case c7 => k_is)
    (case k7 => k_is)
    (case a8 => k_is)
    (case l8 => k_is)
    (case c8 => k_is)
    (case k8 => k_is)
    (case a9 => k_is)
    (case l9 => k_is)
    (case c9 => k_is)
    (case k9 => k_is)
    (case a10 => k_is)
    (case l10 => k_is)
    (case c10 => k_is)
    (case k10 => k_is)
    (case a11 => k_is)
    (case l11 => k_is)
    (case c11 => k_is)
    (case k11 => k_is)
    (case a12 => k_is)
    (case l12 => k_is)
    (case c12 => k_is)
    (case k12 => k_is)
    (case a13 => k_is)
    (case l13 => k_is)
    (case c13 => k_is)
    (case k13 => k_is)
    (case a14 => k_is)
    (case l14 => k_is)
    (case c14 => k_is)
    (case k14 => k_is)
    (case a15 => k_is)
    (case l15 => k_is)
    (case c15 => k_is)
    (case k15 => k_is)
    (case a16 => k_is)
    (case l16 => k_is)
    (case c16 => k_is)
    (case k16 => k_is)
    (case a17 => k_is)
    (case l17 => k_is)
    (case c17 => k_is)
    (case k17 => k_is)
    (case a18 => k_is)
    (case l18 => k_is)
    (case c18 => k_is)
    (case k18 => k_is)
    (case a19 => k_is)
    (case l19 => k_is)
    (case c19 => k_is)
    (case k19 => k_is)
    (case a20 => k_is)
    (case l20 => k_is)
    (case c20 => k_is)
    (case k20 => k_is)
    (case a21 => k_is)
    (case l21 => k_is)
    (case c21 => k_is)
    (case k21 => k_is)
    (case a22 => k_is)
    (case l22 => k_is)
    (case c22 => k_is)
    (case k22 => k_is)
    (case a23 => k_is)
    (case l23 => k_is)
    (case c23 => k_is)
    (case k23 => k_is)
    (case a24 => k_is)
    (case l24 => k_is)
    (case c24 => k_is)
    (case k24 => k_is)
    (case a25 => k_is)
    (case l25 => k_is)
    (case c25 => k_is)
    (case k25 => k_is)
    (case a26 => k_is)
    (case l26 => k_is)
    (case c26 => k_is)
    (case k26 => k_is)
    (case a27 => k_is)
    (case l27 => k_is)
    (case c27 => k_is)
    (case k27 => k_is)
    (case a28 => k_is)
    (case l28 => k_is)
    (case c28 => k_is)
    (case k28 => k_is)
    (case z_abs => k_is)
    (case z_all => k_is)
    (case z_bool => k_is)
    (case z_int => k_is)
    (case z_isinstance => k_is)
    (case z_len => k_is)
    (case z_list => k_is)
    (case z_max => k_is)
    (case z_min => k_is)
    (case z_range => k_is)
    (case z_repr => k_is)
    (case z_sorted => k_is)
    (case z_sum => k_is)
    (case z_tuple => k_is)
    (case z_zip => k_is)
    (case n_MOST_SIGNS => k_is)
    (case n_MOST_LETTERS => k_is)
    (case n_MOST_STATES => k_is)
    (case n_MOST_FIRST => k_is)
    (case n_MOST_NUMBER => k_is)
    (case n_MOST_PERIOD => k_is)
    (case n_MOST_GAIN => k_is)
    (case n_MOST_WRITTEN => k_is)


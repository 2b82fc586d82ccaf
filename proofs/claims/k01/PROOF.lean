import PyProof.Rows.All
import Wide.All
import OpenK.AllK
import Wide.FinOn
import HandS.ForMost
import HandS.Exc
import HandS.ExcOwn
import HandS.WordsExc
import HandS.TryMany
import HandS.ExcSuper
import HandS.ExcInit
import KE.KExcInit
import HandS.Flt
import HandS.StrMore
import HandS.IsInst
import HandS.Conv
import HandS.Wide
import KE.KxIndex
import HandS.OwnEq
import HandS.ExcIs
import KE.KExcIs
import PyProof.ListStr
import HandS.TryOnly
import HandS.Style
import PyProof.EqKinds
import PyProof.NeKinds
import HandS.More
import HandS.HeadHook3
import HandS.TupAny
import PyProof.CollectIter
import PyProof.WalksMore
import HandS.Base
import HandS.Walk
import HandS.Zip
import HandS.SortKw
import HandS.Star
import HandS.MakeKw
import HandS.MakeKwOnly
import PyProof.InstNe
import HandS.Evl
import PySem.Challenge.RW_spoiltline_k01_decoders_and_their_parts
set_option Elab.async false
set_option linter.all false
set_option maxHeartbeats 8000000
namespace Lev
section
variable {α : Type}
/-- an alignment of two lists with c changes -/
inductive A : List α → List α → Nat → Prop where
  | nil : A [] [] 0
  | keep {a u v c} : A u v c → A (a :: u) (a :: v) c
  | swap {a b u v c} : A u v c → A (a :: u) (b :: v) (c + 1)
  | drop {a u v c} : A u v c → A (a :: u) v (c + 1)
  | add {b u v c} : A u v c → A u (b :: v) (c + 1)
theorem A.cast {u v u' v' : List α} {c c' : Nat} (h : A u v c) (e1 : u = u') (e2 : v = v') (e3 : c = c') : A u' v' c' := by
  subst e1 e2 e3; exact h
theorem A.refl : ∀ u : List α, A u u 0
  | [] => .nil
  | _ :: u => .keep (A.refl u)
theorem A.symm {u v : List α} {c : Nat} (h : A u v c) : A v u c := by
  induction h with
  | nil => exact .nil
  | keep _ ih => exact .keep ih
  | swap _ ih => exact .swap ih
  | drop _ ih => exact .add ih
  | add _ ih => exact .drop ih
theorem A.append {u v u' v' : List α} {c c' : Nat} (h : A u v c) (h' : A u' v' c') : A (u ++ u') (v ++ v') (c + c') := by
  induction h with
  | nil => exact h'.cast rfl rfl (Nat.zero_add _).symm
  | keep _ ih => exact .keep ih
  | swap _ ih => exact (A.swap ih).cast rfl rfl (by omega)
  | drop _ ih => exact (A.drop ih).cast rfl rfl (by omega)
  | add _ ih => exact (A.add ih).cast rfl rfl (by omega)
theorem A.drops : ∀ u : List α, A u [] u.length
  | [] => .nil
  | _ :: u => .drop (A.drops u)
theorem A.adds (u : List α) : A [] u u.length := (A.drops u).symm
theorem A.nilLeft {v : List α} {c : Nat} (h : A [] v c) : v.length ≤ c := by
  generalize e : ([] : List α) = u at h
  induction h with
  | nil => exact Nat.le_refl _
  | keep _ _ => cases e
  | swap _ _ => cases e
  | drop _ _ => cases e
  | add _ ih => have := ih e; simp; omega
/-- an alignment is cut where the left list is -/
theorem A.split {w v : List α} {c : Nat} (h : A w v c) : ∀ u u' : List α, w = u ++ u' → ∃ v1 v2 c1 c2, v = v1 ++ v2 ∧ A u v1 c1 ∧ A u' v2 c2 ∧ c = c1 + c2 := by
  induction h with
  | nil =>
    intro u u' e
    have e1 : u = [] := (List.append_eq_nil_iff.mp e.symm).1
    have e2 : u' = [] := (List.append_eq_nil_iff.mp e.symm).2
    subst e1 e2
    exact ⟨[], [], 0, 0, rfl, .nil, .nil, rfl⟩
  | @keep a w v c h ih =>
    intro u u' e
    cases u with
    | nil => exact ⟨[], a :: v, 0, c, rfl, .nil, (A.keep h).cast e rfl rfl, (Nat.zero_add _).symm⟩
    | cons x u =>
      injection e with e1 e2
      subst e1
      obtain ⟨v1, v2, c1, c2, rfl, h1, h2, rfl⟩ := ih u u' e2
      exact ⟨_ :: v1, v2, c1, c2, rfl, .keep h1, h2, rfl⟩
  | @swap a b w v c h ih =>
    intro u u' e
    cases u with
    | nil => exact ⟨[], b :: v, 0, c + 1, rfl, .nil, (A.swap h).cast e rfl rfl, (Nat.zero_add _).symm⟩
    | cons x u =>
      injection e with e1 e2
      subst e1
      obtain ⟨v1, v2, c1, c2, rfl, h1, h2, rfl⟩ := ih u u' e2
      exact ⟨_ :: v1, v2, c1 + 1, c2, rfl, .swap h1, h2, by omega⟩
  | @drop a w v c h ih =>
    intro u u' e
    cases u with
    | nil => exact ⟨[], v, 0, c + 1, rfl, .nil, (A.drop h).cast e rfl rfl, (Nat.zero_add _).symm⟩
    | cons x u =>
      injection e with e1 e2
      subst e1
      obtain ⟨v1, v2, c1, c2, rfl, h1, h2, rfl⟩ := ih u u' e2
      exact ⟨v1, v2, c1 + 1, c2, rfl, .drop h1, h2, by omega⟩
  | @add b w v c h ih =>
    intro u u' e
    obtain ⟨v1, v2, c1, c2, rfl, h1, h2, rfl⟩ := ih u u' e
    exact ⟨b :: v1, v2, c1 + 1, c2, rfl, .add h1, h2, by omega⟩

/-! ### ways over places of two lists -/
inductive P (u v : List α) : Nat → Nat → Nat → Prop where
  | zero : P u v 0 0 0
  | keep {i j c a} : P u v i j c → u[i]? = some a → v[j]? = some a → P u v (i + 1) (j + 1) c
  | swap {i j c} : P u v i j c → i < u.length → j < v.length → P u v (i + 1) (j + 1) (c + 1)
  | drop {i j c} : P u v i j c → i < u.length → P u v (i + 1) j (c + 1)
  | add {i j c} : P u v i j c → j < v.length → P u v i (j + 1) (c + 1)
variable {u v : List α}
theorem P.bounds {i j c : Nat} (h : P u v i j c) : i ≤ u.length ∧ j ≤ v.length := by
  induction h with
  | zero => exact ⟨Nat.zero_le _, Nat.zero_le _⟩
  | keep _ e1 e2 _ =>
    have h1 := (List.getElem?_eq_some_iff.mp e1).1
    have h2 := (List.getElem?_eq_some_iff.mp e2).1
    exact ⟨h1, h2⟩
  | swap _ h1 h2 _ => exact ⟨h1, h2⟩
  | drop _ h1 ih => exact ⟨h1, ih.2⟩
  | add _ h1 ih => exact ⟨ih.1, h1⟩
theorem P.toA {i j c : Nat} (h : P u v i j c) : A (u.take i) (v.take j) c := by
  induction h with
  | zero => exact (A.nil).cast (by simp) (by simp) rfl
  | keep _ e1 e2 ih =>
    exact (ih.append (A.keep A.nil)).cast (by rw [List.take_add_one, e1]; rfl) (by rw [List.take_add_one, e2]; rfl) rfl
  | @swap i j c _ h1 h2 ih =>
    exact (ih.append (A.swap (a := u[i]) (b := v[j]) A.nil)).cast (by rw [List.take_add_one, List.getElem?_eq_getElem h1]; rfl) (by rw [List.take_add_one, List.getElem?_eq_getElem h2]; rfl) rfl
  | @drop i j c _ h1 ih =>
    exact (ih.append (A.drop (a := u[i]) A.nil)).cast (by rw [List.take_add_one, List.getElem?_eq_getElem h1]; rfl) (by simp) rfl
  | @add i j c _ h1 ih =>
    exact (ih.append (A.add (b := v[j]) A.nil)).cast (by simp) (by rw [List.take_add_one, List.getElem?_eq_getElem h1]; rfl) rfl
theorem P.onA {u' v' : List α} {c' : Nat} (h : A u' v' c') : ∀ {i j c : Nat}, P u v i j c → u.drop i = u' → v.drop j = v' → i ≤ u.length → j ≤ v.length → P u v u.length v.length (c + c') := by
  induction h with
  | nil =>
    intro i j c p e1 e2 b1 b2
    have h1 : u.length ≤ i := List.drop_eq_nil_iff.mp e1
    have h2 : v.length ≤ j := List.drop_eq_nil_iff.mp e2
    have e3 : i = u.length := Nat.le_antisymm b1 h1
    have e4 : j = v.length := Nat.le_antisymm b2 h2
    subst e3 e4
    exact p
  | @keep a u' v' c' _ ih =>
    intro i j c p e1 e2 b1 b2
    have g1 : u[i]? = some a := by have := congrArg (·[0]?) e1; simpa using this
    have g2 : v[j]? = some a := by have := congrArg (·[0]?) e2; simpa using this
    have h1 := (List.getElem?_eq_some_iff.mp g1).1
    have h2 := (List.getElem?_eq_some_iff.mp g2).1
    exact ih (.keep p g1 g2) (by rw [← List.drop_drop, e1]; rfl) (by rw [← List.drop_drop, e2]; rfl) h1 h2
  | @swap a b u' v' c' _ ih =>
    intro i j c p e1 e2 b1 b2
    have g1 : u[i]? = some a := by have := congrArg (·[0]?) e1; simpa using this
    have g2 : v[j]? = some b := by have := congrArg (·[0]?) e2; simpa using this
    have h1 := (List.getElem?_eq_some_iff.mp g1).1
    have h2 := (List.getElem?_eq_some_iff.mp g2).1
    have := ih (.swap p h1 h2) (by rw [← List.drop_drop, e1]; rfl) (by rw [← List.drop_drop, e2]; rfl) h1 h2
    rw [show c + (c' + 1) = c + 1 + c' by omega]; exact this
  | @drop a u' v' c' _ ih =>
    intro i j c p e1 e2 b1 b2
    have g1 : u[i]? = some a := by have := congrArg (·[0]?) e1; simpa using this
    have h1 := (List.getElem?_eq_some_iff.mp g1).1
    have := ih (.drop p h1) (by rw [← List.drop_drop, e1]; rfl) e2 h1 b2
    rw [show c + (c' + 1) = c + 1 + c' by omega]; exact this
  | @add b u' v' c' _ ih =>
    intro i j c p e1 e2 b1 b2
    have g2 : v[j]? = some b := by have := congrArg (·[0]?) e2; simpa using this
    have h2 := (List.getElem?_eq_some_iff.mp g2).1
    have := ih (.add p h2) e1 (by rw [← List.drop_drop, e2]; rfl) b1 h2
    rw [show c + (c' + 1) = c + 1 + c' by omega]; exact this
theorem A.toP {c : Nat} (h : A u v c) : P u v u.length v.length c := by
  have := P.onA (u := u) (v := v) h .zero rfl rfl (Nat.zero_le _) (Nat.zero_le _)
  simpa using this
theorem P.toA' {c : Nat} (h : P u v u.length v.length c) : A u v c := h.toA.cast (List.take_length) (List.take_length) rfl

/-! ### the table -/
variable [DecidableEq α]
def neq (x y : Option α) : Nat := if x = y then 0 else 1
def T (u v : List α) : Nat → Nat → Nat
  | 0, j => j
  | i + 1, 0 => i + 1
  | i + 1, j + 1 => min (T u v i j + neq u[i]? v[j]?) (min (T u v (i + 1) j + 1) (T u v i (j + 1) + 1))
theorem T_zero (j : Nat) : T u v 0 j = j := by unfold T; rfl
theorem T_left (i : Nat) : T u v i 0 = i := by cases i <;> (unfold T; rfl)
theorem T_step (i j : Nat) : T u v (i + 1) (j + 1) = min (T u v i j + neq u[i]? v[j]?) (min (T u v (i + 1) j + 1) (T u v i (j + 1) + 1)) := by
  rw [T]
theorem T_le {i j c : Nat} (h : P u v i j c) : T u v i j ≤ c := by
  induction h with
  | zero => rw [T_zero]; omega
  | keep _ e1 e2 ih => rw [T_step, e1, e2]; simp only [neq, if_true]; omega
  | @swap i j c _ _ _ ih =>
    rw [T_step]
    have : neq u[i]? v[j]? ≤ 1 := by unfold neq; split <;> omega
    omega
  | @drop i j c _ _ ih => cases j with
    | zero => rw [T_left] at *; omega
    | succ j => rw [T_step]; omega
  | @add i j c _ _ ih => cases i with
    | zero => rw [T_zero] at *; omega
    | succ i => rw [T_step]; omega
theorem T_P : ∀ (i j : Nat), i ≤ u.length → j ≤ v.length → P u v i j (T u v i j) := by
  intro i
  induction i with
  | zero =>
    intro j
    induction j with
    | zero => intro _ _; rw [T_zero]; exact .zero
    | succ j ih => intro h1 h2; rw [T_zero]; have := ih h1 (by omega); rw [T_zero] at this; exact .add this (by omega)
  | succ i ihi =>
    intro j
    induction j with
    | zero => intro h1 h2; rw [T_left]; have := ihi 0 (by omega) h2; rw [T_left] at this; exact .drop this (by omega)
    | succ j ih =>
      intro h1 h2
      have p1 := ihi j (by omega) (by omega)
      have p2 := ih h1 (by omega)
      have p3 := ihi (j + 1) (by omega) h2
      rw [T_step]
      by_cases q1 : T u v i j + neq u[i]? v[j]? ≤ min (T u v (i + 1) j + 1) (T u v i (j + 1) + 1)
      · rw [Nat.min_eq_left q1]
        by_cases e : u[i]? = v[j]?
        · rw [show neq u[i]? v[j]? = 0 by unfold neq; rw [if_pos e]]
          exact .keep p1 (List.getElem?_eq_getElem (by omega)) (by rw [← e]; exact List.getElem?_eq_getElem (by omega))
        · rw [show neq u[i]? v[j]? = 1 by unfold neq; rw [if_neg e]]
          exact .swap p1 (by omega) (by omega)
      · rw [Nat.min_eq_right (by omega)]
        by_cases q2 : T u v (i + 1) j + 1 ≤ T u v i (j + 1) + 1
        · rw [Nat.min_eq_left q2]; exact .add p2 (by omega)
        · rw [Nat.min_eq_right (by omega)]; exact .drop p3 (by omega)
/-- the distance -/
def D (u v : List α) : Nat := T u v u.length v.length
theorem D_A (u v : List α) : A u v (D u v) := (T_P _ _ (Nat.le_refl _) (Nat.le_refl _)).toA'
theorem D_le {u v : List α} {c : Nat} (h : A u v c) : D u v ≤ c := T_le h.toP
theorem D_symm (u v : List α) : D u v = D v u := Nat.le_antisymm (D_le (D_A v u).symm) (D_le (D_A u v).symm)
theorem D_self (u : List α) : D u u = 0 := Nat.le_zero.mp (D_le (A.refl u))
theorem D_le_max (u v : List α) : D u v ≤ max u.length v.length := by
  have key : ∀ u v : List α, ∃ c, A u v c ∧ c ≤ max u.length v.length := by
    intro u
    induction u with
    | nil => intro v; exact ⟨_, A.adds v, by simp⟩
    | cons a u ih =>
      intro v
      cases v with
      | nil => exact ⟨_, A.drops (a :: u), by simp⟩
      | cons b v =>
        obtain ⟨c, h, hc⟩ := ih v
        exact ⟨c + 1, .swap h, by simp; omega⟩
  obtain ⟨c, h, hc⟩ := key u v
  exact Nat.le_trans (D_le h) hc
theorem A.lens {u v : List α} {c : Nat} (h : A u v c) : u.length ≤ v.length + c ∧ v.length ≤ u.length + c := by
  induction h with
  | nil => exact ⟨Nat.le_refl _, Nat.le_refl _⟩
  | keep _ ih => simp only [List.length_cons]; omega
  | swap _ ih => simp only [List.length_cons]; omega
  | drop _ ih => simp only [List.length_cons]; omega
  | add _ ih => simp only [List.length_cons]; omega
end
end Lev

set_option Elab.async false
set_option linter.all false
set_option maxHeartbeats 400000
namespace Lev
section
variable {α : Type}
/-- w is a turn of v -/
def Turn (v w : List α) : Prop := ∃ x y, v = x ++ y ∧ w = y ++ x
theorem Turn.refl (v : List α) : Turn v v := ⟨[], v, rfl, (List.append_nil v).symm⟩
theorem Turn.symm {v w : List α} (h : Turn v w) : Turn w v := by
  obtain ⟨x, y, rfl, rfl⟩ := h
  exact ⟨y, x, rfl, rfl⟩
theorem Turn.trans {u v w : List α} (h : Turn u v) (h' : Turn v w) : Turn u w := by
  obtain ⟨x, y, rfl, rfl⟩ := h
  obtain ⟨x', y', e, rfl⟩ := h'
  rcases List.append_eq_append_iff.mp e with ⟨e1, rfl, rfl⟩ | ⟨e1, rfl, rfl⟩
  · exact ⟨e1, y' ++ y, by rw [List.append_assoc], by rw [List.append_assoc]⟩
  · exact ⟨x ++ x', e1, by rw [List.append_assoc], by rw [List.append_assoc]⟩
theorem Turn.length {v w : List α} (h : Turn v w) : w.length = v.length := by
  obtain ⟨x, y, rfl, rfl⟩ := h
  simp only [List.length_append]; omega
theorem Turn.at (v : List α) (k : Nat) : Turn v (v.drop k ++ v.take k) := ⟨v.take k, v.drop k, (List.take_append_drop k v).symm, rfl⟩
/-- an alignment of turns of both is one of u and a turn -/
theorem cut {u u' v v' : List α} {c : Nat} (hu : Turn u u') (hv : Turn v v') (h : A u' v' c) : ∃ w, Turn v w ∧ A u w c := by
  obtain ⟨x, y, rfl, rfl⟩ := hu
  obtain ⟨w1, w2, c1, c2, rfl, h1, h2, rfl⟩ := h.split y x rfl
  exact ⟨w2 ++ w1, hv.trans ⟨w1, w2, rfl, rfl⟩, (h2.append h1).cast rfl rfl (Nat.add_comm _ _)⟩
/-! ### the window that is just as long -/
theorem window (N : Nat) : ∀ {u w w' : List α} {c c' k b : Nat}, u.length + w.length + w'.length ≤ N → A u w c → A u w' c' → w.length + k ≤ b → b ≤ w'.length + k →
    ∃ p q s t s' t' c1 c2 c3 c4, u = p ++ q ∧ w = s ++ t ∧ w' = s' ++ t' ∧ A p s c1 ∧ A q t c2 ∧ A p s' c3 ∧ A q t' c4 ∧ c = c1 + c2 ∧ c' = c3 + c4 ∧ t.length + (k + s'.length) = b := by
  induction N with
  | zero =>
    intro u w w' c c' k b hN h h' l1 l2
    have e1 : u = [] := List.eq_nil_of_length_eq_zero (by omega)
    have e2 : w = [] := List.eq_nil_of_length_eq_zero (by omega)
    have e3 : w' = [] := List.eq_nil_of_length_eq_zero (by omega)
    subst e1 e2 e3
    exact ⟨[], [], [], [], [], [], 0, c, 0, c', rfl, rfl, rfl, .nil, h, .nil, h', (Nat.zero_add _).symm, (Nat.zero_add _).symm, by simp at *; omega⟩
  | succ N ih =>
    intro u w w' c c' k b hN h h' l1 l2
    by_cases e : w.length + k = b
    · exact ⟨[], u, [], w, [], w', 0, c, 0, c', rfl, rfl, rfl, .nil, h, .nil, h', (Nat.zero_add _).symm, (Nat.zero_add _).symm, by simp; omega⟩
    · -- a letter more of the second
      have main : ∀ {a : α} {u w1 w1' pw pw' : List α} {c1 c1' pc pc' : Nat}, A u w1 c1 → A u w1' c1' → (∀ {p s d}, A p s d → A (a :: p) (pw ++ s) (pc + d)) → (∀ {p s d}, A p s d → A (a :: p) (pw' ++ s) (pc' + d)) → pw.length ≤ 1 → pw'.length ≤ 1 →
          (u.length + 1) + (pw ++ w1).length + (pw' ++ w1').length ≤ N + 1 → (pw ++ w1).length + k ≤ b → b ≤ (pw' ++ w1').length + k → ¬ (pw ++ w1).length + k = b →
          ∃ p q s t s' t' d1 d2 d3 d4, a :: u = p ++ q ∧ pw ++ w1 = s ++ t ∧ pw' ++ w1' = s' ++ t' ∧ A p s d1 ∧ A q t d2 ∧ A p s' d3 ∧ A q t' d4 ∧ pc + c1 = d1 + d2 ∧ pc' + c1' = d3 + d4 ∧ t.length + (k + s'.length) = b := by
        intro a u w1 w1' pw pw' c1 c1' pc pc' g g' f f' n1 n2 hN l1 l2 e
        rw [List.length_append] at hN l1 l2 e
        rw [List.length_append] at hN
        obtain ⟨p, q, s, t, s', t', d1, d2, d3, d4, rfl, rfl, rfl, a1, a2, a3, a4, e1, e2, e3⟩ := ih (k := k + pw'.length) (b := b) (by omega) g g' (by omega) (by omega)
        exact ⟨a :: p, q, pw ++ s, t, pw' ++ s', t', pc + d1, d2, pc' + d3, d4, rfl, by simp, by simp, f a1, a2, f' a3, a4, by omega, by omega, by rw [List.length_append]; omega⟩
      cases h' with
      | nil =>
        have := h.nilLeft
        simp at l2
        omega
      | @add b' _ w'' c'' g' =>
        simp only [List.length_cons] at hN l2
        obtain ⟨p, q, s, t, s', t', d1, d2, d3, d4, rfl, rfl, rfl, a1, a2, a3, a4, e1, e2, e3⟩ := ih (k := k + 1) (b := b) (by omega) h g' (by omega) (by omega)
        exact ⟨p, q, s, t, b' :: s', t', d1, d2, d3 + 1, d4, rfl, rfl, rfl, a1, a2, .add a3, a4, e1, by omega, by simp only [List.length_cons]; omega⟩
      | @keep a u w1' c1' g' =>
        cases h with
        | @add b' _ w1 c1 g =>
          simp only [List.length_cons] at hN l1 l2 e
          obtain ⟨p, q, s, t, s', t', d1, d2, d3, d4, e0, rfl, e00, a1, a2, a3, a4, e1, e2, e3⟩ := ih (k := k) (b := b) (by simp only [List.length_cons]; omega) g (A.keep g') (by omega) (by simp only [List.length_cons]; omega)
          exact ⟨p, q, b' :: s, t, s', t', d1 + 1, d2, d3, d4, e0, rfl, e00, .add a1, a2, a3, a4, by omega, e2, e3⟩
        | @keep _ _ w1 c1 g => simpa using main (pw := [a]) (pw' := [a]) (pc := 0) (pc' := 0) g g' (fun z => (A.keep z).cast rfl rfl (by omega)) (fun z => (A.keep z).cast rfl rfl (by omega)) (by simp) (by simp) (by simpa using hN) (by simpa using l1) (by simpa using l2) (by simpa using e)
        | @swap _ x _ w1 c1 g => simpa [Nat.add_comm] using main (pw := [x]) (pw' := [a]) (pc := 1) (pc' := 0) g g' (fun z => (A.swap z).cast rfl rfl (by omega)) (fun z => (A.keep z).cast rfl rfl (by omega)) (by simp) (by simp) (by simpa using hN) (by simpa using l1) (by simpa using l2) (by simpa using e)
        | @drop _ _ _ c1 g => simpa [Nat.add_comm] using main (pw := []) (pw' := [a]) (pc := 1) (pc' := 0) g g' (fun z => (A.drop z).cast rfl rfl (by omega)) (fun z => (A.keep z).cast rfl rfl (by omega)) (by simp) (by simp) (by simpa using hN) (by simpa using l1) (by simpa using l2) (by simpa using e)
      | @swap a y u w1' c1' g' =>
        cases h with
        | @add b' _ w1 c1 g =>
          simp only [List.length_cons] at hN l1 l2 e
          obtain ⟨p, q, s, t, s', t', d1, d2, d3, d4, e0, rfl, e00, a1, a2, a3, a4, e1, e2, e3⟩ := ih (k := k) (b := b) (by simp only [List.length_cons]; omega) g (A.swap (b := y) g') (by omega) (by simp only [List.length_cons]; omega)
          exact ⟨p, q, b' :: s, t, s', t', d1 + 1, d2, d3, d4, e0, rfl, e00, .add a1, a2, a3, a4, by omega, e2, e3⟩
        | @keep _ _ w1 c1 g => simpa [Nat.add_comm] using main (pw := [a]) (pw' := [y]) (pc := 0) (pc' := 1) g g' (fun z => (A.keep z).cast rfl rfl (by omega)) (fun z => (A.swap z).cast rfl rfl (by omega)) (by simp) (by simp) (by simpa using hN) (by simpa using l1) (by simpa using l2) (by simpa using e)
        | @swap _ x _ w1 c1 g => simpa [Nat.add_comm] using main (pw := [x]) (pw' := [y]) (pc := 1) (pc' := 1) g g' (fun z => (A.swap z).cast rfl rfl (by omega)) (fun z => (A.swap z).cast rfl rfl (by omega)) (by simp) (by simp) (by simpa using hN) (by simpa using l1) (by simpa using l2) (by simpa using e)
        | @drop _ _ _ c1 g => simpa [Nat.add_comm] using main (pw := []) (pw' := [y]) (pc := 1) (pc' := 1) g g' (fun z => (A.drop z).cast rfl rfl (by omega)) (fun z => (A.swap z).cast rfl rfl (by omega)) (by simp) (by simp) (by simpa using hN) (by simpa using l1) (by simpa using l2) (by simpa using e)
      | @drop a u _ c1' g' =>
        cases h with
        | @add b' _ w1 c1 g =>
          simp only [List.length_cons] at hN l1 l2 e
          obtain ⟨p, q, s, t, s', t', d1, d2, d3, d4, e0, rfl, e00, a1, a2, a3, a4, e1, e2, e3⟩ := ih (k := k) (b := b) (by simp only [List.length_cons]; omega) g (A.drop g') (by omega) (by omega)
          exact ⟨p, q, b' :: s, t, s', t', d1 + 1, d2, d3, d4, e0, rfl, e00, .add a1, a2, a3, a4, by omega, e2, e3⟩
        | @keep _ _ w1 c1 g => simpa [Nat.add_comm] using main (pw := [a]) (pw' := []) (pc := 0) (pc' := 1) g g' (fun z => (A.keep z).cast rfl rfl (by omega)) (fun z => (A.drop z).cast rfl rfl (by omega)) (by simp) (by simp) (by simpa using hN) (by simpa using l1) (by simpa using l2) (by simpa using e)
        | @swap _ x _ w1 c1 g => simpa [Nat.add_comm] using main (pw := [x]) (pw' := []) (pc := 1) (pc' := 1) g g' (fun z => (A.swap z).cast rfl rfl (by omega)) (fun z => (A.drop z).cast rfl rfl (by omega)) (by simp) (by simp) (by simpa using hN) (by simpa using l1) (by simpa using l2) (by simpa using e)
        | @drop _ _ _ c1 g => simpa [Nat.add_comm] using main (pw := []) (pw' := []) (pc := 1) (pc' := 1) g g' (fun z => (A.drop z).cast rfl rfl (by omega)) (fun z => (A.drop z).cast rfl rfl (by omega)) (by simp) (by simp) (by simpa using hN) (by simpa using l1) (by simpa using l2) (by simpa using e)
/-! ### rounds -/
def rounds : Nat → List α → List α
  | 0, _ => []
  | n + 1, v => v ++ rounds n v
theorem rounds_len (n : Nat) (v : List α) : (rounds n v).length = n * v.length := by
  induction n with
  | zero => simp [rounds]
  | succ n ih => simp [rounds, ih, Nat.succ_mul]; omega
theorem rounds_get (n : Nat) (v : List α) {i : Nat} (h : i < n * v.length) : (rounds n v)[i]? = v[i % v.length]? := by
  induction n generalizing i with
  | zero => omega
  | succ n ih =>
    show (v ++ rounds n v)[i]? = _
    rw [Nat.succ_mul] at h
    rcases Nat.lt_or_ge i v.length with q | q
    · rw [List.getElem?_append_left q, Nat.mod_eq_of_lt q]
    · rw [List.getElem?_append_right q, ih (by omega)]
      congr 1
      conv => rhs; rw [← Nat.sub_add_cancel q, Nat.add_mod_right]
/-- a piece of rounds that is as long as the text is a turn of it; the rest are rounds -/
theorem piece {n : Nat} {v x y z : List α} (h : rounds (n + 1) v = x ++ y ++ z) (hy : y.length = v.length) : Turn v y ∧ x ++ z = rounds n v := by
  by_cases hv : v.length = 0
  · have e1 : v = [] := List.eq_nil_of_length_eq_zero hv
    subst e1
    have hz : ∀ n, rounds n ([] : List α) = [] := fun n => List.eq_nil_of_length_eq_zero (by rw [rounds_len]; simp)
    rw [hz] at h
    have h' := congrArg List.length h
    simp only [List.length_nil, List.length_append] at h'
    have e2 : x = [] := List.eq_nil_of_length_eq_zero (by omega)
    have e3 : y = [] := List.eq_nil_of_length_eq_zero (by omega)
    have e4 : z = [] := List.eq_nil_of_length_eq_zero (by omega)
    subst e2 e3 e4
    exact ⟨Turn.refl _, (hz n).symm⟩
  have pos : 0 < v.length := Nat.pos_of_ne_zero hv
  have hl := congrArg List.length h
  rw [rounds_len, List.length_append, List.length_append, Nat.succ_mul] at hl
  have G : ∀ i, i < (n + 1) * v.length → (x ++ y ++ z)[i]? = v[i % v.length]? := fun i hi => by rw [← h]; exact rounds_get (n + 1) v hi
  rw [Nat.succ_mul] at G
  constructor
  · have e : y = v.drop (x.length % v.length) ++ v.take (x.length % v.length) := by
      have lt := Nat.mod_lt x.length pos
      apply List.ext_getElem?
      intro i
      rcases Nat.lt_or_ge i y.length with q | q
      · have g := G (x.length + i) (by omega)
        rw [List.append_assoc, List.getElem?_append_right (by omega), Nat.add_sub_cancel_left, List.getElem?_append_left q] at g
        rw [g]
        rcases Nat.lt_or_ge i (v.length - x.length % v.length) with q2 | q2
        · rw [List.getElem?_append_left (by rw [List.length_drop]; exact q2), List.getElem?_drop]
          congr 1
          rw [Nat.add_mod, Nat.mod_eq_of_lt (show i < v.length by omega), Nat.mod_eq_of_lt (by omega)]
        · rw [List.getElem?_append_right (by rw [List.length_drop]; exact q2), List.length_drop, List.getElem?_take, if_pos (by omega)]
          congr 1
          rw [Nat.add_mod, Nat.mod_eq_of_lt (show i < v.length by omega), Nat.mod_eq_sub_mod (by omega), Nat.mod_eq_of_lt (by omega)]
          omega
      · rw [List.getElem?_eq_none q, List.getElem?_eq_none (by simp only [List.length_append, List.length_drop, List.length_take]; omega)]
    rw [e]
    exact Turn.at v _
  · apply List.ext_getElem?
    intro i
    rcases Nat.lt_or_ge i (n * v.length) with q | q
    · rw [rounds_get n v q]
      rcases Nat.lt_or_ge i x.length with q2 | q2
      · rw [List.getElem?_append_left q2]
        have g := G i (by omega)
        rw [List.append_assoc, List.getElem?_append_left q2] at g
        exact g
      · rw [List.getElem?_append_right q2]
        have g := G (i + v.length) (by omega)
        rw [List.getElem?_append_right (by rw [List.length_append]; omega), List.length_append, Nat.add_mod_right] at g
        rw [← g]
        congr 1
        omega
    · rw [List.getElem?_eq_none (by rw [List.length_append]; omega), List.getElem?_eq_none (by rw [rounds_len]; omega)]
/-- the parts of a text that go with each round of u -/
inductive Blocks (u : List α) : Nat → List α → Nat → Prop where
  | nil : Blocks u 0 [] 0
  | cons {n w v c d} : A u w c → Blocks u n v d → Blocks u (n + 1) (w ++ v) (c + d)
theorem blocks_of {u : List α} : ∀ {n : Nat} {v : List α} {c : Nat}, A (rounds (n + 1) u) v c → Blocks u (n + 1) v c
  | 0, v, c, h => by
    have h' : A u v c := h.cast (List.append_nil u) rfl rfl
    have := Blocks.cons h' .nil
    rw [List.append_nil] at this
    exact this
  | n + 1, v, c, h => by
    obtain ⟨v1, v2, c1, c2, rfl, h1, h2, rfl⟩ := h.split u (rounds (n + 1) u) rfl
    exact .cons h1 (blocks_of h2)
def Gone (u : List α) (b n : Nat) (V : List α) (c : Nat) : Prop :=
  ∃ x y z c1 c2 u', V = x ++ y ++ z ∧ y.length = b ∧ Blocks u n (x ++ z) c1 ∧ Turn u u' ∧ A u' y c2 ∧ c = c1 + c2
theorem tri {u : List α} {b : Nat} : ∀ {n : Nat} {V : List α} {c : Nat}, Blocks u (n + 1) V c →
    (∃ w V' c1 d, V = w ++ V' ∧ A u w c1 ∧ Blocks u n V' d ∧ c = c1 + d ∧ w.length < b ∧ V.length < (n + 1) * b) ∨
    (∃ w V' c1 d, V = w ++ V' ∧ A u w c1 ∧ Blocks u n V' d ∧ c = c1 + d ∧ b < w.length ∧ (n + 1) * b < V.length) ∨ Gone u b n V c := by
  intro n
  induction n with
  | zero =>
    intro V c h
    cases h with
    | @cons _ w V' c d h1 h2 =>
      cases h2
      rcases Nat.lt_trichotomy w.length b with q | q | q
      · exact .inl ⟨w, [], c, 0, rfl, h1, .nil, rfl, q, by simp; exact q⟩
      · exact .inr (.inr ⟨[], w, [], 0, c, u, by simp, q, .nil, Turn.refl u, h1, by omega⟩)
      · exact .inr (.inl ⟨w, [], c, 0, rfl, h1, .nil, rfl, q, by simp; exact q⟩)
  | succ n ih =>
    intro V c h
    cases h with
    | @cons _ w V' c d h1 h2 =>
      have em : (n + 1 + 1) * b = (n + 1) * b + b := Nat.succ_mul _ _
      rcases ih h2 with ⟨w', V'', c', d', rfl, g1, g2, rfl, l1, l2⟩ | ⟨w', V'', c', d', rfl, g1, g2, rfl, l1, l2⟩ | ⟨x, y, z, d1, d2, u', rfl, hy, g1, g2, g3, rfl⟩
      · rcases Nat.lt_trichotomy w.length b with q | q | q
        · exact .inl ⟨w, _, c, _, rfl, h1, h2, rfl, q, by rw [List.length_append]; omega⟩
        · exact .inr (.inr ⟨[], w, _, _, c, u, by simp, q, h2, Turn.refl u, h1, by omega⟩)
        · -- longer, then shorter
          obtain ⟨p, q', s, t, s', t', k1, k2, k3, k4, rfl, rfl, rfl, a1, a2, a3, a4, rfl, rfl, e⟩ := window _ (k := 0) (b := w.length + w'.length - b) (Nat.le_refl _) g1 h1 (by omega) (by omega)
          simp only [List.length_append] at e q l1
          refine .inr (.inr ⟨s', t' ++ s, t ++ V'', (k3 + k2) + d', k4 + k1, q' ++ p, by simp, by rw [List.length_append]; omega, ?_, ⟨p, q', rfl, rfl⟩, a4.append a1, by omega⟩)
          have := Blocks.cons (a3.append a2) g2
          rw [List.append_assoc] at this
          exact this
      · rcases Nat.lt_trichotomy w.length b with q | q | q
        · obtain ⟨p, q', s, t, s', t', k1, k2, k3, k4, rfl, rfl, rfl, a1, a2, a3, a4, rfl, rfl, e⟩ := window _ (k := 0) (b := b) (Nat.le_refl _) h1 g1 (by omega) (by omega)
          refine .inr (.inr ⟨s, t ++ s', t' ++ V'', (k1 + k4) + d', k2 + k3, q' ++ p, by simp, by rw [List.length_append]; omega, ?_, ⟨p, q', rfl, rfl⟩, a2.append a3, by omega⟩)
          have := Blocks.cons (a1.append a4) g2
          rw [List.append_assoc] at this
          exact this
        · exact .inr (.inr ⟨[], w, _, _, c, u, by simp, q, h2, Turn.refl u, h1, by omega⟩)
        · exact .inr (.inl ⟨w, _, c, _, rfl, h1, h2, rfl, q, by rw [List.length_append]; omega⟩)
      · refine .inr (.inr ⟨w ++ x, y, z, c + d1, d2, u', by simp, hy, ?_, g2, g3, by omega⟩)
        rw [List.append_assoc]
        exact .cons h1 g1
/-- rounds are at least as far apart as so many turns -/
theorem rounds_ge {u v : List α} {r : Nat} (hr : ∀ w c, Turn v w → A u w c → r ≤ c) : ∀ {n : Nat} {c : Nat}, Blocks u (n + 1) (rounds (n + 1) v) c → (n + 1) * r ≤ c := by
  intro n
  induction n with
  | zero =>
    intro c h
    rw [show rounds 1 v = v from List.append_nil v] at h
    generalize e : v = V at h
    cases h with
    | @cons _ w V' c d h1 h2 =>
      cases h2
      rw [List.append_nil] at e
      subst e
      have := hr v c (Turn.refl v) h1
      omega
  | succ n ih =>
    intro c h
    have hl := rounds_len (n + 1 + 1) v
    rcases tri (b := v.length) h with ⟨w, V', c', d', e, g1, g2, _, l1, l2⟩ | ⟨w, V', c', d', e, g1, g2, _, l1, l2⟩ | ⟨x, y, z, d1, d2, u', e, hy, g1, g2, g3, rfl⟩
    · rw [hl] at l2; exact absurd l2 (Nat.lt_irrefl _)
    · rw [hl] at l2; exact absurd l2 (Nat.lt_irrefl _)
    · obtain ⟨ht, hz⟩ := piece e hy
      rw [hz] at g1
      have k1 := ih g1
      obtain ⟨w, tw, aw⟩ := cut g2 ht g3
      have k2 := hr w d2 tw aw
      rw [Nat.succ_mul]
      omega
theorem rounds_A {u w : List α} {c : Nat} (h : A u w c) : ∀ n, A (rounds n u) (rounds n w) (n * c)
  | 0 => (A.nil).cast rfl rfl (by omega)
  | n + 1 => (h.append (rounds_A h n)).cast rfl rfl (by rw [Nat.succ_mul]; omega)
theorem rounds_turn (x y : List α) : ∀ n, rounds (n + 1) (x ++ y) = x ++ rounds n (y ++ x) ++ y
  | 0 => by simp [rounds]
  | n + 1 => by
    show (x ++ y) ++ rounds (n + 1) (x ++ y) = x ++ ((y ++ x) ++ rounds n (y ++ x)) ++ y
    rw [rounds_turn x y n]
    simp
theorem rounds_last (u : List α) : ∀ n, rounds (n + 1) u = rounds n u ++ u
  | 0 => by simp [rounds]
  | n + 1 => by
    show u ++ rounds (n + 1) u = (u ++ rounds n u) ++ u
    rw [rounds_last u n]; simp
theorem rounds_le {u v w : List α} {c : Nat} (ht : Turn v w) (h : A u w c) (n : Nat) : ∃ d, A (rounds (n + 1) u) (rounds (n + 1) v) d ∧ d ≤ n * c + u.length + v.length := by
  obtain ⟨x, y, rfl, rfl⟩ := ht
  refine ⟨_, (((A.adds x).append (rounds_A h n)).append ((A.drops u).append (A.adds y))).cast (by simp [rounds_last]) (by rw [rounds_turn]; simp) rfl, ?_⟩
  simp only [List.length_append]; omega
/-! ### the price of rounds -/
variable [DecidableEq α]
/-- the least of the distances of u and the turns of v -/
def Rp (u v : List α) (r : Nat) : Prop := (∃ w, Turn v w ∧ D u w = r) ∧ ∀ w, Turn v w → r ≤ D u w
theorem Rp.uniq {u v : List α} {r r' : Nat} (h : Rp u v r) (h' : Rp u v r') : r = r' := by
  obtain ⟨⟨w, t, e⟩, k⟩ := h
  obtain ⟨⟨w', t', e'⟩, k'⟩ := h'
  have := k w' t'
  have := k' w t
  omega
theorem Rp.turns {u u' v v' : List α} {r : Nat} (h : Rp u v r) (hu : Turn u u') (hv : Turn v v') : Rp u' v' r := by
  obtain ⟨⟨w, t, e⟩, k⟩ := h
  have low : ∀ w', Turn v' w' → r ≤ D u' w' := fun w' t' => by
    obtain ⟨w2, t2, a2⟩ := cut hu (hv.trans t') (D_A u' w')
    exact Nat.le_trans (k w2 t2) (D_le a2)
  obtain ⟨w2, t2, a2⟩ := cut (v := v') hu.symm (hv.symm.trans t) (D_A u w)
  have := D_le a2
  have := low w2 t2
  exact ⟨⟨w2, t2, by omega⟩, low⟩
theorem Rp.symm {u v : List α} {r : Nat} (h : Rp u v r) : Rp v u r := by
  obtain ⟨⟨w, t, e⟩, k⟩ := h
  have low : ∀ w', Turn u w' → r ≤ D v w' := fun w' t' => by
    obtain ⟨w2, t2, a2⟩ := cut t' (Turn.refl v) (D_A v w').symm
    exact Nat.le_trans (k w2 t2) (D_le a2)
  obtain ⟨w2, t2, a2⟩ := cut (v := u) t (Turn.refl u) (D_A u w).symm
  have := D_le a2
  have := low w2 t2
  exact ⟨⟨w2, t2, by omega⟩, low⟩
theorem Rp.self {u w : List α} (h : Turn u w) : Rp u w 0 := ⟨⟨u, h.symm, D_self u⟩, fun _ _ => Nat.zero_le _⟩
theorem Rp.ge {u v : List α} {r : Nat} (h : Rp u v r) (n : Nat) : (n + 1) * r ≤ D (rounds (n + 1) u) (rounds (n + 1) v) :=
  rounds_ge (fun w c t a => Nat.le_trans (h.2 w t) (D_le a)) (blocks_of (D_A _ _))
theorem Rp.le {u v : List α} {r : Nat} (h : Rp u v r) (n : Nat) : D (rounds (n + 1) u) (rounds (n + 1) v) ≤ n * r + u.length + v.length := by
  obtain ⟨⟨w, t, rfl⟩, _⟩ := h
  obtain ⟨d, a, hd⟩ := rounds_le t (D_A u w) n
  exact Nat.le_trans (D_le a) hd
/-- the turns by their places -/
theorem turn_at {v w : List α} (h : Turn v w) : ∃ k, k < max 1 v.length ∧ w = v.drop k ++ v.take k := by
  obtain ⟨x, y, rfl, rfl⟩ := h
  by_cases e : y = []
  · subst e
    exact ⟨0, by omega, by simp⟩
  · have : 0 < y.length := List.length_pos_iff.mpr e
    exact ⟨x.length, by rw [List.length_append]; omega, by simp⟩
end
end Lev

set_option Elab.async false
set_option linter.all false
set_option maxHeartbeats 400000
namespace Lev
section
variable {α : Type} [DecidableEq α]
/-! ### turns by a number, and roots -/
def rot (k : Nat) (v : List α) : List α := v.drop k ++ v.take k
theorem rot_len (k : Nat) (v : List α) : (rot k v).length = v.length := by
  unfold rot; rw [List.length_append, List.length_drop, List.length_take]; omega
theorem rot_get {k : Nat} {v : List α} (hk : k ≤ v.length) {i : Nat} (hi : i < v.length) : (rot k v)[i]? = v[(i + k) % v.length]? := by
  unfold rot
  by_cases h : i < v.length - k
  · rw [List.getElem?_append_left (by rw [List.length_drop]; exact h), List.getElem?_drop, Nat.mod_eq_of_lt (by omega), Nat.add_comm]
  · rw [List.getElem?_append_right (by rw [List.length_drop]; omega), List.length_drop, List.getElem?_take, if_pos (by omega)]
    have e : i + k = (i - (v.length - k)) + v.length := by omega
    rw [e, Nat.add_mod_right, Nat.mod_eq_of_lt (by omega)]
/-- each letter is the one so many places on -/
def Pr (v u : List α) (s : Nat) : Prop := ∀ i, i < v.length → v[(i + s) % v.length]? = u[i]?
theorem rot_eq {k : Nat} {v u : List α} (hk : k ≤ v.length) (hl : u.length = v.length) : rot k v = u ↔ Pr v u k := by
  constructor
  · intro h i hi
    rw [← h, rot_get hk hi]
  · intro h
    apply List.ext_getElem?
    intro i
    by_cases hi : i < v.length
    · rw [rot_get hk hi]; exact h i hi
    · rw [List.getElem?_eq_none (by rw [rot_len]; omega), List.getElem?_eq_none (by omega)]
theorem Pr.zero (v : List α) : Pr v v 0 := fun i hi => by rw [Nat.add_zero, Nat.mod_eq_of_lt hi]
theorem Pr.whole (v : List α) : Pr v v v.length := fun i hi => by rw [Nat.add_mod_right, Nat.mod_eq_of_lt hi]
theorem Pr.add {v u : List α} {s t : Nat} (h : Pr v v s) (g : Pr v u t) : Pr v u (t + s) := fun i hi => by
  have e := h ((i + t) % v.length) (Nat.mod_lt _ (by omega))
  rw [Nat.mod_add_mod] at e
  rw [← Nat.add_assoc, e, g i hi]
theorem Pr.sub {v u : List α} {s t : Nat} (h : Pr v v s) (g : Pr v u (t + s)) : Pr v u t := fun i hi => by
  have e := h ((i + t) % v.length) (Nat.mod_lt _ (by omega))
  rw [Nat.mod_add_mod] at e
  rw [← e, Nat.add_assoc, g i hi]
theorem Pr.mul {v : List α} {s : Nat} (h : Pr v v s) : ∀ q, Pr v v (q * s)
  | 0 => by rw [Nat.zero_mul]; exact Pr.zero v
  | q + 1 => by rw [Nat.succ_mul]; exact h.add (Pr.mul h q)
theorem Pr.mod {v u : List α} {s t : Nat} (h : Pr v v s) (g : Pr v u t) : Pr v u (t % s) := by
  refine Pr.sub (h.mul (t / s)) ?_
  rw [Nat.mul_comm, Nat.mod_add_div]; exact g
theorem Pr.diff {v u : List α} {s t : Nat} (h : Pr v u s) (g : Pr v u (t + s)) : Pr v v t := fun i hi => by
  -- the letters i + t and i are both read by u
  have hv : 0 < v.length := by omega
  -- choose j with j + s ≡ i
  have key : ∃ j, j < v.length ∧ (j + s) % v.length = i := by
    refine ⟨(i + (v.length - s % v.length)) % v.length, Nat.mod_lt _ hv, ?_⟩
    rw [Nat.mod_add_mod]
    have hs := Nat.mod_lt s hv
    have e : i + (v.length - s % v.length) + s = i + v.length * (s / v.length + 1) := by
      have := Nat.mod_add_div s v.length
      rw [Nat.mul_add, Nat.mul_one]
      generalize v.length * (s / v.length) = z at *
      omega
    rw [e, Nat.add_mul_mod_self_left, Nat.mod_eq_of_lt hi]
  obtain ⟨j, hj, ej⟩ := key
  have e1 := h j hj
  have e2 := g j hj
  rw [ej] at e1
  have e3 : (j + (t + s)) % v.length = (i + t) % v.length := by
    rw [show j + (t + s) = (j + s) + t by omega, ← Nat.mod_add_mod, ej]
  rw [e3] at e2
  rw [e2, e1]
instance (v u : List α) (s : Nat) : Decidable (Pr v u s) := by unfold Pr; infer_instance
/-- the length of the root -/
def rho (v : List α) : Nat := ((List.range v.length).find? fun s => decide (Pr v v (s + 1))).elim 0 (· + 1)
theorem rho_nil : rho ([] : List α) = 0 := rfl
theorem find_range {n : Nat} {p : Nat → Bool} {s : Nat} (h : (List.range n).find? p = some s) : s < n ∧ p s = true ∧ ∀ t, t < s → p t = false := by
  have e := List.find?_eq_some_iff_getElem.mp h
  obtain ⟨h1, i, hi, h2, h3⟩ := e
  rw [List.length_range] at hi
  rw [List.getElem_range] at h2
  subst h2
  exact ⟨hi, h1, fun t ht => by have := h3 t ht; rw [List.getElem_range] at this; simpa using this⟩
theorem rho_spec {v : List α} (hv : v ≠ []) : 0 < rho v ∧ rho v ≤ v.length ∧ Pr v v (rho v) ∧ ∀ t, 0 < t → t < rho v → ¬ Pr v v t := by
  have hl : 0 < v.length := List.length_pos_iff.mpr hv
  unfold rho
  cases h : (List.range v.length).find? fun s => decide (Pr v v (s + 1)) with
  | none =>
    have := List.find?_eq_none.mp h (v.length - 1) (List.mem_range.mpr (by omega))
    rw [show v.length - 1 + 1 = v.length by omega] at this
    exact absurd (decide_eq_true (Pr.whole v)) this
  | some s =>
    obtain ⟨h1, h2, h3⟩ := find_range h
    refine ⟨Nat.succ_pos _, h1, of_decide_eq_true h2, fun t t0 t1 => ?_⟩
    have := h3 (t - 1) (by have : t < s + 1 := t1; omega)
    rw [show t - 1 + 1 = t by omega] at this
    exact of_decide_eq_false this
theorem rho_le (v : List α) : rho v ≤ v.length := by
  by_cases h : v = []
  · subst h; exact Nat.le_refl _
  · exact (rho_spec h).2.1
theorem rho_least {v : List α} (hv : v ≠ []) {t : Nat} (t0 : 0 < t) (h : Pr v v t) : rho v ≤ t := by
  obtain ⟨_, _, _, k⟩ := rho_spec hv
  rcases Nat.lt_or_ge t (rho v) with q | q
  · exact absurd h (k t t0 q)
  · exact q
theorem rho_eq {v : List α} (hv : v ≠ []) {s : Nat} (s0 : 0 < s) (h : Pr v v s) (k : ∀ t, 0 < t → t < s → ¬ Pr v v t) : rho v = s := by
  refine Nat.le_antisymm (rho_least hv s0 h) ?_
  obtain ⟨a, _, c, _⟩ := rho_spec hv
  rcases Nat.lt_or_ge (rho v) s with q | q
  · exact absurd c (k _ a q)
  · exact q
theorem rho_dvd {v : List α} (hv : v ≠ []) {t : Nat} (h : Pr v v t) : t % rho v = 0 := by
  obtain ⟨a, _, c, k⟩ := rho_spec hv
  rcases Nat.eq_zero_or_pos (t % rho v) with q | q
  · exact q
  · exact absurd (Pr.mod c h) (k _ q (Nat.mod_lt _ a))
/-- the rounds of a piece -/
theorem rounds_Pr {w : List α} (hw : w ≠ []) (k : Nat) (s : Nat) : Pr (rounds (k + 1) w) (rounds (k + 1) w) s ↔ Pr w w s := by
  have hm : 0 < w.length := List.length_pos_iff.mpr hw
  have hl : (rounds (k + 1) w).length = (k + 1) * w.length := rounds_len _ _
  have get : ∀ i, (rounds (k + 1) w)[i % ((k + 1) * w.length)]? = w[i % w.length]? := fun i => by
    rw [rounds_get _ _ (Nat.mod_lt _ (Nat.mul_pos (Nat.succ_pos _) hm)), Nat.mod_mod_of_dvd _ (Nat.dvd_mul_left _ _)]
  constructor
  · intro h i hi
    have e := h i (by rw [hl, Nat.succ_mul]; omega)
    rw [hl, get] at e
    have e2 := get i
    rw [Nat.mod_eq_of_lt (by rw [Nat.succ_mul]; omega), Nat.mod_eq_of_lt hi] at e2
    rw [e, e2]
  · intro h i hi
    rw [hl] at hi
    rw [hl, get]
    have e2 := get i
    rw [Nat.mod_eq_of_lt hi] at e2
    rw [e2]
    have := h (i % w.length) (Nat.mod_lt _ hm)
    rw [Nat.mod_add_mod] at this
    exact this
theorem rounds_ne {w : List α} (hw : w ≠ []) (k : Nat) : rounds (k + 1) w ≠ [] := by
  intro h
  have := congrArg List.length h
  rw [rounds_len, Nat.succ_mul, List.length_nil] at this
  have := List.length_pos_iff.mpr hw
  omega
theorem rho_rounds {w : List α} (hw : w ≠ []) (k : Nat) : rho (rounds (k + 1) w) = rho w := by
  obtain ⟨a, _, c, d⟩ := rho_spec hw
  exact rho_eq (rounds_ne hw k) a ((rounds_Pr hw k _).mpr c) fun t t0 t1 h => d t t0 t1 ((rounds_Pr hw k _).mp h)
theorem rho_ext {v w : List α} (h : ∀ s, Pr v v s ↔ Pr w w s) (hv : v ≠ []) (hw : w ≠ []) : rho v = rho w := by
  obtain ⟨a, _, c, d⟩ := rho_spec hw
  exact rho_eq hv a ((h _).mpr c) fun t t0 t1 q => d t t0 t1 ((h _).mp q)
/-- a text is the rounds of a beginning of s letters exactly if s divides and it is periodic -/
theorem rounds_iff {v : List α} {s : Nat} (s0 : 0 < s) (hs : s ≤ v.length) : (v.length % s = 0 ∧ rounds (v.length / s) (v.take s) = v) ↔ (v.length % s = 0 ∧ Pr v v s) := by
  have lt : (v.take s).length = s := by rw [List.length_take]; omega
  constructor
  · rintro ⟨h1, h2⟩
    refine ⟨h1, ?_⟩
    have hq : 0 < v.length / s := Nat.div_pos hs s0
    obtain ⟨k, hk⟩ : ∃ k, v.length / s = k + 1 := ⟨v.length / s - 1, by omega⟩
    rw [hk] at h2
    have hw : v.take s ≠ [] := by intro z; rw [z] at lt; simp at lt; omega
    have := (rounds_Pr hw k s).mpr (by have := Pr.whole (v.take s); rw [lt] at this; exact this)
    rw [h2] at this
    exact this
  · rintro ⟨h1, h2⟩
    refine ⟨h1, ?_⟩
    have hd : v.length / s * s = v.length := Nat.div_mul_cancel (Nat.dvd_of_mod_eq_zero h1)
    apply List.ext_getElem?
    intro i
    by_cases hi : i < v.length
    · rw [rounds_get _ _ (by rw [lt, hd]; exact hi), lt, List.getElem?_take, if_pos (Nat.mod_lt _ s0)]
      have e := h2.mul (i / s) (i % s) (Nat.lt_of_lt_of_le (Nat.mod_lt _ s0) hs)
      rw [Nat.mul_comm, Nat.mod_add_div, Nat.mod_eq_of_lt hi] at e
      exact e.symm
    · rw [List.getElem?_eq_none (by rw [rounds_len, lt, hd]; omega), List.getElem?_eq_none (by omega)]
theorem rho_rounds_of {v : List α} (hv : v ≠ []) : v.length % rho v = 0 ∧ rounds (v.length / rho v) (v.take (rho v)) = v := by
  obtain ⟨a, b, c, _⟩ := rho_spec hv
  exact (rounds_iff a b).mpr ⟨rho_dvd hv (Pr.whole v), c⟩
def root (v : List α) : List α := v.take (rho v)
theorem root_nil : root ([] : List α) = [] := rfl
theorem root_len (v : List α) : (root v).length = rho v := by unfold root; rw [List.length_take]; have := rho_le v; omega
theorem root_ne {v : List α} (hv : v ≠ []) : root v ≠ [] := by
  intro h
  have := congrArg List.length h
  rw [root_len] at this
  have := (rho_spec hv).1
  simp at *; omega
theorem root_rounds {w : List α} (hw : w ≠ []) (k : Nat) : root (rounds (k + 1) w) = root w := by
  unfold root
  rw [rho_rounds hw]
  show (w ++ rounds k w).take (rho w) = _
  rw [List.take_append_of_le_length (rho_le w)]
theorem root_of {v : List α} (hv : v ≠ []) : ∃ k, v = rounds (k + 1) (root v) := by
  obtain ⟨h1, h2⟩ := rho_rounds_of hv
  have hq : 0 < v.length / rho v := Nat.div_pos (rho_le v) (rho_spec hv).1
  exact ⟨v.length / rho v - 1, by rw [show v.length / rho v - 1 + 1 = v.length / rho v by omega]; exact h2.symm⟩
theorem rounds_addR (v : List α) (n : Nat) : ∀ k, rounds (k + n) v = rounds k v ++ rounds n v
  | 0 => by rw [Nat.zero_add]; rfl
  | k + 1 => by
    rw [Nat.add_right_comm]
    show v ++ rounds (k + n) v = (v ++ rounds k v) ++ rounds n v
    rw [rounds_addR v n k, List.append_assoc]
/-- texts that commute are rounds of one text -/
theorem commute {N : Nat} : ∀ {x y : List α}, x.length + y.length ≤ N → x ≠ [] → y ≠ [] → x ++ y = y ++ x → ∃ z a b, z ≠ [] ∧ x = rounds (a + 1) z ∧ y = rounds (b + 1) z := by
  induction N with
  | zero => intro x y h hx _ _; exact absurd (List.length_eq_zero_iff.mp (by omega)) hx
  | succ N ih =>
    intro x y h hx hy e
    have px := List.length_pos_iff.mpr hx
    have py := List.length_pos_iff.mpr hy
    have one : ∀ {x y : List α}, x.length + y.length ≤ N + 1 → x ≠ [] → y ≠ [] → x ++ y = y ++ x → x.length < y.length → ∃ z a b, z ≠ [] ∧ x = rounds (a + 1) z ∧ y = rounds (b + 1) z := by
      intro x y h hx hy e l
      have px := List.length_pos_iff.mpr hx
      have hp : y = x ++ y.drop x.length := by
        have := congrArg (List.take x.length) e
        rw [List.take_left', List.take_append_of_le_length (by omega)] at this
        · conv => lhs; rw [← List.take_append_drop x.length y]
          rw [← this]
        · rfl
      generalize hy' : y.drop x.length = y' at hp
      have ly : y'.length = y.length - x.length := by rw [← hy', List.length_drop]
      rw [hp] at e
      have e2 : x ++ y' = y' ++ x := by
        rw [List.append_assoc] at e
        exact List.append_cancel_left e
      have hy2 : y' ≠ [] := by intro z; rw [z] at ly; simp at ly; omega
      obtain ⟨z, a, b, hz, e3, e4⟩ := ih (by omega) hx hy2 e2
      refine ⟨z, a, a + 1 + b, hz, e3, ?_⟩
      rw [hp, show a + 1 + b + 1 = (a + 1) + (b + 1) by omega, rounds_addR, ← e3, ← e4]
    rcases Nat.lt_trichotomy x.length y.length with l | l | l
    · exact one h hx hy e l
    · have : x = y := by
        have := congrArg (List.take x.length) e
        rw [List.take_left' rfl, List.take_left' l.symm] at this
        exact this
      subst this
      exact ⟨x, 0, 0, hx, by simp [rounds], by simp [rounds]⟩
    · obtain ⟨z, a, b, hz, e1, e2⟩ := one (by omega) hy hx e.symm l
      exact ⟨z, b, a, hz, e2, e1⟩
theorem root_commute {x y : List α} (hx : x ≠ []) (hy : y ≠ []) : root x = root y ↔ x ++ y = y ++ x := by
  constructor
  · intro h
    obtain ⟨a, ea⟩ := root_of hx
    obtain ⟨b, eb⟩ := root_of hy
    rw [← h] at eb
    rw [ea, eb, ← rounds_addR, ← rounds_addR, Nat.add_comm]
  · intro h
    obtain ⟨z, a, b, hz, e1, e2⟩ := commute (Nat.le_refl _) hx hy h
    rw [e1, e2, root_rounds hz, root_rounds hz]
end
end Lev

set_option Elab.async false
set_option linter.all false
set_option maxRecDepth 100000
set_option maxHeartbeats 2000000
/-! An own error class over another own class over Exception, whose __init__ keeps its one argument: raised, caught, its attribute read. -/
namespace ErrX
open PySem PySem.W PySem.Calls PyProof.Rows PySem.HandSPX Builtin Builtin.ObjectAttr
abbrev tailE : List Value := [.type "Exception", .type "BaseException", .type "object"]
/-! ### the text of such an __init__ -/
def iA (p1 p2 : Pos) : Arguments := { posonlyargs := [], args := [{ arg := "self", annotation := none, pos := p1 }, { arg := "given", annotation := none, pos := p2 }], vararg := none, kwonlyargs := [], kw_defaults := [], kwarg := none, defaults := [] }
def iB (q1 q2 q3 q4 : Pos) : List Stmt := [.Assign [.Attribute (.Name "self" q1) "given" q2] (.Name "given" q3) q4]
def iS : Scope := { kind := .function, names := [(PySem.Str.ofString "self", .local), (PySem.Str.ofString "given", .local)], isGenerator := false, isCoroutine := false, more := [] }
/-- what the written part says of the class cn, at C, and of its __init__, at fI -/
structure ETxt (K : Frag) (mg : Str → Option Value) (cn qi : Str) (C fI : Addr) : Prop where
  gC : mg cn = some (.ref C)
  cls : ∃ nm q N bs bm sn sub ab col dd k0 k1 k2 k3 k5, K.lookup C = some (excClassObj nm q C N bs bm true sn sub ab col dd k0 k1 k2 k3 k5 "Exception.__new__") ∧ excTail tailE bm = true
  ov : excOver K C tailE = true
  tk : takerIn K C "given" = some none
  sa : findIn K (.ref C) "__setattr__" = some (some (.builtin "object.__setattr__"))
  ga : findIn K (.ref C) "__getattribute__" = some (some (.builtin "BaseException.__getattribute__"))
  gg : findIn K (.ref C) "__getattr__" = some none
  noN : findIn K (.ref C) "given" = some none
  iC : findIn K (.ref C) "__init__" = some (some (.ref fI))
  tC : typeIn K (.ref fI) = some (.type "function")
  kC : keepIn K (.ref C) = true
  exC : subIn K (.ref C) (.type "BaseException") = some true
  tyC : typeIn K (.ref C) = some (.type "type")
  hdC : hasDictIn K C = true
  fn : ∃ (oc : Value) (od : Option Addr) (doc pm : Value) (an : Option Addr) (cdv ct : Value) (osl : Array (Option Value)) (p1 p2 q1 q2 q3 q4 : Pos),
    K.lookup fI = some ⟨oc, od, .func (fnOf "__init__" qi (iA p1 p2) (iB q1 q2 q3 q4) iS .none .none doc pm an cdv ct), osl⟩ ∧ codeIn K cdv qi = true
theorem one_fits (v : Value) : [v].length ≤ sizeLine := by
  rw [sizeLine_eq]
  exact (by decide : 1 ≤ 16777216)
/-- what __init__ leaves of a fresh error at x -/
structure EndE (h h' : Heap) (x C dx t1 : Addr) (fl : Str) (v : Value) : Prop where
  keep : ∀ b o, b ≠ x → h.get? b = some o → h'.get? b = some o
  obj : h'.get? x = some (excObj C t1 (some dx) .none)
  dbig : h.objs.size ≤ dx
  dne : dx ≠ x
  ns : h'.Ns1 dx (fun y => if y = fl then some v else none)
structure MadeE (h h' : Heap) (e C d : Addr) (fl : Str) (v : Value) : Prop where
  keep : ∀ b o, h.get? b = some o → h'.get? b = some o
  new : h.objs.size ≤ e
  obj : ∃ t, h'.get? e = some (excObj C t (some d) .none)
  dbig : h.objs.size ≤ d
  dne : d ≠ e
  ns : h'.Ns1 d (fun y => if y = fl then some v else none)
section
variable {prog : Program} {w : World} {A : Around} {E : Value → Shared → Prop} {R : Result → Shared → Prop} {s : Shared} {K : Frag} {mg : Str → Option Value} {C fI : Addr} {cn qi : Str}
/-- the first store into a fresh error -/
theorem store_new {name : Str} {tk : Tok} {v : Value} {x t0 : Addr} (X : K.In s.heap) (hx : s.heap.get? x = some (excObj C t0 none .none)) (ho : excOver K C tailE = true) (ht : takerIn K C name = some none) (hh : hasDictIn K C = true)
    (hq : ∀ h' tk' dx, EndE s.heap h' x C dx t0 name v → R (.ok (.ret .none)) { s with heap := h', toks := tk' }) :
    codeAny (model prog w) A (.call (.builtin "object.__setattr__") ⟨[.ref x, .str name tk, v], []⟩) R s := by
  refine osa_openX (od := none) F.store_Exception X ⟨hx, rfl, rfl, trivial⟩ ho ht fun b => ?_
  obtain ⟨cd, hc, hd'⟩ := any_some hh
  have hxs : x ≠ s.heap.objs.size := Nat.ne_of_lt (Heap.lt_size hx)
  have hx1 : (s.heap.push { cls := .type "dict", data := .dict #[] }).get? x = some (excObj C t0 none .none) := Heap.get?_push_of_some _ hx
  refine wpAny_bind (wpAny_pure (wpAny_bind (instanceDict_exc hx (looks_clsIn X hc) hd' ?_)))
  show wpAny _ _ (storeInDict s.heap.objs.size (.str name tk) name v) _ _ _
  obtain ⟨hp, g, dr, t, os⟩ := s
  refine store_in_new ?_ ?_
  · exact ⟨_, #[], _, (Heap.get?_update_ne _ _ _ _ hxs.symm).trans (Heap.get?_push_at rfl rfl), rfl, fun e he => absurd he (by simp), fun _ => rfl⟩
  · intro h' tk' hn' hs
    refine hq h' tk' hp.objs.size ⟨fun b o hb ho => ?_, ?_, Nat.le_refl _, hxs.symm, hn'⟩
    · exact (hs.2 b (Nat.ne_of_lt (Heap.lt_size ho))).trans ((Heap.get?_update_ne _ _ _ _ hb).trans (Heap.get?_push_of_some _ ho))
    · exact (hs.2 x hxs).trans (Heap.get?_update_self _ hx1 rfl)
theorem ldC {M : Model} {s : Shared} {name : Str} {scope : Scope} {L a : Addr} {cd : Value} {m : Str → Option Value} {x : Str} {pos : Pos} {v : Value} {Q : Value → Shared → Prop} {A : Around} {E : Value → Shared → Prop} (hn : s.heap.Ns L m) (hv : m x = some v) (h : Q v s)
    (hk : scope.kind = .function := by rfl) (hl : (envOfC name scope L a cd).kindOf x = some .local := by rfl) (hd : (x == ("__debug__" : Str)) = false := by decide) :
    wpAny M A (eval (.Name x pos) (envOfC name scope L a cd)) Q E s := wpAny_Name (wpAny_loadName_local hk hl hn hv h) hd
theorem init_ok (T : ETxt K mg cn qi C fI) {x t0 : Addr} {v : Value} (X : K.In s.heap) (hlim : s.heap.NoLimit) (hx : s.heap.get? x = some (excObj C t0 none .none)) (hroom : A.depth < recursionLimit)
    (hq : ∀ h' tk dx, EndE s.heap h' x C dx t0 "given" v → R (.ok (.ret .none)) { s with heap := h', toks := tk }) :
    codeAny (model prog w) A (.call (.ref fI) ⟨[.ref x, v], []⟩) R s := by
  obtain ⟨oc, od, doc, pm, an, cdv, ct, osl, p1, p2, q1, q2, q3, q4, ho, hcd⟩ := T.fn
  refine Att.call_fn (binds := [("self", .ref x), ("given", v)]) X hlim ho hcd hroom (BindsTo.of_eq (by first | rfl | with_unfolding_all rfl)) (by first | rfl | decide | with_unfolding_all rfl) (fun s1 IC => ?_) rfl rfl rfl
  obtain ⟨h1, tk1, rfl⟩ := IC.toInCall.same
  have k : ∀ b o, s.heap.get? b = some o → h1.get? b = some o := IC.toInCall.keep
  have hn := IC.toInCall.ns
  have X1 : K.In h1 := X.keeps k
  have hx1 := k _ _ hx
  show wpAny _ _ (execs _ _) _ _ _
  refine wpAny_execs_cons (plainObj_wpAny_Assign_Attribute ?_)
  refine ldC (v := v) hn (by first | rfl | with_unfolding_all rfl | kernel_rfl) (ldC (v := .ref x) hn (by first | rfl | with_unfolding_all rfl | kernel_rfl) ?_)
  refine set_plain X1 (ox := excObj C t0 none .none) (od := none) ⟨hx1, rfl, rfl, trivial⟩ T.sa ?_
  refine store_new X1 hx1 T.ov T.tk T.hdC fun h3 tk3 dx M => ?_
  show wpAny _ _ (execs _ _) _ _ _
  have z : s.heap.objs.size < h1.objs.size := hn.lt
  exact wpAny_execs_nil (hq h3 tk3 dx ⟨fun b o hb e => M.keep b o hb (k b o e), M.obj, Nat.le_of_lt (Nat.lt_of_lt_of_le z M.dbig), M.dne, M.ns⟩)
theorem made_ok (T : ETxt K mg cn qi C fI) {v : Value} (X : K.In s.heap) (hlim : s.heap.NoLimit) (hroom : A.depth + 1 < recursionLimit)
    (hq : ∀ h' tk e d, MadeE s.heap h' e C d "given" v → R (.ok (.ret (.ref e))) { s with heap := h', toks := tk }) :
    codeAny (model prog w) A (.call (.ref C) ⟨[v], []⟩) R s := by
  obtain ⟨nm, q, N, bs, bm, sn, sub, ab, col, dd, k0, k1, k2, k3, k5, hC, hbm⟩ := T.cls
  obtain ⟨hp, g, dr, tk, os⟩ := s
  have k : ∀ b o, hp.get? b = some o → ((hp.push (kdv_tup [v])).push (excO C hp.objs.size)).get? b = some o := fun b o e => Heap.get?_push_of_some _ (Heap.get?_push_of_some _ e)
  have hget : ((hp.push (kdv_tup [v])).push (excO C hp.objs.size)).get? (hp.objs.size + 1) = some (excO C hp.objs.size) := by heap_get
  refine call_own F.excBase_Exception (fun X => excTail_contains X bm hbm) (X _ _ hC) (looks_findIn X T.iC) (fun self => bind_fn X self T.tC) (one_fits v) ?_
  refine init_ok (s := ⟨(hp.push (kdv_tup [v])).push (excO C hp.objs.size), g, dr, tk, os⟩) T (X.keeps k) (hlim.keeps k) hget ?_ fun h' tk' dx M => ?_
  · show A.depth + 1 < recursionLimit
    exact hroom
  · have old : ∀ b o, hp.get? b = some o → h'.get? b = some o := fun b o e => M.keep b o (Nat.ne_of_lt (Nat.lt_succ_of_lt (Heap.lt_size e))) (k b o e)
    have z : hp.objs.size + 1 + 1 ≤ dx := by
      have q := M.dbig
      first
        | exact q
        | (rw [Heap.size_push, Heap.size_push] at q; exact q)
        | (simpa only [Heap.size_push] using q)
    exact ⟨rfl, hq h' tk' (hp.objs.size + 1) dx ⟨old, Nat.le_succ _, ⟨_, M.obj⟩, Nat.le_trans (Nat.le_trans (Nat.le_succ _) (Nat.le_succ _)) z, M.dne, M.ns⟩⟩
end
end ErrX
namespace L2
open PySem PySem.Spec PyProof.Rows
/-- the own dict of an error that keeps v -/
abbrev gvn (v : V) : List (Str × V) := [(("given" : Str), v)]
theorem relO_gvn {v : V} {v' : Value} (r : RelV v v') (f : Str) : RelO (List.lookup f (gvn v)) (if f = "given" then some v' else none) := by
  have e := lookup_put "given" f v []
  show RelO (List.lookup f [(("given" : Str), v)]) _
  rw [e]
  by_cases h : f = "given"
  · rw [if_pos h, if_pos h]; exact r
  · rw [if_neg h, if_neg h]; trivial
section
variable {X : Cx} {C fI : Addr} {cn qi : Str}
/-- C(e) -/
def tMkE (C : Addr) (ta : TA) : St → Hp → XK → Prop := fun σ H Q => ta σ H fun vs H1 => ∃ v, vs = [v] ∧ ∀ d, H1 d = none → Q (.ref C) (some d) (upd H1 d (.xd (gvn v)))
theorem pmk_err {a : Expr} {ta : TA} {p pos : Pos} {k : Nat} (T : ErrX.ETxt X.K X.mg cn qi C fI) (hr : Room k X.A) (ha : PA X [a] ta) (hg : Gl X cn) (hdb : (cn == ("__debug__" : Str)) = false)
    (he : starEach (a :: []) X.env = (false, eval a X.env) :: starEach [] X.env := by rfl) (hpl : (backTo pos (starEach [] X.env)).any (·.1) = false := by rfl) :
    PMk X (.Call (.Name cn p) [a] [] pos) (tMkE C ta) := by
  intro pins s σ H Q I h
  refine wpAny_Call_Name_kw (ld_glob I hg T.gC ?_ hdb)
  refine PySem.W.callWith_K (h₀ := X.base) I.ok.mod.kin T.kC (thn (ha.run pos pins s σ H _ I h) fun us s1 hh => ?_) he hpl
  obtain ⟨vs, H1, I1, r1, v, ev, q1⟩ := hh
  subst ev
  refine ⟨I1.kIn, ?_⟩
  cases r1 with
  | cons rv rn =>
    rename_i v' us'
    cases rn
    show wpAny _ _ (call (.ref C) [v']) _ _ _
    have hlim := I1.nolimit
    obtain ⟨hp, g, dr, tk, os⟩ := s1
    refine wpAny_call (ErrX.made_ok T I1.kIn hlim (by have := hr.dp; omega) fun h' tk' e d M => ?_)
    show MkP X pins σ Q (.ref e) ⟨h', g, dr, tk', os⟩
    obtain ⟨t, hoe⟩ := M.obj
    have hns := M.ns
    obtain ⟨G', g1, g2⟩ := restrict h' fun b => decide (b ≠ e)
    have gk : ∀ b, b ≠ e → G'.get? b = h'.get? b := fun b hb => g1 b (decide_eq_true hb)
    have ge : G'.get? e = none := g2 e (by simp)
    have old : ∀ b o, hp.get? b = some o → G'.get? b = some o := fun b o q => (gk b (Nat.ne_of_lt (Nat.lt_of_lt_of_le (Heap.lt_size q) M.new))).trans (M.keep b o q)
    have ob : ObjOk X.prog X.w (upd H1 d (.xd (gvn v))) G' d (.xd (gvn v)) :=
      ⟨_, hns.at (fun o q => (gk d M.dne).trans q), fun f => relO_gvn rv f⟩
    have J : Inv X pins σ (upd H1 d (.xd (gvn v))) ⟨G', g, dr, tk', os⟩ := I1.laid (t' := tk') old M.dbig ob
    refine ⟨e, _, _, ⟨G', g, dr, tk', os⟩, _, .ref C, some d, rfl, J, fun b o q => ?_, ge, hoe, ⟨rfl, rfl⟩, rfl, rfl, ?_, rfl, I1.bare, raises_own T.exC T.tyC, q1 d (I1.hok.fresh M.dbig)⟩
    · by_cases hb : b = e
      · have q' : G'.get? b = some o := q
        rw [hb, ge] at q'; cases q'
      · exact (gk b hb).symm.trans q
    · rw [upd_ne (Ne.symm M.dne)]
      exact I1.hok.fresh M.new
/-- raise C(e) -/
def tRaiseE (C : Addr) (W : WX) (ta : TA) : TS := fun _ σ H => tMkE C ta σ H fun cls d H' => W cls d σ H'
theorem ps_raiseE {a : Expr} {ta : TA} {W : WX} {p pos pos2 : Pos} {k : Nat} (hc : X.calm = true) (T : ErrX.ETxt X.K X.mg cn qi C fI) (hr : Room k X.A) (tk : Takes X W) (ha : PA X [a] ta) (hg : Gl X cn := by rfl) (hdb : (cn == ("__debug__" : Str)) = false := by decide)
    (he : starEach (a :: []) X.env = (false, eval a X.env) :: starEach [] X.env := by rfl) (hpl : (backTo pos (starEach [] X.env)).any (·.1) = false := by rfl) :
    PS X (.Raise (some (.Call (.Name cn p) [a] [] pos)) none pos2) (tRaiseE C W ta) := ps_raise hc tk (pmk_err T hr ha hg hdb he hpl)
/-- e.given, e the error that the suite holds (at a; its class cls, its dict d) -/
def tGvn (C : Addr) (a : Addr) (cls : Value) (d : Option Addr) (te : TE) : TE := fun σ H Q => te σ H fun x H1 => x = .ref a ∧ cls = .ref C ∧ ∃ (dd : Addr) (v : V), d = some dd ∧ H1 dd = some (.xd (gvn v)) ∧ Q v H1
theorem pe_gvn {a : Addr} {oe : Obj} {cls : Value} {d : Option Addr} {pn : List (Addr × Obj)} {e : Expr} {te : TE} {pos : Pos} (T : ErrX.ETxt X.K X.mg cn qi C fI) (hz : Zc cls d oe) (hf : ∃ vs, oe.data = .fields vs) (he : PE (X.suite a ((a, oe) :: pn)) e te)
    (hb : attributeBase e "given" X.env (eval e X.env) = eval e X.env := by rfl) :
    PE (X.suite a ((a, oe) :: pn)) (.Attribute e "given" pos) (tGvn C a cls d te) := by
  refine ⟨fun pins s σ H Q I h => ?_⟩
  refine attr_of hb (thn (he.run pins s σ H _ I h) fun u s1 hh => ?_)
  obtain ⟨x, H1, I1, rx, ex, ec, dd, v, ed, ea, q⟩ := hh
  subst ex
  obtain rfl : u = Value.ref a := rx
  subst ec
  subst ed
  obtain ⟨ha, _⟩ := I1.pin (a, oe) (List.mem_append_left _ List.mem_cons_self)
  obtain ⟨vs, hd⟩ := hf
  have hx : ObjOk X.prog X.w H1 s1.heap dd (.xd (gvn v)) := I1.hok dd _ ea
  obtain ⟨mA, hns, hr⟩ := hx
  obtain ⟨od, ho, hl⟩ := lookIn_ns hns
  have l : List.lookup ("given" : Str) (gvn v) = some v := by
    show List.lookup ("given" : Str) [(("given" : Str), v)] = some v
    rw [lookup_put, if_pos rfl]
  obtain ⟨u, hu, ru⟩ := RelO.some_of (v := v) (o := mA "given") (by rw [← l]; exact hr "given")
  have J : PySem.W.InstAt s1.heap a oe C (some od) := ⟨ha, hz.1, by unfold PySem.W.notCls; rw [hd] <;> rfl, by rw [hz.2]; exact ho⟩
  exact HandSPX.exc_get I1.kIn J T.ga T.gg T.exC (PySem.W.findObj_own T.hdC T.noN rfl (by rw [hl, hu])) (handed_of ru) ⟨v, H1, I1.tok _, ru, q⟩
end
end L2

set_option Elab.async false
set_option linter.all false
set_option maxRecDepth 100000
set_option maxHeartbeats 2000000
/-! Further rules over the hand layer: texts by their codes, three numbers' max and min, repr of data. -/
namespace L2
open PySem PySem.Spec PyProof.Rows
/-! ### texts by their codes -/
abbrev cs (x : Str) : List Nat := x.cps.toList
def S (l : List Nat) : Str := ⟨l.toArray⟩
theorem S_tl (l : List Nat) : cs (S l) = l := by simp [S, cs]
theorem S_of (z : Str) : S (cs z) = z := by obtain ⟨⟨l⟩⟩ := z; rfl
theorem S_len (l : List Nat) : (S l).length = l.length := by simp [S, Str.length]
theorem S_inj {l m : List Nat} (h : S l = S m) : l = m := by have := congrArg cs h; rwa [S_tl, S_tl] at this
theorem S_app (l m : List Nat) : S l ++ S m = S (l ++ m) := by
  show (⟨l.toArray ++ m.toArray⟩ : Str) = ⟨(l ++ m).toArray⟩
  simp
theorem S_eqV (l m : List Nat) : decide (V.str (S l) = V.str (S m)) = decide (l = m) := by
  by_cases h : l = m
  · subst h; simp
  · rw [decide_eq_false h, decide_eq_false]
    intro e; exact h (S_inj (V.str.inj e))
theorem sIx_some (n d i : Nat) : HT.sIx n d (some ((i : Nat) : Int)) = min i n := HT.sIx_nat n d i
theorem cut_from (l : List Nat) (i : Nat) : cutS (S l) (some (i : Int)) none = S (l.drop i) := by
  show S (((cs (S l)).drop (HT.sIx (S l).length 0 (some (i : Int)))).take (HT.sIx (S l).length (S l).length none - HT.sIx (S l).length 0 (some (i : Int)))) = _
  rw [S_tl, S_len, sIx_some, HT.sIx_none]
  congr 1
  rcases Nat.le_total i l.length with h | h
  · rw [Nat.min_eq_left h, List.take_of_length_le (by rw [List.length_drop]; omega)]
  · rw [Nat.min_eq_right h, Nat.sub_self, List.take_zero, List.drop_of_length_le h]
theorem cut_to (l : List Nat) (i : Nat) : cutS (S l) none (some (i : Int)) = S (l.take i) := by
  show S (((cs (S l)).drop (HT.sIx (S l).length 0 none)).take (HT.sIx (S l).length (S l).length (some (i : Int)) - HT.sIx (S l).length 0 none)) = _
  rw [S_tl, S_len, sIx_some, HT.sIx_none, List.drop_zero, Nat.sub_zero]
  congr 1
  rcases Nat.le_total i l.length with h | h
  · rw [Nat.min_eq_left h]
  · rw [Nat.min_eq_right h, List.take_of_length_le h, List.take_of_length_le (Nat.le_refl _)]
theorem cut_mid (l : List Nat) (i j : Nat) : cutS (S l) (some (i : Int)) (some (j : Int)) = S ((l.drop i).take (j - i)) := by
  show S (((cs (S l)).drop (HT.sIx (S l).length 0 (some (i : Int)))).take (HT.sIx (S l).length (S l).length (some (j : Int)) - HT.sIx (S l).length 0 (some (i : Int)))) = _
  rw [S_tl, S_len, sIx_some, sIx_some]
  congr 1
  rcases Nat.le_total i l.length with h | h
  · rw [Nat.min_eq_left h]
    rcases Nat.le_total j l.length with h2 | h2
    · rw [Nat.min_eq_left h2]
    · rw [Nat.min_eq_right h2, List.take_of_length_le (by rw [List.length_drop]; omega), List.take_of_length_le (by rw [List.length_drop]; omega)]
  · rw [Nat.min_eq_right h, List.drop_of_length_le h, List.drop_of_length_le (Nat.le_refl _)]
    simp
theorem atI_S {l : List Nat} {i : Nat} {c : Nat} (h : l[i]? = some c) : atI (S l).cps.toList (i : Int) = some c := by
  show atI (cs (S l)) (i : Int) = some c
  rw [S_tl]
  exact atI_nat h
/-! ### what a text is -/
def low (c : Nat) : Bool := decide (97 ≤ c) && decide (c ≤ 122)
theorem ascii_facts : ∀ c : Fin 128, Unicode.isAlpha c.val = (low c.val || (decide (65 ≤ c.val) && decide (c.val ≤ 90))) ∧ Unicode.isLower c.val = low c.val ∧ (Unicode.isUpper c.val || Unicode.isTitle c.val) = (decide (65 ≤ c.val) && decide (c.val ≤ 90)) := by
  decide +kernel
theorem istext_eq (z : Str) : (decide (V.str z = V.str (Str.ofString "")) || (Txt.isascii z && Txt.isalpha z && Txt.islower z)) = (cs z).all low := by
  obtain ⟨⟨l⟩⟩ := z
  have e0 : (V.str (⟨⟨l⟩⟩ : Str) = V.str (Str.ofString "")) ↔ l = [] := by
    constructor
    · intro h
      have h2 := congrArg cs (V.str.inj h)
      exact h2
    · intro h; subst h; rfl
  show (decide _ || ((l.toArray.all (· < 128)) && (decide (l.toArray.size > 0) && l.toArray.all Unicode.isAlpha) && (l.toArray.any Unicode.isLower && !l.toArray.any fun c => Unicode.isUpper c || Unicode.isTitle c))) = l.all low
  have ea : ∀ p : Nat → Bool, (l.toArray).all p = l.all p := fun p => by rw [← Array.all_toList]
  have eb : ∀ p : Nat → Bool, (l.toArray).any p = l.any p := fun p => by rw [← Array.any_toList]
  have ec : (⟨l⟩ : Array Nat) = l.toArray := rfl
  simp only [ea, eb]
  simp only [List.size_toArray]
  clear ea eb ec
  cases l with
  | nil => rw [decide_eq_true (e0.mpr rfl)]; rfl
  | cons a r =>
    rw [decide_eq_false (fun h => by cases e0.mp h), Bool.false_or]
    generalize hl : a :: r = l
    have hne : l ≠ [] := by rw [← hl]; simp
    have F : ∀ c ∈ l, c < 128 → Unicode.isAlpha c = (low c || (decide (65 ≤ c) && decide (c ≤ 90))) ∧ Unicode.isLower c = low c ∧ (Unicode.isUpper c || Unicode.isTitle c) = (decide (65 ≤ c) && decide (c ≤ 90)) := fun c _ hc => ascii_facts ⟨c, hc⟩
    rw [Bool.eq_iff_iff]
    simp only [Bool.and_eq_true, List.all_eq_true, List.any_eq_true, Bool.not_eq_true', List.any_eq_false, decide_eq_true_eq]
    constructor
    · rintro ⟨⟨h1, _, h2⟩, _, h3⟩ c hc
      obtain ⟨f1, f2, f3⟩ := F c hc (h1 c hc)
      have q2 := h2 c hc
      have q3 := h3 c hc
      rw [f1] at q2
      rw [f3] at q3
      simp only [Bool.or_eq_true] at q2
      rcases q2 with q2 | q2
      · exact q2
      · exact absurd q2 q3
    · intro h
      have hb : ∀ c ∈ l, c < 128 := fun c hc => by
        have := h c hc
        unfold low at this
        simp only [Bool.and_eq_true, decide_eq_true_eq] at this
        omega
      refine ⟨⟨hb, by rw [← hl]; simp, fun c hc => ?_⟩, ?_, fun c hc => ?_⟩
      · rw [(F c hc (hb c hc)).1, h c hc, Bool.true_or]
      · obtain ⟨c, hc⟩ := List.exists_mem_of_ne_nil l hne
        exact ⟨c, hc, by rw [(F c hc (hb c hc)).2.1]; exact h c hc⟩
      · rw [(F c hc (hb c hc)).2.2]
        have := h c hc
        unfold low at this
        simp only [Bool.and_eq_true, decide_eq_true_eq] at this
        simp; omega
/-! ### calls -/
theorem nuMax3_int (i j k : Int) : nuMax3 (.int i) (.int j) (.int k) = some (.int (max (max i j) k)) := by
  have h2 : ∀ a b : Int, nuMax2 (.int a) (.int b) = some (.int (max a b)) := fun a b => by
    show Option.map (fun c => if c = true then V.int b else V.int a) (some (decide (a < b))) = some (V.int (max a b))
    by_cases h : a < b
    · rw [decide_eq_true h]; simp; omega
    · rw [decide_eq_false h]; simp; omega
  unfold nuMax3
  rw [h2]
  exact h2 _ _
theorem nuMin3_int (i j k : Int) : nuMin3 (.int i) (.int j) (.int k) = some (.int (min (min i j) k)) := by
  have h2 : ∀ a b : Int, nuMin2 (.int a) (.int b) = some (.int (min a b)) := fun a b => by
    show Option.map (fun c => if c = true then V.int b else V.int a) (some (decide (b < a))) = some (V.int (min a b))
    by_cases h : b < a
    · rw [decide_eq_true h]; simp; omega
    · rw [decide_eq_false h]; simp; omega
  unfold nuMin3
  rw [h2]
  exact h2 _ _
def rMax3 : List V → Hp → VK → Prop := fun xs H Q => ∃ i j k, xs = [.int i, .int j, .int k] ∧ Q (.int (max (max i j) k)) H
def rMin3 : List V → Hp → VK → Prop := fun xs H Q => ∃ i j k, xs = [.int i, .int j, .int k] ∧ Q (.int (min (min i j) k)) H
theorem call_max3 {X : Cx} (hc : X.calm = true) : CallR X (.builtin "max") rMax3 := fun pins s σ H xs us Q I r h => by
  obtain ⟨i, j, k, rfl, q⟩ := h
  exact call_max3Nu hc pins s σ H _ us Q I r ⟨_, _, _, _, rfl, nuMax3_int i j k, q⟩
theorem call_min3 {X : Cx} (hc : X.calm = true) : CallR X (.builtin "min") rMin3 := fun pins s σ H xs us Q I r h => by
  obtain ⟨i, j, k, rfl, q⟩ := h
  exact call_min3Nu hc pins s σ H _ us Q I r ⟨_, _, _, _, rfl, nuMin3_int i j k, q⟩
/-! ### repr of data: Dp, and an empty dict -/
def Dr (K : PySem.W.Frag) (H : Hp) (x : V) (d : PyData) : Prop := Dp K H x d ∨ ∃ a, x = .ref a ∧ H a = some (.dK []) ∧ d = .dict []
def rRepr (K : PySem.W.Frag) : List V → Hp → VK → Prop := fun xs H Q => ∃ x d, xs = [x] ∧ Dr K H x d ∧ d.showable = true ∧ d.depth ≤ 60 ∧ d.shown.length ≤ sizeLine ∧ Q (.str d.shown) H
theorem hasDict_dp {K : PySem.W.Frag} {H : Hp} : (∀ {x d}, Dp K H x d → d.hasDict = false) ∧ (∀ {xs ds}, DpAll K H xs ds → PyData.hasDictAll ds = false) := by
  constructor
  · intro x d h
    exact Dp.rec (motive_1 := fun _ d _ => d.hasDict = false) (motive_2 := fun _ ds _ => PyData.hasDictAll ds = false) rfl (fun _ => rfl) (fun _ => rfl) (fun _ => rfl)
      (fun _ _ ih => by unfold PyData.hasDict; exact ih) (fun _ _ ih => by unfold PyData.hasDict; exact ih) rfl (fun _ _ i1 i2 => by unfold PyData.hasDictAll; rw [i1, i2]; rfl) h
  · intro x d h
    exact DpAll.rec (motive_1 := fun _ d _ => d.hasDict = false) (motive_2 := fun _ ds _ => PyData.hasDictAll ds = false) rfl (fun _ => rfl) (fun _ => rfl) (fun _ => rfl)
      (fun _ _ ih => by unfold PyData.hasDict; exact ih) (fun _ _ ih => by unfold PyData.hasDict; exact ih) rfl (fun _ _ i1 i2 => by unfold PyData.hasDictAll; rw [i1, i2]; rfl) h
end L2
namespace L2
open PySem PySem.Spec PyProof.Rows
section
variable {X : Cx}
theorem call_repr (hc : X.A.guards = some []) (hu : X.A.units + 64 < cLine) : CallR X (.builtin "repr") (rRepr X.K) := by
  intro pins s σ H xs us Q I r h
  obtain ⟨x, d, rfl, hd, hs, hdp, hz, q⟩ := h
  cases r with
  | cons r1 rn =>
    rename_i u us'
    cases rn
    rcases hd with hd | ⟨a, rfl, ha, rfl⟩
    · obtain ⟨as, rd⟩ := Dp.reads I d x u hd r1
      cases hd with
      | non => cases rd; exact P.repr_of_none ⟨.str _, H, I.tok _, ⟨_, rfl⟩, q⟩
      | bl b => cases rd; exact P.repr_of_bool ⟨.str _, H, I.tok _, ⟨_, rfl⟩, q⟩
      | int i =>
        cases rd
        have hi : i.natAbs.log2 < 1920 := of_decide_eq_true hs
        exact P.repr_of_int hi ⟨.str _, H, I.tok _, ⟨_, rfl⟩, q⟩
      | str z => cases rd; exact P.repr_of_str ⟨.str _, H, I.tok _, ⟨_, rfl⟩, q⟩ hz
      | lst h1 h2 =>
        obtain rfl : u = Value.ref _ := r1
        have hh : PyData.hasDict _ = false := hasDict_dp.1 (Dp.lst h1 h2)
        exact repr_of_reads' rd hs (fun e => by rw [hh] at e; cases e) hc (by omega) (fun _ _ e => e) (fun h' u tk k => ⟨.str _, H, I.kept k, ⟨_, rfl⟩, q⟩) hz
      | tup h1 h2 =>
        obtain rfl : u = Value.ref _ := r1
        have hh : PyData.hasDict _ = false := hasDict_dp.1 (Dp.tup h1 h2)
        exact repr_of_reads' rd hs (fun e => by rw [hh] at e; cases e) hc (by omega) (fun _ _ e => e) (fun h' u tk k => ⟨.str _, H, I.kept k, ⟨_, rfl⟩, q⟩) hz
    · obtain rfl : u = Value.ref a := r1
      obtain ⟨_, hsys, vs, hkv, od, es, ep, hget, hcl, hdat, hko, hps, _⟩ : ObjOk X.prog X.w H s.heap a (.dK []) := I.hok a _ ha
      cases hkv
      have he : es.toList = [] := by
        generalize es.toList = l at hps
        cases hps; rfl
      have rd : Reads s.heap (.ref a) (.dict []) (a :: [] ++ []) := .dict hget hcl.1 hdat (by rw [he]; exact .nil) (by rw [he]; exact .nil)
      refine repr_of_reads' rd hs (fun _ hm => ?_) hc (by omega) (fun _ _ e => e) (fun h' u tk k => ⟨.str _, H, I.kept k, ⟨_, rfl⟩, q⟩) hz
      have e : sysModules = a := by simpa using hm
      rw [← e] at hsys
      exact absurd hsys (by decide)
end
end L2
namespace L2
open PySem PySem.Spec PyProof.Rows
section
variable {X : Cx}
theorem op_mul_str : OpR X (binaryOp .Mult) (fun x y H Q => ∃ z k, x = .str z ∧ y = .int k ∧ MulOk z k ∧ Q (.str (Txt.mul z k)) H) := by
  intro pins s σ H x y v u Q I rx ry h
  obtain ⟨z, k, rfl, rfl, hz, q⟩ := h
  obtain ⟨t, rfl⟩ := rx
  obtain ⟨t', rfl⟩ := ry
  exact SB.mul hz fun t2 k2 => ⟨.str _, H, I.tok _, ⟨_, rfl⟩, q⟩
/-- f(k = v, ..) by keywords alone, what is raised wished for at the slots -/
def tCallKS (sp : Sp) (gV : List V → List V → List V) (E : St → XK) (tk : TA) : TE := fun σ H Q => tk σ H fun zs H1 => sp (gV [] zs) H1 Q (E σ)
theorem pe_callKS {CX : CXT} {k : Nat} {f : Addr} {fd : FuncData} {ps ks : List Str} {sp : Sp} {E : St → XK} {x : Str} {p pos : Pos} {kws : List Keyword} {tk : TA} {g : List Value → List Value → List Value} {gV : List V → List V → List V}
    (F : FnOk X.prog X.w X.K X.mg X.base CX k f fd ps sp) (hr : Room k X.A) (hg : Gl X x) (hm : X.mg x = some (.ref f)) (hk : PySem.W.keepIn X.K (.ref f) = true) (hb : KBinds X.K fd ps ks g gV) (hx : ∀ σ, PassesAt CX X σ (E σ))
    (hkw : PK X kws tk) (hall : (backToKw pos (keywordEach kws X.env)).all (·.1.isSome) = true := by rfl) (hks : (backToKw pos (keywordEach kws X.env)).filterMap (·.1) = ks := by rfl)
    (hdb : (x == ("__debug__" : Str)) = false := by decide) (hpl : ((backTo pos (starEach [] X.env)).any (·.1) || (backToKw pos (keywordEach kws X.env)).any (·.1.isNone)) = false := by rfl) :
    PE X (.Call (.Name x p) [] kws pos) (tCallKS sp gV E tk) := by
  constructor
  intro pins s σ H Q I h
  apply wpAny_Call_Name_kw (ld_glob I hg hm ?_ hdb)
  apply PySem.W.callWith_KW0 (h₀ := X.base) I.ok.mod.kin hk hall (thn (hkw.run pos pins s σ H _ I h) ?_) hpl
  rintro ws s1 ⟨zs, H1, I1, rz, q⟩
  refine ⟨I1.kIn, ?_⟩
  rw [hks]
  have r2 := hb.rel (vs := []) (us := []) .nil rz
  have hl : (g [] ws).length = ps.length := (r2.length).symm.trans (F.len _ _ _ _ q)
  apply wpAny_call
  apply codeAny_mono (F.run X.A X.stack s1 H1 ⟨[], ks.zip ws⟩ (g [] ws) (gV [] zs) Q (E σ) hr I1.env0 (hb.to s1 [] ws I1.kIn hl) r2 q)
  intro r s' hq
  match r, hq with
  | .error er, hq => exact hx σ pins H1 s1 er s' I1 hq
  | .ok (.ret u), hq => exact I1.after hq
  | .ok .next, hq => exact hq.elim
  | .ok .brk, hq => exact hq.elim
  | .ok .cont, hq => exact hq.elim
end
end L2

set_option Elab.async false
set_option linter.all false
set_option maxRecDepth 100000
set_option maxHeartbeats 2000000
/-! Defs that call repr: the promise is shown only where no repr is running around the call. -/
namespace L2
open PySem PySem.Spec PyProof.Rows
/-- as FnOk, where no guard stands around -/
structure FnG (P : Program) (w : World) (K : PySem.W.Frag) (mg : Str → Option Value) (base : Heap) (CX : CXT) (k : Nat) (f : Addr) (fd : FuncData) (ps : List Str) (sp : Sp) : Prop where
  len : ∀ vs H Q E, sp vs H Q E → vs.length = ps.length
  run : ∀ (A : Around) (outer : List Env) (s : Shared) (H : Hp) (args : Args) (us : List Value) (vs : List V) (Q : VK) (E : XK), A.guards = some [] → Room k A → Env0 P w K mg base A outer s H →
    BindsTo s fd args (ps.zip us) → Vals vs us → sp vs H Q E → codeAny (model P w) A (.call (.ref f) args) (CR CX outer P w H s Q E) s
theorem FnOk.toG {P : Program} {w : World} {K : PySem.W.Frag} {mg : Str → Option Value} {base : Heap} {CX : CXT} {k : Nat} {f : Addr} {fd : FuncData} {ps : List Str} {sp : Sp} (F : FnOk P w K mg base CX k f fd ps sp) : FnG P w K mg base CX k f fd ps sp :=
  ⟨F.len, fun A outer s H args us vs Q E _ hr => F.run A outer s H args us vs Q E hr⟩
section
variable {X : Cx} {CX : CXT} {k : Nat} {f : Addr} {fd : FuncData} {ps : List Str} {sp : Sp} {dvs : List V} {ds : List Value} {E : XK} {x : Str} {p pos : Pos} {e : Expr} {es : List Expr} {t : TA}
theorem pe_callG (F : FnG X.prog X.w X.K X.mg X.base CX k f fd ps sp) (hgd : X.A.guards = some []) (hr : Room k X.A) (hg : Gl X x) (hm : X.mg x = some (.ref f)) (hk : PySem.W.keepIn X.K (.ref f) = true) (hb : Binds X.K fd ps ds) (hd : Vals dvs ds) (hx : Passes CX X E)
    (ha : PA X (e :: es) t) (hdb : (x == ("__debug__" : Str)) = false := by decide) (he : starEach (e :: es) X.env = (false, eval e X.env) :: starEach es X.env := by rfl) (hpl : (backTo pos (starEach es X.env)).any (·.1) = false := by rfl) :
    PE X (.Call (.Name x p) (e :: es) [] pos) (tCall sp dvs E t) := by
  constructor
  intro pins s σ H Q I h
  apply wpAny_Call_Name_kw (ld_glob I hg hm ?_ hdb)
  apply PySem.W.callWith_K (h₀ := X.base) I.ok.mod.kin hk (thn (ha.run pos pins s σ H _ I h) ?_) he hpl
  rintro us s1 ⟨vs, H1, I1, rv, q⟩
  refine ⟨I1.kIn, ?_⟩
  have r2 : Vals (vs ++ dvs) (us ++ ds) := rv.append hd
  have hl : (us ++ ds).length = ps.length := (r2.length).symm.trans (F.len _ _ _ _ q)
  apply wpAny_call
  apply codeAny_mono (F.run X.A X.stack s1 H1 ⟨us, []⟩ (us ++ ds) (vs ++ dvs) Q E hgd hr I1.env0 (hb s1 us I1.kIn hl) r2 q)
  intro r s' hq
  match r, hq with
  | .error er, hq => exact hx pins σ H1 s1 er s' I1 hq
  | .ok (.ret u), hq => exact I1.after hq
  | .ok .next, hq => exact hq.elim
  | .ok .brk, hq => exact hq.elim
  | .ok .cont, hq => exact hq.elim
end
theorem deeper_guards {A : Around} {env : Env} : (A.deeper env).guards = A.guards := rfl
section
variable {P : Program} {w : World} {K : PySem.W.Frag} {mg : Str → Option Value} {base : Heap}
/-- the rule for a def, where no guard stands around -/
theorem Fun.okG {x qual : Str} {st : Stmt} {f : Addr} {fd : FuncData} {N ps : List Str} {k : Nat} {sp : Sp} (F : Fun K x qual st f fd) (S : FnScope N ps (defScope st)) (len : ∀ vs H Q E, sp vs H Q E → vs.length = ps.length)
    (hbody : ∀ (cdv : Value) (A : Around) (outer : List Env) (s : Shared) (H : Hp) (vs : List V) (Q : VK) (E : XK), (A.deeper (envOfC qual (defScope st) s.heap.objs.size f cdv)).guards = some [] → Room k (A.deeper (envOfC qual (defScope st) s.heap.objs.size f cdv)) → sp vs H Q E →
      ∃ t, PSs (cxOf CX0 P w K mg base N qual (defScope st) f cdv A outer s H E).nox (defBody st) t ∧ t { nx := fun _ H' => Q .non H', rt := Q } (start N vs) H) : FnG P w K mg base CX0 (k + 1) f fd ps sp := by
  obtain ⟨oc, od, kV, doc, pm, an, cdv, ct, osl, rfl, lk, hcd⟩ := F.ex
  refine ⟨len, fun A outer s H args us vs Q E hgd hr e0 hb r hsp => ?_⟩
  have KX : K.In s.heap := e0.mod.kin.keeps fun b o e => (e0.bs b o e).1
  have lim : s.heap.NoLimit := e0.mod.nolimit.keeps fun b o e => (e0.bs b o e).1
  apply codeAny_call_function hr.depth (KX _ _ lk) rfl S.co S.gen rfl (PySem.W.codeRec_of KX hcd) (hb _ _ _ _ ?_)
  apply wpAny_newFunctionEnv_cells S.kind ?_ ?_
  · rintro ⟨n, v⟩ hy
    rcases S.par n (List.of_mem_zip hy).1 with q | q
    · exact Or.inl q
    · exact Or.inr ⟨q, PySem.W.cellsFrom_some _ _ _ (Or.inl q)⟩
  · intro env he s1 x
    subst he
    refine ⟨lim.keeps x.toInCall.keep, codeAny_func ?_⟩
    obtain ⟨t, ht, hq⟩ := hbody cdv A outer s H vs Q E (deeper_guards.trans hgd) (hr.deeper _) hsp
    have I := inv_start (CX := CX0) (E := E) S hr.hd e0 (len _ _ _ _ hsp) r x
    apply wpAny_mono (ht.nox.run [] s1 (start N vs) H _ I hq) ?_ fun e s' hs => hs
    intro fl s' hs
    match fl, hs with
    | .ret u, ⟨v, σ', H', J, rv, q⟩ => exact ⟨v, H', J.os, J.bare, J.base, J.hok, rv, q⟩
    | .next, ⟨σ', H', J, q⟩ => exact ⟨V.non, H', J.os, J.bare, J.base, J.hok, rfl, q⟩
    | .brk, ⟨_, _, _, q⟩ => exact q.elim
    | .cont, ⟨_, _, _, q⟩ => exact q.elim
end
end L2
namespace L2
open PySem PySem.Spec PyProof.Rows
section
variable {P : Program} {w : World} {K : PySem.W.Frag} {mg mb : Str → Option Value} {k : Nat} {fa a : Addr} {fd : FuncData} {x : Str} {sp : Sp} {s1 : Shared} {vs : List Value} {ns : List Int}
/-- the law's call, H telling nothing but, maybe, the script at a -/
theorem enterG {H : Hp} (KX : K.In s1.heap) (hns : s1.heap.Ns mainGlobals mg) (hb : s1.heap.Ns builtinsNs mb) (hbb : ∀ x : Str, x ≠ "__name__" → mb x = bootBuiltins x) (hlim : s1.heap.NoLimit) (hg : s1.gens = #[])
    (ha : s1.heap.get? a = some { cls := .type "list", data := .seq vs.toArray }) (hr : Room k callerA)
    (F : ∀ base : Heap, K.In base → base.Ns mainGlobals mg → FnG P w K mg base CX0 k fa fd [x] sp) (hbind : ∀ (s : Shared) (u : Value), BindsTo s fd ⟨[u], []⟩ [(x, u)])
    (hO : Only H) (hok : HOk P w H s1.heap) (hA : ∀ b, H b ≠ none → b = a) (hK : ∀ b o, K.lookup b = some o → H b = none) (hsp : sp [.ref a] H (fun v _ => v = .bl true) fun _ _ _ => False) :
    codeAny (model P w) callerA (.call (.ref fa) ⟨[.ref a], []⟩) (fun r s' => r = .ok (.ret (.bool true)) ∧ OldK s1.heap s'.heap ∧ s'.os = s1.os ∧ AllBare s'.gens) s1 := by
  have nsK : ∀ {b : Addr} {m : Str → Option Value}, s1.heap.Ns b m → (hidT s1.heap H).Ns b m := by
    rintro b m ⟨o, es, ep, e, d, r⟩
    have n : H b = none := by
      cases q : H b with
      | none => rfl
      | some u =>
        have z := hA b (by rw [q]; exact fun z => nomatch z)
        rw [z, ha] at e
        rw [← Option.some.inj e] at d
        exact nomatch d
    exact ⟨o, es, ep, hidT_get e n, d, r⟩
  have hKb : K.In (hidT s1.heap H) := fun b o e => hidT_get (KX b o e) (hK b o e)
  have e0 : Env0 P w K mg (hidT s1.heap H) callerA [] s1 H :=
    { frames := rfl, mod := ⟨hKb, nsK hns, ⟨mb, nsK hb, hbb⟩, hlim.elim fun mc h => ⟨mc, nsK h.1, h.2⟩⟩, bs := fun b o e => of_hidT e, bsz := Nat.le_of_eq (hidT_size _ _), funs := trivial, frf := fun b hb => (List.not_mem_nil hb).elim, hok := hok, bare := .of_eq hg }
  apply codeAny_mono ((F _ hKb (nsK hns)).run callerA [] s1 H ⟨[.ref a], []⟩ [.ref a] [.ref a] _ _ rfl hr e0 (hbind s1 (.ref a)) (.cons rfl .nil) hsp)
  intro r s' h
  match r, h with
  | .error e, h =>
    obtain ⟨_, _, _, h⟩ := h
  | .ok .next, h => exact h.elim
  | .ok .brk, h => exact h.elim
  | .ok .cont, h => exact h.elim
  | .ok (.ret u), ⟨v, H', os, bare, un, hok', r', q⟩ =>
    obtain rfl : v = .bl true := q
    obtain rfl : u = Value.bool true := r'
    refine ⟨rfl, OldK.of_keep fun b o e => ?_, os, bare⟩
    rcases hO b with z | ⟨ob, xs, z⟩
    · exact un.keep b o e z (List.not_mem_nil) (List.not_mem_nil)
    · have e1 := (hok b _ z).1
      have e2 := (hok' b _ (un.frzs b ob _ z)).1
      rw [e] at e1
      rw [Option.some.inj e1]
      exact e2
end
/-- the goal that the head leaves, from the law's promise, where the law's def calls repr -/
theorem walk_G {l : PySem.W.OpenLaw} {n k : Nat} {q : Program} {loose : List Str} {XP : (Str → Option Value) → Heap → Prop} {YP : World → Heap → Prop} {d : DefRec} {K : Params → PySem.W.Frag} {sp : PySem.W.Frag → Sp} {x : Str}
    (hn : l.most = some n) (hn2 : n ≤ sizeLine) (hdf : d.params.defaults = []) (hr : Room k callerA)
    (hY : ∀ (w : World) (h : Heap), YP w h → (K w.params).In h)
    (F : ∀ (w : World) (mg : Str → Option Value) (fa : Addr) (h : Heap), (K w.params).In h → h.Ns mainGlobals mg → mg d.name = some (.ref fa) →
      ∃ fd : FuncData, (∀ (s : Shared) (u : Value), BindsTo s fd ⟨[u], []⟩ [(x, u)]) ∧
        ∀ base : Heap, (K w.params).In base → base.Ns mainGlobals mg → FnG l.prog w (K w.params) mg base CX0 k fa fd [x] (sp (K w.params)))
    (hsp : ∀ (K : PySem.W.Frag) (H : Hp) (a : Addr) (ns : List Int), ns.length ≤ n → Only H → SqL K H a (ns.map V.int) → sp K [.ref a] H (fun v _ => v = .bl true) fun _ _ _ => False) :
    PySem.W.WalkO q loose XP YP l.row.toRowW d [] (fun f vs => PySem.call f vs) := by
  refine Att.attach_call hn hdf fun w s0 s1 mg mb fa o pm cd doc a vs ns G Y ho hd hcd hmg hobj hints hlen hg => ?_
  have KX := hY w _ Y
  obtain ⟨fd, hb, hF⟩ := F w mg fa _ KX G.T.g hmg
  have rv := vals_ints hints
  have lenV := hints.length
  have hl := Nat.le_trans hlen hn2
  cases hk : (K w.params).lookup a with
  | some ob =>
    have e := KX a ob hk
    rw [hobj] at e
    have e' := (Option.some.inj e).symm
    subst e'
    refine enterG (H := fun _ => none) KX G.T.g G.T.b G.T.builtins G.T.nolimit hg hobj hr hF hb (fun _ => .inl rfl) (fun b u z => nomatch (show (none : Option HO) = some u from z)) (fun b z => (z rfl).elim) (fun _ _ _ => rfl) ?_
    exact hsp (K w.params) _ a ns hlen (fun _ => .inl rfl) (.inr ⟨_, vs.toArray, _, hk, rfl, rfl, rfl, by rw [List.size_toArray, lenV]; exact hl, by simpa using rv⟩)
  | none =>
    have at_a : (fun b => if b = a then some (HO.frz { cls := .type "list", data := .seq vs.toArray } (.lst (ns.map V.int))) else none) a = some (HO.frz { cls := .type "list", data := .seq vs.toArray } (.lst (ns.map V.int))) := if_pos rfl
    have only : Only (fun b => if b = a then some (HO.frz { cls := .type "list", data := .seq vs.toArray } (.lst (ns.map V.int))) else none) := fun b => by
      by_cases z : b = a
      · exact .inr ⟨_, _, if_pos z⟩
      · exact .inl (if_neg z)
    refine enterG (H := fun b => if b = a then some (HO.frz { cls := .type "list", data := .seq vs.toArray } (.lst (ns.map V.int))) else none) KX G.T.g G.T.b G.T.builtins G.T.nolimit hg hobj hr hF hb only (fun b u z => ?_) (fun b z => ?_) (fun b ob z => ?_) ?_
    · by_cases y : b = a
      · subst y
        have z' := at_a.symm.trans z
        rw [← Option.some.inj z']
        exact ⟨hobj, by rw [List.length_map]; exact hl, vs, _, rv, hobj⟩
      · exact nomatch (if_neg y).symm.trans z
    · by_cases y : b = a
      · exact y
      · exact (z (if_neg y)).elim
    · refine if_neg fun y => ?_
      rw [y, hk] at z
      cases z
    · exact hsp (K w.params) _ a ns hlen only (.inl (.inr ⟨_, at_a⟩))
end L2

set_option Elab.async false
set_option linter.all false
set_option maxRecDepth 100000
set_option maxHeartbeats 2000000
/-! As walk_G; and where the modules lie, there is something. -/
namespace L2
open PySem PySem.Spec PyProof.Rows
section
variable {P : Program} {w : World} {K : PySem.W.Frag} {mg mb : Str → Option Value} {k : Nat} {fa a : Addr} {fd : FuncData} {x : Str} {sp : Sp} {s1 : Shared} {vs : List Value} {ns : List Int}
/-- the law's call, H telling nothing but, maybe, the script at a -/
theorem enterS {H : Hp} (KX : K.In s1.heap) (hns : s1.heap.Ns mainGlobals mg) (hb : s1.heap.Ns builtinsNs mb) (hbb : ∀ x : Str, x ≠ "__name__" → mb x = bootBuiltins x) (hlim : s1.heap.NoLimit) (hsys : ∃ mm, s1.heap.Ns sysModules mm) (hg : s1.gens = #[])
    (ha : s1.heap.get? a = some { cls := .type "list", data := .seq vs.toArray }) (hr : Room k callerA)
    (F : ∀ base : Heap, K.In base → base.Ns mainGlobals mg → (∃ o, base.get? sysModules = some o) → FnG P w K mg base CX0 k fa fd [x] sp) (hbind : ∀ (s : Shared) (u : Value), BindsTo s fd ⟨[u], []⟩ [(x, u)])
    (hO : Only H) (hok : HOk P w H s1.heap) (hA : ∀ b, H b ≠ none → b = a) (hK : ∀ b o, K.lookup b = some o → H b = none) (hsp : sp [.ref a] H (fun v _ => v = .bl true) fun _ _ _ => False) :
    codeAny (model P w) callerA (.call (.ref fa) ⟨[.ref a], []⟩) (fun r s' => r = .ok (.ret (.bool true)) ∧ OldK s1.heap s'.heap ∧ s'.os = s1.os ∧ AllBare s'.gens) s1 := by
  have nsK : ∀ {b : Addr} {m : Str → Option Value}, s1.heap.Ns b m → (hidT s1.heap H).Ns b m := by
    rintro b m ⟨o, es, ep, e, d, r⟩
    have n : H b = none := by
      cases q : H b with
      | none => rfl
      | some u =>
        have z := hA b (by rw [q]; exact fun z => nomatch z)
        rw [z, ha] at e
        rw [← Option.some.inj e] at d
        exact nomatch d
    exact ⟨o, es, ep, hidT_get e n, d, r⟩
  have hKb : K.In (hidT s1.heap H) := fun b o e => hidT_get (KX b o e) (hK b o e)
  have e0 : Env0 P w K mg (hidT s1.heap H) callerA [] s1 H :=
    { frames := rfl, mod := ⟨hKb, nsK hns, ⟨mb, nsK hb, hbb⟩, hlim.elim fun mc h => ⟨mc, nsK h.1, h.2⟩⟩, bs := fun b o e => of_hidT e, bsz := Nat.le_of_eq (hidT_size _ _), funs := trivial, frf := fun b hb => (List.not_mem_nil hb).elim, hok := hok, bare := .of_eq hg }
  apply codeAny_mono ((F _ hKb (nsK hns) (hsys.elim fun mm h => (nsK h).elim fun o h => h.elim fun _ h => h.elim fun _ h => ⟨o, h.1⟩)).run callerA [] s1 H ⟨[.ref a], []⟩ [.ref a] [.ref a] _ _ rfl hr e0 (hbind s1 (.ref a)) (.cons rfl .nil) hsp)
  intro r s' h
  match r, h with
  | .error e, h =>
    obtain ⟨_, _, _, h⟩ := h
  | .ok .next, h => exact h.elim
  | .ok .brk, h => exact h.elim
  | .ok .cont, h => exact h.elim
  | .ok (.ret u), ⟨v, H', os, bare, un, hok', r', q⟩ =>
    obtain rfl : v = .bl true := q
    obtain rfl : u = Value.bool true := r'
    refine ⟨rfl, OldK.of_keep fun b o e => ?_, os, bare⟩
    rcases hO b with z | ⟨ob, xs, z⟩
    · exact un.keep b o e z (List.not_mem_nil) (List.not_mem_nil)
    · have e1 := (hok b _ z).1
      have e2 := (hok' b _ (un.frzs b ob _ z)).1
      rw [e] at e1
      rw [Option.some.inj e1]
      exact e2
end
/-- the goal that the head leaves, from the law's promise, where the law's def calls repr -/
theorem walk_S {l : PySem.W.OpenLaw} {n k : Nat} {q : Program} {loose : List Str} {XP : (Str → Option Value) → Heap → Prop} {YP : World → Heap → Prop} {d : DefRec} {K : Params → PySem.W.Frag} {sp : PySem.W.Frag → Sp} {x : Str}
    (him : importsNone q = true) (hn : l.most = some n) (hn2 : n ≤ sizeLine) (hdf : d.params.defaults = []) (hr : Room k callerA)
    (hY : ∀ (w : World) (h : Heap), YP w h → (K w.params).In h)
    (F : ∀ (w : World) (mg : Str → Option Value) (fa : Addr) (h : Heap), (K w.params).In h → h.Ns mainGlobals mg → mg d.name = some (.ref fa) →
      ∃ fd : FuncData, (∀ (s : Shared) (u : Value), BindsTo s fd ⟨[u], []⟩ [(x, u)]) ∧
        ∀ base : Heap, (K w.params).In base → base.Ns mainGlobals mg → (∃ o, base.get? sysModules = some o) → FnG l.prog w (K w.params) mg base CX0 k fa fd [x] (sp (K w.params)))
    (hsp : ∀ (K : PySem.W.Frag) (H : Hp) (a : Addr) (ns : List Int), ns.length ≤ n → Only H → SqL K H a (ns.map V.int) → sp K [.ref a] H (fun v _ => v = .bl true) fun _ _ _ => False) :
    PySem.W.WalkO q loose XP YP l.row.toRowW d [] (fun f vs => PySem.call f vs) := by
  refine Att.attach_call hn hdf fun w s0 s1 mg mb fa o pm cd doc a vs ns G Y ho hd hcd hmg hobj hints hlen hg => ?_
  have KX := hY w _ Y
  obtain ⟨fd, hb, hF⟩ := F w mg fa _ KX G.T.g hmg
  have rv := vals_ints hints
  have lenV := hints.length
  have hl := Nat.le_trans hlen hn2
  cases hk : (K w.params).lookup a with
  | some ob =>
    have e := KX a ob hk
    rw [hobj] at e
    have e' := (Option.some.inj e).symm
    subst e'
    refine enterS (H := fun _ => none) KX G.T.g G.T.b G.T.builtins G.T.nolimit ((G.T.seer him).mods.elim fun mm h => ⟨mm, h.1⟩) hg hobj hr hF hb (fun _ => .inl rfl) (fun b u z => nomatch (show (none : Option HO) = some u from z)) (fun b z => (z rfl).elim) (fun _ _ _ => rfl) ?_
    exact hsp (K w.params) _ a ns hlen (fun _ => .inl rfl) (.inr ⟨_, vs.toArray, _, hk, rfl, rfl, rfl, by rw [List.size_toArray, lenV]; exact hl, by simpa using rv⟩)
  | none =>
    have at_a : (fun b => if b = a then some (HO.frz { cls := .type "list", data := .seq vs.toArray } (.lst (ns.map V.int))) else none) a = some (HO.frz { cls := .type "list", data := .seq vs.toArray } (.lst (ns.map V.int))) := if_pos rfl
    have only : Only (fun b => if b = a then some (HO.frz { cls := .type "list", data := .seq vs.toArray } (.lst (ns.map V.int))) else none) := fun b => by
      by_cases z : b = a
      · exact .inr ⟨_, _, if_pos z⟩
      · exact .inl (if_neg z)
    refine enterS (H := fun b => if b = a then some (HO.frz { cls := .type "list", data := .seq vs.toArray } (.lst (ns.map V.int))) else none) KX G.T.g G.T.b G.T.builtins G.T.nolimit ((G.T.seer him).mods.elim fun mm h => ⟨mm, h.1⟩) hg hobj hr hF hb only (fun b u z => ?_) (fun b z => ?_) (fun b ob z => ?_) ?_
    · by_cases y : b = a
      · subst y
        have z' := at_a.symm.trans z
        rw [← Option.some.inj z']
        exact ⟨hobj, by rw [List.length_map]; exact hl, vs, _, rv, hobj⟩
      · exact nomatch (if_neg y).symm.trans z
    · by_cases y : b = a
      · exact y
      · exact (z (if_neg y)).elim
    · refine if_neg fun y => ?_
      rw [y, hk] at z
      cases z
    · exact hsp (K w.params) _ a ns hlen only (.inl (.inr ⟨_, at_a⟩))
end L2

set_option Elab.async false
set_option linter.all false
set_option maxRecDepth 100000
set_option maxHeartbeats 2000000
/-! Several clauses 'except .. as e', one behind the other, all of them with one name. -/
namespace L2
open PySem PySem.Spec PyProof.Rows
/-- what stands behind the suite: the name is gone -/
def goneEnds (i : Nat) (D : Ends) : Ends :=
  { nx := fun u G => D.nx (u.set i none) G,
    rt := D.rt,
    bk := fun u G => D.bk (u.set i none) G,
    ct := fun u G => D.ct (u.set i none) G }
abbrev SuiteT := Addr → Value → Option Addr → TS
def wAll (K : PySem.W.Frag) (i : Nat) (Wo : WX) (D : Ends) : List (Value × SuiteT) → WX
  | [] => Wo
  | q :: l => fun cls d σ H =>
    ∃ b, PySem.W.exmOne K cls q.1 = some b ∧
      (b = true → ∀ a, H a = none → q.2 a cls d (goneEnds i D) (σ.set i (some (.ref a))) H) ∧
      (b = false → wAll K i Wo D l cls d σ H)
/-- the clauses and what their suites tell -/
inductive Clauses (X : Cx) (n : Str) : List ExceptHandler → List (Value × SuiteT) → Prop
  | last : Clauses X n [] []
  | more {x : Str} {c : Value} {ts : SuiteT} {b₀ : Stmt} {su : List Stmt} {p1 p2 : Pos} {hl : List ExceptHandler} {l : List (Value × SuiteT)} :
      Names X x c →
      (∀ (a : Addr) (oe : Obj) (cls : Value) (d : Option Addr) (pn : List (Addr × Obj)), Zc cls d oe → (∃ vs, oe.data = .fields vs) →
        PSs (X.suite a ((a, oe) :: pn)) (b₀ :: su) (ts a cls d)) →
      Clauses X n hl l → Clauses X n (.ExceptHandler (some (.Name x p1)) (some n) (b₀ :: su) p2 :: hl) ((c, ts) :: l)
section
variable {X : Cx} {n : Str} {i : Nat} {body : List Stmt} {h₀ : ExceptHandler} {hl : List ExceptHandler} {l : List (Value × SuiteT)} {pos : Pos} {tb : WX → TS} {Wo : WX}
theorem ps_tryAll (eS : X.stack = X.env :: X.outer) (eF : X.env.frame = some X.env.locals) (nd : X.N.Nodup) (ei : X.N[i]? = some n) (en : X.env.kindOf n = some .local) (tk : Takes X Wo)
    (hb : ∀ (W : WX) (pn : List (Addr × Obj)) (xe : Value → Shared → Prop), Takes (X.tr pn xe) W →
      PassesOwn (model X.prog X.w) X.A X.env xe → PSs (X.tr pn xe) body (tb W))
    (hc : Clauses X n (h₀ :: hl) l) :
    PS X (.Try body (h₀ :: hl) [] [] pos) (fun D σ H => tb (wAll X.K i Wo D l) D σ H) := by
  constructor
  intro pins s σ H D I hyp
  have iok := I.ok
  have fr : X.A.frames = some (X.env :: X.outer) := iok.frames.trans (congrArg some eS)
  apply wpAny_Try_except
  let XE : Value → Shared → Prop := fun e s₁ =>
    wpAny (model X.prog X.w) X.A (noteFrame e X.env) (fun _ s₂ =>
      wpAny (model X.prog X.w) X.A (setFlight e none) (fun _ s₃ =>
        wpAny (model X.prog X.w) X.A (handleBy e X.env (h₀ :: hl)) (SP X pins D) X.xe s₃) X.xe s₂) X.xe s₁
  have run := (hb (wAll X.K i Wo D l) (X.pn ++ pins) XE ?_ PassesOwn.looking).run [] s σ H D (I.toTry _) hyp
  · refine wpAny_mono run (fun f s1 sp => ?_) (fun e s1 q => q)
    match f, sp with
    | .next, ⟨u, G, J, q⟩ => exact wpAny_execs_nil ⟨u, G, J.ofTry iok, q⟩
    | .brk, ⟨u, G, J, q⟩ => exact ⟨u, G, J.ofTry iok, q⟩
    | .cont, ⟨u, G, J, q⟩ => exact ⟨u, G, J.ofTry iok, q⟩
    | .ret _, ⟨v, u, G, J, r, q⟩ => exact ⟨v, u, G, J.ofTry iok, r, q⟩
  · -- what flies out of the body
    rintro u s' ⟨a, B, sI, pins', τ, G, cls, d, rfl, J', nb, up, sky, na, os, ag, wish⟩
    have J : Inv X pins τ G sI := J'.ofTry iok
    have sky2 : Sky B (X.env :: X.outer) a (Zc cls d) X.env.locals s'.heap := eS ▸ sky
    show wpAny _ X.A (noteFrame (.ref a) X.env) _ _ _
    apply Sky.land Zc.steady fr eF sky2
    intro g3 fly3 up3
    have J3 : Inv X pins τ G { s' with heap := g3 } := J.landed nb fly3.1 (up.trans up3) os ag
    obtain ⟨o3, v3, at3, z3, d3⟩ := fly3.there
    have off : a ∉ frs (X.env :: X.outer) := by
      intro hm
      obtain ⟨_, o', e', hn⟩ := fly3.2.2.1.mem hm
      rw [at3] at e'
      cases e'
      exact hn _ d3
    have offL : a ≠ X.env.locals := by
      intro z
      exact off (List.mem_filterMap.mpr ⟨X.env, List.mem_cons_self, by rw [eF, z]⟩)
    have offF : a ∉ X.fs := by
      intro hm
      obtain ⟨e, he, q⟩ := List.mem_filterMap.mp hm
      exact off (List.mem_filterMap.mpr ⟨e, List.mem_cons_of_mem _ he, q⟩)
    have S3 := J3.suite at3 d3 na offL offF
    -- clause by clause
    suffices go : ∀ {hs : List ExceptHandler} {k : List (Value × SuiteT)}, Clauses X n hs k → wAll X.K i Wo D k cls d τ G →
        wpAny (model X.prog X.w) X.A (handleBy (.ref a) X.env hs) (SP X pins D) X.xe { s' with heap := g3 } from go hc wish
    intro hs k hk
    induction hk with
    | last =>
      intro out
      apply wpAny_handleBy_nil
      obtain ⟨k1, k2, k3, oe, vs, T, oT, ts', he, hz, hd, h1, hr⟩ := id fly3
      unfold PySem.passOn
      apply wpAny_bind
      apply wpAny_field he hd h1
      rw [if_neg (by simp : ¬ ((Value.ref T == Value.none) = true))]
      have thrown : wpAny (model X.prog X.w) X.A (setFlight (.ref a) X.env.frame) (fun _ s4 =>
          wpAny (model X.prog X.w) X.A (throw (.ref a) : Sem Flow) (SP X pins D) X.xe s4) X.xe { s' with heap := g3 } := by
        rw [eF]
        apply HandSPX.setFlight_upZ fly3
        intro g4 fly4 up4
        apply wpAny_throw
        apply tk
        exact ⟨a, B, sI, pins, τ, G, cls, d, rfl, J, nb, (up.trans up3).trans up4, .inr (.inr (eS ▸ fly4)), na, os, ag, out⟩
      first
        | exact wpAny_bind (wpAny_pure (wpAny_bind thrown))
        | exact wpAny_bind thrown
    | @more x c ts b₀ su p1 p2 hl2 l2 nm suite _ ih =>
      rintro ⟨b, eb, yes, no⟩
      have looks : PySem.W.Looks (model X.prog X.w) g3 (typeOf (.ref a)) cls := by
        intro A' Q' E' t k q
        exact wpAny_typeOf_ref (k _ _ at3) (by rw [z3.1]; exact q)
      have LM := PySem.W.exm_one (M := model X.prog X.w) (J3.kIn) looks eb
      apply wpAny_handleBy_cons (codeAny_handlers_test ?_) (by intro q; cases q)
      have named : ∀ {Q' : Value → Shared → Prop} {E' : Value → Shared → Prop}, Q' c { s' with heap := g3 } →
          wpAny (model X.prog X.w) (X.A.mark (some (.ref a))) (eval (.Name x p1) X.env) Q' E' { s' with heap := g3 } := by
        intro Q' E' q
        rcases nm with ⟨g, dbg, m | ⟨m, v, w⟩⟩
        · exact ld_glob (X := X.suite a ((a, o3) :: (X.pn ++ pins))) S3 g m q dbg
        · exact ld_blt (X := X.suite a ((a, o3) :: (X.pn ++ pins))) S3 g m v q w dbg
      apply named
      apply LM.here
      match b, yes, no with
      | false, _, no => exact ih (no rfl)
      | true, yes, _ =>
        apply codeAny_handlers_suite_as
        apply HandSPX.lands_againZ fly3
        intro g4 fly4 up4
        have J4 : Inv X pins τ G { s' with heap := g4 } := J.landed nb fly4.1 ((up.trans up3).trans up4) os ag
        obtain ⟨o4, v4, at4, z4, d4⟩ := fly4.there
        have S4 := J4.suite at4 d4 na offL offF
        apply store_ok (X := X.suite a ((a, o4) :: (X.pn ++ pins))) (v := .ref a) S4 nd ei (.inl en) rfl ?_ (.inr en)
        intro s5 S5
        have ran := (suite a o4 cls d (X.pn ++ pins) z4 ⟨_, d4⟩).run [] s5 _ G _ S5 (yes rfl a na)
        refine wpAny_mono ran (fun f s6 sp => ?_) (fun _ _ z => z.elim)
        have gone : ∀ {u : St} {K6 : Hp} {Q' : Shared → Prop}, Inv (X.suite a ((a, o4) :: (X.pn ++ pins))) [] u K6 s6 →
            (∀ s7, Inv X pins (u.set i none) K6 s7 → Q' s7) →
            wpAny (model X.prog X.w) X.A (do bindName X.env n .none; unbindBehindTheSuite X.env n p2) (fun _ s7 => Q' s7) X.xe s6 :=
          fun S6 q => gone_ok (S6.unsuite iok) nd ei en q
        match f, sp with
        | .next, ⟨_, _, S6, q⟩ => exact gone S6 fun _ J7 => ⟨_, _, J7, q⟩
        | .brk, ⟨_, _, S6, q⟩ => exact gone S6 fun _ J7 => ⟨_, _, J7, q⟩
        | .cont, ⟨_, _, S6, q⟩ => exact gone S6 fun _ J7 => ⟨_, _, J7, q⟩
        | .ret _, ⟨_, _, _, S6, r, q⟩ => exact gone S6 fun _ J7 => ⟨_, _, _, J7, r, q⟩
end
end L2

set_option Elab.async false
set_option linter.all false
set_option maxRecDepth 100000
set_option maxHeartbeats 2000000
/-! Further rules: isinstance of a caught error, list of a text, == of lists of unlike length, find, dicts shown. -/
namespace L2
open PySem PySem.Spec PyProof.Rows PySem.Builtin PySem.Builtin.Str
/-! ### find -/
theorem occ_stay (s sub : Str) (hi : Nat) : ∀ (l : List Nat) (st : Array Nat × Nat), st.1.size = 1 → (forIn l st (StrLaws.occBody s sub hi 1)).run.fst = st.1
  | [], st, h => rfl
  | a :: l, st, h => by
    rw [List.forIn_cons]
    unfold StrLaws.occBody
    rw [if_neg (fun z => by have := z.1.1.1; omega)]
    exact occ_stay s sub hi l _ h
theorem occ_one (s sub : Str) (hi : Nat) : ∀ (l : List Nat) (free : Nat), (∀ i ∈ l, free ≤ i) →
    (forIn l ((#[] : Array Nat), free) (StrLaws.occBody s sub hi 1)).run.fst.toList = (l.find? fun i => decide (i + sub.length ≤ hi) && subAt s sub i).toList
  | [], free, _ => rfl
  | a :: l, free, hf => by
    have ha : free ≤ a := hf a List.mem_cons_self
    rw [List.forIn_cons]
    by_cases c : a + sub.length ≤ hi ∧ subAt s sub a = true
    · rw [List.find?_cons_of_pos (by simp [c.1, c.2])]
      have e : StrLaws.occBody s sub hi 1 a ((#[] : Array Nat), free) = pure (ForInStep.yield ((#[] : Array Nat).push a, a + sub.length)) := by
        unfold StrLaws.occBody
        rw [if_pos ⟨⟨⟨by simp, ha⟩, c.1⟩, c.2⟩]
      rw [e]
      show (forIn l ((#[] : Array Nat).push a, a + sub.length) (StrLaws.occBody s sub hi 1)).run.fst.toList = _
      rw [occ_stay s sub hi l _ (by simp)]
      rfl
    · rw [List.find?_cons_of_neg (by simpa using c)]
      have e : StrLaws.occBody s sub hi 1 a ((#[] : Array Nat), free) = pure (ForInStep.yield ((#[] : Array Nat), free)) := by
        unfold StrLaws.occBody
        rw [if_neg (fun h => c ⟨h.1.2, h.2⟩)]
      rw [e]
      exact occ_one s sub hi l free fun i h => hf i (List.mem_cons_of_mem _ h)
theorem occ_find (s sub : Str) (lo hi : Nat) : occurrences s sub lo hi 1 = ((List.range' lo (hi + 1 - lo)).find? fun i => decide (i + sub.length ≤ hi) && subAt s sub i).toList := by
  rw [StrLaws.occ_eq]
  exact occ_one s sub hi _ lo fun i h => (List.mem_range'_1.mp h).1
/-- v stands in u at i -/
def AtL (u v : List Nat) (i : Nat) : Prop := i + v.length ≤ u.length ∧ (u.drop i).take v.length = v
theorem atL_iff (u v : List Nat) (i : Nat) : (decide (i + (S v).length ≤ (S u).length) && subAt (S u) (S v) i) = true ↔ AtL u v i := by
  rw [StrLaws.subAt_eq, Bool.and_eq_true, decide_eq_true_iff]
  show (i + (S v).length ≤ (S u).length ∧ (((cs (S u)).drop i).take (S v).length == cs (S v)) = true) ↔ _
  rw [S_tl, S_tl, S_len, S_len, beq_iff_eq]
  exact Iff.rfl
/-- the first place from lo on -/
def FindL (u v : List Nat) (lo : Nat) (r : Int) : Prop := (∃ i : Nat, r = i ∧ lo ≤ i ∧ AtL u v i ∧ ∀ j, lo ≤ j → j < i → ¬ AtL u v j) ∨ (r = -1 ∧ ∀ j, lo ≤ j → ¬ AtL u v j)
theorem find_range' {lo n : Nat} {p : Nat → Bool} {s : Nat} (h : (List.range' lo n).find? p = some s) : lo ≤ s ∧ p s = true ∧ ∀ t, lo ≤ t → t < s → p t = false := by
  obtain ⟨h1, i, hi, h2, h3⟩ := List.find?_eq_some_iff_getElem.mp h
  rw [List.getElem_range'] at h2
  subst h2
  refine ⟨by omega, h1, fun t ht hlt => ?_⟩
  have := h3 (t - lo) (by omega)
  rw [List.getElem_range'] at this
  rw [show lo + 1 * (t - lo) = t by omega] at this
  simpa using this
theorem occ_FindL (u v : List Nat) (lo : Nat) : FindL u v lo (match occurrences (S u) (S v) lo (S u).length 1 with | k :: _ => (k : Int) | [] => -1) := by
  rw [occ_find]
  cases h : (List.range' lo ((S u).length + 1 - lo)).find? fun i => decide (i + (S v).length ≤ (S u).length) && subAt (S u) (S v) i with
  | none =>
    right
    refine ⟨rfl, fun j hj z => ?_⟩
    have l := z.1
    have := List.find?_eq_none.mp h j (List.mem_range'_1.mpr ⟨hj, by rw [S_len]; omega⟩)
    exact this ((atL_iff u v j).mpr z)
  | some i =>
    left
    obtain ⟨h1, h2, h3⟩ := find_range' h
    refine ⟨i, rfl, h1, (atL_iff u v i).mp h2, fun j a b z => ?_⟩
    have := (atL_iff u v j).mpr z
    rw [h3 j a b] at this
    cases this
theorem find_FindL (u v : List Nat) : FindL u v 0 (Txt.find (S u) (S v)) := occ_FindL u v 0
theorem find3_FindL (u v : List Nat) (i : Nat) : FindL u v i (Txt.find3 (S u) (S v) (i : Int)) := by
  unfold Txt.find3
  rw [show fromIndex (S u).length (i : Int) = i by unfold fromIndex; rw [if_neg (by omega)]; omega]
  exact occ_FindL u v i
/-! ### list of a text -/
section
variable {X : Cx}
theorem call_listStr (hc : X.calm = true) : CallR X (.type "list") (fun xs H Q => ∃ z : List Nat, xs = [.str (S z)] ∧ z.length ≤ sizeLine ∧ ∀ l, H l = none → Q (.ref l) (upd H l (.lst (z.map fun c => V.str (S [c]))))) := by
  intro pins s σ H xs us Q I r h
  obtain ⟨z, rfl, hz, q⟩ := h
  obtain ⟨u, rfl, t, rfl⟩ := vals1 r
  refine call_list_str (I.ok.hd hc) (S z) t (fun h' tk acc' c' kp e hacc => ?_) (by show (S z).length ≤ sizeLine; rw [S_len]; exact hz)
  obtain ⟨hsz, hat⟩ := hacc
  have hsz' : acc'.size = z.length := hsz.trans (S_len z)
  refine ⟨.ref s.heap.objs.size, _, I.laid (t' := tk) kp (Nat.le_refl _) (show ObjOk X.prog X.w _ h' _ (.lst (z.map fun c => V.str (S [c]))) from ⟨by rw [List.length_map]; exact hz, acc'.toList, c', ?_, by rw [Array.toArray_toList]; exact e⟩), rfl, q _ (I.hok.fresh (Nat.le_refl _))⟩
  -- the items
  have go : ∀ (ys : List Nat) (vs : List Value), vs.length = ys.length → (∀ (i c : Nat), ys[i]? = some c → ∃ t, vs[i]? = some (Value.str ⟨#[c]⟩ t)) → Vals (ys.map fun c => V.str (S [c])) vs := by
    intro ys
    induction ys with
    | nil => intro vs h _; rw [List.length_eq_zero_iff.mp h]; exact .nil
    | cons c ys ih =>
      intro vs h k
      match vs, h with
      | v :: vs, h =>
        obtain ⟨t, e⟩ := k 0 c rfl
        obtain rfl := Option.some.inj e
        exact .cons ⟨t, rfl⟩ (ih vs (Nat.succ.inj h) fun i c hc => k (i + 1) c hc)
  refine go z acc'.toList (by rw [Array.length_toList]; exact hsz') fun i c hc => ?_
  have hi : i < z.length := (List.getElem?_eq_some_iff.mp hc).1
  have hv : acc'[i]? = some (acc'[i]'(by omega)) := Array.getElem?_eq_getElem _
  obtain ⟨c', t', hc', e'⟩ := hat i _ hv
  rw [e'] at hv
  have : (S z).cps[i]? = some c := by
    show z.toArray[i]? = some c
    rw [List.getElem?_toArray]; exact hc
  rw [this] at hc'
  obtain rfl := Option.some.inj hc'
  exact ⟨t', by rw [Array.getElem?_toList]; exact hv⟩
end
/-! ### isinstance of the error that the suite holds, with an own dict -/
def rIsEd (K : PySem.W.Frag) (C a : Addr) (cls : Value) (d : Option Addr) : List V → Hp → VK → Prop := fun xs H Q => ∃ (c : V) (cv : Value) (b : Bool) (dd : Addr) (fs : List (Str × V)), xs = [.ref a, c] ∧ ClsV c cv ∧ cls = .ref C ∧ d = some dd ∧ H dd = some (.xd fs) ∧ PySem.W.kitOne K (.ref C) cv = some b ∧ Q (.bl b) H
theorem call_isEd {X : Cx} {a C : Addr} {oe : Obj} {cls : Value} {d : Option Addr} {pn : List (Addr × Obj)} (T : ExcC X.K C) (hz : Zc cls d oe) (hf : ∃ vs, oe.data = .fields vs) : CallR (X.suite a ((a, oe) :: pn)) (.builtin "isinstance") (rIsEd X.K C a cls d) := by
  intro pins s σ H xs us Q I r h
  obtain ⟨c, cv, b, dd, fs, rfl, hcv, rfl, rfl, hd, e, q⟩ := h
  obtain ⟨u1, u2, rfl, r1, r2⟩ := vals2 r
  cases (show u1 = Value.ref a from r1)
  have ec := hcv.eq r2
  subst ec
  obtain ⟨hget, _⟩ := I.pin (a, oe) (List.mem_append.mpr (.inl List.mem_cons_self))
  obtain ⟨vs, hv⟩ := hf
  have hx : ObjOk X.prog X.w H s.heap dd (.xd fs) := I.hok dd _ hd
  obtain ⟨mA, hns, hr⟩ := hx
  obtain ⟨od, ho, hl⟩ := lookIn_ns hns
  have J : PySem.W.InstAt s.heap a oe C (some od) := ⟨hget, hz.1, by unfold PySem.W.notCls; rw [hv] <;> rfl, by rw [hz.2]; exact ho⟩
  obtain ⟨cd, hcd, _⟩ := PySem.W.any_some T.hd
  exact PySem.W.kia_one (PySem.W.kitx_exc (by rw [hcd]; rfl) T.hg T.hk T.hs T.ha T.hn T.ht T.hm) I.kIn J e (fun z => nomatch z) fun tk => ⟨.bl b, H, I.kept (t' := tk) fun _ _ z => z, rfl, q⟩
end L2
namespace GQ
open PySem PySem.Spec PyProof.Rows
section
variable {prog : Program} {w : World} {A : Around} {R : Result → Shared → Prop}
theorem list_eq_len (l b : Addr) (items items2 : Array Value) (n n2 : Nat) (hne : items.size ≠ items2.size) {s : Shared} (hl1 : s.heap.get? l = some { cls := .type "list", data := .seq items n }) (hb1 : s.heap.get? b = some { cls := .type "list", data := .seq items2 n2 })
    (fin : R (.ok (.ret (.bool false))) s) :
    wpAny (model prog w) A.in1 (Builtin.«list.__eq__» ⟨[.ref l, .ref b], []⟩) (FinOf prog w A R) (fun e s' => R (.error e) s') s := by
  obtain ⟨hp, g, d, tk, os⟩ := s
  have f3 := AutoSeq1.sub_list_list
  have hne' : (items.size != items2.size) = true := by simp [hne]
  wp_walk using wpAny_loadPart' hl1, wpAny_loadPart' hb1
  exact fin
end
section
variable {prog : Program} {w : World} {A : Around} {E : Value → Shared → Prop} {s : Shared}
theorem rc_list_len {l b : Addr} {items items2 : Array Value} {n n2 : Nat} {Q : Value → Shared → Prop} (hu : A.units < cLine) (hne : items.size ≠ items2.size) (hl1 : s.heap.get? l = some { cls := .type "list", data := .seq items n }) (hb1 : s.heap.get? b = some { cls := .type "list", data := .seq items2 n2 })
    (fin : Q (.bool false) s) : wpAny (model prog w) A (richCompare .Eq (.ref l) (.ref b)) Q E s := by
  refine wpAny_richCompare_same_room (op := .Eq) ⟨_, hl1, rfl⟩ ⟨_, hb1, rfl⟩ F.slot_list_eq (call_here F.slot_list_eq ⟨_, hl1, rfl⟩ F.entry_list_eq (F.args_list_eq_2 _ _) ?_) hu
  exact list_eq_len (R := wants (fun v s' => v ≠ .notImplemented ∧ Q v s') E) l b items items2 n n2 hne hl1 hb1 ⟨(fun x => nomatch x), fin⟩
end
end GQ
namespace L2
open PySem PySem.Spec PyProof.Rows PySem.Builtin PySem.Builtin.Str
section
variable {X : Cx}
/-- xs == ys of two lists of which one is empty -/
def rEqNil : R2 := fun x y H Q => ∃ p q xs ys, x = .ref p ∧ y = .ref q ∧ H p = some (.lst xs) ∧ H q = some (.lst ys) ∧ (xs = [] ∨ ys = []) ∧ Q (.bl (decide (xs.length = ys.length))) H
theorem op_eq_nil (hu : X.A.units < cLine) : OpR X (compareOp .Eq) rEqNil := by
  intro pins s σ H x y v u Q I rx ry h
  obtain ⟨p, q, xs, ys, rfl, rfl, hp, hq, hn, k⟩ := h
  cases (show v = Value.ref p from rx)
  cases (show u = Value.ref q from ry)
  obtain ⟨z1, its, n, r1, hl, e1⟩ := I.lstM hp
  obtain ⟨z2, its2, n2, r2, hl2, e2⟩ := I.lstM hq
  by_cases hl3 : xs.length = ys.length
  · have ex : xs = [] := by
      rcases hn with e | e
      · exact e
      · subst e; exact List.length_eq_zero_iff.mp hl3
    have ey : ys = [] := by
      rcases hn with e | e
      · subst e; exact List.length_eq_zero_iff.mp hl3.symm
      · exact e
    subst ex ey
    cases r1; cases r2
    rw [decide_eq_true hl3] at k
    exact GQ.rc_listG hu (N := 0) (fun i s' => i = 0 ∧ s' = s) (fun i s' hi => by obtain ⟨rfl, rfl⟩ := hi; exact ⟨_, _, _, _, e1, e2, rfl, rfl, fun h1 _ => absurd h1 (by simp)⟩) (fun s' hs => by obtain ⟨_, rfl⟩ := hs; exact ⟨.bl true, H, I, rfl, k⟩) ⟨rfl, rfl⟩
  · rw [decide_eq_false hl3] at k
    refine GQ.rc_list_len hu ?_ e1 e2 ⟨.bl false, H, I, rfl, k⟩
    have := r1.length
    have := r2.length
    simp only [List.size_toArray]
    omega
/-! ### dicts of flat values, shown -/
def FlatD : V → PyData → Prop := fun v d => (v = .non ∧ d = .none) ∨ (∃ b, v = .bl b ∧ d = .bool b) ∨ (∃ i, v = .int i ∧ d = .int i) ∨ ∃ z, v = .str z ∧ d = .str z
def keyD : Key → PyData
  | .inl i => .int i
  | .inr x => .str x
def DictD : List (Key × V) → List (PyData × PyData) → Prop := Paired fun p q => q.1 = keyD p.1 ∧ FlatD p.2 q.2
/-- data, or a dict of flat values -/
def Ds (K : PySem.W.Frag) (H : Hp) (x : V) (d : PyData) : Prop := Dp K H x d ∨ ∃ a kvs ds, x = .ref a ∧ H a = some (.dK kvs) ∧ d = .dict ds ∧ DictD kvs ds
def rReprD (K : PySem.W.Frag) : List V → Hp → VK → Prop := fun xs H Q => ∃ x d, xs = [x] ∧ Ds K H x d ∧ d.showable = true ∧ d.depth ≤ 60 ∧ d.shown.length ≤ sizeLine ∧ Q (.str d.shown) H
theorem FlatD.reads {v : V} {d : PyData} {u : Value} {h : Heap} (f : FlatD v d) (r : RelV v u) : Reads h u d [] := by
  rcases f with ⟨rfl, rfl⟩ | ⟨b, rfl, rfl⟩ | ⟨i, rfl, rfl⟩ | ⟨z, rfl, rfl⟩
  · cases (show u = Value.none from r); exact .none
  · cases (show u = Value.bool b from r); exact .bool _
  · obtain ⟨t, rfl⟩ := r; exact .int _ _
  · obtain ⟨t, rfl⟩ := r; exact .str _ _
theorem keyD_reads {k : Key} {u : Value} {h : Heap} (e : keyIs k u = true) : Reads h u (keyD k) [] := by
  rcases keyIs_shape e with ⟨i, t, rfl, rfl⟩ | ⟨x, t, rfl, rfl⟩
  · exact .int _ _
  · exact .str _ _
theorem dictD_reads {h : Heap} {P : Program} {w : World} {kvs : List (Key × V)} {ds : List (PyData × PyData)} (dd : DictD kvs ds) : ∀ {vs : List (Key × Value)} {es : List DictEntry}, KV kvs vs → Pairs (mixKind P w) es vs →
    ReadsAll h (es.map (·.key)) (ds.map (·.1)) [] ∧ ReadsAll h (es.map (·.val)) (ds.map (·.2)) [] := by
  unfold DictD at dd
  induction dd with
  | nil =>
    intro vs es kv ps
    cases kv
    cases ps
    exact ⟨.nil, .nil⟩
  | @cons p q l1 l2 h1 _ ih =>
    intro vs es kv ps
    unfold KV at kv
    cases kv with
    | cons a t =>
      cases ps with
      | cons hk hv hp =>
        obtain ⟨i1, i2⟩ := ih t hp
        obtain ⟨e1, f⟩ := h1
        obtain ⟨ka, ra⟩ := a
        refine ⟨.cons (as := []) (bs := []) ?_ i1, .cons (as := []) (bs := []) ?_ i2⟩
        · show Reads h _ q.1 []
          rw [e1, ka]
          exact keyD_reads hk
        · have := f.reads (h := h) ra
          rw [← hv] at this
          exact this
theorem call_reprD (hc : X.A.guards = some []) (hu : X.A.units + 64 < cLine) : CallR X (.builtin "repr") (rReprD X.K) := by
  intro pins s σ H xs us Q I r h
  obtain ⟨x, d, rfl, hd, hs, hdp, hz, q⟩ := h
  rcases hd with hd | ⟨a, kvs, ds, rfl, ha, rfl, dd⟩
  · exact call_repr hc hu pins s σ H _ us Q I r ⟨x, d, rfl, .inl hd, hs, hdp, hz, q⟩
  · obtain ⟨u, rfl, r1⟩ := vals1 r
    obtain rfl : u = Value.ref a := r1
    obtain ⟨_, hsys, vs, hkv, od, es, ep, hget, hcl, hdat, hko, hps, _⟩ : ObjOk X.prog X.w H s.heap a (.dK kvs) := I.hok a _ ha
    obtain ⟨i1, i2⟩ := dictD_reads (h := s.heap) dd hkv hps
    have rd : Reads s.heap (.ref a) (.dict ds) (a :: [] ++ []) := .dict hget hcl.1 hdat i1 i2
    refine repr_of_reads' rd hs (fun _ hm => ?_) hc (by omega) (fun _ _ e => e) (fun h' u tk k => ⟨.str _, H, I.kept k, ⟨_, rfl⟩, q⟩) hz
    have e : sysModules = a := by simpa using hm
    rw [← e] at hsys
    exact absurd hsys (by decide)
end
end L2

set_option Elab.async false
set_option linter.all false
set_option maxRecDepth 100000
set_option maxHeartbeats 4000000
/-! What the laws share: the box of draws, what stands, texts of small letters, what is shown. -/
namespace My
open PySem PySem.Spec PyProof.Rows L2
/-! ### the law's box of draws -/
def BoxO (n : Nat) (o : HO) : Prop := ∃ (a m c : Int) (b : Bool), o = .lst [.int a, .bl b, .int m, .int c] ∧ 0 ≤ m ∧ m < 2147483648 ∧ 0 ≤ c ∧ c ≤ n
def BoxAt (H : Hp) (p : Addr) (n : Nat) : Prop := ∃ o, H p = some o ∧ BoxO n o
theorem BoxAt.mono {H : Hp} {p : Addr} {n m : Nat} (h : BoxAt H p n) (l : n ≤ m) : BoxAt H p m := by
  obtain ⟨o, e, a, m', c, b, e2, h1, h2, h3, h4⟩ := h
  exact ⟨o, e, a, m', c, b, e2, h1, h2, h3, by omega⟩
/-- all but the box stands -/
def Kp (p : Addr) (H H' : Hp) : Prop := ∀ b o, b ≠ p → H b = some o → H' b = some o
theorem Kp.refl (p : Addr) (H : Hp) : Kp p H H := fun _ _ _ e => e
theorem Kp.trans {p : Addr} {H H1 H2 : Hp} (a : Kp p H H1) (b : Kp p H1 H2) : Kp p H H2 := fun c o n e => b c o n (a c o n e)
theorem Kp.of {p : Addr} {H H' : Hp} (s : Same H H') : Kp p H H' := fun b o _ e => s b o e
theorem Kp.new {p q : Addr} {H H' : Hp} {o : HO} (k : Kp p H H') (h : H' q = none) : Kp p H (upd H' q o) := fun b ob n e => by
  have := k b ob n e
  rw [upd_ne (ne_of_none this h)]; exact this
theorem BoxAt.new {p q : Addr} {H : Hp} {o : HO} {n : Nat} (h : BoxAt H p n) (hq : H q = none) : BoxAt (upd H q o) p n := by
  obtain ⟨ob, e, r⟩ := h
  exact ⟨ob, by rw [upd_ne (ne_of_none e hq)]; exact e, r⟩
theorem BoxAt.same {p : Addr} {H H' : Hp} {n : Nat} (h : BoxAt H p n) (s : Same H H') : BoxAt H' p n := by
  obtain ⟨ob, e, r⟩ := h
  exact ⟨ob, s _ _ e, r⟩
theorem Same.new {q : Addr} {H H' : Hp} {o : HO} (k : Same H H') (h : H' q = none) : Same H (upd H' q o) := fun b ob e => by
  have := k b ob e
  rw [upd_ne (ne_of_none this h)]; exact this
theorem cutV_to (xs : List V) (n : Nat) : cutV xs none (some (n : Int)) = xs.take n := by
  unfold cutV
  rw [HT.sIx_none, sIx_some, List.drop_zero, Nat.sub_zero]
  rcases Nat.le_total n xs.length with h | h
  · rw [Nat.min_eq_left h]
  · rw [Nat.min_eq_right h, List.take_of_length_le h, List.take_of_length_le (Nat.le_refl _)]
theorem Kp.upd {p : Addr} {H H' : Hp} {o : HO} (k : Kp p H H') : Kp p H (upd H' p o) := fun b ob n e => by
  rw [upd_ne n]; exact k b ob n e
theorem BoxO.at {H : Hp} {p : Addr} {n : Nat} {o : HO} (h : BoxO n o) : BoxAt (upd H p o) p n := ⟨o, upd_same, h⟩
def isT (z : Str) : Bool := (cs z).all low
def Big (u : List Nat) : Prop := u.length ≤ 100000
theorem Big.fits {u : List Nat} (h : Big u) : (S u).length ≤ sizeLine := by rw [S_len]; exact Nat.le_trans h (by decide)
theorem Big.lt {n : Nat} (h : n ≤ 100000) : n < sizeLine := Nat.lt_of_le_of_lt h (by decide)
theorem Big.dbl {u : List Nat} (h : Big u) : (S u).length + (S u).length ≤ sizeLine := by
  rw [S_len]
  have : u.length ≤ 100000 := h
  exact Nat.le_trans (by omega) (by decide : 200000 ≤ sizeLine)
theorem Big.two {a : Nat} {t : List Nat} (h : Big t) : (S (t.drop a)).length + (S (t.take a)).length ≤ sizeLine := by
  rw [S_len, S_len]
  have : t.length ≤ 100000 := h
  exact Nat.le_trans (by rw [List.length_drop, List.length_take]; omega) (by decide : 200000 ≤ sizeLine)
theorem tYesT {σ : L2.St} {H : Hp} {A B : Hp → Prop} (h : A H) : tYes σ H (fun b H3 => if b = true then A H3 else B H3) := by
  show (if true = true then A H else B H)
  rw [if_pos rfl]; exact h
theorem ixN_nat {n j : Nat} (h : j < n) : ixN n (j : Int) = some j := by
  unfold ixN
  rw [if_pos (by omega), if_pos (by omega), Int.toNat_natCast]
theorem ix_listK {X : Cx} {K : PySem.W.Frag} (e : X.K = K) : IxR X (rIxL K) := by rw [← e]; exact ix_list
/-! ### rounds as a product -/
theorem foldl_rep (x : Array Nat) : ∀ (n : Nat) (b : Array Nat), (List.replicate n x).foldl (· ++ ·) b = b ++ (Lev.rounds n x.toList).toArray
  | 0, b => by simp [Lev.rounds]
  | n + 1, b => by
    rw [List.replicate_succ, List.foldl_cons, foldl_rep x n]
    simp [Lev.rounds]
    obtain ⟨x⟩ := x
    simp
theorem rounds_nil : ∀ n, Lev.rounds n ([] : List Nat) = []
  | 0 => rfl
  | n + 1 => by simp [Lev.rounds, rounds_nil n]
theorem mul_S (x : List Nat) (n : Nat) : Txt.mul (S x) (n : Int) = S (Lev.rounds n x) := by
  unfold Txt.mul
  by_cases h : n = 0
  · subst h; rfl
  · rw [if_neg (by omega)]
    by_cases h1 : ((n : Int) == 1 || (S x).length == 0) = true
    · rw [if_pos h1]
      simp only [Bool.or_eq_true, beq_iff_eq] at h1
      rcases h1 with e | e
      · have : n = 1 := by omega
        subst this
        simp [Lev.rounds]
      · rw [S_len] at e
        have : x = [] := List.eq_nil_of_length_eq_zero e
        subst this
        rw [rounds_nil]
    · rw [if_neg h1, Int.toNat_natCast, foldl_rep]
      simp [S]
theorem mulOk_S {x : List Nat} {n : Nat} (hx : x.length ≤ 1000) (hn : n ≤ 1000) : MulOk (S x) (n : Int) := by
  refine ⟨?_, fun _ _ => ?_, fun _ _ => ?_⟩
  · simp only [Bool.or_eq_false_iff, decide_eq_false_iff_not]; omega
  · rw [S_len]
    rcases Nat.eq_zero_or_pos n with e | e
    · subst e; contradiction
    · have : ((2 : Int) ^ 63 - 1) / n ≥ ((2 : Int) ^ 63 - 1) / 1000 := by
        have h1 : (2 ^ 63 - 1 : Int) / 1000 * n ≤ 2 ^ 63 - 1 := by omega
        exact Int.le_ediv_of_mul_le (by omega) h1
      omega
  · rw [S_len, Int.toNat_natCast]
    have : x.length * n ≤ 1000 * 1000 := Nat.mul_le_mul hx hn
    show decide (x.length * n > sizeLine) = false
    rw [decide_eq_false_iff_not]
    exact Nat.not_lt.mpr (Nat.le_trans this (by decide))
/-! ### letters -/
def Low (t : List Nat) : Prop := ∀ c ∈ t, low c = true
theorem Low.isT {t : List Nat} (h : Low t) : isT (S t) = true := by
  unfold My.isT
  rw [S_tl]
  exact List.all_eq_true.mpr h
theorem Low.append {t u : List Nat} (h : Low t) (g : Low u) : Low (t ++ u) := fun c hc => by
  rcases List.mem_append.mp hc with q | q
  · exact h c q
  · exact g c q
theorem Low.take {t : List Nat} (h : Low t) (n : Nat) : Low (t.take n) := fun c hc => h c (List.mem_of_mem_take hc)
theorem Low.drop {t : List Nat} (h : Low t) (n : Nat) : Low (t.drop n) := fun c hc => h c (List.mem_of_mem_drop hc)
theorem Low.nil : Low [] := fun c hc => by cases hc
theorem Low.one {c : Nat} (h : low c = true) : Low [c] := fun d hd => by rw [List.mem_singleton.mp hd]; exact h
theorem Kp.free {p D : Addr} {H H' : Hp} {o : HO} (k : Kp p H H') (h : H D = none) : Kp p H (L2.upd H' D o) := fun b ob n e => by
  rw [upd_ne (ne_of_none e h)]; exact k b ob n e
theorem BoxAt.other {p q : Addr} {H : Hp} {o : HO} {n : Nat} (h : BoxAt H p n) (hq : p ≠ q) : BoxAt (upd H q o) p n := by
  obtain ⟨ob, e, r⟩ := h
  exact ⟨ob, by rw [upd_ne hq]; exact e, r⟩
theorem BoxAt.ne {p q : Addr} {H : Hp} {n : Nat} (h : BoxAt H p n) (hq : H q = none) : p ≠ q := by
  obtain ⟨ob, e, r⟩ := h
  exact ne_of_none e hq
theorem ones_sum (t : List Nat) : (List.map ((fun x : Str => x.length) ∘ fun c => S [c]) t).sum = t.length := by
  induction t with
  | nil => rfl
  | cons c r ih => rw [List.map_cons, List.sum_cons, ih, List.length_cons]; show 1 + _ = _; omega
theorem alpha_at {d : Nat} (h : d < 26) : atI (Str.ofString "abcdefghijklmnopqrstuvwxyz").cps.toList (d : Int) = some (97 + d) := by
  have e : (Str.ofString "abcdefghijklmnopqrstuvwxyz").cps.toList = (List.range 26).map (97 + ·) := by decide +kernel
  rw [e]
  exact atI_nat (by rw [List.getElem?_map, List.getElem?_range h]; rfl)
theorem low_alpha {d : Nat} (h : d < 26) : low (97 + d) = true := by
  unfold low; simp; omega
theorem join_ones (t : List Nat) : Txt.join (Str.ofString "") (t.map fun c => S [c]) = S t := by
  rw [TL.join_eq]
  have e : cs (Str.join (Str.ofString "") (t.map fun c => S [c])) = t := by
    rw [show cs (Str.join (Str.ofString "") (t.map fun c => S [c])) = TL.tl (Str.join (Str.ofString "") (t.map fun c => S [c])) from rfl, TL.tl_join, List.map_map]
    have go : ∀ t : List Nat, TL.joinL [] (t.map fun c => [c]) = t := by
      intro t
      induction t with
      | nil => rfl
      | cons c r ih =>
        cases r with
        | nil => rfl
        | cons d r => show [c] ++ ([] ++ TL.joinL [] ((d :: r).map fun c => [c])) = _; rw [ih]; rfl
    exact go t
  rw [← S_of (Str.join _ _), e]
/-- whether a value is a text, as is_text says -/
def Jd (K : PySem.W.Frag) (H : Hp) (x : V) (b : Bool) : Prop := (∃ z, x = .str z ∧ b = isT z) ∨ ∃ t, TyX K H x (.type t) ∧ kitB t "str" = some false ∧ b = false
/-- an error of class C, made of x -/
def Bad (C : Addr) (H : Hp) (x : V) (E : XK) : Prop := ∀ d H', Same H H' → H d = none → H' d = some (.xd (gvn x)) → E (.ref C) (some d) H'
theorem tyOf_same {K : PySem.W.Frag} {H H' : Hp} {x : V} {t : Value} (h : TyOf K H x t) (s : Same H H') : TyOf K H' x t := by
  cases h
  case non => exact .non
  case bl => exact .bl _
  case int => exact .int _
  case str => exact .str _
  case flt => exact .flt _
  case lst e => exact .lst (s _ _ e)
  case frz e => exact .frz (s _ _ e)
  case tup e => exact .tup (s _ _ e)
  case dK e => exact .dK (s _ _ e)
  case dT e => exact .dT (s _ _ e)
  case ins e cl ha hn htk hm => exact .ins (s _ _ e) cl ha hn htk hm
theorem tyX_same {K : PySem.W.Frag} {H H' : Hp} {x : V} {t : Value} (h : TyX K H x t) (s : Same H H') : TyX K H' x t := by
  cases h
  case base e => exact .base (tyOf_same e s)
  case byt => exact .byt _
  case set e => exact .set (s _ _ e)
  case kList e c => exact .kList e c
  case kTuple e c => exact .kTuple e c
  case kDict e c => exact .kDict e c
  case fTuple e => exact .fTuple (s _ _ e)
  case fDict e => exact .fDict (s _ _ e)
theorem Jd.same {K : PySem.W.Frag} {H H' : Hp} {x : V} {b : Bool} (h : Jd K H x b) (s : Same H H') : Jd K H' x b := by
  rcases h with h | ⟨t, h1, h2, h3⟩
  · exact .inl h
  · exact .inr ⟨t, tyX_same h1 s, h2, h3⟩
/-! ### what can be shown -/
def Sh (d : PyData) : Prop := d.showable = true ∧ d.depth ≤ 60 ∧ d.shown.length ≤ sizeLine
theorem sh_of {d : PyData} (h1 : d.showable = true) (h2 : d.depth ≤ 60) (h3 : d.leavesShort 40 = true) (h4 : d.weight ≤ 100000) : Sh d := by
  refine ⟨h1, h2, ?_⟩
  have e := PyData.shown_le 40 (by omega) d h3
  exact Nat.le_trans e (Nat.le_trans (by omega : (40 + 2) * d.weight + 40 ≤ 4200040) (by decide))
theorem log2_20 {r : Nat} (h : r < 1048576) : r.log2 < 20 := PySem.Flt.log2_lt_of (by decide) h
theorem short_int {r : Nat} (h : r < 1048576) : (PyData.int r).leavesShort 40 = true := by
  have e := int_text_length_le (a := (r : Int)) (k := 20) (by decide) (log2_20 h)
  have e2 : (PyData.int (r : Int)).shown = Str.ofString (toString (r : Int)) := by simp only [PyData.shown]
  unfold PyData.leavesShort
  refine decide_eq_true ?_
  rw [e2, PySem.ofString_length]
  omega
theorem show_int {r : Nat} (h : r < 1048576) : (PyData.int r).showable = true := by
  simp only [PyData.showable, decide_eq_true_eq]
  exact Nat.lt_trans (log2_20 h) (by decide)
theorem weight_int {r : Nat} (h : r < 1048576) : (PyData.int r).weight ≤ 21 := by
  simp only [PyData.weight]
  have := log2_20 h
  split
  · omega
  · show (r : Int).natAbs.log2 + 1 ≤ 21
    rw [Int.natAbs_natCast]; omega
theorem un64 {k : Nat} {A : Around} (hr : Room k A) : A.units + 64 < cLine := by have := hr.un; omega
theorem neSame {z : Str} {A B : Prop} (h : B) : if (!decide (V.str z = V.str z)) = true then A else B := by
  rw [decide_eq_true rfl]; exact iteF h
theorem jd_low {K : PySem.W.Frag} {H : Hp} {t : List Nat} (h : Low t) : Jd K H (.str (S t)) true := .inl ⟨_, rfl, h.isT.symm⟩
theorem eqT {i : Int} {A B : Prop} (h : A) : if decide (V.int i = V.int i) = true then A else B := by
  rw [decide_eq_true rfl]; exact iteT h
theorem eqF {i j : Int} {A B : Prop} (n : i ≠ j) (h : B) : if decide (V.int i = V.int j) = true then A else B := by
  rw [decide_eq_false (fun z => n (V.int.inj z))]; exact iteF h
theorem through2 {t : TE} {σ : L2.St} {H : Hp} {Q : VK} (R : V → Hp → Prop) (h : ∀ Q' : VK, (∀ v H', R v H' → Q' v H') → t σ H Q') (rest : ∀ v H', R v H' → Q v H') : t σ H Q := h Q rest
theorem eqS {z : Str} {A B : Prop} (h : A) : if decide (V.str z = V.str z) = true then A else B := by
  rw [decide_eq_true rfl]; exact iteT h
theorem dp_same {K : PySem.W.Frag} {H H' : Hp} (s : Same H H') {x : V} {d : PyData} (h : Dp K H x d) : Dp K H' x d :=
  Dp.rec (motive_1 := fun x d _ => Dp K H' x d) (motive_2 := fun xs ds _ => DpAll K H' xs ds) .non (fun _ => .bl _) (fun _ => .int _) (fun _ => .str _)
    (fun hs _ ih => .lst (hs.ext s) ih) (fun hs _ ih => .tup (hs.elim (fun h => .inl (h.elim (fun h => .inl (s _ _ h)) fun ⟨o, h⟩ => .inr ⟨o, s _ _ h⟩)) fun h => .inr h) ih) .nil (fun _ _ i1 i2 => .cons i1 i2) h
theorem Ds.same {K : PySem.W.Frag} {H H' : Hp} (s : Same H H') {x : V} {d : PyData} (h : Ds K H x d) : Ds K H' x d := by
  rcases h with h | ⟨a, kvs, ds, e, ea, r⟩
  · exact .inl (dp_same s h)
  · exact .inr ⟨a, kvs, ds, e, s _ _ ea, r⟩
theorem Kp.toSame {p : Addr} {H H1 H2 : Hp} (k : Kp p H1 H2) (s : Same H H1) (h : H p = none) : Same H H2 := fun b o e => k b o (ne_of_none e h) (s b o e)
theorem sh_str {z : List Nat} (h : z.length ≤ 1000) (hc : ∀ c ∈ z, c < 200) : Sh (.str (S z)) := by
  refine sh_of (by simp only [PyData.showable]) (by simp only [PyData.depth]; omega) ?_ ?_
  · unfold PyData.leavesShort
    rw [List.all_eq_true]
    intro c hcm
    have : c ∈ z := by rw [← S_tl z]; exact hcm
    have := hc c this
    exact decide_eq_true (by omega)
  · unfold PyData.weight
    show (S z).length ≤ 100000
    rw [S_len]; omega
/-! ### data that is small enough to be shown -/
structure Fit (x : PyData) (k w : Nat) : Prop where
  s : x.showable = true
  d : x.depth ≤ k
  l : x.leavesShort 40 = true
  w : x.weight ≤ w
structure FitAll (ds : List PyData) (k w : Nat) : Prop where
  s : PyData.showableAll ds = true
  d : PyData.depthAll ds ≤ k
  l : PyData.leavesShortAll 40 ds = true
  w : PyData.weightAll ds ≤ w
structure FitKv (ds : List (PyData × PyData)) (k w : Nat) : Prop where
  s : PyData.showableKv ds = true
  d : PyData.depthKv ds ≤ k
  l : PyData.leavesShortKv 40 ds = true
  w : PyData.weightKv ds ≤ w
theorem Fit.sh {d : PyData} {k w : Nat} (h : Fit d k w) (hk : k ≤ 60) (hw : w ≤ 100000) : Sh d := sh_of h.s (Nat.le_trans h.d hk) h.l (Nat.le_trans h.w hw)
theorem Fit.mono {d : PyData} {k w k' w' : Nat} (h : Fit d k w) (hk : k ≤ k') (hw : w ≤ w') : Fit d k' w' := ⟨h.s, Nat.le_trans h.d hk, h.l, Nat.le_trans h.w hw⟩
theorem FitAll.mono {d : List PyData} {k w k' w' : Nat} (h : FitAll d k w) (hk : k ≤ k') (hw : w ≤ w') : FitAll d k' w' := ⟨h.s, Nat.le_trans h.d hk, h.l, Nat.le_trans h.w hw⟩
theorem FitAll.nil {k : Nat} : FitAll [] k 0 := ⟨rfl, Nat.zero_le _, rfl, Nat.le_refl _⟩
theorem FitAll.cons {d : PyData} {ds : List PyData} {k w1 w2 : Nat} (h : Fit d k w1) (t : FitAll ds k w2) : FitAll (d :: ds) k (w1 + 1 + w2) := by
  refine ⟨?_, ?_, ?_, ?_⟩
  · unfold PyData.showableAll; rw [h.s, t.s]; rfl
  · unfold PyData.depthAll; have := h.d; have := t.d; omega
  · unfold PyData.leavesShortAll; rw [h.l, t.l]; rfl
  · unfold PyData.weightAll; have := h.w; have := t.w; omega
theorem Fit.list {ds : List PyData} {k w : Nat} (t : FitAll ds k w) : Fit (.list ds) (k + 1) w := by
  refine ⟨?_, ?_, ?_, ?_⟩
  · unfold PyData.showable; exact t.s
  · unfold PyData.depth; have := t.d; omega
  · unfold PyData.leavesShort; exact t.l
  · unfold PyData.weight; exact t.w
theorem Fit.tuple {ds : List PyData} {k w : Nat} (t : FitAll ds k w) : Fit (.tuple ds) (k + 1) w := by
  refine ⟨?_, ?_, ?_, ?_⟩
  · unfold PyData.showable; exact t.s
  · unfold PyData.depth; have := t.d; omega
  · unfold PyData.leavesShort; exact t.l
  · unfold PyData.weight; exact t.w
theorem Fit.none {k : Nat} : Fit .none k 0 := ⟨by unfold PyData.showable; rfl, by unfold PyData.depth; omega, by decide +kernel, by unfold PyData.weight; exact Nat.le_refl _⟩
theorem Fit.bool {b : Bool} {k : Nat} : Fit (.bool b) k 0 := ⟨by unfold PyData.showable; rfl, by unfold PyData.depth; omega, by cases b <;> decide +kernel, by unfold PyData.weight; exact Nat.le_refl _⟩
theorem Fit.nat {r k : Nat} (h : r < 1048576) : Fit (.int r) k 21 := ⟨show_int h, by unfold PyData.depth; omega, short_int h, weight_int h⟩
theorem Fit.str {z : List Nat} {k w : Nat} (h : z.length ≤ w) (hc : ∀ c ∈ z, c < 200) : Fit (.str (S z)) k w := by
  refine ⟨by unfold PyData.showable; rfl, by unfold PyData.depth; omega, ?_, ?_⟩
  · unfold PyData.leavesShort
    rw [List.all_eq_true]
    intro c hcm
    have : c ∈ z := by rw [← S_tl z]; exact hcm
    have := hc c this
    exact decide_eq_true (by omega)
  · unfold PyData.weight
    show (S z).length ≤ w
    rw [S_len]; exact h
theorem FitKv.nil {k : Nat} : FitKv [] k 0 := ⟨rfl, Nat.zero_le _, rfl, Nat.le_refl _⟩
theorem FitKv.cons {a b : PyData} {ds : List (PyData × PyData)} {k w1 w2 w3 : Nat} (h : Fit a k w1) (g : Fit b k w2) (t : FitKv ds k w3) : FitKv ((a, b) :: ds) k (w1 + w2 + 2 + w3) := by
  refine ⟨?_, ?_, ?_, ?_⟩
  · unfold PyData.showableKv; rw [h.s, g.s, t.s]; rfl
  · unfold PyData.depthKv; have := h.d; have := g.d; have := t.d; omega
  · unfold PyData.leavesShortKv; rw [h.l, g.l, t.l]; rfl
  · unfold PyData.weightKv; have := h.w; have := g.w; have := t.w; omega
theorem Fit.dict {ds : List (PyData × PyData)} {k w : Nat} (t : FitKv ds k w) : Fit (.dict ds) (k + 1) w := by
  refine ⟨?_, ?_, ?_, ?_⟩
  · unfold PyData.showable; exact t.s
  · unfold PyData.depth; have := t.d; omega
  · unfold PyData.leavesShort; exact t.l
  · unfold PyData.weight; exact t.w
abbrev natsD (ns : List Nat) : List PyData := ns.map fun (n : Nat) => PyData.int n
theorem FitAll.nats {k : Nat} : ∀ {ns : List Nat}, (∀ n ∈ ns, n < 1048576) → FitAll (natsD ns) k (22 * ns.length)
  | [], _ => FitAll.nil
  | n :: ns, h => (FitAll.cons (Fit.nat (h n List.mem_cons_self)) (FitAll.nats fun m hm => h m (List.mem_cons_of_mem _ hm))).mono (Nat.le_refl _) (by rw [List.length_cons]; omega)
theorem Low.lt {t : List Nat} (h : Low t) : ∀ c ∈ t, c < 200 := fun c hc => by
  have := h c hc
  unfold low at this
  simp only [Bool.and_eq_true, decide_eq_true_eq] at this
  omega
theorem dp_nats {K : PySem.W.Frag} {H : Hp} : ∀ ns : List Nat, DpAll K H (ns.map fun n => V.int (n : Nat)) (natsD ns)
  | [] => .nil
  | n :: ns => .cons (.int _) (dp_nats ns)
theorem un0 {k : Nat} {A : Around} (hr : Room k A) : A.units < cLine := Nat.lt_of_le_of_lt (Nat.le_add_right _ 64) (un64 hr)
end My

set_option Elab.async false
set_option linter.all false
set_option maxRecDepth 100000
set_option maxHeartbeats 4000000
/-! Values as data, empty dicts among them: what they are, their classes, == with a text, shown. -/
namespace L2
open PySem PySem.Spec PyProof.Rows
def kvV (p : Int × Int) : Key × V := (Sum.inl p.1, .int p.2)
def kvD (p : Int × Int) : PyData × PyData := (.int p.1, .int p.2)
/-! x is the data d; m: dicts are let, and then no list lies where the modules lie -/
mutual
inductive Dg (K : PySem.W.Frag) (H : Hp) (m : Bool) : V → PyData → Prop
  | non : Dg K H m .non .none
  | bl (b : Bool) : Dg K H m (.bl b) (.bool b)
  | int (i : Int) : Dg K H m (.int i) (.int i)
  | str (x : Str) : Dg K H m (.str x) (.str x)
  | lst {a : Addr} {xs : List V} {ds : List PyData} : SqL K H a xs → (m = true → (a == sysModules) = false) → DgAll K H m xs ds → Dg K H m (.ref a) (.list ds)
  | tup {a : Addr} {xs : List V} {ds : List PyData} : SqT K H a xs → DgAll K H m xs ds → Dg K H m (.ref a) (.tuple ds)
  | emp {a : Addr} : m = true → H a = some (.dK []) → Dg K H m (.ref a) (.dict [])
  | dct {a : Addr} (l : List (Int × Int)) : m = true → H a = some (.dK (l.map kvV)) → Dg K H m (.ref a) (.dict (l.map kvD))
inductive DgAll (K : PySem.W.Frag) (H : Hp) (m : Bool) : List V → List PyData → Prop
  | nil : DgAll K H m [] []
  | cons {v : V} {vs : List V} {d : PyData} {ds : List PyData} : Dg K H m v d → DgAll K H m vs ds → DgAll K H m (v :: vs) (d :: ds)
end
theorem dct_reads {P : Program} {w : World} (h : Heap) : ∀ (l : List (Int × Int)) (vs : List (Key × Value)) (es : List DictEntry), KV (l.map kvV) vs → PySem.Pairs (mixKind P w) es vs →
    ReadsAll h (es.map (·.key)) ((l.map kvD).map (·.1)) [] ∧ ReadsAll h (es.map (·.val)) ((l.map kvD).map (·.2)) []
  | [], _, _, hk, hp => by
    cases hk
    cases hp
    exact ⟨.nil, .nil⟩
  | (k, i) :: l, _, _, hk, hp => by
    cases hk with
    | cons h1 h2 =>
      obtain ⟨e1, r1⟩ := h1
      cases hp with
      | cons p1 p2 p3 =>
        rename_i q qs e es
        obtain ⟨qk, qv⟩ := q
        obtain rfl : Sum.inl k = qk := e1
        obtain ⟨t, rfl⟩ : ∃ t, qv = .int i t := r1
        obtain ⟨ih1, ih2⟩ := dct_reads h l qs es h2 p3
        have k1 : Value.isInt k e.key = true := p1
        obtain ⟨u, eu⟩ := Value.isInt_shape k1
        refine ⟨?_, ?_⟩
        · show ReadsAll h (e.key :: _) (.int k :: _) _
          rw [eu]
          exact ReadsAll.cons (Reads.int k u) ih1
        · show ReadsAll h (e.val :: _) (.int i :: _) _
          rw [p2]
          exact ReadsAll.cons (Reads.int i t) ih2
section
variable {X : Cx} {pins : List (Addr × Obj)} {σ : St} {H : Hp} {s : Shared} {m : Bool}
mutual
theorem Dg.reads (I : Inv X pins σ H s) : ∀ (d : PyData) (v : V) (u : Value), Dg X.K H m v d → RelV v u → ∃ as, Reads s.heap u d as ∧ (m = true → sysModules ∉ as)
  | .none, _, _, h, r => by
    cases h
    cases r
    exact ⟨_, Reads.none, fun _ => List.not_mem_nil⟩
  | .bool b, _, _, h, r => by
    cases h
    cases r
    exact ⟨_, Reads.bool b, fun _ => List.not_mem_nil⟩
  | .int i, _, _, h, r => by
    cases h
    obtain ⟨t, rfl⟩ := r
    exact ⟨_, Reads.int i t, fun _ => List.not_mem_nil⟩
  | .str x, _, _, h, r => by
    cases h
    obtain ⟨t, rfl⟩ := r
    exact ⟨_, Reads.str x t, fun _ => List.not_mem_nil⟩
  | .list ds, _, _, h, r => by
    cases h with
    | lst hs hl ha =>
      cases r
      obtain ⟨its, rv, ⟨o, n, ho, hc, _, hd⟩, _⟩ := I.list hs
      obtain ⟨as, hr, hm⟩ := Dg.readsAll I ds _ its ha rv
      refine ⟨_, Reads.list ho hc hd hr, fun e hh => ?_⟩
      rcases List.mem_cons.mp hh with q | q
      · have := hl e
        rw [← q] at this
        exact absurd this (by decide)
      · exact hm e q
  | .tuple ds, _, _, h, r => by
    cases h with
    | tup hs ha =>
      cases r
      obtain ⟨its, rv, ⟨o, ho, hc, n, hd⟩, _⟩ := I.tuple hs
      obtain ⟨as, hr, hm⟩ := Dg.readsAll I ds _ its ha rv
      exact ⟨_, Reads.tuple ho hc hd hr, hm⟩
  | .dict _, _, _, h, r => by
    cases h with
    | @emp a hm ha =>
      cases r
      obtain ⟨_, hsys, vs, hkv, od, es, ep, hget, hcl, hdat, hko, hps, _⟩ : ObjOk X.prog X.w H s.heap a (.dK []) := I.hok a _ ha
      cases hkv
      have he : es.toList = [] := by
        generalize es.toList = l at hps
        cases hps; rfl
      refine ⟨a :: [] ++ [], .dict hget hcl.1 hdat (by rw [he]; exact .nil) (by rw [he]; exact .nil), fun _ hh => ?_⟩
      have e : sysModules = a := by simpa using hh
      rw [← e] at hsys
      exact absurd hsys (by decide)
    | @dct a l hm ha =>
      cases r
      obtain ⟨_, hsys, vs, hkv, od, es, ep, hget, hcl, hdat, hko, hps, _⟩ : ObjOk X.prog X.w H s.heap a (.dK (l.map kvV)) := I.hok a _ ha
      obtain ⟨r1, r2⟩ := dct_reads s.heap l vs es.toList hkv hps
      refine ⟨a :: [] ++ [], .dict hget hcl.1 hdat r1 r2, fun _ hh => ?_⟩
      have e : sysModules = a := by simpa using hh
      rw [← e] at hsys
      exact absurd hsys (by decide)
theorem Dg.readsAll (I : Inv X pins σ H s) : ∀ (ds : List PyData) (vs : List V) (us : List Value), DgAll X.K H m vs ds → Vals vs us → ∃ as, ReadsAll s.heap us ds as ∧ (m = true → sysModules ∉ as)
  | [], _, _, h, r => by
    cases h
    cases r
    exact ⟨_, ReadsAll.nil, fun _ => List.not_mem_nil⟩
  | d :: ds, _, _, h, r => by
    cases h with
    | cons h1 h2 =>
      cases r with
      | cons r1 r2 =>
        obtain ⟨as, q1, n1⟩ := Dg.reads I d _ _ h1 r1
        obtain ⟨bs, q2, n2⟩ := Dg.readsAll I ds _ _ h2 r2
        exact ⟨_, ReadsAll.cons q1 q2, fun e hh => by
          rcases List.mem_append.mp hh with q | q
          · exact n1 e q
          · exact n2 e q⟩
end
end
theorem Dg.noDict {K : PySem.W.Frag} {H : Hp} {x : V} {d : PyData} (h : Dg K H false x d) : d.hasDict = false :=
  Dg.rec (motive_1 := fun _ d _ => d.hasDict = false) (motive_2 := fun _ ds _ => PyData.hasDictAll ds = false) rfl (fun _ => rfl) (fun _ => rfl) (fun _ => rfl)
    (fun _ _ _ ih => by unfold PyData.hasDict; exact ih) (fun _ _ ih => by unfold PyData.hasDict; exact ih) (fun e => by cases e) (fun _ e => by cases e) rfl (fun _ _ i1 i2 => by unfold PyData.hasDictAll; rw [i1, i2]; rfl) h
theorem SqL.same {K : PySem.W.Frag} {H H' : Hp} {a : Addr} {xs : List V} (h : SqL K H a xs) (s : ∀ b o, H b = some o → H' b = some o) : SqL K H' a xs := h.ext s
theorem Dg.ext {K : PySem.W.Frag} {H H' : Hp} {m : Bool} (s : ∀ b o, H b = some o → H' b = some o) {x : V} {d : PyData} (h : Dg K H m x d) : Dg K H' m x d :=
  Dg.rec (motive_1 := fun x d _ => Dg K H' m x d) (motive_2 := fun xs ds _ => DgAll K H' m xs ds) .non (fun _ => .bl _) (fun _ => .int _) (fun _ => .str _)
    (fun hs hl _ ih => .lst (hs.ext s) hl ih) (fun hs _ ih => .tup (hs.elim (fun h => .inl (h.elim (fun h => .inl (s _ _ h)) fun ⟨o, h⟩ => .inr ⟨o, s _ _ h⟩)) fun h => .inr h) ih) (fun e h => .emp e (s _ _ h)) (fun l e h => .dct l e (s _ _ h)) .nil (fun _ _ i1 i2 => .cons i1 i2) h
theorem DgAll.ext {K : PySem.W.Frag} {H H' : Hp} {m : Bool} (s : ∀ b o, H b = some o → H' b = some o) : ∀ {xs : List V} {ds : List PyData}, DgAll K H m xs ds → DgAll K H' m xs ds
  | _, _, .nil => .nil
  | _, _, .cons h t => .cons (h.ext s) (DgAll.ext s t)
theorem DgAll.len {K : PySem.W.Frag} {H : Hp} {m : Bool} : ∀ {xs : List V} {ds : List PyData}, DgAll K H m xs ds → xs.length = ds.length
  | _, _, .nil => rfl
  | _, _, .cons _ t => by rw [List.length_cons, List.length_cons, DgAll.len t]
theorem DgAll.at {K : PySem.W.Frag} {H : Hp} {m : Bool} : ∀ {xs : List V} {ds : List PyData}, DgAll K H m xs ds → ∀ (i : Nat) (x : V), xs[i]? = some x → ∃ d, ds[i]? = some d ∧ Dg K H m x d
  | _, _, .nil, i, x, h => by cases h
  | _, _, .cons h t, 0, x, e => by
    obtain rfl := Option.some.inj e
    exact ⟨_, rfl, h⟩
  | _, _, .cons h t, i + 1, x, e => DgAll.at t i x e
theorem DgAll.append {K : PySem.W.Frag} {H : Hp} {m : Bool} : ∀ {xs ys : List V} {ds es : List PyData}, DgAll K H m xs ds → DgAll K H m ys es → DgAll K H m (xs ++ ys) (ds ++ es)
  | _, _, _, _, .nil, h => h
  | _, _, _, _, .cons h t, g => .cons h (DgAll.append t g)
theorem DgAll.take {K : PySem.W.Frag} {H : Hp} {m : Bool} : ∀ (n : Nat) {xs : List V} {ds : List PyData}, DgAll K H m xs ds → DgAll K H m (xs.take n) (ds.take n)
  | 0, _, _, _ => by simp; exact .nil
  | n + 1, _, _, .nil => by simp; exact .nil
  | n + 1, _, _, .cons h t => by simp only [List.take_succ_cons]; exact .cons h (DgAll.take n t)
theorem DgAll.drop {K : PySem.W.Frag} {H : Hp} {m : Bool} : ∀ (n : Nat) {xs : List V} {ds : List PyData}, DgAll K H m xs ds → DgAll K H m (xs.drop n) (ds.drop n)
  | 0, _, _, h => h
  | n + 1, _, _, .nil => by simp; exact .nil
  | n + 1, _, _, .cons h t => by simp only [List.drop_succ_cons]; exact DgAll.drop n t
theorem Dg.int_of {K : PySem.W.Frag} {H : Hp} {m : Bool} {x : V} {i : Int} (h : Dg K H m x (.int i)) : x = .int i := by cases h; rfl
theorem Dg.str_of {K : PySem.W.Frag} {H : Hp} {m : Bool} {x : V} {i : Str} (h : Dg K H m x (.str i)) : x = .str i := by cases h; rfl
theorem Dg.tup_of {K : PySem.W.Frag} {H : Hp} {m : Bool} {x : V} {ds : List PyData} (h : Dg K H m x (.tuple ds)) : ∃ a xs, x = .ref a ∧ SqT K H a xs ∧ DgAll K H m xs ds := by
  cases h with
  | tup h1 h2 => exact ⟨_, _, rfl, h1, h2⟩
theorem Dg.lst_of {K : PySem.W.Frag} {H : Hp} {m : Bool} {x : V} {ds : List PyData} (h : Dg K H m x (.list ds)) : ∃ a xs, x = .ref a ∧ SqL K H a xs ∧ (m = true → (a == sysModules) = false) ∧ DgAll K H m xs ds := by
  cases h with
  | lst h1 h2 h3 => exact ⟨_, _, rfl, h1, h2, h3⟩
theorem DgAll.cons_of {K : PySem.W.Frag} {H : Hp} {m : Bool} {xs : List V} {d : PyData} {ds : List PyData} (h : DgAll K H m xs (d :: ds)) : ∃ x ys, xs = x :: ys ∧ Dg K H m x d ∧ DgAll K H m ys ds := by
  cases h with
  | cons h1 h2 => exact ⟨_, _, rfl, h1, h2⟩
theorem DgAll.nil_of {K : PySem.W.Frag} {H : Hp} {m : Bool} {xs : List V} (h : DgAll K H m xs []) : xs = [] := by cases h; rfl
/-! ### the classes of data -/
def tyD : PyData → String
  | .none => "NoneType" | .bool _ => "bool" | .int _ => "int" | .str _ => "str" | .list _ => "list" | .tuple _ => "tuple" | .dict _ => "dict"
theorem Dg.ty {K : PySem.W.Frag} {H : Hp} {m : Bool} {x : V} {d : PyData} (h : Dg K H m x d) : TyX K H x (.type (tyD d)) := by
  cases h with
  | non => exact .base .non
  | bl b => exact .base (.bl b)
  | int i => exact .base (.int i)
  | str z => exact .base (.str z)
  | lst hs _ _ =>
    rcases hs with (h | ⟨o, h⟩) | ⟨o, its, n, e, c, _⟩
    · exact .base (.lst h)
    · exact .base (.frz h)
    · exact .kList e c
  | tup hs _ =>
    rcases hs with (h | ⟨o, h⟩) | ⟨o, its, n, e, c, _⟩
    · exact .base (.tup h)
    · exact .fTuple h
    · exact .kTuple e c
  | emp _ h => exact .base (.dK h)
  | dct l _ h => exact .base (.dK h)
def isTupD : PyData → Bool | .tuple _ => true | _ => false
def isLstD : PyData → Bool | .list _ => true | _ => false
def isStrD : PyData → Bool | .str _ => true | _ => false
def isBlD : PyData → Bool | .bool _ => true | _ => false
def isNumD : PyData → Bool | .bool _ => true | .int _ => true | _ => false
theorem kit_tupD {K : PySem.W.Frag} (d : PyData) : PySem.W.kitOne K (.type (tyD d)) (.type "tuple") = some (isTupD d) := by
  cases d with
  | none => exact kit_ty (by decide +kernel : kitB "NoneType" "tuple" = some false)
  | bool _ => exact kit_ty (by decide +kernel : kitB "bool" "tuple" = some false)
  | int _ => exact kit_ty (by decide +kernel : kitB "int" "tuple" = some false)
  | str _ => exact kit_ty (by decide +kernel : kitB "str" "tuple" = some false)
  | list _ => exact kit_ty (by decide +kernel : kitB "list" "tuple" = some false)
  | tuple _ => exact kit_ty (by decide +kernel : kitB "tuple" "tuple" = some true)
  | dict _ => exact kit_ty (by decide +kernel : kitB "dict" "tuple" = some false)
theorem kit_lstD {K : PySem.W.Frag} (d : PyData) : PySem.W.kitOne K (.type (tyD d)) (.type "list") = some (isLstD d) := by
  cases d with
  | none => exact kit_ty (by decide +kernel : kitB "NoneType" "list" = some false)
  | bool _ => exact kit_ty (by decide +kernel : kitB "bool" "list" = some false)
  | int _ => exact kit_ty (by decide +kernel : kitB "int" "list" = some false)
  | str _ => exact kit_ty (by decide +kernel : kitB "str" "list" = some false)
  | list _ => exact kit_ty (by decide +kernel : kitB "list" "list" = some true)
  | tuple _ => exact kit_ty (by decide +kernel : kitB "tuple" "list" = some false)
  | dict _ => exact kit_ty (by decide +kernel : kitB "dict" "list" = some false)
theorem kit_strD {K : PySem.W.Frag} (d : PyData) : PySem.W.kitOne K (.type (tyD d)) (.type "str") = some (isStrD d) := by
  cases d with
  | none => exact kit_ty (by decide +kernel : kitB "NoneType" "str" = some false)
  | bool _ => exact kit_ty (by decide +kernel : kitB "bool" "str" = some false)
  | int _ => exact kit_ty (by decide +kernel : kitB "int" "str" = some false)
  | str _ => exact kit_ty (by decide +kernel : kitB "str" "str" = some true)
  | list _ => exact kit_ty (by decide +kernel : kitB "list" "str" = some false)
  | tuple _ => exact kit_ty (by decide +kernel : kitB "tuple" "str" = some false)
  | dict _ => exact kit_ty (by decide +kernel : kitB "dict" "str" = some false)
theorem kit_blD {K : PySem.W.Frag} (d : PyData) : PySem.W.kitOne K (.type (tyD d)) (.type "bool") = some (isBlD d) := by
  cases d with
  | none => exact kit_ty (by decide +kernel : kitB "NoneType" "bool" = some false)
  | bool _ => exact kit_ty (by decide +kernel : kitB "bool" "bool" = some true)
  | int _ => exact kit_ty (by decide +kernel : kitB "int" "bool" = some false)
  | str _ => exact kit_ty (by decide +kernel : kitB "str" "bool" = some false)
  | list _ => exact kit_ty (by decide +kernel : kitB "list" "bool" = some false)
  | tuple _ => exact kit_ty (by decide +kernel : kitB "tuple" "bool" = some false)
  | dict _ => exact kit_ty (by decide +kernel : kitB "dict" "bool" = some false)
theorem kit_numD {K : PySem.W.Frag} (d : PyData) : PySem.W.kitOne K (.type (tyD d)) (.type "int") = some (isNumD d) := by
  cases d with
  | none => exact kit_ty (by decide +kernel : kitB "NoneType" "int" = some false)
  | bool _ => exact kit_ty (by decide +kernel : kitB "bool" "int" = some true)
  | int _ => exact kit_ty (by decide +kernel : kitB "int" "int" = some true)
  | str _ => exact kit_ty (by decide +kernel : kitB "str" "int" = some false)
  | list _ => exact kit_ty (by decide +kernel : kitB "list" "int" = some false)
  | tuple _ => exact kit_ty (by decide +kernel : kitB "tuple" "int" = some false)
  | dict _ => exact kit_ty (by decide +kernel : kitB "dict" "int" = some false)
/-! ### shown -/
def rReprG (K : PySem.W.Frag) : List V → Hp → VK → Prop := fun xs H Q => ∃ x d m, xs = [x] ∧ Dg K H m x d ∧ d.showable = true ∧ d.depth ≤ 60 ∧ d.shown.length ≤ sizeLine ∧ Q (.str d.shown) H
theorem call_reprG {X : Cx} (hc : X.A.guards = some []) (hu : X.A.units + 64 < cLine) : CallR X (.builtin "repr") (rReprG X.K) := by
  intro pins s σ H xs us Q I r h
  obtain ⟨x, d, m, rfl, hd, hs, hdp, hz, q⟩ := h
  obtain ⟨u, rfl, r1⟩ := vals1 r
  obtain ⟨as, rd, hn⟩ := Dg.reads I d x u hd r1
  have nd : d.hasDict = true → sysModules ∉ as := fun e => by
    cases m with
    | true => exact hn rfl
    | false => rw [hd.noDict] at e; cases e
  cases hd with
  | non => cases rd; exact P.repr_of_none ⟨.str _, H, I.tok _, ⟨_, rfl⟩, q⟩
  | bl b => cases rd; exact P.repr_of_bool ⟨.str _, H, I.tok _, ⟨_, rfl⟩, q⟩
  | int i =>
    cases rd
    have hi : i.natAbs.log2 < 1920 := of_decide_eq_true hs
    exact P.repr_of_int hi ⟨.str _, H, I.tok _, ⟨_, rfl⟩, q⟩
  | str z => cases rd; exact P.repr_of_str ⟨.str _, H, I.tok _, ⟨_, rfl⟩, q⟩ hz
  | lst h1 h2 h3 =>
    obtain rfl : u = Value.ref _ := r1
    exact repr_of_reads' rd hs nd hc (by omega) (fun _ _ e => e) (fun h' u tk k => ⟨.str _, H, I.kept k, ⟨_, rfl⟩, q⟩) hz
  | tup h1 h2 =>
    obtain rfl : u = Value.ref _ := r1
    exact repr_of_reads' rd hs nd hc (by omega) (fun _ _ e => e) (fun h' u tk k => ⟨.str _, H, I.kept k, ⟨_, rfl⟩, q⟩) hz
  | emp h1 h2 =>
    obtain rfl : u = Value.ref _ := r1
    exact repr_of_reads' rd hs nd hc (by omega) (fun _ _ e => e) (fun h' u tk k => ⟨.str _, H, I.kept k, ⟨_, rfl⟩, q⟩) hz
  | dct l h1 h2 =>
    obtain rfl : u = Value.ref _ := r1
    exact repr_of_reads' rd hs nd hc (by omega) (fun _ _ e => e) (fun h' u tk k => ⟨.str _, H, I.kept k, ⟨_, rfl⟩, q⟩) hz
end L2
namespace DataQ
open PySem PySem.Spec PyProof.Rows
/-! ### a dict is no text -/
section
variable {prog : Program} {w : World} {A : Around} {E : Value → Shared → Prop} {s : Shared}
theorem dict_eq_declines_str (l : Addr) (es : Array DictEntry) (n : Nat) (dd : Option Addr) (sl : Array (Option Value)) (b : Str) (u : Tok) :
    Meets (Builtin.«dict.__eq__» ⟨[.ref l, .str b u], []⟩) (fun _ R s => s.heap.get? l = some { cls := .type "dict", dict := dd, data := .dict es n, slots := sl } ∧ R (.ok (.ret .notImplemented)) s) :=
  .of_wp fun prog w A R s h => by obtain ⟨hp, g, d, tk, os⟩ := s; obtain ⟨hl, h⟩ := h; have f1 := F.sub_str_dict; wp_walk using wpAny_load hl; exact ⟨_, rfl, h⟩
theorem dict_ne_declines_str (l : Addr) (es : Array DictEntry) (n : Nat) (dd : Option Addr) (sl : Array (Option Value)) (b : Str) (u : Tok) :
    Meets (Builtin.«dict.__ne__» ⟨[.ref l, .str b u], []⟩) (fun _ R s => s.heap.get? l = some { cls := .type "dict", dict := dd, data := .dict es n, slots := sl } ∧ R (.ok (.ret .notImplemented)) s) :=
  .of_wp fun prog w A R s h => by obtain ⟨hp, g, d, tk, os⟩ := s; obtain ⟨hl, h⟩ := h; have f1 := F.sub_str_dict; wp_walk using wpAny_load hl; exact ⟨_, rfl, h⟩
theorem str_eq_declines_dict (b : Str) (u : Tok) (l : Addr) (es : Array DictEntry) (n : Nat) (dd : Option Addr) (sl : Array (Option Value)) :
    Meets (Builtin.«str.__eq__» ⟨[.str b u, .ref l], []⟩) (fun _ R s => s.heap.get? l = some { cls := .type "dict", dict := dd, data := .dict es n, slots := sl } ∧ R (.ok (.ret .notImplemented)) s) :=
  .of_wp fun prog w A R s h => by obtain ⟨hp, g, d, tk, os⟩ := s; obtain ⟨hl, h⟩ := h; wp_walk using wpAny_load hl; exact ⟨_, rfl, h⟩
theorem str_ne_declines_dict (b : Str) (u : Tok) (l : Addr) (es : Array DictEntry) (n : Nat) (dd : Option Addr) (sl : Array (Option Value)) :
    Meets (Builtin.«str.__ne__» ⟨[.str b u, .ref l], []⟩) (fun _ R s => s.heap.get? l = some { cls := .type "dict", dict := dd, data := .dict es n, slots := sl } ∧ R (.ok (.ret .notImplemented)) s) :=
  .of_wp fun prog w A R s h => by obtain ⟨hp, g, d, tk, os⟩ := s; obtain ⟨hl, h⟩ := h; wp_walk using wpAny_load hl; exact ⟨_, rfl, h⟩
theorem rc_dict_str {l : Addr} {dd : Option Addr} {es : Array DictEntry} {n : Nat} {sl : Array (Option Value)} (b : Str) (u : Tok) (ho : s.heap.get? l = some { cls := .type "dict", dict := dd, data := .dict es n, slots := sl }) (hu : A.units < cLine)
    {Q : Value → Shared → Prop} (h : Q (.bool false) s) : wpAny (model prog w) A (richCompare .Eq (.ref l) (.str b u)) Q E s :=
  PySem.SeqAt.rc_eq_decline_or (k := false) ⟨_, ho, rfl⟩ (typeIs_str s b u) (by decide) F.sub_str_dict F.slot_dict_eq F.slot_str_eq_refl
    (fun _ hq => call_meets F.slot_dict_eq ⟨_, ho, rfl⟩ F.entry_dict_eq (F.args_dict_eq_2 _ _) (dict_eq_declines_str l es n dd sl b u) ⟨ho, hq⟩)
    (fun _ hq => call_meets F.slot_str_eq_refl (typeIs_str s b u) F.entry_str_eq (F.args_str_eq_2 _ _) (str_eq_declines_dict b u l es n dd sl) ⟨ho, hq⟩)
    (fun _ hq => wpAny_of_eq (rfl : isSame (.ref l) (.str b u) = pure false) hq) (.inr hu) h
theorem rcNe_dict_str {l : Addr} {dd : Option Addr} {es : Array DictEntry} {n : Nat} {sl : Array (Option Value)} (b : Str) (u : Tok) (ho : s.heap.get? l = some { cls := .type "dict", dict := dd, data := .dict es n, slots := sl }) (hu : A.units < cLine)
    {Q : Value → Shared → Prop} (h : Q (.bool true) s) : wpAny (model prog w) A (richCompare .NotEq (.ref l) (.str b u)) Q E s :=
  PySem.SeqAt.rc_ne_decline_or (k := false) ⟨_, ho, rfl⟩ (typeIs_str s b u) (by decide) F.sub_str_dict F.slot_dict_ne F.slot_str_ne_refl
    (fun _ hq => call_meets F.slot_dict_ne ⟨_, ho, rfl⟩ F.entry_dict_ne (F.args_dict_ne_2 _ _) (dict_ne_declines_str l es n dd sl b u) ⟨ho, hq⟩)
    (fun _ hq => call_meets F.slot_str_ne_refl (typeIs_str s b u) F.entry_str_ne (F.args_str_ne_2 _ _) (str_ne_declines_dict b u l es n dd sl) ⟨ho, hq⟩)
    (fun _ hq => wpAny_of_eq (rfl : isSame (.ref l) (.str b u) = pure false) hq) (.inr hu) h
end
end DataQ
namespace L2
open PySem PySem.Spec PyProof.Rows
/-- the data is this text -/
def isS (z : Str) : PyData → Bool
  | .str y => decide (y = z)
  | _ => false
section
variable {X : Cx}
def rEqGS (K : PySem.W.Frag) : R2 := fun x y H Q => ∃ d m z, Dg K H m x d ∧ y = .str z ∧ Q (.bl (isS z d)) H
def rNeGS (K : PySem.W.Frag) : R2 := fun x y H Q => ∃ d m z, Dg K H m x d ∧ y = .str z ∧ Q (.bl (!isS z d)) H
theorem op_eqGS (hu : X.A.units + 64 < cLine) : OpR X (compareOp .Eq) (rEqGS X.K) := by
  intro pins s σ H x y v u Q I rx ry h
  obtain ⟨d, m, z, hd, rfl, q⟩ := h
  have hu' : X.A.units < cLine := by omega
  obtain ⟨as, rd, _⟩ := Dg.reads I d x v hd rx
  obtain ⟨t, rfl⟩ := ry
  cases hd with
  | non => exact op_eq pins s σ H .non (.str z) _ _ Q I rx ⟨t, rfl⟩ ⟨rfl, by rw [decide_eq_false (fun e => V.noConfusion e)]; exact q⟩
  | bl b => exact op_eq pins s σ H (.bl b) (.str z) _ _ Q I rx ⟨t, rfl⟩ ⟨rfl, by rw [decide_eq_false (fun e => V.noConfusion e)]; exact q⟩
  | int i => exact op_eq pins s σ H (.int i) (.str z) _ _ Q I rx ⟨t, rfl⟩ ⟨rfl, by rw [decide_eq_false (fun e => V.noConfusion e)]; exact q⟩
  | str y =>
    refine op_eq pins s σ H (.str y) (.str z) _ _ Q I rx ⟨t, rfl⟩ ⟨rfl, ?_⟩
    have e : decide (V.str y = V.str z) = isS z (.str y) := by
      show _ = decide (y = z)
      rw [Bool.eq_iff_iff]; simp
    rw [e]; exact q
  | lst h1 h2 h3 =>
    obtain rfl : v = Value.ref _ := rx
    obtain ⟨its, rv, ⟨o, n, ho, hc, _, hdd⟩, _⟩ := I.list h1
    exact PySem.SeqAt.RcAt.list_str z t ⟨o, ho, hc, n, hdd⟩ hu' X.prog X.w _ _ ⟨.bl _, H, I, rfl, q⟩
  | tup h1 h2 =>
    obtain rfl : v = Value.ref _ := rx
    obtain ⟨its, rv, ⟨o, ho, hc, n, hdd⟩, _⟩ := I.tuple h1
    exact PySem.SeqAt.RcAt.tuple_str z t ⟨o, ho, hc, n, hdd⟩ hu' X.prog X.w _ _ ⟨.bl _, H, I, rfl, q⟩
  | @emp a h1 ha =>
    obtain rfl : v = Value.ref _ := rx
    obtain ⟨_, hsys, vs, hkv, od, es, ep, hget, hcl, hdat, hko, hps, _⟩ : ObjOk X.prog X.w H s.heap a (.dK []) := I.hok a _ ha
    obtain ⟨oc, odd, odt, osl⟩ := od
    obtain ⟨hc1, hc2⟩ := hcl
    simp only at hc1 hdat
    subst hc1 hdat
    exact DataQ.rc_dict_str z t hget hu' ⟨.bl _, H, I, rfl, q⟩
  | @dct a l h1 ha =>
    obtain rfl : v = Value.ref _ := rx
    obtain ⟨_, hsys, vs, hkv, od, es, ep, hget, hcl, hdat, hko, hps, _⟩ : ObjOk X.prog X.w H s.heap a (.dK (l.map kvV)) := I.hok a _ ha
    obtain ⟨oc, odd, odt, osl⟩ := od
    obtain ⟨hc1, hc2⟩ := hcl
    simp only at hc1 hdat
    subst hc1 hdat
    exact DataQ.rc_dict_str z t hget hu' ⟨.bl _, H, I, rfl, q⟩
theorem op_neGS (hu : X.A.units + 64 < cLine) : OpR X (compareOp .NotEq) (rNeGS X.K) := by
  intro pins s σ H x y v u Q I rx ry h
  obtain ⟨d, m, z, hd, rfl, q⟩ := h
  have hu' : X.A.units < cLine := by omega
  obtain ⟨as, rd, _⟩ := Dg.reads I d x v hd rx
  obtain ⟨t, rfl⟩ := ry
  cases hd with
  | non => exact op_ne pins s σ H .non (.str z) _ _ Q I rx ⟨t, rfl⟩ ⟨rfl, by rw [decide_eq_false (fun e => V.noConfusion e)]; exact q⟩
  | bl b => exact op_ne pins s σ H (.bl b) (.str z) _ _ Q I rx ⟨t, rfl⟩ ⟨rfl, by rw [decide_eq_false (fun e => V.noConfusion e)]; exact q⟩
  | int i => exact op_ne pins s σ H (.int i) (.str z) _ _ Q I rx ⟨t, rfl⟩ ⟨rfl, by rw [decide_eq_false (fun e => V.noConfusion e)]; exact q⟩
  | str y =>
    refine op_ne pins s σ H (.str y) (.str z) _ _ Q I rx ⟨t, rfl⟩ ⟨rfl, ?_⟩
    have e : decide (V.str y = V.str z) = isS z (.str y) := by
      show _ = decide (y = z)
      rw [Bool.eq_iff_iff]; simp
    rw [e]; exact q
  | lst h1 h2 h3 =>
    obtain rfl : v = Value.ref _ := rx
    obtain ⟨its, rv, ⟨o, n, ho, hc, _, hdd⟩, _⟩ := I.list h1
    exact PySem.SeqAt.RcNeAt.list_str z t ⟨o, ho, hc, n, hdd⟩ hu' X.prog X.w _ _ ⟨.bl _, H, I, rfl, q⟩
  | tup h1 h2 =>
    obtain rfl : v = Value.ref _ := rx
    obtain ⟨its, rv, ⟨o, ho, hc, n, hdd⟩, _⟩ := I.tuple h1
    exact PySem.SeqAt.RcNeAt.tuple_str z t ⟨o, ho, hc, n, hdd⟩ hu' X.prog X.w _ _ ⟨.bl _, H, I, rfl, q⟩
  | @emp a h1 ha =>
    obtain rfl : v = Value.ref _ := rx
    obtain ⟨_, hsys, vs, hkv, od, es, ep, hget, hcl, hdat, hko, hps, _⟩ : ObjOk X.prog X.w H s.heap a (.dK []) := I.hok a _ ha
    obtain ⟨oc, odd, odt, osl⟩ := od
    obtain ⟨hc1, hc2⟩ := hcl
    simp only at hc1 hdat
    subst hc1 hdat
    exact DataQ.rcNe_dict_str z t hget hu' ⟨.bl _, H, I, rfl, q⟩
  | @dct a l h1 ha =>
    obtain rfl : v = Value.ref _ := rx
    obtain ⟨_, hsys, vs, hkv, od, es, ep, hget, hcl, hdat, hko, hps, _⟩ : ObjOk X.prog X.w H s.heap a (.dK (l.map kvV)) := I.hok a _ ha
    obtain ⟨oc, odd, odt, osl⟩ := od
    obtain ⟨hc1, hc2⟩ := hcl
    simp only at hc1 hdat
    subst hc1 hdat
    exact DataQ.rcNe_dict_str z t hget hu' ⟨.bl _, H, I, rfl, q⟩
/-- a list display, which does not lie where the modules lie -/
def tLstS (t : TA) : TE := fun σ H Q => t σ H fun xs H1 => xs.length ≤ sizeLine ∧ ∀ l, H1 l = none → (l == sysModules) = false → Q (.ref l) (upd H1 l (.lst xs))
theorem pe_lstS {es : List Expr} {pos : Pos} {t : TA} (h : PA X es t) : PE X (.List es pos) (tLstS t) := by
  refine ⟨fun pins s σ H Q I hq => ?_⟩
  refine wpAny_List_spliced (thn (h.run pos pins s σ H _ I hq) fun us s1 ⟨xs, H1, I1, r, z, q⟩ => ⟨by rw [← r.length]; exact z, ?_⟩)
  have hf : H1 s1.heap.objs.size = none := I1.hok.fresh (Nat.le_refl _)
  have hb := I1.big
  refine ⟨.ref s1.heap.objs.size, upd H1 s1.heap.objs.size (.lst xs), I1.laid (t' := s1.toks) (fun b u e => Heap.get?_push_of_some _ e) (Nat.le_refl _) ?_, rfl, q _ hf ?_⟩
  · exact ⟨z, us, 0, r, Heap.get?_push_size _ rfl⟩
  · rw [beq_eq_false_iff_ne]
    exact Ne.symm (Nat.ne_of_lt hb)
/-- xs != [] -/
def rNeNil : R2 := fun x y H Q => ∃ p q xs, x = .ref p ∧ y = .ref q ∧ H p = some (.lst xs) ∧ H q = some (.lst []) ∧ Q (.bl (!decide (xs = []))) H
theorem op_ne_nil (hu : X.A.units < cLine) : OpR X (compareOp .NotEq) rNeNil := by
  intro pins s σ H x y v u Q I rx ry h
  obtain ⟨p, q, xs, rfl, rfl, hp, hq, k⟩ := h
  cases (show v = Value.ref p from rx)
  cases (show u = Value.ref q from ry)
  obtain ⟨z1, its, n, r1, hl, e1⟩ := I.lstM hp
  obtain ⟨z2, its2, n2, r2, hl2, e2⟩ := I.lstM hq
  cases r2
  have L2 : s.heap.IsList q (#[] : Array Value) := ⟨_, e2, rfl, _, rfl⟩
  have L1 : s.heap.IsList p its.toArray := ⟨_, e1, rfl, _, rfl⟩
  by_cases e : xs = []
  · subst e
    cases r1
    have := PySem.SeqAt.RcNeAt.lists (e := fun _ => true) L1 L2 rfl hu (fun j h1 _ => absurd h1 (Nat.not_lt_zero j))
    exact this X.prog X.w _ _ ⟨.bl _, H, I, rfl, k⟩
  · rw [decide_eq_false e] at k
    have l := r1.length
    have := List.length_pos_iff.mpr e
    exact PySem.SeqAt.RcNeAt.lists_lengths L1 L2 (by simp only [List.size_toArray, bne_iff_ne, ne_eq]; show ¬ its.length = 0; omega) hu X.prog X.w _ _ ⟨.bl _, H, I, rfl, k⟩
/-- D is a dict of the module that tells numbers for texts -/
def KTab (K : PySem.W.Frag) (w : World) (D : Addr) (f : Str → Option Int) : Prop := (∃ es n, KDict K w D es n) ∧ ∀ z, match f z with | none => PySem.W.nsIn K D z = some none | some i => ∃ t, PySem.W.nsIn K D z = some (some (.int i t))
def rNotInTab (D : Addr) (f : Str → Option Int) : R2 := fun x y H Q => ∃ z, x = .str z ∧ y = .ref D ∧ Q (.bl (f z).isNone) H
theorem op_notIn_tab {D : Addr} {f : Str → Option Int} (T : KTab X.K X.w D f) : OpR X (compareOp .NotIn) (rNotInTab D f) := by
  obtain ⟨⟨es, n, kd⟩, hv⟩ := T
  intro pins s σ H x y v u Q I rx ry h
  obtain ⟨z, rfl, rfl, q⟩ := h
  have e := hv z
  cases hf : f z with
  | none =>
    rw [hf] at e q
    exact op_notIn_kd kd pins s σ H _ _ v u Q I rx ry ⟨z, none, rfl, rfl, e, q⟩
  | some i =>
    rw [hf] at e q
    obtain ⟨t, e⟩ := e
    exact op_notIn_kd kd pins s σ H _ _ v u Q I rx ry ⟨z, _, rfl, rfl, e, q⟩
def rIxTab (D : Addr) (f : Str → Option Int) : R2 := fun x y H Q => ∃ z i, x = .ref D ∧ y = .str z ∧ f z = some i ∧ Q (.int i) H
theorem ix_tab {D : Addr} {f : Str → Option Int} (T : KTab X.K X.w D f) : IxR X (rIxTab D f) := by
  obtain ⟨⟨es, n, kd⟩, hv⟩ := T
  intro value slice pins s σ H x y v u Q I rx ry h hs
  obtain ⟨z, i, rfl, rfl, hf, q⟩ := h
  have e := hv z
  rw [hf] at e
  obtain ⟨t, e⟩ := e
  exact ix_kdict value slice pins s σ H _ _ v u Q I rx ry ⟨D, z, .int i, rfl, rfl, ⟨es, n, _, kd.at_, kd.lit, e, ⟨t, rfl⟩⟩, q⟩ hs
theorem call_list_ofS : CallR X (.type "list") (fun xs H Q => ∃ p ys, xs = [.ref p] ∧ (SqL X.K H p ys ∨ SqT X.K H p ys) ∧ ∀ l, H l = none → (l == sysModules) = false → Q (.ref l) (upd H l (.lst ys))) := by
  intro pins s σ H xs us Q I r h
  obtain ⟨p, ys, rfl, hq, q⟩ := h
  obtain ⟨u, rfl, rx⟩ := vals1 r
  cases rx
  have hb := I.big
  have fin : ∀ (its : List Value), Vals ys its → ys.length ≤ sizeLine → ∀ (h' : Heap) (c' : Nat), (∀ b o', s.heap.get? b = some o' → h'.get? b = some o') →
      h'.get? s.heap.objs.size = some { cls := .type "list", dict := none, data := .seq its.toArray c', slots := #[] } → EP X pins σ Q (.ref s.heap.objs.size) { s with heap := h' } := fun its r' hz h' c' kp e =>
    ⟨.ref s.heap.objs.size, _, I.laid (t' := s.toks) kp (Nat.le_refl _) (show ObjOk X.prog X.w _ h' _ (.lst ys) from ⟨hz, its, c', r', e⟩), rfl, q _ (I.hok.fresh (Nat.le_refl _)) (beq_eq_false_iff_ne.mpr (Ne.symm (Nat.ne_of_lt hb)))⟩
  rcases hq with hq | hq
  · obtain ⟨its, r', pl, hz⟩ := I.list hq
    have hlen := r'.length
    obtain ⟨o, ho, hc, n, hd⟩ := pl.isList
    exact call_list_seq p (.inl rfl) ho hc hd (fun h' c' kp e => fin its r' hz h' c' kp e) (by simp only [List.size_toArray] <;> omega)
  · obtain ⟨its, r', pl, hz⟩ := I.tuple hq
    have hlen := r'.length
    obtain ⟨o, ho, hc, n, hd⟩ := pl
    exact call_list_seq p (.inr rfl) ho hc hd (fun h' c' kp e => fin its r' hz h' c' kp e) (by simp only [List.size_toArray] <;> omega)
theorem ix_tupK {K : PySem.W.Frag} (e : X.K = K) : IxR X (rIxT K) := by rw [← e]; exact ix_tup
theorem op_eqGSK {K : PySem.W.Frag} (e : X.K = K) (hu : X.A.units + 64 < cLine) : OpR X (compareOp .Eq) (rEqGS K) := by subst e; exact op_eqGS hu
theorem op_neGSK {K : PySem.W.Frag} (e : X.K = K) (hu : X.A.units + 64 < cLine) : OpR X (compareOp .NotEq) (rNeGS K) := by subst e; exact op_neGS hu
theorem sl_tupAK {K : PySem.W.Frag} (e : X.K = K) : SlR X (rSlA K) := by subst e; exact sl_tupA
end
theorem tab_keys {P : Params} {z : Str} : ∀ {l : List DictEntry} {ks : List Str}, l.map He.keyOf = He.keysIn P ks → z ∉ ks → l.find? (·.key.isStr z) = none ∧ l.any (·.refKey) = false
  | [], _, _, _ => ⟨rfl, rfl⟩
  | e :: r, [], h, _ => by cases h
  | e :: r, k :: ks, h, n => by
    have h1 : He.keyOf e :: r.map He.keyOf = some (k, PyData.keyHash P k) :: He.keysIn P ks := h
    injection h1 with h2 h3
    obtain ⟨i1, i2⟩ := tab_keys h3 (fun z => n (List.mem_cons_of_mem _ z))
    unfold He.keyOf at h2
    split at h2
    · rename_i x t q
      have h4 := Option.some.inj h2
      obtain ⟨h5, h6⟩ := Prod.mk.inj h4
      have e1 : e.key.isStr z = false := by
        rw [q, h5]
        show (k == z) = false
        exact beq_eq_false_iff_ne.mpr fun e => n (by rw [← e]; exact List.mem_cons_self)
      have e2 : e.refKey = false := by unfold DictEntry.refKey; rw [q]
      exact ⟨by rw [List.find?_cons_of_neg (by rw [e1]; exact Bool.false_ne_true)]; exact i1, by rw [List.any_cons, e2, i2]; rfl⟩
    · cases h2
theorem tab_none {K : PySem.W.Frag} {P : Params} {D : Addr} {ks : List Str} {z : Str} (h : He.dicW K D = some (He.keysIn P ks)) (hz : z ∉ ks) : PySem.W.nsIn K D z = some none := by
  unfold He.dicW at h
  unfold PySem.W.nsIn
  cases q : K.lookup D with
  | none => rw [q] at h; cases h
  | some o =>
    obtain ⟨oc, od, dt, osl⟩ := o
    rw [q] at h
    cases oc with
    | type c =>
      cases od with
      | none =>
        cases dt with
        | dict es n =>
          have h1 : (match decide (c = "dict") && (osl.isEmpty && !(D == sysModules)) with
            | true => some (es.toList.map He.keyOf)
            | false => none) = some (He.keysIn P ks) := h
          split at h1
          · obtain ⟨a, b⟩ := tab_keys (Option.some.inj h1) hz
            show (match es.toList.find? (·.key.isStr z) with
              | some e => some (some e.val)
              | none => if es.toList.any (·.refKey) then none else some none) = some none
            rw [a, b]; rfl
          · cases h1
        | _ => cases h
      | some _ => cases h
    | _ => cases h
end L2

set_option Elab.async false
set_option linter.all false
set_option maxRecDepth 100000
set_option maxHeartbeats 4000000
/-! Data beside the box of draws; displays of data. -/
namespace My
open PySem PySem.Spec PyProof.Rows L2
/-- the heap without p -/
def wo (H : Hp) (p : Addr) : Hp := fun b => if b = p then none else H b
theorem wo_ne {H : Hp} {p b : Addr} (h : b ≠ p) : wo H p b = H b := by unfold wo; rw [if_neg h]
theorem wo_at {H : Hp} {p : Addr} : wo H p p = none := by unfold wo; rw [if_pos rfl]
theorem wo_le {H : Hp} {p b : Addr} {o : HO} (h : wo H p b = some o) : H b = some o := by
  by_cases e : b = p
  · rw [e, wo_at] at h; cases h
  · rw [wo_ne e] at h; exact h
theorem wo_upd {H : Hp} {p : Addr} {o : HO} : wo (upd H p o) p = wo H p := by
  funext b
  by_cases e : b = p
  · rw [e, wo_at, wo_at]
  · rw [wo_ne e, wo_ne e, upd_ne e]
theorem Kp.wo {p : Addr} {H H' : Hp} (k : Kp p H H') : Same (wo H p) (wo H' p) := fun b o e => by
  have n : b ≠ p := fun z => by rw [z, wo_at] at e; cases e
  rw [wo_ne n] at e ⊢
  exact k b o n e
theorem wo_same (H : Hp) (p : Addr) : Same (wo H p) H := fun _ _ e => wo_le e
/-- data, of which p is no part -/
abbrev Dw (K : PySem.W.Frag) (p : Addr) (H : Hp) (m : Bool) (x : V) (d : PyData) : Prop := Dg K (wo H p) m x d
abbrev DwAll (K : PySem.W.Frag) (p : Addr) (H : Hp) (m : Bool) (xs : List V) (ds : List PyData) : Prop := DgAll K (wo H p) m xs ds
theorem _root_.L2.Dg.kp {K : PySem.W.Frag} {p : Addr} {H H' : Hp} {m : Bool} {x : V} {d : PyData} (h : Dw K p H m x d) (k : Kp p H H') : Dw K p H' m x d := h.ext k.wo
theorem _root_.L2.DgAll.kp {K : PySem.W.Frag} {p : Addr} {H H' : Hp} {m : Bool} {x : List V} {d : List PyData} (h : DwAll K p H m x d) (k : Kp p H H') : DwAll K p H' m x d := h.ext k.wo
theorem _root_.L2.Dg.dg {K : PySem.W.Frag} {p : Addr} {H : Hp} {m : Bool} {x : V} {d : PyData} (h : Dw K p H m x d) : Dg K H m x d := h.ext (wo_same H p)
theorem _root_.L2.DgAll.dg {K : PySem.W.Frag} {p : Addr} {H : Hp} {m : Bool} {x : List V} {d : List PyData} (h : DwAll K p H m x d) : DgAll K H m x d := h.ext (wo_same H p)
theorem wo_new {H : Hp} {p q : Addr} {o : HO} (h : q ≠ p) : wo (upd H q o) p = upd (wo H p) q o := by
  funext b
  by_cases e : b = p
  · rw [e, wo_at, upd_ne (Ne.symm h), wo_at]
  · rw [wo_ne e]
    by_cases e2 : b = q
    · rw [e2, upd_same, upd_same]
    · rw [upd_ne e2, upd_ne e2, wo_ne e]
/-- a part of the heap that keeps what stands beside p, and all new things -/
structure Res (p : Addr) (H : Hp) (w : Hp → Hp) : Prop where
  sub : ∀ G, Same (w G) G
  kp : ∀ {G G' : Hp}, Kp p G G' → Same (w G) (w G')
  new : ∀ {G : Hp} {r : Addr} {o : HO}, Kp p H G → G p ≠ none → G r = none → w (L2.upd G r o) r = some o
theorem Res.mono {p : Addr} {H H' : Hp} {w : Hp → Hp} (R : Res p H w) (k : Kp p H H') : Res p H' w := ⟨R.sub, R.kp, fun k' n hr => R.new (k.trans k') n hr⟩
theorem res_p {p : Addr} {H : Hp} : Res p H (fun G => wo G p) := ⟨fun G => wo_same G p, fun k => k.wo, fun {G r o} _ n hr => by
  have nr : r ≠ p := fun z => n (by rw [← z]; exact hr)
  show wo (L2.upd G r o) p r = some o
  rw [wo_ne nr]; exact upd_same⟩
theorem res_two {p D : Addr} {H : Hp} {ob : HO} (hD : H D = some ob) (n : D ≠ p) : Res p H (fun G => wo (wo G p) D) := ⟨fun G => fun b o e => wo_le (wo_le e), fun {G G'} k => fun b o e => by
  have n : b ≠ D := fun z => by rw [z, wo_at] at e; cases e
  rw [wo_ne n] at e ⊢
  exact k.wo b o e, fun {G r o} k np hr => by
  have nr : r ≠ p := fun z => np (by rw [← z]; exact hr)
  have nD : r ≠ D := fun z => by rw [z, k D ob n hD] at hr; cases hr
  show wo (wo (L2.upd G r o) p) D r = some o
  rw [wo_ne nD, wo_ne nr]; exact upd_same⟩
theorem _root_.L2.Dg.rk {K : PySem.W.Frag} {p : Addr} {H H' H0 : Hp} {w : Hp → Hp} {m : Bool} {x : V} {d : PyData} (h : Dg K (w H) m x d) (R : Res p H0 w) (k : Kp p H H') : Dg K (w H') m x d := h.ext (R.kp k)
theorem _root_.L2.DgAll.rk {K : PySem.W.Frag} {p : Addr} {H H' H0 : Hp} {w : Hp → Hp} {m : Bool} {x : List V} {d : List PyData} (h : DgAll K (w H) m x d) (R : Res p H0 w) (k : Kp p H H') : DgAll K (w H') m x d := h.ext (R.kp k)
/-! ### displays -/
section
variable {K : PySem.W.Frag} {m : Bool} {p : Addr} {σ : L2.St} {H : Hp} {w : Hp → Hp}
/-- an expression gives the data d, and what stood stands -/
def EvD (K : PySem.W.Frag) (m : Bool) (p : Addr) (w : Hp → Hp) (te : TE) (σ : L2.St) (H : Hp) (d : PyData) : Prop :=
  ∀ H1, Kp p H H1 → H1 p ≠ none → ∀ Q : VK, (∀ x H', Same H1 H' → Dg K (w H') m x d → Q x H') → te σ H1 Q
def EvDs (K : PySem.W.Frag) (m : Bool) (p : Addr) (w : Hp → Hp) (ta : TA) (σ : L2.St) (H : Hp) (ds : List PyData) : Prop :=
  ∀ H1, Kp p H H1 → H1 p ≠ none → ∀ Q : List V → Hp → Prop, (∀ xs H', Same H1 H' → DgAll K (w H') m xs ds → Q xs H') → ta σ H1 Q
def EvI (p : Addr) (te : TE) (σ : L2.St) (H : Hp) (i : Int) : Prop :=
  ∀ H1, Kp p H H1 → H1 p ≠ none → ∀ Q : VK, (∀ H', Same H1 H' → Q (.int i) H') → te σ H1 Q
theorem same_at {H H' : Hp} {p : Addr} (s : Same H H') (h : H p ≠ none) : H' p ≠ none := fun z => by
  cases e : H p with
  | none => exact h e
  | some o => rw [s _ _ e] at z; cases z
theorem evD_c {x : V} {d : PyData} (h : ∀ G, Dg K G m x d) : EvD K m p w (tC x) σ H d := fun H1 _ _ Q q => q x H1 (Same.refl _) (h _)
theorem evD_int (i : Int) : EvD K m p w (tC (.int i)) σ H (.int i) := evD_c fun _ => .int i
theorem evD_str (z : Str) : EvD K m p w (tC (.str z)) σ H (.str z) := evD_c fun _ => .str z
theorem evD_bl (b : Bool) : EvD K m p w (tC (.bl b)) σ H (.bool b) := evD_c fun _ => .bl b
theorem evD_non : EvD K m p w (tC .non) σ H .none := evD_c fun _ => .non
theorem evD_var (R : Res p H w) {i : Nat} {x : V} {d : PyData} (e : σ[i]? = some (some x)) (h : Dg K (w H) m x d) : EvD K m p w (tVar i) σ H d :=
  fun H1 k _ Q q => ⟨x, e, q x H1 (Same.refl _) (h.rk R k)⟩
theorem evI_var {i : Nat} {j : Int} (e : σ[i]? = some (some (.int j))) : EvI p (tVar i) σ H j := fun H1 _ _ Q q => ⟨_, e, q H1 (Same.refl _)⟩
theorem evI_c (j : Int) : EvI p (tC (.int j)) σ H j := fun H1 _ _ Q q => q H1 (Same.refl _)
theorem evD_I {te : TE} {j : Int} (h : EvI p te σ H j) : EvD K m p w te σ H (.int j) := fun H1 k n Q q => h H1 k n Q fun H' s => q _ _ s (.int j)
theorem evI_op {ta tb : TE} {i j : Int} {g : Int → Int → Int} (ha : EvI p ta σ H i) (hb : EvI p tb σ H j) : EvI p (tOp (rI0 fun i j => .int (g i j)) ta tb) σ H (g i j) :=
  fun H1 k n Q q => ha H1 k n _ fun H2 s2 => hb H2 (k.trans (Kp.of s2)) (same_at s2 n) _ fun H3 s3 => ⟨_, _, rfl, rfl, q _ (s2.trans s3)⟩
theorem evI_opC {ta tb : TE} {i j : Int} {C : Int → Int → Prop} {g : Int → Int → Int} (ha : EvI p ta σ H i) (hb : EvI p tb σ H j) (c : C i j) : EvI p (tOp (rI C fun i j => .int (g i j)) ta tb) σ H (g i j) :=
  fun H1 k n Q q => ha H1 k n _ fun H2 s2 => hb H2 (k.trans (Kp.of s2)) (same_at s2 n) _ fun H3 s3 => ⟨_, _, rfl, rfl, c, q _ (s2.trans s3)⟩
theorem evDs_nil : EvDs K m p w tNil σ H [] := fun H1 _ _ Q q => q [] H1 (Same.refl _) .nil
theorem evDs_cons (R : Res p H w) {te : TE} {ta : TA} {d : PyData} {ds : List PyData} (h : EvD K m p w te σ H d) (t : EvDs K m p w ta σ H ds) : EvDs K m p w (tCons te ta) σ H (d :: ds) :=
  fun H1 k n Q q => h H1 k n _ fun x H2 s2 dx => t H2 (k.trans (Kp.of s2)) (same_at s2 n) _ fun xs H3 s3 dxs => q _ _ (s2.trans s3) (.cons (dx.rk R (Kp.of s3)) dxs)
theorem evD_tup (R : Res p H w) {ta : TA} {ds : List PyData} (h : EvDs K m p w ta σ H ds) (l : ds.length ≤ 1000) : EvD K m p w (tTup ta) σ H (.tuple ds) :=
  fun H1 k n Q q => h H1 k n _ fun xs H2 s2 dxs => ⟨by rw [dxs.len]; exact Nat.le_trans l (by decide), fun r hr => by
    have nr : r ≠ p := fun z => same_at s2 n (by rw [← z]; exact hr)
    have s3 : Same H2 (upd H2 r (.tup xs)) := Same.new (Same.refl _) hr
    exact q _ _ (s2.trans s3) (.tup (SqT.of (R.new (k.trans (Kp.of s2)) (same_at s2 n) hr)) (dxs.rk R (Kp.of s3)))⟩
theorem evD_lst (R : Res p H w) {ta : TA} {ds : List PyData} (h : EvDs K false p w ta σ H ds) (l : ds.length ≤ 1000) : EvD K false p w (tLst ta) σ H (.list ds) :=
  fun H1 k n Q q => h H1 k n _ fun xs H2 s2 dxs => ⟨by rw [dxs.len]; exact Nat.le_trans l (by decide), fun r hr => by
    have nr : r ≠ p := fun z => same_at s2 n (by rw [← z]; exact hr)
    have s3 : Same H2 (upd H2 r (.lst xs)) := Same.new (Same.refl _) hr
    exact q _ _ (s2.trans s3) (.lst (SqL.of (R.new (k.trans (Kp.of s2)) (same_at s2 n) hr)) (fun z => by cases z) (dxs.rk R (Kp.of s3)))⟩
theorem evD_lstS (R : Res p H w) {ta : TA} {ds : List PyData} (h : EvDs K m p w ta σ H ds) (l : ds.length ≤ 1000) : EvD K m p w (tLstS ta) σ H (.list ds) :=
  fun H1 k n Q q => h H1 k n _ fun xs H2 s2 dxs => ⟨by rw [dxs.len]; exact Nat.le_trans l (by decide), fun r hr hl => by
    have nr : r ≠ p := fun z => same_at s2 n (by rw [← z]; exact hr)
    have s3 : Same H2 (upd H2 r (.lst xs)) := Same.new (Same.refl _) hr
    exact q _ _ (s2.trans s3) (.lst (SqL.of (R.new (k.trans (Kp.of s2)) (same_at s2 n) hr)) (fun _ => hl) (dxs.rk R (Kp.of s3)))⟩
theorem evD_emp (R : Res p H w) : EvD K true p w tDNewK σ H (.dict []) := fun H1 k n Q q r hr => by
  have nr : r ≠ p := fun z => n (by rw [← z]; exact hr)
  exact q _ _ (Same.new (Same.refl _) hr) (.emp rfl (R.new k n hr))
/-- a display that is assigned, or handed back -/
theorem EvD.here {te : TE} {d : PyData} (h : EvD K m p w te σ H d) (n : H p ≠ none) {Q : VK} (q : ∀ x H', Same H H' → Dg K (w H') m x d → Q x H') : te σ H Q := h H (Kp.refl p H) n Q q
end
theorem BoxAt.some {H : Hp} {p : Addr} {n : Nat} (h : BoxAt H p n) : H p ≠ none := by
  obtain ⟨o, e, _⟩ := h
  rw [e]; exact fun z => by cases z
section
variable {K : PySem.W.Frag} {p : Addr} {σ : L2.St} {H : Hp} {w : Hp → Hp}
theorem evD_listOf (R : Res p H w) {te : TE} {ds : List PyData} (h : EvD K true p w te σ H (.tuple ds)) :
    EvD K true p w (tCB (fun xs H Q => ∃ p ys, xs = [.ref p] ∧ (SqL K H p ys ∨ SqT K H p ys) ∧ ∀ l, H l = none → (l == sysModules) = false → Q (.ref l) (L2.upd H l (.lst ys))) (tCons te tNil)) σ H (.list ds) := fun H1 k n Q q => h H1 k n _ fun x H2 s2 dx => by
  obtain ⟨a, xs, rfl, hs, ha⟩ := dx.tup_of
  have hs' : SqT K H2 a xs := hs.ext (R.sub H2)
  refine ⟨a, xs, rfl, .inr hs', fun l hl low => ?_⟩
  have nl : l ≠ p := fun z => same_at s2 n (by rw [← z]; exact hl)
  have s3 : Same H2 (L2.upd H2 l (.lst xs)) := Same.new (Same.refl _) hl
  exact q _ _ (s2.trans s3) (.lst (SqL.of (R.new (k.trans (Kp.of s2)) (same_at s2 n) hl)) (fun _ => low) (ha.rk R (Kp.of s3)))
theorem evD_catA (R : Res p H w) {m : Bool} {ta tb : TE} {ds es : List PyData} (ha : EvD K m p w ta σ H (.tuple ds)) (hb : EvD K m p w tb σ H (.tuple es)) (l : ds.length + es.length ≤ 10000) : EvD K m p w (tOp (rCatA K) ta tb) σ H (.tuple (ds ++ es)) :=
  fun H1 k n Q q => ha H1 k n _ fun x H2 s2 dx => hb H2 (k.trans (Kp.of s2)) (same_at s2 n) _ fun y H3 s3 dy => by
    have dx := dx.rk R (Kp.of s3)
    obtain ⟨a, xs, rfl, hs, hx⟩ := dx.tup_of
    obtain ⟨b, ys, rfl, ht, hy⟩ := dy.tup_of
    have lx := hx.len
    have ly := hy.len
    refine ⟨a, b, xs, ys, rfl, rfl, hs.ext (R.sub H3), ht.ext (R.sub H3), by rw [lx, ly]; exact Nat.le_trans l (by decide), fun e => ?_, fun _ e => ?_, fun _ _ r hr => ?_⟩
    · subst e
      have : ds = [] := List.length_eq_zero_iff.mp (by rw [← lx]; rfl)
      subst this
      exact q _ _ (s2.trans s3) dy
    · subst e
      have : es = [] := List.length_eq_zero_iff.mp (by rw [← ly]; rfl)
      subst this
      exact q _ _ (s2.trans s3) (by rw [List.append_nil]; exact dx)
    · have nr : r ≠ p := fun z => same_at (s2.trans s3) n (by rw [← z]; exact hr)
      have s4 : Same H3 (L2.upd H3 r (.tup (xs ++ ys))) := Same.new (Same.refl _) hr
      exact q _ _ ((s2.trans s3).trans s4) (.tup (SqT.of (R.new ((k.trans (Kp.of s2)).trans (Kp.of s3)) (same_at (s2.trans s3) n) hr)) ((hx.append hy).rk R (Kp.of s4)))
/-- te[:k], k written -/
theorem evD_head (R : Res p H w) {m : Bool} {te : TE} {ds : List PyData} (h : EvD K m p w te σ H (.tuple ds)) (k : Nat) : EvD K m p w (tSl (rSlA K) te tNoPart (tPart (tC (.int (k : Int))))) σ H (.tuple (ds.take k)) :=
  fun H1 kp n Q q => h H1 kp n _ fun x H2 s2 dx => by
    obtain ⟨a, xs, rfl, hs, hx⟩ := dx.tup_of
    have lx := hx.len
    refine ⟨_, rfl, a, xs, rfl, hs.ext (R.sub H2), fun e => ?_, fun _ r hr => ?_⟩
    · have e2 : HT.sIx xs.length xs.length (some (k : Int)) = xs.length := e.2
      rw [sIx_some] at e2
      exact q _ _ s2 (by rw [List.take_of_length_le (by omega)]; exact dx)
    · have nr : r ≠ p := fun z => same_at s2 n (by rw [← z]; exact hr)
      have s4 : Same H2 (L2.upd H2 r (.tup (cutV xs none (some (k : Int))))) := Same.new (Same.refl _) hr
      refine q _ _ (s2.trans s4) (.tup (SqT.of (R.new (kp.trans (Kp.of s2)) (same_at s2 n) hr)) ?_)
      rw [cutV_to]
      rw [cutV_to] at s4
      exact (hx.take k).rk R (Kp.of s4)
theorem evD_strI {m : Bool} {te : TE} {i : Int} (h : EvI p te σ H i) (l : i.natAbs.log2 < 1920) : EvD K m p w (tCB (fun xs H Q => ∃ i, xs = [.int i] ∧ i.natAbs.log2 < 1920 ∧ Q (.str (toString i)) H) (tCons te tNil)) σ H (.str (toString i)) :=
  fun H1 k n Q q => h H1 k n _ fun H2 s2 => ⟨i, rfl, l, q _ _ s2 (.str _)⟩
theorem evI_int1 {te : TE} {i : Int} (h : EvI p te σ H i) : EvI p (tCB (fun xs H Q => (∃ i, xs = [.int i] ∧ Q (.int i) H) ∨ ∃ k, xs = [.bl k] ∧ Q (.int (if k then 1 else 0)) H) (tCons te tNil)) σ H i :=
  fun H1 k n Q q => h H1 k n _ fun H2 s2 => .inl ⟨i, rfl, q _ s2⟩
/-- a list display of data, so that its items can be drawn -/
theorem menu_here (R : Res p H w) {P : PyData → Prop} {ta : TA} {Q : VK} {ds : List PyData} (n : H p ≠ none) (hd : Res p H w → EvDs K true p w ta σ H ds) (hp : ∀ d ∈ ds, P d) (h0 : 0 < ds.length) (h4 : ds.length ≤ 40)
    (q : ∀ M H' xs, Same H H' → H M = none → M ≠ p → H' M = some (.lst xs) → (M == sysModules) = false → DgAll K (w H') true xs ds → (∀ d ∈ ds, P d) → 0 < ds.length → ds.length ≤ 40 → Q (.ref M) H') : tLstS ta σ H Q := by
  refine hd R H (Kp.refl p H) n _ fun xs H2 s2 dxs => ⟨by rw [dxs.len]; exact Nat.le_trans h4 (by decide), fun r hr low => ?_⟩
  have nr : r ≠ p := fun z => same_at s2 n (by rw [← z]; exact hr)
  have s3 : Same H2 (L2.upd H2 r (.lst xs)) := Same.new (Same.refl _) hr
  exact q r _ xs (s2.trans s3) (s2.free hr) nr upd_same low (dxs.rk R (Kp.of s3)) hp h0 h4
end
theorem cutV_fr (xs : List V) (n : Nat) : cutV xs (some (n : Int)) none = xs.drop n := by
  unfold cutV
  rw [HT.sIx_none, sIx_some]
  rcases Nat.le_total n xs.length with h | h
  · rw [Nat.min_eq_left h, List.take_of_length_le (by rw [List.length_drop]; exact Nat.le_refl _)]
  · rw [Nat.min_eq_right h, List.drop_of_length_le h, List.drop_of_length_le (Nat.le_refl _), List.take_nil]
section
variable {K : PySem.W.Frag} {p : Addr} {H : Hp} {m : Bool} {x : V} {ds : List PyData} {Q : VK}
theorem sl_take (n : H p ≠ none) (dx : Dw K p H m x (.tuple ds)) (k : Nat) (q : ∀ y H', Same H H' → Dw K p H' m y (.tuple (ds.take k)) → Q y H') : rSlA K x none (some (k : Int)) H Q := by
  obtain ⟨a, xs, rfl, hs, hx⟩ := dx.tup_of
  have lx := hx.len
  refine ⟨a, xs, rfl, hs.ext (wo_same H p), fun e => ?_, fun _ r hr => ?_⟩
  · have e2 : HT.sIx xs.length xs.length (some (k : Int)) = xs.length := e.2
    rw [sIx_some] at e2
    exact q _ _ (Same.refl _) (by rw [List.take_of_length_le (by omega)]; exact dx)
  · have nr : r ≠ p := fun z => n (by rw [← z]; exact hr)
    rw [cutV_to]
    have s4 : Same H (L2.upd H r (.tup (xs.take k))) := Same.new (Same.refl _) hr
    exact q _ _ s4 (.tup (SqT.of (by rw [wo_ne nr]; exact upd_same)) ((hx.take k).kp (Kp.of s4)))
theorem sl_drop (n : H p ≠ none) (dx : Dw K p H m x (.tuple ds)) (k : Nat) (q : ∀ y H', Same H H' → Dw K p H' m y (.tuple (ds.drop k)) → Q y H') : rSlA K x (some (k : Int)) none H Q := by
  obtain ⟨a, xs, rfl, hs, hx⟩ := dx.tup_of
  have lx := hx.len
  refine ⟨a, xs, rfl, hs.ext (wo_same H p), fun e => ?_, fun _ r hr => ?_⟩
  · have e2 : HT.sIx xs.length 0 (some (k : Int)) = 0 := e.1
    rw [sIx_some] at e2
    have : ds.drop k = ds := by
      rcases Nat.eq_zero_or_pos k with z | z
      · rw [z, List.drop_zero]
      · have : ds = [] := List.length_eq_zero_iff.mp (by omega)
        rw [this]; simp
    exact q _ _ (Same.refl _) (by rw [this]; exact dx)
  · have nr : r ≠ p := fun z => n (by rw [← z]; exact hr)
    rw [cutV_fr]
    have s4 : Same H (L2.upd H r (.tup (xs.drop k))) := Same.new (Same.refl _) hr
    exact q _ _ s4 (.tup (SqT.of (by rw [wo_ne nr]; exact upd_same)) ((hx.drop k).kp (Kp.of s4)))
theorem cat_tup {y : V} {es : List PyData} (n : H p ≠ none) (dx : Dw K p H m x (.tuple ds)) (dy : Dw K p H m y (.tuple es)) (l : ds.length + es.length ≤ 10000) (q : ∀ z H', Same H H' → Dw K p H' m z (.tuple (ds ++ es)) → Q z H') : rCatA K x y H Q := by
  obtain ⟨a, xs, rfl, hs, hx⟩ := dx.tup_of
  obtain ⟨b, ys, rfl, ht, hy⟩ := dy.tup_of
  have lx := hx.len
  have ly := hy.len
  refine ⟨a, b, xs, ys, rfl, rfl, hs.ext (wo_same H p), ht.ext (wo_same H p), by rw [lx, ly]; exact Nat.le_trans l (by decide), fun e => ?_, fun _ e => ?_, fun _ _ r hr => ?_⟩
  · subst e
    have : ds = [] := List.length_eq_zero_iff.mp (by rw [← lx]; rfl)
    subst this
    exact q _ _ (Same.refl _) dy
  · subst e
    have : es = [] := List.length_eq_zero_iff.mp (by rw [← ly]; rfl)
    subst this
    exact q _ _ (Same.refl _) (by rw [List.append_nil]; exact dx)
  · have nr : r ≠ p := fun z => n (by rw [← z]; exact hr)
    have s4 : Same H (L2.upd H r (.tup (xs ++ ys))) := Same.new (Same.refl _) hr
    exact q _ _ s4 (.tup (SqT.of (by rw [wo_ne nr]; exact upd_same)) ((hx.append hy).kp (Kp.of s4)))
/-- a new tuple of one -/
theorem one_tup {d : PyData} (n : H p ≠ none) (dx : Dw K p H m x d) : ∀ r, H r = none → Same H (L2.upd H r (.tup [x])) ∧ Dw K p (L2.upd H r (.tup [x])) m (.ref r) (.tuple [d]) := fun r hr => by
  have nr : r ≠ p := fun z => n (by rw [← z]; exact hr)
  have s4 : Same H (L2.upd H r (.tup [x])) := Same.new (Same.refl _) hr
  exact ⟨s4, .tup (SqT.of (by rw [wo_ne nr]; exact upd_same)) (.cons (dx.kp (Kp.of s4)) .nil)⟩
end
/-- an item of a list of data -/
theorem _root_.L2.DgAll.nth {K : PySem.W.Frag} {H : Hp} {m : Bool} {xs : List V} {ds : List PyData} (h : DgAll K H m xs ds) {i : Nat} (l : i < ds.length) : ∃ x d, xs[i]? = some x ∧ ds[i]? = some d ∧ Dg K H m x d := by
  have l' : i < xs.length := by rw [h.len]; exact l
  obtain ⟨d, e, g⟩ := h.at i xs[i] (List.getElem?_eq_getElem l')
  exact ⟨_, d, List.getElem?_eq_getElem l', e, g⟩
/-! ### small data -/
def wid (k : Nat) : Nat := 100 * 6 ^ k
def Lv (k : Nat) (d : PyData) : Prop := Fit d k (wid k)
theorem lv_up {k : Nat} {d : PyData} (h : Lv k d) : Lv (k + 1) d := Fit.mono h (Nat.le_succ _) (by unfold wid; rw [Nat.pow_succ]; omega)
theorem FitAll.all {k w : Nat} : ∀ {ds : List PyData}, (∀ d ∈ ds, Fit d k w) → FitAll ds k ((w + 1) * ds.length)
  | [], _ => FitAll.nil
  | d :: ds, h => (FitAll.cons (h d List.mem_cons_self) (FitAll.all fun e he => h e (List.mem_cons_of_mem _ he))).mono (Nat.le_refl _) (by rw [List.length_cons, Nat.mul_succ]; omega)
theorem lv_len {k n : Nat} (h : n ≤ 5) : (wid k + 1) * n ≤ wid (k + 1) := by
  have e : wid (k + 1) = 6 * wid k := by unfold wid; rw [Nat.pow_succ]; omega
  have p : 100 ≤ wid k := by unfold wid; exact Nat.le_mul_of_pos_right 100 (Nat.pow_pos (by decide))
  rw [e]
  have := Nat.mul_le_mul_left (wid k + 1) h
  omega
theorem lv_tup {k : Nat} {ds : List PyData} (h : ∀ d ∈ ds, Lv k d) (l : ds.length ≤ 5) : Lv (k + 1) (.tuple ds) := Fit.mono (Fit.tuple (FitAll.all h)) (Nat.le_refl _) (lv_len l)
theorem lv_lst {k : Nat} {ds : List PyData} (h : ∀ d ∈ ds, Lv k d) (l : ds.length ≤ 5) : Lv (k + 1) (.list ds) := Fit.mono (Fit.list (FitAll.all h)) (Nat.le_refl _) (lv_len l)
theorem lv0 {d : PyData} (k : Nat) (h : Lv 0 d) : Lv k d := by
  induction k with
  | zero => exact h
  | succ k ih => exact lv_up ih
theorem lv_non {k : Nat} : Lv k .none := lv0 k (Fit.none.mono (Nat.le_refl _) (Nat.zero_le _))
theorem lv_bl {k : Nat} {b : Bool} : Lv k (.bool b) := lv0 k (Fit.bool.mono (Nat.le_refl _) (Nat.zero_le _))
theorem fit_int {i : Int} {k : Nat} (h : i.natAbs < 10 ^ 30) : Fit (.int i) k 100 := by
  have lg : i.natAbs.log2 < 100 := PySem.Flt.log2_lt_of (by decide) (Nat.lt_of_lt_of_le h (by decide))
  refine ⟨?_, ?_, ?_, ?_⟩
  · simp only [PyData.showable, decide_eq_true_eq]
    exact Nat.lt_trans lg (by decide)
  · unfold PyData.depth; omega
  · have e := int_text_length_le10 (a := i) (k := 30) (by decide) h
    have e2 : (PyData.int i).shown = Str.ofString (toString i) := by simp only [PyData.shown]
    unfold PyData.leavesShort
    refine decide_eq_true ?_
    rw [e2, PySem.ofString_length]
    omega
  · simp only [PyData.weight]
    split <;> omega
theorem lv_int {k : Nat} {i : Int} (h : i.natAbs < 10 ^ 30) : Lv k (.int i) := lv0 k (fit_int h)
theorem lv_str {k : Nat} {z : List Nat} (h : z.length ≤ 100) (hc : ∀ c ∈ z, c < 200) : Lv k (.str (S z)) := lv0 k (Fit.str h hc)
theorem lv_emp {k : Nat} : Lv (k + 1) (.dict []) := Fit.mono (Fit.dict (k := k) FitKv.nil) (Nat.le_refl _) (Nat.zero_le _)
theorem all_nil {P : PyData → Prop} : ∀ d ∈ ([] : List PyData), P d := fun d h => by cases h
theorem all_cons {P : PyData → Prop} {e : PyData} {es : List PyData} (h : P e) (t : ∀ d ∈ es, P d) : ∀ d ∈ e :: es, P d := fun d hd => by
  rcases List.mem_cons.mp hd with q | q
  · rw [q]; exact h
  · exact t d q
theorem all_app {P : PyData → Prop} {a b : List PyData} (h : ∀ d ∈ a, P d) (g : ∀ d ∈ b, P d) : ∀ d ∈ a.append b, P d := fun d hd => (List.mem_append.mp hd).elim (h d) (g d)
theorem Lv.sh {k : Nat} {d : PyData} (h : Lv k d) (hk : k ≤ 3) : Sh d := by
  have : k = 0 ∨ k = 1 ∨ k = 2 ∨ k = 3 := by omega
  rcases this with rfl | rfl | rfl | rfl
  · exact Fit.sh h (by omega) (by decide)
  · exact Fit.sh h (by omega) (by decide)
  · exact Fit.sh h (by omega) (by decide)
  · exact Fit.sh h (by omega) (by decide)
theorem lv_any {k : Nat} {z : Str} (h : (cs z).length ≤ 100) (hc : (cs z).all (fun c => decide (c < 200)) = true) : Lv k (.str z) := by
  rw [← S_of z]
  exact lv_str h fun c hm => of_decide_eq_true (List.all_eq_true.mp hc c hm)
theorem lv_digit {k a : Nat} (h : a < 5) : Lv k (.str (Str.ofString (toString (a : Int)))) := by
  match a, h with
  | 0, _ => exact lv_any (by decide +kernel) (by decide +kernel)
  | 1, _ => exact lv_any (by decide +kernel) (by decide +kernel)
  | 2, _ => exact lv_any (by decide +kernel) (by decide +kernel)
  | 3, _ => exact lv_any (by decide +kernel) (by decide +kernel)
  | 4, _ => exact lv_any (by decide +kernel) (by decide +kernel)
end My

set_option Elab.async false
set_option linter.all false
set_option maxRecDepth 100000
set_option maxHeartbeats 4000000
/-! Comprehensions of two clauses over ranges; lists of new data that grow. -/
namespace L2
open PySem PySem.Spec PyProof.Rows
theorem lc2_range {lo : Int} {n : Nat} {g g1 : TG} {tt tt1 : TT} {te : TE} {wi1 : TI} {vs vs1 : List Nat} {σ : St} {H1 : Hp} {D : Addr} {Qd : Hp → Prop} (Pv : Nat → Hp → Prop) (h0 : Pv 0 (upd H1 D (.lst [])))
    (hs : ∀ i H, i < n → Pv i H → g (.int (lo + i)) (wipe σ vs) H fun σ2 H2 => wipe σ2 vs = wipe σ vs ∧ tt σ2 H2 fun b H3 =>
      if b = true then wi1 σ2 H3 fun J1 H4 => ∃ W1 : Nat → Nat → Hp → Prop, (∃ m, W1 0 m H4) ∧ ∀ j k H, W1 j k H →
        (J1.stop j H ∧ Pv (i + 1) H) ∨ (J1.go j H ∧ ∃ Nx1 : Hp → Prop, (∀ H', Nx1 H' → ∃ k', k' < k ∧ W1 (j + 1) k' H') ∧ ∀ x H', J1.yld j H x H' → g1 x (wipe σ2 vs1) H' fun σ3 H5 => wipe σ3 vs1 = wipe σ2 vs1 ∧ tt1 σ3 H5 fun b H6 =>
          if b = true then te σ3 H6 fun y H7 => ∃ acc, H7 D = some (.lst acc) ∧ acc.length < sizeLine ∧ Nx1 (upd H7 D (.lst (acc ++ [y]))) else Nx1 H6)
      else Pv (i + 1) H3) (hd : ∀ H, Pv n H → Qd H) :
    ∃ W : Nat → Nat → Hp → Prop, (∃ m, W 0 m (upd H1 D (.lst []))) ∧ ∀ i m H, W i m H →
      ((Itr lo n).stop i H ∧ Qd H) ∨ ((Itr lo n).go i H ∧ ∃ Nx : Hp → Prop, (∀ H', Nx H' → ∃ m', m' < m ∧ W (i + 1) m' H') ∧ ∀ x H', (Itr lo n).yld i H x H' → g x (wipe σ vs) H' fun σ2 H2 => wipe σ2 vs = wipe σ vs ∧ tt σ2 H2 fun b H3 =>
        if b = true then wi1 σ2 H3 fun J1 H4 => ∃ W1 : Nat → Nat → Hp → Prop, (∃ m, W1 0 m H4) ∧ ∀ j k H, W1 j k H →
          (J1.stop j H ∧ Nx H) ∨ (J1.go j H ∧ ∃ Nx1 : Hp → Prop, (∀ H', Nx1 H' → ∃ k', k' < k ∧ W1 (j + 1) k' H') ∧ ∀ x H', J1.yld j H x H' → g1 x (wipe σ2 vs1) H' fun σ3 H5 => wipe σ3 vs1 = wipe σ2 vs1 ∧ tt1 σ3 H5 fun b H6 =>
            if b = true then te σ3 H6 fun y H7 => ∃ acc, H7 D = some (.lst acc) ∧ acc.length < sizeLine ∧ Nx1 (upd H7 D (.lst (acc ++ [y]))) else Nx1 H6)
        else Nx H3) := by
  refine ⟨fun i m H => m = n - i ∧ i ≤ n ∧ Pv i H, ⟨n, by simp, Nat.zero_le _, h0⟩, ?_⟩
  rintro i m H ⟨rfl, hi, p⟩
  by_cases hlt : i < n
  · refine .inr ⟨hlt, Pv (i + 1), fun H' p' => ⟨n - (i + 1), by omega, rfl, hlt, p'⟩, fun x H' y => ?_⟩
    obtain ⟨e, y⟩ := y
    subst e y
    exact hs i _ hlt p
  · have e : i = n := by omega
    subst e
    exact .inl ⟨Nat.le_refl _, hd H p⟩
theorem lcr_inner {lo : Int} {n : Nat} {g : TG} {tt : TT} {te : TE} {vs : List Nat} {σ : St} {H4 : Hp} {D : Addr} {Qd : Hp → Prop} (Pv : Nat → Hp → Prop) (h0 : Pv 0 H4)
    (hs : ∀ i H, i < n → Pv i H → g (.int (lo + i)) (wipe σ vs) H fun σ2 H2 => wipe σ2 vs = wipe σ vs ∧ tt σ2 H2 fun b H3 =>
      if b = true then te σ2 H3 fun y H4 => ∃ acc, H4 D = some (.lst acc) ∧ acc.length < sizeLine ∧ Pv (i + 1) (upd H4 D (.lst (acc ++ [y]))) else Pv (i + 1) H3) (hd : ∀ H, Pv n H → Qd H) :
    ∃ W : Nat → Nat → Hp → Prop, (∃ m, W 0 m H4) ∧ ∀ i m H, W i m H →
      ((Itr lo n).stop i H ∧ Qd H) ∨ ((Itr lo n).go i H ∧ ∃ Nx : Hp → Prop, (∀ H', Nx H' → ∃ m', m' < m ∧ W (i + 1) m' H') ∧ ∀ x H', (Itr lo n).yld i H x H' → g x (wipe σ vs) H' fun σ2 H2 => wipe σ2 vs = wipe σ vs ∧ tt σ2 H2 fun b H3 =>
        if b = true then te σ2 H3 fun y H4 => ∃ acc, H4 D = some (.lst acc) ∧ acc.length < sizeLine ∧ Nx (upd H4 D (.lst (acc ++ [y]))) else Nx H3) := by
  refine ⟨fun i m H => m = n - i ∧ i ≤ n ∧ Pv i H, ⟨n, by simp, Nat.zero_le _, h0⟩, ?_⟩
  rintro i m H ⟨rfl, hi, p⟩
  by_cases hlt : i < n
  · refine .inr ⟨hlt, Pv (i + 1), fun H' p' => ⟨n - (i + 1), by omega, rfl, hlt, p'⟩, fun x H' y => ?_⟩
    obtain ⟨e, y⟩ := y
    subst e y
    exact hs i _ hlt p
  · have e : i = n := by omega
    subst e
    exact .inl ⟨Nat.le_refl _, hd H p⟩
end L2
namespace My
open PySem PySem.Spec PyProof.Rows L2
/-- the list at D, new since H1, holds the data ds, of which it is no part -/
def Ac (K : PySem.W.Frag) (H1 : Hp) (D : Addr) (ds : List PyData) (H : Hp) : Prop := Same H1 H ∧ ∃ acc, H D = some (.lst acc) ∧ DwAll K D H true acc ds
theorem Ac.start {K : PySem.W.Frag} {H1 : Hp} {D : Addr} (hD : H1 D = none) : Ac K H1 D [] (L2.upd H1 D (.lst [])) := ⟨Same.new (Same.refl _) hD, [], upd_same, .nil⟩
theorem Ac.snoc {K : PySem.W.Frag} {H1 H H2 : Hp} {D : Addr} {ds : List PyData} {y : V} {d : PyData} (h : Ac K H1 D ds H) (hD : H1 D = none) (l : ds.length ≤ 10000) (s : Same H H2) (dy : Dw K D H2 true y d) :
    ∃ acc, H2 D = some (.lst acc) ∧ acc.length < sizeLine ∧ Ac K H1 D (ds ++ [d]) (L2.upd H2 D (.lst (acc ++ [y]))) := by
  obtain ⟨s1, acc, e, ha⟩ := h
  refine ⟨acc, s _ _ e, by rw [ha.len]; exact Nat.lt_of_le_of_lt l (by decide), fun b o q => ?_, acc ++ [y], upd_same, ?_⟩
  · rw [upd_ne (ne_of_none q hD)]; exact s _ _ (s1 _ _ q)
  · show DgAll K (wo (L2.upd H2 D _) D) true _ _
    rw [wo_upd]
    exact (ha.kp (Kp.of s)).append (.cons dy .nil)
/-- a new tuple for it -/
theorem dw_tup {K : PySem.W.Frag} {H : Hp} {D q : Addr} {xs : List V} {es : List PyData} (e : H D ≠ none) (hq : H q = none) (h : DwAll K D H true xs es) : Dw K D (L2.upd H q (.tup xs)) true (.ref q) (.tuple es) := by
  have n : q ≠ D := fun z => e (by rw [← z]; exact hq)
  exact .tup (SqT.of (by rw [wo_ne n]; exact upd_same)) (h.kp ((Kp.refl D H).new hq))
theorem Ac.ne {K : PySem.W.Frag} {H1 H : Hp} {D : Addr} {ds : List PyData} (h : Ac K H1 D ds H) : H D ≠ none := by
  obtain ⟨_, acc, e, _⟩ := h
  rw [e]; exact fun z => by cases z
/-- one more tuple of known items -/
theorem Ac.tup {K : PySem.W.Frag} {H1 H : Hp} {D q : Addr} {ds es : List PyData} {xs : List V} (h : Ac K H1 D ds H) (hD : H1 D = none) (l : ds.length ≤ 10000) (hq : H q = none) (hx : ∀ G, DgAll K G true xs es) :
    ∃ acc, L2.upd H q (.tup xs) D = some (.lst acc) ∧ acc.length < sizeLine ∧ Ac K H1 D (ds ++ [.tuple es]) (L2.upd (L2.upd H q (.tup xs)) D (.lst (acc ++ [.ref q]))) :=
  h.snoc hD l (Same.new (Same.refl _) hq) (dw_tup h.ne hq (hx _))
theorem same_wo {H : Hp} {p : Addr} {o : HO} (h : H p = none) : Same H (wo (L2.upd H p o) p) := fun b ob e => by
  have n : b ≠ p := fun z => by rw [z, h] at e; cases e
  rw [wo_ne n, upd_ne n]; exact e
end My

set_option Elab.async false
set_option linter.all false
set_option maxRecDepth 100000
set_option maxHeartbeats 2000000
namespace PySem
open PyProof.Rows
theorem Walks.tupleOn {prog : Program} {w : World} {A : Around} (hh : A.handled = none) (I ax : Addr) (hne : ax ≠ I) (items : Array Value) (k : Nat) (hk : k ≤ items.size) :
    Walks prog w A I [I, ax] [I] (items.size - k) (fun i v => items[k + i]? = some v) (fun i h => h.IsTupleIter I ax (k + i) ∧ h.IsTuple ax items) where
  sub := fun b hb => by simp at hb; simp [hb]
  frame := fun _ _ _ st hk => ⟨st.1.at fun o e => hk I (by simp) o e, st.2.at fun o e => hk ax (by simp) o e⟩
  item := fun i s Q E hi st hQ => by
    have hi' : k + i < items.size := by omega
    refine wpAny_pyNext_tuple_item st.1 st.2 (x := items[k + i]) (by simp [hi']) fun h' hit' hs' => ?_
    exact hQ _ h' s.toks (by simp [hi']) ⟨hit', st.2.extBut hs'.extBut hne⟩ fun b o hb e => hs'.extBut b o (fun h => hb (by simp [h])) e
  done := fun s Q E st hQ => wpAny_pyNext_tuple_end hh st.1 st.2 (by simp; omega) fun h' he' => hQ h' s.toks fun b o hb e => he' b o (fun h => hb (by simp [h])) e
  self := fun _ _ _ _ st hQ => wpAny_pyIter_tupleiter st.1 hQ
section
variable {prog : Program} {w : World} {A : Around} {E : Value → Shared → Prop} {s : Shared}
theorem unpackStar {t : Addr} {items : Array Value} {Q : List Value → Shared → Prop} (hh : A.handled = none) (ht : s.heap.IsTuple t items) (h1 : 1 ≤ items.size) (hz : items.size ≤ sizeLine)
    (hQ : ∀ s', Moved [s.heap.objs.size] (fun a b => b = a) s s' → Q [items[0], .ref s'.heap.objs.size] { s' with heap := s'.heap.push { cls := .type "list", data := .seq (items.toList.drop 1).toArray } }) :
    wpAny (model prog w) A (unpackItems (.ref t) 2 (some 1)) Q E s := by
  have hlt : t ≠ s.heap.objs.size := by obtain ⟨o, ho, _⟩ := ht; exact Nat.ne_of_lt (Heap.lt_size ho)
  unfold unpackItems
  refine wpAny_bind ?_
  unfold notIterableAtAll
  refine wpAny_bind (wpAny_specialOf ht.typeIs F.slot_tuple_iter.lookup ?_)
  refine wpAny_pure ?_
  simp only [Bool.false_eq_true, if_false]
  refine wpAny_bind (wpAny_holding (wpAny_pyIter_tuple ht ?_))
  refine wpAny_bind (wpAny_holding (wpAny_draw_tuple hlt 1 0 _ _ ⟨_, Heap.get?_push_size _ rfl, rfl, rfl⟩ (ht.push _) (by omega) fun h₁ hit₁ hs₁ => ?_))
  have hone : List.take 1 (List.drop 0 items.toList) = [items[0]] := by
    rw [List.drop_zero]
    have : items.toList = items[0] :: items.toList.drop 1 := by
      have := List.drop_eq_getElem_cons (l := items.toList) (i := 0) (by rw [Array.length_toList]; omega)
      simpa using this
    rw [this]; rfl
  rw [hone, if_neg (by simp)]
  have W := (Walks.tupleOn (prog := prog) (w := w) (A := A.in1) hh s.heap.objs.size t hlt items 1 h1).toS
  have k0 : ∀ b o, b ∉ [s.heap.objs.size] → s.heap.get? b = some o → h₁.get? b = some o := fun b o hb e => hs₁.extBut b o (fun z => hb (by simp [z])) (Heap.get?_push_of_some _ e)
  have sz1 : s.heap.objs.size < h₁.objs.size := by
    obtain ⟨o, ho, _⟩ := hit₁
    exact Heap.lt_size ho
  refine wpAny_bind (wpAny_holding (wpAny_collect_iter (T := "tuple_iterator") (.inr (.inr (.inr rfl))) W (fun i s' st => st.1.typeIs) ⟨hit₁, (ht.push _).extBut hs₁.extBut hlt⟩ ?_ (by simp) (fun s' acc hm hacc => ?_) (by omega)))
  · intro b hb
    rcases List.mem_cons.mp hb with rfl | hb
    · exact sz1
    · rw [List.mem_singleton.mp hb]
      obtain ⟨o, ho, _⟩ := ht
      exact Nat.lt_trans (Heap.lt_size ho) sz1
  · have el : acc.toList = items.toList.drop 1 := by
      obtain ⟨e1, e2⟩ := hacc
      apply List.ext_getElem?
      intro i
      rw [List.getElem?_drop, Array.getElem?_toList, Array.getElem?_toList]
      by_cases hi : i < acc.size
      · have g : acc[i]? = some acc[i] := by simp [hi]
        rw [g]; exact (e2 i _ g).symm
      · have a1 : acc[i]? = none := by simp; omega
        have a2 : items[1 + i]? = none := by simp; omega
        rw [a1, a2]
    rw [el, if_neg (by simp)]
    have et : List.take ((items.toList.drop 1).length - (2 - 1 - 1)) (items.toList.drop 1) = items.toList.drop 1 := by rw [show 2 - 1 - 1 = 0 from rfl, Nat.sub_zero, List.take_length]
    have ed : List.drop ((items.toList.drop 1).length - (2 - 1 - 1)) (items.toList.drop 1) = [] := by rw [show 2 - 1 - 1 = 0 from rfl, Nat.sub_zero, List.drop_length]
    rw [et, ed]
    refine wpAny_bind (wpAny_newList (wpAny_pure ?_) ?_)
    · exact hQ s' ⟨fun b o hb e => hm.heap b o hb (k0 b o hb e), hm.gens, hm.drawn, hm.os, hm.toks⟩
    · simp; omega
end
end PySem
namespace L2
open PySem PySem.Spec PyProof.Rows
section
variable {X : Cx} {pos : Pos}
/-- x, *rest = v (v a tuple of one item or more): rest becomes a new list -/
def gStar (K : PySem.W.Frag) (t : TGs) : TG := fun v σ H Q => ∃ a x xs, v = .ref a ∧ SqT K H a (x :: xs) ∧ ∀ p, H p = none → t [x, .ref p] σ (upd H p (.lst xs)) Q
theorem pg_star {e1 e2 : Expr} {k : Nat} {p2 : Pos} {t : TGs} (hc : X.calm = true) (h : PGs X [e1, e2] t)
    (hn : (assignEach [e1, .Starred e2 p2] X.env).length = 2 := by rfl) (hst : (assignEach [e1, .Starred e2 p2] X.env).findIdx? (·.1) = some 1 := by rfl)
    (hm : (assignEach [e1, .Starred e2 p2] X.env).map (·.2) = (assignEach [e1, e2] X.env).map (·.2) := by rfl) : PG X (.Tuple [e1, .Starred e2 p2] k pos) (gStar X.K t) := by
  refine ⟨fun pins s σ H v u Q I r hw => ?_⟩
  obtain ⟨a, x, xs, e1', hq, hw⟩ := hw
  subst e1'
  cases r
  obtain ⟨its, rv, ht, hz⟩ := I.tuple hq
  rw [assign_Tuple]
  refine wpAny_bind (wpAny_standAt ?_)
  unfold unpack
  rw [hn, hst, hm]
  cases rv with
  | cons r0 rv =>
    rename_i u0 us
    refine wpAny_bind (wpAny_holding (unpackStar (items := (u0 :: us).toArray) (I.ok.hd hc) ht (by simp) (by simp; have := rv.length; simp at hz; omega) fun s' mv => ?_))
    have I1 : Inv X pins σ H s' := by
      rw [Moved.eq_with mv]
      exact I.kept (t' := s'.toks) fun b o e => mv.heap b o (fun z => by have h1 := Heap.lt_size e; rw [List.mem_singleton.mp z] at h1; exact Nat.lt_irrefl _ h1) e
    have hf : H s'.heap.objs.size = none := I1.hok.fresh (Nat.le_refl _)
    have I2 : Inv X pins σ (upd H s'.heap.objs.size (.lst xs)) { s' with heap := s'.heap.push { cls := .type "list", data := .seq ((u0 :: us).drop 1).toArray }, toks := s'.toks } := by
      refine I1.laid (t' := s'.toks) (fun b u e => Heap.get?_push_of_some _ e) (Nat.le_refl _) ?_
      exact ⟨by simp at hz; omega, us, 0, rv, Heap.get?_push_size _ rfl⟩
    exact h.run pins _ σ _ [x, .ref s'.heap.objs.size] [u0, .ref s'.heap.objs.size] Q I2 (.cons r0 (.cons rfl .nil)) (hw _ hf)
end
end L2

set_option Elab.async false
set_option linter.all false
set_option maxRecDepth 100000
set_option maxHeartbeats 4000000
/-! A value that is a list or a tuple: its items, a slice of it, walked through; a body behind a call that never comes back. -/
namespace L2
open PySem PySem.Spec PyProof.Rows
section
variable {X : Cx} {K : PySem.W.Frag}
def rIxQ (K : PySem.W.Frag) : R2 := fun x y H Q => rIxL K x y H Q ∨ rIxT K x y H Q
theorem ix_q : IxR X (rIxQ X.K) := by
  intro value slice pins s σ H x y v u Q I rx ry h hs
  rcases h with h | h
  · exact ix_list value slice pins s σ H x y v u Q I rx ry h hs
  · exact ix_tup value slice pins s σ H x y v u Q I rx ry h hs
theorem ix_qK (e : X.K = K) : IxR X (rIxQ K) := by rw [← e]; exact ix_q
def rSlQ (K : PySem.W.Frag) : V → Option Int → Option Int → Hp → VK → Prop := fun x lo hi H Q => rSlL K x lo hi H Q ∨ rSlA K x lo hi H Q
theorem sl_q : SlR X (rSlQ X.K) := SlR.or sl_list sl_tupA
def iSq (K : PySem.W.Frag) (tl : TE) : TI := fun σ H R => tl σ H fun x H1 => ∃ a, x = .ref a ∧ ((∃ xs, SqL K H1 a xs) ∧ R (Itl K a) H1 ∨ (∃ xs, SqT K H1 a xs) ∧ R (Itt K a) H1)
theorem pi_sq {tg l : Expr} {tl : TE} (hl : PE X l tl) : PI X tg l (iSq X.K tl) := by
  refine ⟨fun pins s σ H R I h => ?_⟩
  refine thn (hl.run pins s σ H _ I h) fun v s1 ⟨x, H1, I1, r1, q1⟩ => ?_
  obtain ⟨a, e, q1⟩ := q1
  subst e
  cases r1
  rcases q1 with ⟨⟨xs, hq⟩, q⟩ | ⟨⟨xs, hq⟩, q⟩
  · obtain ⟨its, rv, p, hz⟩ := I1.list hq
    refine wpAny_pyIter_list p.isList ?_
    refine ⟨s1.heap.objs.size, [s1.heap.objs.size], _, _, H1, rfl, I1.kept (t' := s1.toks) fun b o e => Heap.get?_push_of_some _ e, turn_list a _, ⟨_, Heap.get?_push_size _ rfl, rfl, rfl⟩, fun b hb => ?_, q⟩
    have e : b = s1.heap.objs.size := by simpa using hb
    subst e
    exact I1.fpOk (Nat.le_refl _) (I1.hok.fresh (Nat.le_refl _))
  · obtain ⟨its, rv, p, hz⟩ := I1.tuple hq
    refine wpAny_pyIter_tuple (show s1.heap.IsTuple a its.toArray from p) ?_
    refine ⟨s1.heap.objs.size, [s1.heap.objs.size], _, _, H1, rfl, I1.kept (t' := s1.toks) fun b o e => Heap.get?_push_of_some _ e, turn_tuple a _, ⟨_, Heap.get?_push_size _ rfl, rfl, rfl⟩, fun b hb => ?_, q⟩
    have e : b = s1.heap.objs.size := by simpa using hb
    subst e
    exact I1.fpOk (Nat.le_refl _) (I1.hok.fresh (Nat.le_refl _))
theorem pg_tupK {es : List Expr} {k : Nat} {t : TGs} {n : Nat} {pos : Pos} (e : X.K = K) (hc : X.calm = true) (h : PGs X es t)
    (hn : (assignEach es X.env).length = n := by rfl) (hst : (assignEach es X.env).findIdx? (·.1) = none := by rfl) : PG X (.Tuple es k pos) (gTup K n t) := by subst e; exact pg_tup hc h hn hst
/-- a statement behind which nothing is reached -/
theorem pss_dead {st : Stmt} {rest : List Stmt} {t : TS} (h1 : PS X st t) : PSs X (st :: rest) (fun D σ H => t { D with nx := fun _ _ => False } σ H) := by
  refine ⟨fun pins s σ H D I h => ?_⟩
  refine wpAny_execs_cons (thn (h1.run pins s σ H { D with nx := fun _ _ => False } I h) fun f s1 q => ?_)
  cases f with
  | next =>
    obtain ⟨_, _, _, q⟩ := q
    exact q.elim
  | ret v => exact q
  | brk => exact q
  | cont => exact q
end
end L2
namespace My
open PySem PySem.Spec PyProof.Rows L2
/-- a list, or a tuple -/
def SqQ (K : PySem.W.Frag) (H : Hp) (a : Addr) (xs : List V) : Prop := SqL K H a xs ∨ SqT K H a xs
theorem SqQ.same {K : PySem.W.Frag} {H H' : Hp} {a : Addr} {xs : List V} (h : SqQ K H a xs) (s : ∀ b o, H b = some o → H' b = some o) : SqQ K H' a xs := h.elim (fun h => .inl (h.ext s)) (fun h => .inr (h.ext s))
theorem SqQ.ix {K : PySem.W.Frag} {H : Hp} {a : Addr} {xs : List V} {i : Int} {v : V} {Q : VK} (h : SqQ K H a xs) (e : atI xs i = some v) (q : Q v H) : rIxQ K (.ref a) (.int i) H Q :=
  h.elim (fun h => .inl ⟨a, xs, i, v, rfl, rfl, h, e, q⟩) (fun h => .inr ⟨a, xs, i, v, rfl, rfl, h, e, q⟩)
/-- a comprehension over a list or a tuple -/
theorem lc_sq {K : PySem.W.Frag} {a : Addr} {xs : List V} {g : TG} {tt : TT} {te : TE} {vs : List Nat} {σ : L2.St} {H1 : Hp} {Qd : Addr → Hp → Prop} (hq : SqQ K H1 a xs)
    (h : ∀ D, H1 D = none → ∃ Pv : Nat → Hp → Prop, Pv 0 (upd H1 D (.lst [])) ∧ (∀ i H, Pv i H → Same H1 H) ∧
      (∀ i x H, xs[i]? = some x → Pv i H → g x (wipe σ vs) H fun σ2 H2 => wipe σ2 vs = wipe σ vs ∧ tt σ2 H2 fun b H3 =>
        if b = true then te σ2 H3 fun y H4 => ∃ acc, H4 D = some (.lst acc) ∧ acc.length < sizeLine ∧ Pv (i + 1) (upd H4 D (.lst (acc ++ [y]))) else Pv (i + 1) H3) ∧ ∀ H, Pv xs.length H → Qd D H) :
    ((∃ xs, SqL K H1 a xs) ∧ ∀ D, H1 D = none → ∃ W : Nat → Nat → Hp → Prop, (∃ m, W 0 m (upd H1 D (.lst []))) ∧ ∀ i m H, W i m H →
      ((Itl K a).stop i H ∧ Qd D H) ∨ ((Itl K a).go i H ∧ ∃ Nx : Hp → Prop, (∀ H', Nx H' → ∃ m', m' < m ∧ W (i + 1) m' H') ∧ ∀ x H', (Itl K a).yld i H x H' → g x (wipe σ vs) H' fun σ2 H2 => wipe σ2 vs = wipe σ vs ∧ tt σ2 H2 fun b H3 =>
        if b = true then te σ2 H3 fun y H4 => ∃ acc, H4 D = some (.lst acc) ∧ acc.length < sizeLine ∧ Nx (upd H4 D (.lst (acc ++ [y]))) else Nx H3)) ∨ ((∃ xs, SqT K H1 a xs) ∧ ∀ D, H1 D = none → ∃ W : Nat → Nat → Hp → Prop, (∃ m, W 0 m (upd H1 D (.lst []))) ∧ ∀ i m H, W i m H →
      ((Itt K a).stop i H ∧ Qd D H) ∨ ((Itt K a).go i H ∧ ∃ Nx : Hp → Prop, (∀ H', Nx H' → ∃ m', m' < m ∧ W (i + 1) m' H') ∧ ∀ x H', (Itt K a).yld i H x H' → g x (wipe σ vs) H' fun σ2 H2 => wipe σ2 vs = wipe σ vs ∧ tt σ2 H2 fun b H3 =>
        if b = true then te σ2 H3 fun y H4 => ∃ acc, H4 D = some (.lst acc) ∧ acc.length < sizeLine ∧ Nx (upd H4 D (.lst (acc ++ [y]))) else Nx H3)) := by
  rcases hq with hq | hq
  · exact .inl ⟨⟨xs, hq⟩, fun D hD => by obtain ⟨Pv, h0, hl, hs, hd⟩ := h D hD; exact lc_list (K := K) (a := a) (xs := xs) Pv h0 (fun i H hi h => hq.ext (hl i H h)) hs hd⟩
  · exact .inr ⟨⟨xs, hq⟩, fun D hD => by obtain ⟨Pv, h0, hl, hs, hd⟩ := h D hD; exact lc_tup (K := K) (a := a) (xs := xs) Pv h0 (fun i H hi h => hq.ext (hl i H h)) hs hd⟩
theorem walk_zipT {K : PySem.W.Frag} {a b : Addr} {xs ys : List V} {n : Nat} (hn : n = min xs.length ys.length) : Walk (RZ.ItzT K a b) n (fun H => SqT K H a xs ∧ SqT K H b ys) (YPair (fun i => xs[i]?) (fun i => ys[i]?)) := by
  subst hn
  refine ⟨fun i _ hi q => ?_, fun _ q => ⟨xs, ys, q.1, q.2, by omega⟩, fun i H v H' _ q y => ?_⟩
  · have h1 : i < xs.length := by omega
    have h2 : i < ys.length := by omega
    exact ⟨xs, ys, xs[i], ys[i], q.1, q.2, by simp [h1], by simp [h2]⟩
  · obtain ⟨T, x, z, h1, h2, h3, h4, h5⟩ := y
    exact ⟨T, x, z, h1, h2, h3, h4 xs q.1, h5 ys q.2⟩
/-- a comprehension over the pairs of two lists, or of two tuples -/
theorem lc_zipA {K : PySem.W.Frag} {a b : Addr} {xs ys : List V} {g : TG} {tt : TT} {te : TE} {vs : List Nat} {σ : L2.St} {H1 : Hp} {Qd : Addr → Hp → Prop} (hq : (SqL K H1 a xs ∧ SqL K H1 b ys) ∨ (SqT K H1 a xs ∧ SqT K H1 b ys))
    (h : ∀ D, H1 D = none → ∃ Pv : Nat → Hp → Prop, Pv 0 (upd H1 D (.lst [])) ∧ (∀ i H, Pv i H → Same H1 H) ∧
      (∀ i T x y H, xs[i]? = some x → ys[i]? = some y → Pv i H → H T = none → g (.ref T) (wipe σ vs) (upd H T (.tup [x, y])) fun σ2 H2 => wipe σ2 vs = wipe σ vs ∧ tt σ2 H2 fun b H3 =>
        if b = true then te σ2 H3 fun y H4 => ∃ acc, H4 D = some (.lst acc) ∧ acc.length < sizeLine ∧ Pv (i + 1) (upd H4 D (.lst (acc ++ [y]))) else Pv (i + 1) H3) ∧ ∀ H, Pv (min xs.length ys.length) H → Qd D H) :
    (SqL K H1 a xs ∧ SqL K H1 b ys ∧ ∀ D, H1 D = none → ∃ W : Nat → Nat → Hp → Prop, (∃ m, W 0 m (upd H1 D (.lst []))) ∧ ∀ i m H, W i m H →
      ((Itz K a b).stop i H ∧ Qd D H) ∨ ((Itz K a b).go i H ∧ ∃ Nx : Hp → Prop, (∀ H', Nx H' → ∃ m', m' < m ∧ W (i + 1) m' H') ∧ ∀ x H', (Itz K a b).yld i H x H' → g x (wipe σ vs) H' fun σ2 H2 => wipe σ2 vs = wipe σ vs ∧ tt σ2 H2 fun b H3 =>
        if b = true then te σ2 H3 fun y H4 => ∃ acc, H4 D = some (.lst acc) ∧ acc.length < sizeLine ∧ Nx (upd H4 D (.lst (acc ++ [y]))) else Nx H3)) ∨ (SqT K H1 a xs ∧ SqT K H1 b ys ∧ ∀ D, H1 D = none → ∃ W : Nat → Nat → Hp → Prop, (∃ m, W 0 m (upd H1 D (.lst []))) ∧ ∀ i m H, W i m H →
      ((RZ.ItzT K a b).stop i H ∧ Qd D H) ∨ ((RZ.ItzT K a b).go i H ∧ ∃ Nx : Hp → Prop, (∀ H', Nx H' → ∃ m', m' < m ∧ W (i + 1) m' H') ∧ ∀ x H', (RZ.ItzT K a b).yld i H x H' → g x (wipe σ vs) H' fun σ2 H2 => wipe σ2 vs = wipe σ vs ∧ tt σ2 H2 fun b H3 =>
        if b = true then te σ2 H3 fun y H4 => ∃ acc, H4 D = some (.lst acc) ∧ acc.length < sizeLine ∧ Nx (upd H4 D (.lst (acc ++ [y]))) else Nx H3)) := by
  rcases hq with ⟨h1, h2⟩ | ⟨h1, h2⟩
  · refine .inl ⟨h1, h2, fun D hD => ?_⟩
    obtain ⟨Pv, h0, hl, hs, hd⟩ := h D hD
    refine lc_it (walk_zip rfl) Pv h0 (fun i H _ p => ⟨h1.ext (hl i H p), h2.ext (hl i H p)⟩) ?_ hd
    rintro i v H H' hi p ⟨T, x, y, rfl, hT, rfl, ex, ey⟩
    exact hs i T x y H ex ey p hT
  · refine .inr ⟨h1, h2, fun D hD => ?_⟩
    obtain ⟨Pv, h0, hl, hs, hd⟩ := h D hD
    refine lc_it (walk_zipT rfl) Pv h0 (fun i H _ p => ⟨h1.ext (hl i H p), h2.ext (hl i H p)⟩) ?_ hd
    rintro i v H H' hi p ⟨T, x, y, rfl, hT, rfl, ex, ey⟩
    exact hs i T x y H ex ey p hT
theorem _root_.L2.Dg.lst_q {K : PySem.W.Frag} {H : Hp} {m : Bool} {x : V} {ds : List PyData} {d : PyData} (hd : d = .list ds ∨ d = .tuple ds) (h : Dg K H m x d) : ∃ a xs, x = .ref a ∧ SqQ K H a xs ∧ DgAll K H m xs ds := by
  rcases hd with rfl | rfl
  · obtain ⟨a, xs, rfl, hs, _, ha⟩ := h.lst_of
    exact ⟨a, xs, rfl, .inl hs, ha⟩
  · obtain ⟨a, xs, rfl, hs, ha⟩ := h.tup_of
    exact ⟨a, xs, rfl, .inr hs, ha⟩
end My

set_option Elab.async false
set_option linter.all false
set_option maxRecDepth 100000
set_option maxHeartbeats 4000000
/-! Instances of an own class with its own __eq__: == and != with an instance or with data. -/
namespace OwnC
open PySem PySem.Spec PyProof.Rows PySem.Builtin
section
variable {M : Model} {prog : Program} {w : World} {A : Around} {E : Value → Shared → Prop} {s : Shared} {K : PySem.W.Frag} {x C f : Addr} {ox : Obj} {od : Option Obj} {b tb : Value}
theorem ifBound_objNe {args : List Value} {Q : Option Value → Shared → Prop} (X : K.In s.heap) (I : PySem.W.InstAt s.heap x ox C od) (hs : PySem.W.findIn K (.ref C) "__ne__" = some (some (.builtin "object.__ne__")))
    (h : wpAny M A (call (.builtin "object.__ne__") (.ref x :: args)) (fun v => Q (some v)) E s) : wpAny M A (callSpecialIfBound? (.ref x) "__ne__" args) Q E s := by
  simp only [callSpecialIfBound?, bindSpecialIfBound?]
  refine wpAny_holding (wpAny_bind (wpAny_bind (wpAny_bind (I.type.here ((PySem.W.looks_findIn X hs).here ?_)))))
  refine wpAny_bind (wpAny_askSetting (wpAny_ite ?_))
  have fin : wpAny M A (call (.builtin "object.__ne__") ([.ref x] ++ args) >>= fun v => pure (some v)) Q E s := wpAny_bind (wpAny_mono h (fun v s' h' => wpAny_pure h') fun _ _ h' => h')
  split
  · exact wpAny_bind (wpAny_of_eq (F.cmp_object.ne.bind _) (wpAny_pure (by exact fin)))
  · exact wpAny_tryCatch (wpAny_bind (wpAny_of_eq (F.cmp_object.ne.bind _) (wpAny_pure (by exact fin))))
theorem entry_ne {Q : Fin → Shared → Prop} (hu : A.units < cLine) (X : K.In s.heap) (I : PySem.W.InstAt s.heap x ox C od) (hs : PySem.W.findIn K (.ref C) "__eq__" = some (some (.ref f))) (hf : PySem.W.isFn K (.ref f) = true)
    (h : wpAny (model prog w) A (call (.ref f) [.ref x, b]) (fun v s' => ∃ r, v = .bool r ∧ Q (.done (.ret (.bool (!r)))) s') E s) : wpAny (model prog w) A (Builtin.«object.__ne__» ⟨[.ref x, b], []⟩) Q E s := by
  unfold Builtin.«object.__ne__»
  refine wpAny_bind (m := slotArgs "__ne__" 1 _) (wpAny_pure ?_)
  refine wpAny_bind (m := cRoomFor _ _) (wpAny_cRoomFor hu ?_)
  refine wpAny_bind (m := callSpecialIfBound? (.ref x) (Str.ofString "__eq__") _) (PySem.W.ifBound_K X I hs hf (wpAny_mono h (fun r s' hq => ?_) fun _ _ y => y))
  obtain ⟨r, rfl, hq⟩ := hq
  refine wpAny_bind (wpAny_truthy_bool ?_)
  exact wpAny_pure hq
theorem call_ne {Q : Value → Shared → Prop} (hu : A.in1.units < cLine) (X : K.In s.heap) (I : PySem.W.InstAt s.heap x ox C od) (hm : PySem.W.mroIn K C (.type "object") = some true) (hs : PySem.W.findIn K (.ref C) "__eq__" = some (some (.ref f))) (hf : PySem.W.isFn K (.ref f) = true)
    (h : wpAny (model prog w) A.in1 (call (.ref f) [.ref x, b]) (fun v s' => ∃ r, v = .bool r ∧ Q (.bool (!r)) s') E s) : wpAny (model prog w) A (call (.builtin "object.__ne__") [.ref x, b]) Q E s :=
  wpAny_call (codeAny_call_builtin F.cmp_object.ne.plain F.cmpEntry_ne (PySem.W.check_slot F.cmpKind_ne F.cmpSplit_ne (I.type.andThen (PySem.W.looks_mroIn X hm)) (F.cmpArgs_ne _ _) (entry_ne hu X I hs hf h)))
theorem cmp_ne {Q : Value → Shared → Prop} (hu : A.units + 1 < cLine) (X : K.In s.heap) (I : PySem.W.InstAt s.heap x ox C od) (hb : PySem.W.Looks (model prog w) s.heap (typeOf b) tb) (hn : PySem.W.notFirst K C tb = true)
    (hm : PySem.W.mroIn K C (.type "object") = some true) (hN : PySem.W.findIn K (.ref C) "__ne__" = some (some (.builtin "object.__ne__"))) (hs : PySem.W.findIn K (.ref C) "__eq__" = some (some (.ref f))) (hf : PySem.W.isFn K (.ref f) = true)
    (h : wpAny (model prog w) A.in1 (call (.ref f) [.ref x, b]) (fun v s' => ∃ r, v = .bool r ∧ Q (.bool (!r)) s') E s) : wpAny (model prog w) A (richCompare .NotEq (.ref x) b) Q E s := by
  have one : wpAny (model prog w) A (tryCompare (.ref x) (cmpInfo .NotEq).2.1 b) (fun r s' => ∃ v, r = some v ∧ Q v s') E s := by
    rw [cmpInfo_NotEq]
    unfold tryCompare
    refine wpAny_bind (ifBound_objNe X I hN (call_ne (by show A.units + 1 < cLine; omega) X I hm hs hf (wpAny_mono h (fun v s' hv => ?_) fun _ _ e => e)))
    obtain ⟨r, rfl, hq⟩ := hv
    exact ⟨r, rfl, wpAny_pure ⟨_, rfl, hq⟩⟩
  unfold richCompare
  simp only [oneThing_ref]
  refine wpAny_holding (wpAny_bind (wpAny_cRoomFor (Nat.lt_of_succ_lt hu) ?_))
  refine wpAny_bind (I.type.here (wpAny_bind (hb.here ?_)))
  split
  · rename_i q
    have e : PySem.W.subIn K tb (.ref C) = some false := by
      rcases Bool.or_eq_true_iff.mp hn with e | e
      · rw [beq_iff_eq.mp e] at q; simp at q
      · exact beq_iff_eq.mp e
    refine wpAny_bind ((PySem.W.looks_subIn X e).here ?_)
    simp only [Bool.false_eq_true, if_false]
    refine wpAny_bind (wpAny_mono one (fun r s' z => ?_) fun _ _ e => e)
    obtain ⟨v, rfl, hq⟩ := z
    exact wpAny_pure hq
  · refine wpAny_bind (wpAny_pure ?_)
    simp only [Bool.false_eq_true, if_false]
    refine wpAny_bind (wpAny_mono one (fun r s' z => ?_) fun _ _ e => e)
    obtain ⟨v, rfl, hq⟩ := z
    exact wpAny_pure hq
theorem cmp_eq {Q : Value → Shared → Prop} (hu : A.units < cLine) (X : K.In s.heap) (I : PySem.W.InstAt s.heap x ox C od) (hb : PySem.W.Looks (model prog w) s.heap (typeOf b) tb) (hn : PySem.W.notFirst K C tb = true)
    (hs : PySem.W.findIn K (.ref C) "__eq__" = some (some (.ref f))) (hf : PySem.W.isFn K (.ref f) = true)
    (h : wpAny (model prog w) A (call (.ref f) [.ref x, b]) (fun v s' => ∃ r, v = .bool r ∧ Q (.bool r) s') E s) : wpAny (model prog w) A (richCompare .Eq (.ref x) b) Q E s := by
  have one : wpAny (model prog w) A (tryCompare (.ref x) (cmpInfo .Eq).2.1 b) (fun r s' => ∃ v, r = some v ∧ Q v s') E s := by
    rw [cmpInfo_Eq]
    unfold tryCompare
    refine wpAny_bind (PySem.W.ifBound_K X I hs hf (wpAny_mono h (fun v s' hv => ?_) fun _ _ e => e))
    obtain ⟨r, rfl, hq⟩ := hv
    exact wpAny_pure ⟨_, rfl, hq⟩
  unfold richCompare
  simp only [oneThing_ref]
  refine wpAny_holding (wpAny_bind (wpAny_cRoomFor hu ?_))
  refine wpAny_bind (I.type.here (wpAny_bind (hb.here ?_)))
  split
  · rename_i q
    have e : PySem.W.subIn K tb (.ref C) = some false := by
      rcases Bool.or_eq_true_iff.mp hn with e | e
      · rw [beq_iff_eq.mp e] at q; simp at q
      · exact beq_iff_eq.mp e
    refine wpAny_bind ((PySem.W.looks_subIn X e).here ?_)
    simp only [Bool.false_eq_true, if_false]
    refine wpAny_bind (wpAny_mono one (fun r s' z => ?_) fun _ _ e => e)
    obtain ⟨v, rfl, hq⟩ := z
    exact wpAny_pure hq
  · refine wpAny_bind (wpAny_pure ?_)
    simp only [Bool.false_eq_true, if_false]
    refine wpAny_bind (wpAny_mono one (fun r s' z => ?_) fun _ _ e => e)
    obtain ⟨v, rfl, hq⟩ := z
    exact wpAny_pure hq
end
end OwnC
namespace L2
open PySem PySem.Spec PyProof.Rows
/-- what the written part says of a class with an own __eq__ -/
structure OEq (K : PySem.W.Frag) (C f : Addr) : Prop where
  cl : Cls K C
  eq : PySem.W.findIn K (.ref C) "__eq__" = some (some (.ref f))
  fn : PySem.W.isFn K (.ref f) = true
  ne : PySem.W.findIn K (.ref C) "__ne__" = some (some (.builtin "object.__ne__"))
  mo : PySem.W.mroIn K C (.type "object") = some true
  ha : PySem.W.findIn K (.ref C) "__class__" = some (some (.builtin "object.__class__"))
  hn : PySem.W.specialIn K (.builtin "object.__class__") "__get__" = some (some (.builtin "getset_descriptor.__get__"))
  htk : PySem.W.takesIn K (.builtin "object.__class__") = some true
theorem OEq.ty {K : PySem.W.Frag} {C f : Addr} (T : OEq K C f) {H : Hp} {a dx : Addr} {fs : List (Str × V)} (e : H a = some (.ins C dx fs)) : TyX K H (.ref a) (.ref C) := .base (.ins e T.cl T.ha T.hn T.htk T.mo)
theorem OEq.first {K : PySem.W.Frag} {C f : Addr} (T : OEq K C f) : PySem.W.notFirst K C (.ref C) = true := by
  unfold PySem.W.notFirst
  rw [show (Value.ref C == Value.ref C) = true from by simp]
  rfl
section
variable {X : Cx} {pins : List (Addr × Obj)} {σ : St} {H : Hp} {s : Shared}
theorem looks_ref {M : Model} {h : Heap} {a : Addr} {o : Obj} (e : h.get? a = some o) : PySem.W.Looks M h (typeOf (.ref a)) o.cls := (PySem.W.Looks.ld e).andThen .now
theorem tyX_looks {x : V} {u t : Value} (I : Inv X pins σ H s) (rx : RelV x u) (ty : TyX X.K H x t) : PySem.W.Looks (model X.prog X.w) s.heap (typeOf u) t := by
  cases ty with
  | base b =>
    cases b with
    | non => cases (show u = Value.none from rx); exact PySem.W.Looks.of_pure rfl
    | bl y => cases (show u = Value.bool y from rx); exact PySem.W.Looks.of_pure rfl
    | int i => obtain ⟨t, q⟩ := (show ∃ t, u = Value.int i t from rx); cases q; exact PySem.W.Looks.of_pure rfl
    | str y => obtain ⟨t, q⟩ := (show ∃ t, u = Value.str y t from rx); cases q; exact PySem.W.Looks.of_pure rfl
    | flt y => obtain ⟨t, q⟩ := (show ∃ t, u = Value.float y t from rx); cases q; exact PySem.W.Looks.of_pure rfl
    | @lst a xs ea =>
      cases (show u = Value.ref a from rx)
      obtain ⟨_, _, n, _, h1⟩ := (show ObjOk X.prog X.w H s.heap a (.lst xs) from I.hok a _ ea)
      exact looks_ref h1
    | @frz a ob xs ea =>
      cases (show u = Value.ref a from rx)
      obtain ⟨_, _, _, n, _, h1⟩ := (show ObjOk X.prog X.w H s.heap a (.frz ob (.lst xs)) from I.hok a _ ea)
      exact looks_ref h1
    | @tup a xs ea =>
      cases (show u = Value.ref a from rx)
      obtain ⟨_, _, _, o, h1, h2, _⟩ := (show ObjOk X.prog X.w H s.heap a (.tup xs) from I.hok a _ ea)
      exact h2 ▸ looks_ref h1
    | @dK a kvs ea =>
      cases (show u = Value.ref a from rx)
      obtain ⟨_, _, vs, _, o, es, ep, h1, h2, _⟩ := (show ObjOk X.prog X.w H s.heap a (.dK kvs) from I.hok a _ ea)
      exact h2.1 ▸ looks_ref h1
    | @dT a kvs ea =>
      cases (show u = Value.ref a from rx)
      obtain ⟨_, _, xs, _, o, es, ep, h1, h2, _⟩ := (show ObjOk X.prog X.w H s.heap a (.dT kvs) from I.hok a _ ea)
      exact h2.1 ▸ looks_ref h1
    | @ins a C dx fs ea cl ha hn htk hm =>
      cases (show u = Value.ref a from rx)
      obtain ⟨mA, O, _⟩ := ins_get I.hok ea
      obtain ⟨od, J, _⟩ := O.look
      exact J.type
  | byt y => obtain ⟨t, q⟩ := (show ∃ t, u = Value.bytes y t from rx); cases q; exact PySem.W.Looks.of_pure rfl
  | @set a S n ea =>
    cases (show u = Value.ref a from rx)
    obtain ⟨o, _, _, _, e, ex, _⟩ := I.hok a _ ea
    exact ex.1 ▸ looks_ref e
  | @kList a o e c =>
    cases (show u = Value.ref a from rx)
    exact c ▸ looks_ref (I.kIn a o e)
  | @kTuple a o e c =>
    cases (show u = Value.ref a from rx)
    exact c ▸ looks_ref (I.kIn a o e)
  | @kDict a o e c =>
    cases (show u = Value.ref a from rx)
    exact c ▸ looks_ref (I.kIn a o e)
  | @fTuple a ob xs ea =>
    cases (show u = Value.ref a from rx)
    obtain ⟨_, _, _, _, o, h1, h2, _⟩ := (show ObjOk X.prog X.w H s.heap a (.frz ob (.tup xs)) from I.hok a _ ea)
    exact h2 ▸ looks_ref h1
  | @fDict a ob kvs ea =>
    cases (show u = Value.ref a from rx)
    obtain ⟨_, _, _, vs, _, o, es, ep, h1, h2, _⟩ := (show ObjOk X.prog X.w H s.heap a (.frz ob (.dK kvs)) from I.hok a _ ea)
    exact h2.1 ▸ looks_ref h1
/-- x == y, x an instance of the class at C with its own __eq__ (its promise sp) -/
def rEqO (K : PySem.W.Frag) (C : Addr) (sp : Sp) : R2 := fun x y H Q => (∃ a dx fs, x = .ref a ∧ H a = some (.ins C dx fs)) ∧ (∃ t, TyX K H y t ∧ PySem.W.notFirst K C t = true) ∧ sp [x, y] H (fun v H' => ∃ b, v = .bl b ∧ Q (.bl b) H') (fun _ _ _ => False)
def rNeO (K : PySem.W.Frag) (C : Addr) (sp : Sp) : R2 := fun x y H Q => (∃ a dx fs, x = .ref a ∧ H a = some (.ins C dx fs)) ∧ (∃ t, TyX K H y t ∧ PySem.W.notFirst K C t = true) ∧ sp [x, y] H (fun v H' => ∃ b, v = .bl b ∧ Q (.bl (!b)) H') (fun _ _ _ => False)
theorem run_own {CX : CXT} {n : Nat} {f : Addr} {fd : FuncData} {sp : Sp} {A : Around} {x y : V} {u v : Value} {Q : VK} (F : FnOk X.prog X.w X.K X.mg X.base CX n f fd ["self", "other"] sp) (hb : Binds X.K fd ["self", "other"] []) (hx : Passes CX X (fun _ _ _ => False))
    (hr : Room n A) (hfr : A.frames = X.A.frames) (I : Inv X pins σ H s) (rx : RelV x u) (ry : RelV y v) (h : sp [x, y] H Q (fun _ _ _ => False)) :
    wpAny (model X.prog X.w) A (call (.ref f) [u, v]) (EP X pins σ Q) X.xe s := by
  have e0 : Env0 X.prog X.w X.K X.mg X.base A X.stack s H := by
    have e := I.env0
    exact ⟨by rw [hfr]; exact e.frames, e.mod, e.bs, e.bsz, e.funs, e.frf, e.hok, e.bare⟩
  have r2 : Vals [x, y] [u, v] := .cons rx (.cons ry .nil)
  refine wpAny_call (codeAny_mono (F.run A X.stack s H ⟨[u, v], []⟩ [u, v] [x, y] Q _ hr e0 (by
    have := hb s [u, v] I.kIn rfl
    simpa using this) r2 h) fun r s' hq => ?_)
  cases r with
  | error e => exact hx pins σ H s e s' I hq
  | ok fl =>
    cases fl with
    | ret w => exact I.after hq
    | next => exact False.elim hq
    | brk => exact False.elim hq
    | cont => exact False.elim hq
theorem op_eqO {CX : CXT} {n : Nat} {C f : Addr} {fd : FuncData} {sp : Sp} (T : OEq X.K C f) (F : FnOk X.prog X.w X.K X.mg X.base CX n f fd ["self", "other"] sp) (hb : Binds X.K fd ["self", "other"] []) (hx : Passes CX X (fun _ _ _ => False)) (hr : Room n X.A) (hu : X.A.units + 64 < cLine) :
    OpR X (compareOp .Eq) (rEqO X.K C sp) := by
  intro pins s σ H x y v u Q I rx ry hq
  obtain ⟨⟨a, dx, fs, rfl, ha⟩, ⟨t, ty, hn⟩, q⟩ := hq
  obtain rfl : v = Value.ref a := rx
  obtain ⟨mA, J, _⟩ := ins_get I.hok ha
  obtain ⟨od, J, _⟩ := J.look
  show wpAny (model X.prog X.w) X.A (richCompare .Eq (.ref a) u) (EP X pins σ Q) X.xe s
  refine OwnC.cmp_eq (by omega) I.kIn J (tyX_looks I ry ty) hn T.eq T.fn (wpAny_mono (run_own F hb hx hr rfl I (x := .ref a) rfl ry q) (fun r s' z => ?_) fun _ _ e => e)
  obtain ⟨z, H', I', rz, b, rfl, q'⟩ := z
  cases rz
  exact ⟨b, rfl, .bl b, H', I', rfl, q'⟩
theorem op_neO {CX : CXT} {n : Nat} {C f : Addr} {fd : FuncData} {sp : Sp} (T : OEq X.K C f) (F : FnOk X.prog X.w X.K X.mg X.base CX n f fd ["self", "other"] sp) (hb : Binds X.K fd ["self", "other"] []) (hx : Passes CX X (fun _ _ _ => False)) (hr : Room n X.A.in1) (hu : X.A.units + 64 < cLine) :
    OpR X (compareOp .NotEq) (rNeO X.K C sp) := by
  intro pins s σ H x y v u Q I rx ry hq
  obtain ⟨⟨a, dx, fs, rfl, ha⟩, ⟨t, ty, hn⟩, q⟩ := hq
  obtain rfl : v = Value.ref a := rx
  obtain ⟨mA, J, _⟩ := ins_get I.hok ha
  obtain ⟨od, J, _⟩ := J.look
  show wpAny (model X.prog X.w) X.A (richCompare .NotEq (.ref a) u) (EP X pins σ Q) X.xe s
  refine OwnC.cmp_ne (by omega) I.kIn J (tyX_looks I ry ty) hn T.mo T.ne T.eq T.fn (wpAny_mono (run_own F hb hx hr rfl I (x := .ref a) rfl ry q) (fun r s' z => ?_) fun _ _ e => e)
  obtain ⟨z, H', I', rz, b, rfl, q'⟩ := z
  cases rz
  exact ⟨b, rfl, .bl (!b), H', I', rfl, q'⟩
end
section
variable {X : Cx} {K : PySem.W.Frag}
theorem call_len_seqK (e : X.K = K) : CallR X (.builtin "len") (fun xs H Q => ∃ p ys, xs = [.ref p] ∧ (SqL K H p ys ∨ SqT K H p ys) ∧ Q (.int ys.length) H) := by subst e; exact call_len_seq
theorem call_tuple_ofK (e : X.K = K) : CallR X (.type "tuple") (fun xs H Q => ∃ p ys, xs = [.ref p] ∧ (SqL K H p ys ∧ (∀ q, H q = none → Q (.ref q) (upd H q (.tup ys))) ∨ SqT K H p ys ∧ Q (.ref p) H)) := by subst e; exact call_tuple_of
end
end L2

set_option Elab.async false
set_option linter.all false
set_option maxRecDepth 100000
set_option maxHeartbeats 4000000
/-! Decoders as data: what the program asks of their parts; what they write. -/
namespace My
open PySem PySem.Spec PyProof.Rows L2
/-! ### what the program asks of data -/
def isI : PyData → Bool | .int _ => true | _ => false
def isCn : PyData → Bool | .int i => decide (0 ≤ i) | _ => false
def isSg : PyData → Bool | .int i => decide (1 ≤ i) && decide (i ≤ 5) | _ => false
def isBe (n : Int) : PyData → Bool | .int i => decide (0 ≤ i) && decide (i < n) | _ => false
def numD : PyData → Int | .int i => i | _ => 0
def isSqD : PyData → Bool | .list _ => true | .tuple _ => true | _ => false
def isNn : PyData → Bool | .none => true | _ => false
def isTx : PyData → Bool | .str z => isT z | _ => false
def isWd : PyData → Bool | .str z => isT z && decide ((z.length : Int) ≤ 3) | _ => false
def isStp (n : Int) : PyData → Bool | .tuple [a, b] => isBe n a && isWd b | _ => false
def isEn (n : Int) (d : PyData) : Bool := isNn d || isStp n d
def itsD : PyData → List PyData | .list es => es | .tuple es => es | _ => []
def entB (m n : Int) (d : PyData) : Bool := isSqD d && (decide (((itsD d).length : Int) = m) && (itsD d).all (isEn n))
def stepsB (m : Int) (d : PyData) : Bool := isSqD d && ((decide (1 ≤ ((itsD d).length : Int)) && decide (((itsD d).length : Int) ≤ 40)) && (itsD d).all (entB m ((itsD d).length : Int)))
def endB (d : PyData) : Bool := isNn d || isWd d
def endsB (n : Int) (d : PyData) : Bool := isSqD d && (decide (((itsD d).length : Int) = n) && (itsD d).all endB)
def isLn (n : Int) : PyData → Bool | .tuple ds => ds.all (isBe n) | _ => false
theorem kit_sqD {K : PySem.W.Frag} (d : PyData) : PySem.W.kitAny K (.type (tyD d)) [.type "list", .type "tuple"] = some (isSqD d) := by
  have h1 := kit_lstD (K := K) d
  have h2 := kit_tupD (K := K) d
  unfold PySem.W.kitAny
  rw [h1]
  cases d <;> simp [isLstD, isSqD, isTupD, PySem.W.kitAny, h2] <;> rfl
/-- an own class is none of data's -/
theorem kit_ownD {K : PySem.W.Frag} {C : Addr} (h2 : PySem.W.isClsIn K C = true) (h3 : PySem.W.typeIn K (.ref C) = some (.type "type")) (d : PyData) : PySem.W.kitOne K (.type (tyD d)) (.ref C) = some false := by
  have hs : ∀ T : String, (∃ l : List Value, fastBuiltinMro T = some l ∧ l.contains (.ref C) = false) → PySem.W.kitOne K (.type T) (.ref C) = some false := fun T ⟨l, e, hl⟩ => by
    unfold PySem.W.kitOne
    rw [if_neg (by simp)]
    have h2' : (PySem.W.clsIn K C).isSome = true := h2
    show (if ((PySem.W.clsIn K C).isSome && PySem.W.typeIn K (.ref C) == some (.type "type")) = true then PySem.W.subIn K (.type T) (.ref C) else none) = some false
    rw [if_pos (by rw [h2', h3] <;> rfl)]
    show (fastBuiltinMro T).map (·.contains (.ref C)) = some false
    rw [e]
    show some (l.contains (.ref C)) = some false
    rw [hl]
  cases d with
  | none => exact hs "NoneType" ⟨[.type "NoneType", .type "object"], by decide +kernel, by simp⟩
  | bool _ => exact hs "bool" ⟨[.type "bool", .type "int", .type "object"], by decide +kernel, by simp⟩
  | int _ => exact hs "int" ⟨[.type "int", .type "object"], by decide +kernel, by simp⟩
  | str _ => exact hs "str" ⟨[.type "str", .type "object"], by decide +kernel, by simp⟩
  | list _ => exact hs "list" ⟨[.type "list", .type "object"], by decide +kernel, by simp⟩
  | tuple _ => exact hs "tuple" ⟨[.type "tuple", .type "object"], by decide +kernel, by simp⟩
  | dict _ => exact hs "dict" ⟨[.type "dict", .type "object"], by decide +kernel, by simp⟩
theorem kit_same {K : PySem.W.Frag} {C : Addr} : PySem.W.kitOne K (.ref C) (.ref C) = some true := by
  unfold PySem.W.kitOne
  rw [if_pos (by simp)]
theorem notFirst_data {K : PySem.W.Frag} {C : Addr} (d : PyData) : PySem.W.notFirst K C (.type (tyD d)) = true := by
  have hs : ∀ T : String, (∃ l : List Value, fastBuiltinMro T = some l ∧ l.contains (.ref C) = false) → PySem.W.notFirst K C (.type T) = true := fun T ⟨l, e, hl⟩ => by
    unfold PySem.W.notFirst
    have : PySem.W.subIn K (.type T) (.ref C) = some false := by
      show (fastBuiltinMro T).map (·.contains (.ref C)) = some false
      rw [e]
      show some (l.contains (.ref C)) = some false
      rw [hl]
    rw [this]
    simp
  cases d with
  | none => exact hs "NoneType" ⟨[.type "NoneType", .type "object"], by decide +kernel, by simp⟩
  | bool _ => exact hs "bool" ⟨[.type "bool", .type "int", .type "object"], by decide +kernel, by simp⟩
  | int _ => exact hs "int" ⟨[.type "int", .type "object"], by decide +kernel, by simp⟩
  | str _ => exact hs "str" ⟨[.type "str", .type "object"], by decide +kernel, by simp⟩
  | list _ => exact hs "list" ⟨[.type "list", .type "object"], by decide +kernel, by simp⟩
  | tuple _ => exact hs "tuple" ⟨[.type "tuple", .type "object"], by decide +kernel, by simp⟩
  | dict _ => exact hs "dict" ⟨[.type "dict", .type "object"], by decide +kernel, by simp⟩
/-! ### the weight of data -/
theorem weight_len : ∀ ds : List PyData, ds.length ≤ PyData.weightAll ds
  | [] => Nat.zero_le _
  | d :: ds => by unfold PyData.weightAll; have := weight_len ds; rw [List.length_cons]; omega
theorem weight_mem : ∀ {ds : List PyData} {d : PyData}, d ∈ ds → d.weight ≤ PyData.weightAll ds
  | e :: ds, d, h => by
    unfold PyData.weightAll
    rcases List.mem_cons.mp h with z | z
    · rw [z]; omega
    · have := weight_mem z; omega
theorem weight_its {d : PyData} : (itsD d).length ≤ d.weight ∧ ∀ e ∈ itsD d, e.weight ≤ d.weight := by
  cases d with
  | list ds =>
    have e0 : (PyData.list ds).weight = PyData.weightAll ds := by rw [PyData.weight]
    rw [e0]
    exact ⟨weight_len ds, fun e he => weight_mem he⟩
  | tuple ds =>
    have e0 : (PyData.tuple ds).weight = PyData.weightAll ds := by rw [PyData.weight]
    rw [e0]
    exact ⟨weight_len ds, fun e he => weight_mem he⟩
  | _ => exact ⟨Nat.zero_le _, fun e he => by cases he⟩
theorem sq_its {d : PyData} (h : isSqD d = true) : d = .list (itsD d) ∨ d = .tuple (itsD d) := by
  cases d with
  | list ds => exact .inl rfl
  | tuple ds => exact .inr rfl
  | _ => cases h
theorem all_map {α : Type} {f : α → PyData} {p : PyData → Bool} {G : α → Prop} (h : ∀ d, p d = true → ∃ e, d = f e ∧ G e) : ∀ ds : List PyData, ds.all p = true → ∃ es : List α, ds = es.map f ∧ ∀ e ∈ es, G e
  | [], _ => ⟨[], rfl, fun e he => by cases he⟩
  | d :: ds, ha => by
    rw [List.all_cons, Bool.and_eq_true] at ha
    obtain ⟨e, rfl, g⟩ := h d ha.1
    obtain ⟨es, rfl, gs⟩ := all_map h ds ha.2
    exact ⟨e :: es, rfl, fun e' he => by
      rcases List.mem_cons.mp he with z | z
      · rw [z]; exact g
      · exact gs e' z⟩
/-! ### plain data: == is being the same -/
mutual
def plD : PyData → Bool
  | .none => true
  | .int _ => true
  | .str _ => true
  | .list ds => plAll ds
  | .tuple ds => plAll ds
  | .bool _ => false
  | .dict _ => false
def plAll : List PyData → Bool
  | [] => true
  | d :: ds => plD d && plAll ds
end
mutual
theorem eqv_pl : ∀ (x y : PyData), plD x = true → plD y = true → (PyData.eqv x y = true ↔ x = y)
  | .none, y, _, hy => by cases y <;> simp [PyData.eqv]
  | .int i, y, _, hy => by
    cases y with
    | bool b => simp [plD] at hy
    | _ => simp [PyData.eqv]
  | .str i, y, _, hy => by cases y <;> simp [PyData.eqv]
  | .list ds, y, hx, hy => by
    cases y with
    | list es =>
      have h1 : plAll ds = true := by simpa [plD] using hx
      have h2 : plAll es = true := by simpa [plD] using hy
      have := eqv_plAll ds es h1 h2
      unfold PyData.eqv
      rw [this]
      exact ⟨fun e => by rw [e], fun e => by injection e⟩
    | _ => simp [PyData.eqv]
  | .tuple ds, y, hx, hy => by
    cases y with
    | tuple es =>
      have h1 : plAll ds = true := by simpa [plD] using hx
      have h2 : plAll es = true := by simpa [plD] using hy
      have := eqv_plAll ds es h1 h2
      unfold PyData.eqv
      rw [this]
      exact ⟨fun e => by rw [e], fun e => by injection e⟩
    | _ => simp [PyData.eqv]
  | .bool _, _, hx, _ => by simp [plD] at hx
  | .dict _, _, hx, _ => by simp [plD] at hx
theorem eqv_plAll : ∀ (xs ys : List PyData), plAll xs = true → plAll ys = true → (PyData.eqvAll xs ys = true ↔ xs = ys)
  | [], [], _, _ => by simp [PyData.eqvAll]
  | [], y :: ys, _, _ => by simp [PyData.eqvAll]
  | x :: xs, [], _, _ => by simp [PyData.eqvAll]
  | x :: xs, y :: ys, hx, hy => by
    have h1 : plD x = true ∧ plAll xs = true := by simpa [plAll] using hx
    have h2 : plD y = true ∧ plAll ys = true := by simpa [plAll] using hy
    have i1 := eqv_pl x y h1.1 h2.1
    have i2 := eqv_plAll xs ys h1.2 h2.2
    unfold PyData.eqvAll
    rw [Bool.and_eq_true, i1, i2]
    exact ⟨fun ⟨a, b⟩ => by rw [a, b], fun e => by injection e with a b; exact ⟨a, b⟩⟩
end
theorem plAll_map {α : Type} {f : α → PyData} (h : ∀ a, plD (f a) = true) : ∀ l : List α, plAll (l.map f) = true
  | [] => by simp [plAll]
  | a :: l => by rw [List.map_cons]; unfold plAll; rw [h a, plAll_map h l]; rfl
theorem map_inj {α β : Type} {f : α → β} (h : ∀ a b, f a = f b → a = b) : ∀ {l l' : List α}, l.map f = l'.map f → l = l'
  | [], [], _ => rfl
  | [], _ :: _, e => by cases e
  | _ :: _, [], e => by cases e
  | a :: l, b :: l', e => by
    rw [List.map_cons, List.map_cons] at e
    injection e with e1 e2
    rw [h a b e1, map_inj h e2]
/-! ### decoders -/
abbrev Ent := Option (Nat × List Nat)
structure Dcd where
  sg : Nat
  st : List (List Ent)
  en : List (Option (List Nat))
deriving DecidableEq
def enD : Ent → PyData | none => .none | some (g, w) => .tuple [.int (g : Nat), .str (S w)]
def wdD : Option (List Nat) → PyData | none => .none | some w => .str (S w)
def okW (w : List Nat) : Prop := Low w ∧ w.length ≤ 3
def okE (n : Nat) (e : Ent) : Prop := ∀ g w, e = some (g, w) → g < n ∧ okW w
structure Dcd.ok (D : Dcd) : Prop where
  s1 : 1 ≤ D.sg
  s5 : D.sg ≤ 5
  n1 : 1 ≤ D.st.length
  n40 : D.st.length ≤ 40
  rows : ∀ r ∈ D.st, r.length = D.sg ∧ ∀ e ∈ r, okE D.st.length e
  ends : D.en.length = D.st.length
  words : ∀ e ∈ D.en, ∀ w, e = some w → okW w
def Dcd.stD (D : Dcd) : PyData := .tuple (D.st.map fun r => .tuple (r.map enD))
def Dcd.enD (D : Dcd) : PyData := .tuple (D.en.map wdD)
theorem enD_inj : ∀ a b : Ent, enD a = enD b → a = b
  | none, none, _ => rfl
  | none, some (g, w), e => by cases e
  | some (g, w), none, e => by cases e
  | some (g, w), some (g', w'), e => by
    unfold My.enD at e
    injection e with e
    injection e with e1 e2
    injection e1 with e1
    injection e2 with e2 _
    injection e2 with e2
    have : g = g' := by omega
    rw [this, S_inj e2]
theorem wdD_inj : ∀ a b : Option (List Nat), wdD a = wdD b → a = b
  | none, none, _ => rfl
  | none, some w, e => by cases e
  | some w, none, e => by cases e
  | some w, some w', e => by
    unfold wdD at e
    injection e with e
    rw [S_inj e]
theorem stD_inj {D D' : Dcd} (h : D.stD = D'.stD) : D.st = D'.st := by
  unfold Dcd.stD at h
  injection h with h
  exact map_inj (fun a b e => map_inj enD_inj (by injection e)) h
theorem dEn_inj {D D' : Dcd} (h : D.enD = D'.enD) : D.en = D'.en := by
  unfold Dcd.enD at h
  injection h with h
  exact map_inj wdD_inj h
theorem plD_enD (e : Ent) : plD (enD e) = true := by
  cases e with
  | none => rfl
  | some p => obtain ⟨g, w⟩ := p; rfl
theorem plD_wdD (e : Option (List Nat)) : plD (wdD e) = true := by cases e <;> rfl
theorem plD_stD (D : Dcd) : plD D.stD = true := by
  unfold Dcd.stD plD
  exact plAll_map (fun r => by unfold plD; exact plAll_map plD_enD r) _
theorem plD_dEn (D : Dcd) : plD D.enD = true := by
  unfold Dcd.enD plD
  exact plAll_map plD_wdD _
theorem isBe_int {n : Int} {d : PyData} (h : isBe n d = true) : ∃ i : Int, d = .int i ∧ 0 ≤ i ∧ i < n := by
  cases d with
  | int i =>
    have h' : (decide (0 ≤ i) && decide (i < n)) = true := h
    simp only [Bool.and_eq_true, decide_eq_true_eq] at h'
    exact ⟨i, rfl, h'.1, h'.2⟩
  | _ => cases h
theorem isWd_str {d : PyData} (h : isWd d = true) : ∃ w, d = .str (S w) ∧ okW w := by
  cases d with
  | str z =>
    have h' : (isT z && decide ((z.length : Int) ≤ 3)) = true := h
    simp only [Bool.and_eq_true, decide_eq_true_eq] at h'
    refine ⟨cs z, by rw [S_of], ?_, ?_⟩
    · intro c hc
      have := h'.1
      unfold isT at this
      exact List.all_eq_true.mp this c hc
    · have : z.length = (cs z).length := by rw [← S_len, S_of]
      omega
  | _ => cases h
theorem isWd_of {w : List Nat} (h : okW w) : isWd (.str (S w)) = true := by
  show (isT (S w) && decide (((S w).length : Int) ≤ 3)) = true
  rw [h.1.isT, S_len, decide_eq_true (by have := h.2; omega)]; rfl
theorem isEn_ent {n : Nat} {d : PyData} (h : isEn n d = true) : ∃ e : Ent, d = enD e ∧ okE n e := by
  unfold isEn at h
  rw [Bool.or_eq_true] at h
  rcases h with h | h
  · cases d with
    | none => exact ⟨none, rfl, fun g w e => by cases e⟩
    | _ => cases h
  · cases d with
    | tuple ds =>
      match ds, h with
      | [], h => cases h
      | [a], h => cases h
      | [a, b], h =>
        have h' : (isBe n a && isWd b) = true := h
        rw [Bool.and_eq_true] at h'
        obtain ⟨i, rfl, i0, i1⟩ := isBe_int h'.1
        obtain ⟨w, rfl, ow⟩ := isWd_str h'.2
        obtain ⟨k, rfl⟩ : ∃ k : Nat, i = k := ⟨i.toNat, by omega⟩
        exact ⟨some (k, w), rfl, fun g w' e => by injection e with e; injection e with e1 e2; subst e1 e2; exact ⟨by omega, ow⟩⟩
      | a :: b :: c :: r, h => cases h
    | _ => cases h
theorem isEn_of {n : Nat} {e : Ent} (h : okE n e) : isEn n (enD e) = true := by
  cases e with
  | none => rfl
  | some p =>
    obtain ⟨g, w⟩ := p
    obtain ⟨h1, h2⟩ := h g w rfl
    show (isNn _ || (isBe n (.int (g : Nat)) && isWd (.str (S w)))) = true
    rw [isWd_of h2]
    show (false || ((decide ((0 : Int) ≤ (g : Nat)) && decide (((g : Nat) : Int) < n)) && true)) = true
    rw [decide_eq_true (by omega), decide_eq_true (by omega)]; rfl
theorem endB_wd {d : PyData} (h : endB d = true) : ∃ e : Option (List Nat), d = wdD e ∧ ∀ w, e = some w → okW w := by
  unfold endB at h
  rw [Bool.or_eq_true] at h
  rcases h with h | h
  · cases d with
    | none => exact ⟨none, rfl, fun w e => by cases e⟩
    | _ => cases h
  · obtain ⟨w, rfl, o⟩ := isWd_str h
    exact ⟨some w, rfl, fun w' e => by injection e with e; rw [← e]; exact o⟩
theorem endB_of {e : Option (List Nat)} (h : ∀ w, e = some w → okW w) : endB (wdD e) = true := by
  cases e with
  | none => rfl
  | some w =>
    show (isNn _ || isWd (.str (S w))) = true
    rw [isWd_of (h w rfl)]; rfl
/-- data that are a decoder's parts -/
structure GoodD (D : Dcd) (d1 d2 d3 : PyData) : Prop where
  ok : D.ok
  e1 : d1 = .int (D.sg : Nat)
  s2 : isSqD d2 = true
  r2 : ∀ r ∈ itsD d2, isSqD r = true
  e2 : (itsD d2).map itsD = D.st.map (fun r => r.map enD)
  s3 : isSqD d3 = true
  e3 : itsD d3 = D.en.map wdD
theorem rows_of {m n : Nat} : ∀ rows : List PyData, rows.all (entB m n) = true → ∃ st : List (List Ent), rows.map itsD = st.map (fun r => r.map enD) ∧ (∀ r ∈ rows, isSqD r = true) ∧ ∀ r ∈ st, r.length = m ∧ ∀ e ∈ r, okE n e
  | [], _ => ⟨[], rfl, (fun r h => by cases h), (fun r h => by cases h)⟩
  | d :: rows, h => by
    rw [List.all_cons, Bool.and_eq_true] at h
    obtain ⟨st, e, h1, h2⟩ := rows_of rows h.2
    have hd := h.1
    unfold entB at hd
    rw [Bool.and_eq_true, Bool.and_eq_true, decide_eq_true_eq] at hd
    obtain ⟨es, ee, ge⟩ := all_map (f := enD) (G := okE n) (fun d h => isEn_ent h) _ hd.2.2
    refine ⟨es :: st, by rw [List.map_cons, List.map_cons, e, ee], fun r hr => ?_, fun r hr => ?_⟩
    · rcases List.mem_cons.mp hr with z | z
      · rw [z]; exact hd.1
      · exact h1 r z
    · rcases List.mem_cons.mp hr with z | z
      · rw [z]
        refine ⟨?_, ge⟩
        have := hd.2.1
        rw [ee, List.length_map] at this
        omega
      · exact h2 r z
theorem good_of {d1 d2 d3 : PyData} (h1 : isSg d1 = true) (h2 : stepsB (numD d1) d2 = true) (h3 : endsB ((itsD d2).length : Int) d3 = true) : ∃ D, GoodD D d1 d2 d3 := by
  cases d1 with
  | int i =>
    have h1' : (decide (1 ≤ i) && decide (i ≤ 5)) = true := h1
    simp only [Bool.and_eq_true, decide_eq_true_eq] at h1'
    obtain ⟨k, rfl⟩ : ∃ k : Nat, i = k := ⟨i.toNat, by omega⟩
    unfold stepsB at h2
    rw [Bool.and_eq_true, Bool.and_eq_true, Bool.and_eq_true, decide_eq_true_eq, decide_eq_true_eq] at h2
    obtain ⟨st, es, hq, hr⟩ := rows_of (m := k) (n := (itsD d2).length) (itsD d2) h2.2.2
    unfold endsB at h3
    rw [Bool.and_eq_true, Bool.and_eq_true, decide_eq_true_eq] at h3
    obtain ⟨en, ee, ge⟩ := all_map (f := wdD) (G := fun e => ∀ w, e = some w → okW w) (fun d h => endB_wd h) _ h3.2.2
    have ls : st.length = (itsD d2).length := by have := congrArg List.length es; rw [List.length_map, List.length_map] at this; exact this.symm
    have le : en.length = (itsD d3).length := by rw [ee, List.length_map]
    refine ⟨⟨k, st, en⟩, ⟨by show 1 ≤ k; omega, by show k ≤ 5; omega, by show 1 ≤ st.length; omega, by show st.length ≤ 40; omega, fun r hr' => ?_, by show en.length = st.length; omega, ge⟩, rfl, h2.1, hq, es, h3.1, ee⟩
    show r.length = k ∧ ∀ e ∈ r, okE st.length e
    rw [ls]; exact hr r hr'
  | _ => cases h1
theorem GoodD.sg {D : Dcd} {d1 d2 d3 : PyData} (g : GoodD D d1 d2 d3) : isSg d1 = true := by
  rw [g.e1]
  show (decide (1 ≤ ((D.sg : Nat) : Int)) && decide (((D.sg : Nat) : Int) ≤ 5)) = true
  have h1 := g.ok.s1
  have h5 := g.ok.s5
  rw [decide_eq_true (by omega), decide_eq_true (by omega)]; rfl
theorem GoodD.len2 {D : Dcd} {d1 d2 d3 : PyData} (g : GoodD D d1 d2 d3) : (itsD d2).length = D.st.length := by
  have := congrArg List.length g.e2
  rwa [List.length_map, List.length_map] at this
theorem rows_all {m n : Nat} : ∀ (rows : List PyData) (st : List (List Ent)), rows.map itsD = st.map (fun r => r.map enD) → (∀ r ∈ rows, isSqD r = true) → (∀ r ∈ st, r.length = m ∧ ∀ e ∈ r, okE n e) → rows.all (entB m n) = true
  | [], _, _, _, _ => rfl
  | d :: rows, [], e, _, _ => by cases e
  | d :: rows, r :: st, e, hq, hr => by
    rw [List.map_cons, List.map_cons] at e
    injection e with e1 e2
    rw [List.all_cons, rows_all rows st e2 (fun r' h => hq r' (List.mem_cons_of_mem _ h)) (fun r' h => hr r' (List.mem_cons_of_mem _ h)), Bool.and_true]
    obtain ⟨l, o⟩ := hr r List.mem_cons_self
    unfold entB
    rw [hq d List.mem_cons_self, e1, List.length_map, decide_eq_true (by omega), Bool.true_and, Bool.true_and, List.all_eq_true]
    intro x hx
    obtain ⟨en, hen, rfl⟩ := List.mem_map.mp hx
    exact isEn_of (o en hen)
theorem GoodD.steps {D : Dcd} {d1 d2 d3 : PyData} (g : GoodD D d1 d2 d3) : stepsB (D.sg : Nat) d2 = true := by
  unfold stepsB
  have n1 := g.ok.n1
  have n40 := g.ok.n40
  rw [g.s2, g.len2, rows_all _ _ g.e2 g.r2 g.ok.rows, decide_eq_true (by omega), decide_eq_true (by omega)]; rfl
theorem GoodD.ends {D : Dcd} {d1 d2 d3 : PyData} (g : GoodD D d1 d2 d3) : endsB ((itsD d2).length : Int) d3 = true := by
  unfold endsB
  rw [g.s3, g.e3, g.len2, List.length_map, g.ok.ends, decide_eq_true rfl, Bool.true_and, Bool.true_and, List.all_eq_true]
  intro x hx
  obtain ⟨en, hen, rfl⟩ := List.mem_map.mp hx
  exact endB_of fun w e => g.ok.words en hen w e
theorem GoodD.tup {D : Dcd} {d1 d2 d3 : PyData} (g : GoodD D d1 d2 d3) : PyData.tuple ((itsD d2).map fun r => .tuple (itsD r)) = D.stD := by
  unfold Dcd.stD
  have := congrArg (List.map PyData.tuple) g.e2
  rw [List.map_map, List.map_map] at this
  exact congrArg PyData.tuple this
theorem GoodD.tupE {D : Dcd} {d1 d2 d3 : PyData} (g : GoodD D d1 d2 d3) : PyData.tuple (itsD d3) = D.enD := by
  unfold Dcd.enD
  rw [g.e3]
/-- the parts of a decoder, as tuples -/
theorem Dcd.good {D : Dcd} (h : D.ok) : GoodD D (.int (D.sg : Nat)) D.stD D.enD :=
  ⟨h, rfl, rfl, fun r hr => by
    obtain ⟨x, _, rfl⟩ := List.mem_map.mp hr
    rfl, by show (D.st.map fun r => PyData.tuple (r.map My.enD)).map itsD = _; rw [List.map_map]; rfl, rfl, rfl⟩
/-! ### how large it is -/
theorem okW.fit {w : List Nat} (h : okW w) : Fit (.str (S w)) 1 4 := Fit.str (Nat.le_trans h.2 (by omega)) (fun c hc => h.1.lt c hc)
theorem fit_enD {n : Nat} {e : Ent} (h : okE n e) (hn : n ≤ 40) : Fit (enD e) 2 40 := by
  cases e with
  | none => exact Fit.none.mono (Nat.le_refl _) (Nat.zero_le _)
  | some p =>
    obtain ⟨g, w⟩ := p
    obtain ⟨h1, h2⟩ := h g w rfl
    exact (Fit.tuple (FitAll.cons (Fit.nat (by omega)) (FitAll.cons h2.fit FitAll.nil))).mono (Nat.le_refl _) (by omega)
theorem fit_stD {D : Dcd} (h : D.ok) : Fit D.stD 4 9000 := by
  have n40 := h.n40
  have s5 := h.s5
  refine (Fit.tuple (k := 3) (FitAll.all (w := 210) fun d hd => ?_)).mono (Nat.le_refl _) (by rw [List.length_map]; omega)
  obtain ⟨r, hr, rfl⟩ := List.mem_map.mp hd
  obtain ⟨l, o⟩ := h.rows r hr
  refine (Fit.tuple (k := 2) (FitAll.all (w := 40) fun x hx => ?_)).mono (Nat.le_refl _) (by rw [List.length_map]; omega)
  obtain ⟨e, he, rfl⟩ := List.mem_map.mp hx
  exact fit_enD (o e he) n40
theorem fit_wdD {e : Option (List Nat)} (h : ∀ w, e = some w → okW w) : Fit (wdD e) 1 4 := by
  cases e with
  | none => exact Fit.none.mono (Nat.le_refl _) (Nat.zero_le _)
  | some w => exact (h w rfl).fit
theorem fit_dEn {D : Dcd} (h : D.ok) : Fit D.enD 2 300 := by
  have n40 := h.n40
  have le := h.ends
  refine (Fit.tuple (k := 1) (FitAll.all (w := 4) fun d hd => ?_)).mono (Nat.le_refl _) (by rw [List.length_map]; omega)
  obtain ⟨e, he, rfl⟩ := List.mem_map.mp hd
  exact fit_wdD fun w q => h.words e he w q
/-! ### what it writes -/
def Dcd.at (D : Dcd) (s a : Nat) : Ent := ((D.st.getD s []).getD a none)
def Dcd.go (D : Dcd) : Nat → List Nat → Option (Nat × List Nat)
  | s, [] => some (s, [])
  | s, a :: l => match D.at s a with
    | none => none
    | some (g, w) => (D.go g l).map fun (p : Nat × List Nat) => (p.1, w ++ p.2)
def Dcd.wr (D : Dcd) (l : List Nat) : Option (List Nat) := match D.go 0 l with
  | none => none
  | some (s, u) => (D.en.getD s none).map fun w => u ++ w
theorem Dcd.go_snoc (D : Dcd) : ∀ (l : List Nat) (s a : Nat), D.go s (l ++ [a]) = match D.go s l with
    | none => none
    | some (t, u) => (D.at t a).map fun (p : Nat × List Nat) => (p.1, u ++ p.2)
  | [], s, a => by
    show (match D.at s a with | none => none | some (g, w) => (D.go g []).map fun (p : Nat × List Nat) => (p.1, w ++ p.2)) = _
    cases h : D.at s a with
    | none => show _ = (D.at s a).map _; rw [h]; rfl
    | some p =>
      obtain ⟨g, w⟩ := p
      show _ = (D.at s a).map _
      rw [h]
      show some (g, w ++ []) = some (g, [] ++ w)
      simp
  | b :: l, s, a => by
    show (match D.at s b with | none => none | some (g, w) => (D.go g (l ++ [a])).map fun (p : Nat × List Nat) => (p.1, w ++ p.2)) = match (match D.at s b with | none => none | some (g, w) => (D.go g l).map fun (p : Nat × List Nat) => (p.1, w ++ p.2)) with | none => none | some (t, u) => (D.at t a).map fun (p : Nat × List Nat) => (p.1, u ++ p.2)
    cases h : D.at s b with
    | none => rfl
    | some p =>
      obtain ⟨g, w⟩ := p
      show (D.go g (l ++ [a])).map _ = match (D.go g l).map (fun (p : Nat × List Nat) => (p.1, w ++ p.2)) with | none => none | some (t, u) => (D.at t a).map fun (p : Nat × List Nat) => (p.1, u ++ p.2)
      rw [D.go_snoc l g a]
      cases D.go g l with
      | none => rfl
      | some q =>
        obtain ⟨t, u⟩ := q
        show Option.map _ (Option.map _ (D.at t a)) = Option.map _ (D.at t a)
        rw [Option.map_map]
        cases D.at t a with
        | none => rfl
        | some r => obtain ⟨x, y⟩ := r; show some (x, w ++ (u ++ y)) = some (x, w ++ u ++ y); rw [List.append_assoc]
theorem Dcd.ok.at {D : Dcd} (h : D.ok) {s a : Nat} : okE D.st.length (D.at s a) := by
  intro g w e
  unfold Dcd.at at e
  by_cases hs : s < D.st.length
  · rw [List.getD_eq_getElem?_getD, List.getD_eq_getElem?_getD, List.getElem?_eq_getElem hs] at e
    show g < _ ∧ _
    have hr := h.rows D.st[s] (List.getElem_mem hs)
    by_cases ha : a < D.st[s].length
    · have e' : (D.st[s])[a]?.getD none = some (g, w) := e
      rw [List.getElem?_eq_getElem ha] at e'
      exact hr.2 _ (List.getElem_mem ha) g w e'
    · have e' : (D.st[s])[a]?.getD none = some (g, w) := e
      rw [List.getElem?_eq_none (Nat.le_of_not_lt ha)] at e'
      cases e'
  · have e0 : D.st.getD s [] = [] := by rw [List.getD_eq_getElem?_getD, List.getElem?_eq_none (by omega)]; rfl
    rw [e0] at e
    simp at e
theorem Dcd.ok.go {D : Dcd} (h : D.ok) : ∀ (l : List Nat) (s t : Nat) (u : List Nat), s < D.st.length → D.go s l = some (t, u) → t < D.st.length ∧ Low u ∧ u.length ≤ 3 * l.length
  | [], s, t, u, hs, e => by
    have e' : some (s, ([] : List Nat)) = some (t, u) := e
    injection e' with e'
    injection e' with e1 e2
    subst e1 e2
    exact ⟨hs, Low.nil, Nat.zero_le _⟩
  | a :: l, s, t, u, hs, e => by
    have e' : (match D.at s a with | none => none | some (g, w) => (D.go g l).map fun (p : Nat × List Nat) => (p.1, w ++ p.2)) = some (t, u) := e
    have oa : okE D.st.length (D.at s a) := h.at
    cases q : D.at s a with
    | none => rw [q] at e'; cases e'
    | some p =>
      obtain ⟨g, w⟩ := p
      rw [q] at e'
      obtain ⟨g1, g2⟩ := oa g w q
      have e2 : (D.go g l).map (fun (p : Nat × List Nat) => (p.1, w ++ p.2)) = some (t, u) := e'
      cases r : D.go g l with
      | none => rw [r] at e2; cases e2
      | some p =>
        obtain ⟨t', u'⟩ := p
        rw [r] at e2
        have e3 : some (t', w ++ u') = some (t, u) := e2
        injection e3 with e3
        injection e3 with a1 a2
        subst a1 a2
        obtain ⟨b1, b2, b3⟩ := h.go l g t' u' g1 r
        exact ⟨b1, g2.1.append b2, by rw [List.length_append, List.length_cons]; have := g2.2; omega⟩
theorem Dcd.ok.end_ {D : Dcd} (h : D.ok) {s : Nat} {w : List Nat} (e : D.en.getD s none = some w) : okW w := by
  by_cases hs : s < D.en.length
  · rw [List.getD_eq_getElem?_getD, List.getElem?_eq_getElem hs] at e
    exact h.words _ (List.getElem_mem hs) w e
  · rw [List.getD_eq_getElem?_getD, List.getElem?_eq_none (by omega)] at e
    cases e
theorem Dcd.ok.wr {D : Dcd} (h : D.ok) {l : List Nat} {u : List Nat} (e : D.wr l = some u) : Low u ∧ u.length ≤ 3 * l.length + 3 := by
  unfold Dcd.wr at e
  cases q : D.go 0 l with
  | none => rw [q] at e; cases e
  | some p =>
    obtain ⟨s, v⟩ := p
    rw [q] at e
    obtain ⟨_, lv, nv⟩ := h.go l 0 s v h.n1 q
    have e' : (D.en.getD s none).map (fun w => v ++ w) = some u := e
    cases r : D.en.getD s none with
    | none => rw [r] at e'; cases e'
    | some w =>
      rw [r] at e'
      have e2 : some (v ++ w) = some u := e'
      injection e2 with e2
      have ow := h.end_ r
      rw [← e2]
      exact ⟨lv.append ow.1, by rw [List.length_append]; have := ow.2; omega⟩
/-! ### a decoder in the heap -/
def dfs (m n : Int) (Sa Ea : Addr) : List (Str × V) := putF "ends" (.ref Ea) (putF "steps" (.ref Sa) (putF "states" (.int n) (putF "signs" (.int m) [])))
theorem dfs_signs {m n : Int} {Sa Ea : Addr} : (dfs m n Sa Ea).lookup ("signs" : Str) = some (V.int m) := by
  unfold dfs
  rw [lookup_putF, if_neg (by decide +kernel), lookup_putF, if_neg (by decide +kernel), lookup_putF, if_neg (by decide +kernel), lookup_putF, if_pos rfl]
theorem dfs_states {m n : Int} {Sa Ea : Addr} : (dfs m n Sa Ea).lookup ("states" : Str) = some (V.int n) := by
  unfold dfs
  rw [lookup_putF, if_neg (by decide +kernel), lookup_putF, if_neg (by decide +kernel), lookup_putF, if_pos rfl]
theorem dfs_steps {m n : Int} {Sa Ea : Addr} : (dfs m n Sa Ea).lookup ("steps" : Str) = some (V.ref Sa) := by
  unfold dfs
  rw [lookup_putF, if_neg (by decide +kernel), lookup_putF, if_pos rfl]
theorem dfs_ends {m n : Int} {Sa Ea : Addr} : (dfs m n Sa Ea).lookup ("ends" : Str) = some (V.ref Ea) := by
  unfold dfs
  rw [lookup_putF, if_pos rfl]
theorem dfs_no {m n : Int} {Sa Ea : Addr} {f : Str} (h1 : ¬ f = "ends") (h2 : ¬ f = "steps") (h3 : ¬ f = "states") (h4 : ¬ f = "signs") : (dfs m n Sa Ea).lookup f = none := by
  unfold dfs
  rw [lookup_putF, if_neg h1, lookup_putF, if_neg h2, lookup_putF, if_neg h3, lookup_putF, if_neg h4]
  all_goals rfl
structure DecAt (K : PySem.W.Frag) (C : Addr) (H : Hp) (p : Addr) (D : Dcd) : Prop where
  ob : ∃ dx Sa Ea, H p = some (.ins C dx (dfs (D.sg : Nat) (D.st.length : Nat) Sa Ea)) ∧ Dg K H false (.ref Sa) D.stD ∧ Dg K H false (.ref Ea) D.enD
  ok : D.ok
theorem DecAt.ext {K : PySem.W.Frag} {C : Addr} {H H' : Hp} {p : Addr} {D : Dcd} (h : DecAt K C H p D) (s : Same H H') : DecAt K C H' p D := by
  obtain ⟨⟨dx, Sa, Ea, e, h1, h2⟩, ok⟩ := h
  exact ⟨⟨dx, Sa, Ea, s _ _ e, h1.ext s, h2.ext s⟩, ok⟩
/-- beside b -/
def DecW (K : PySem.W.Frag) (C : Addr) (b : Addr) (H : Hp) (p : Addr) (D : Dcd) : Prop := DecAt K C (wo H b) p D
theorem DecW.kp {K : PySem.W.Frag} {C b : Addr} {H H' : Hp} {p : Addr} {D : Dcd} (h : DecW K C b H p D) (k : Kp b H H') : DecW K C b H' p D := DecAt.ext h k.wo
theorem DecW.at {K : PySem.W.Frag} {C b : Addr} {H : Hp} {p : Addr} {D : Dcd} (h : DecW K C b H p D) : DecAt K C H p D := DecAt.ext h (wo_same H b)
theorem DecAt.w {K : PySem.W.Frag} {C b : Addr} {H H' : Hp} {p : Addr} {D : Dcd} (h : DecAt K C H p D) (s : Same H (wo H' b)) : DecW K C b H' p D := DecAt.ext h s
end My

set_option Elab.async false
set_option linter.all false
set_option maxRecDepth 100000
set_option maxHeartbeats 4000000
/-! Comprehensions that make data: lists that grow beside p; rows as tuples. -/
namespace My
open PySem PySem.Spec PyProof.Rows L2
/-- the list at D, new since H1, holds the data ds; neither it nor p is part of them -/
def AcM (K : PySem.W.Frag) (m : Bool) (p : Addr) (H1 : Hp) (D : Addr) (ds : List PyData) (H : Hp) : Prop := Same H1 H ∧ ∃ acc, H D = some (.lst acc) ∧ DgAll K (wo (wo H p) D) m acc ds
section
variable {K : PySem.W.Frag} {m : Bool} {p D : Addr} {H1 H H2 : Hp} {ds : List PyData}
theorem AcM.start (hD : H1 D = none) : AcM K m p H1 D [] (L2.upd H1 D (.lst [])) := ⟨Same.new (Same.refl _) hD, [], upd_same, .nil⟩
theorem two_same (s : Same H H2) : Same (wo (wo H p) D) (wo (wo H2 p) D) := fun b o e => by
  have n : b ≠ D := fun z => by rw [z, wo_at] at e; cases e
  rw [wo_ne n] at e ⊢
  have n2 : b ≠ p := fun z => by rw [z, wo_at] at e; cases e
  rw [wo_ne n2] at e ⊢
  exact s b o e
theorem two_upd {o : HO} : wo (wo (L2.upd H D o) p) D = wo (wo H p) D := by
  funext b
  by_cases e : b = D
  · rw [e, wo_at, wo_at]
  · rw [wo_ne e, wo_ne e]
    by_cases e2 : b = p
    · rw [e2, wo_at, wo_at]
    · rw [wo_ne e2, wo_ne e2, upd_ne e]
theorem two_le : Same (wo (wo H p) D) (wo H p) := fun b o e => wo_le e
/-- one more -/
theorem AcM.snoc {y : V} {d : PyData} (h : AcM K m p H1 D ds H) (hD : H1 D = none) (l : ds.length ≤ 100000) (s : Same H H2) (dy : Dg K (wo (wo H2 p) D) m y d) :
    ∃ acc, H2 D = some (.lst acc) ∧ acc.length < sizeLine ∧ AcM K m p H1 D (ds ++ [d]) (L2.upd H2 D (.lst (acc ++ [y]))) := by
  obtain ⟨s1, acc, e, ha⟩ := h
  refine ⟨acc, s _ _ e, by rw [ha.len]; exact Nat.lt_of_le_of_lt l (by decide), fun b o q => ?_, acc ++ [y], upd_same, ?_⟩
  · rw [upd_ne (ne_of_none q hD)]; exact s _ _ (s1 _ _ q)
  · rw [two_upd]
    exact (ha.ext (two_same s)).append (.cons dy .nil)
theorem AcM.ne (h : AcM K m p H1 D ds H) : H D ≠ none := by
  obtain ⟨_, acc, e, _⟩ := h
  rw [e]; exact fun z => by cases z
/-- a new tuple of data -/
theorem two_tup {q : Addr} {xs : List V} {es : List PyData} (eD : H D ≠ none) (ep : H p ≠ none) (hq : H q = none) (h : DgAll K (wo (wo H p) D) m xs es) : Same H (L2.upd H q (.tup xs)) ∧ Dg K (wo (wo (L2.upd H q (.tup xs)) p) D) m (.ref q) (.tuple es) := by
  have n : q ≠ D := fun z => eD (by rw [← z]; exact hq)
  have n2 : q ≠ p := fun z => ep (by rw [← z]; exact hq)
  have s : Same H (L2.upd H q (.tup xs)) := Same.new (Same.refl _) hq
  exact ⟨s, .tup (SqT.of (by rw [wo_ne n, wo_ne n2]; exact upd_same)) (h.ext (two_same s))⟩
/-- what stood beside p when D was still free -/
theorem two_old {x : V} {d : PyData} (hD : H1 D = none) (s : Same H1 H) (h : Dg K (wo H1 p) m x d) : Dg K (wo (wo H p) D) m x d := h.ext fun b o e => by
  have n2 : b ≠ p := fun z => by rw [z, wo_at] at e; cases e
  have e' := e
  rw [wo_ne n2] at e'
  have n : b ≠ D := fun z => by rw [z, hD] at e'; cases e'
  rw [wo_ne n, wo_ne n2]
  exact s b o e'
theorem two_olds {x : List V} {d : List PyData} (hD : H1 D = none) (s : Same H1 H) (h : DgAll K (wo H1 p) m x d) : DgAll K (wo (wo H p) D) m x d := h.ext fun b o e => by
  have n2 : b ≠ p := fun z => by rw [z, wo_at] at e; cases e
  have e' := e
  rw [wo_ne n2] at e'
  have n : b ≠ D := fun z => by rw [z, hD] at e'; cases e'
  rw [wo_ne n, wo_ne n2]
  exact s b o e'
end
def tupD (r : PyData) : PyData := .tuple (itsD r)
theorem SqQ.le {K : PySem.W.Frag} {H H' : Hp} {a : Addr} {xs : List V} (h : SqQ K H a xs) (s : Same H H') : SqQ K H' a xs := h.same s
/-- tuple([tuple(row) for row in rows]) -/
theorem rows_tup {K : PySem.W.Frag} {H : Hp} {p a : Addr} {m : Bool} {ys : List V} {es : List PyData} {σ : L2.St} {te : TE} {i : Nat} {vs : List Nat} {Q : VK} {A : Type} {rT rT2 : List V → Hp → VK → Prop}
    (e1 : rT = fun xs H Q => ∃ p ys, xs = [.ref p] ∧ ((SqL K H p ys ∧ ∀ l, H l = none → Q (.ref l) (L2.upd H l (.tup ys))) ∨ (SqT K H p ys ∧ Q (.ref p) H)))
    (e2 : rT2 = fun xs H Q => ∃ p ys, xs = [.ref p] ∧ (SqL K H p ys ∧ (∀ l, H l = none → Q (.ref l) (L2.upd H l (.tup ys))) ∨ SqT K H p ys ∧ Q (.ref p) H))
    (hte : ∀ R : VK, R (.ref a) H → te σ H R) (hq : SqQ K H a ys) (hes : DgAll K (wo H p) m ys es) (hr : ∀ r ∈ es, isSqD r = true) (hl : es.length ≤ 1000) (np : H p ≠ none)
    (hw : ∀ x, wipe ((wipe σ vs).set i (some x)) vs = wipe σ vs) (hi : ∀ x, ((wipe σ vs).set i (some x))[i]? = some (some x))
    (q : ∀ r zs H', Same H H' → H' r = some (.tup zs) → r ≠ p → DgAll K (wo H' p) m zs (es.map tupD) → Q (.ref r) H') :
    tCB rT (tCons (tLc (iSq K te) (gName i) tYes (tCB rT2 (tCons (tVar i) tNil)) vs) tNil) σ H Q := by
  refine hte _ ⟨a, rfl, lc_sq hq fun D hD => ⟨fun j H' => AcM K m p H D ((es.take j).map tupD) H', AcM.start hD, fun j H' h => h.1, ?_, ?_⟩⟩
  · rintro j x H' hx hA
    obtain ⟨d, hd, dx⟩ := hes.at j x hx
    have hm : d ∈ es := List.mem_of_getElem? hd
    have s' := hA.1
    have dx' : Dg K (wo (wo H' p) D) m x d := two_old hD s' dx
    have eD := hA.ne
    have ep : H' p ≠ none := same_at s' np
    refine ⟨hw x, tYesT ⟨_, hi x, ?_⟩⟩
    have len : ((es.take j).map tupD).length ≤ 100000 := by rw [List.length_map]; exact Nat.le_trans (List.length_take_le' _ _) (by omega)
    have fin : ∀ y H2, Same H' H2 → Dg K (wo (wo H2 p) D) m y (tupD d) → ∃ acc, H2 D = some (.lst acc) ∧ acc.length < sizeLine ∧ AcM K m p H D ((es.take (j + 1)).map tupD) (L2.upd H2 D (.lst (acc ++ [y]))) := fun y H2 s2 dy => by
      have := hA.snoc hD len s2 dy
      rw [List.take_add_one, hd, List.map_append]
      exact this
    rw [e2]
    obtain ⟨r, zs, rfl, hz, hzs⟩ := dx'.lst_q (sq_its (hr d hm))
    rcases hz with hz | hz
    · refine ⟨r, zs, rfl, .inl ⟨hz.ext (fun b o e => wo_le (wo_le e)), fun q' hq' => ?_⟩⟩
      obtain ⟨s2, dy⟩ := two_tup eD ep hq' hzs
      exact fin _ _ s2 dy
    · exact ⟨r, zs, rfl, .inr ⟨hz.ext (fun b o e => wo_le (wo_le e)), fin _ _ (Same.refl _) (.tup hz hzs)⟩⟩
  · rintro H' ⟨s', acc, e, ha⟩
    rw [hes.len, List.take_length] at ha
    rw [e1]
    refine ⟨D, acc, rfl, .inl ⟨SqL.of e, fun l hl' => ?_⟩⟩
    have nl : l ≠ p := fun z => (same_at s' np) (by rw [← z]; exact hl')
    have s2 : Same H' (L2.upd H' l (.tup acc)) := Same.new (Same.refl _) hl'
    refine q l acc _ (s'.trans s2) upd_same nl ?_
    exact ha.ext (fun b o e => (Kp.of s2).wo b o (wo_le e))
/-! ### data without lists and dicts -/
mutual
def lfD : PyData → Bool
  | .none => true
  | .int _ => true
  | .str _ => true
  | .bool _ => true
  | .tuple ds => lfAll ds
  | .list _ => false
  | .dict _ => false
def lfAll : List PyData → Bool
  | [] => true
  | d :: ds => lfD d && lfAll ds
end
mutual
theorem dg_lf {K : PySem.W.Frag} {H : Hp} {m m' : Bool} : ∀ (d : PyData) (x : V), lfD d = true → Dg K H m x d → Dg K H m' x d
  | .none, _, _, h => by cases h; exact .non
  | .int _, _, _, h => by cases h; exact .int _
  | .str _, _, _, h => by cases h; exact .str _
  | .bool _, _, _, h => by cases h; exact .bl _
  | .tuple ds, _, e, h => by
    have e' : lfAll ds = true := by simpa [lfD] using e
    cases h with
    | tup hs ha => exact .tup hs (dg_lfAll ds _ e' ha)
  | .list _, _, e, _ => by simp [lfD] at e
  | .dict _, _, e, _ => by simp [lfD] at e
theorem dg_lfAll {K : PySem.W.Frag} {H : Hp} {m m' : Bool} : ∀ (ds : List PyData) (xs : List V), lfAll ds = true → DgAll K H m xs ds → DgAll K H m' xs ds
  | [], _, _, h => by cases h; exact .nil
  | d :: ds, _, e, h => by
    have e' : lfD d = true ∧ lfAll ds = true := by simpa [lfAll] using e
    cases h with
    | cons h1 h2 => exact .cons (dg_lf d _ e'.1 h1) (dg_lfAll ds _ e'.2 h2)
end
theorem lfAll_map {α : Type} {f : α → PyData} (h : ∀ a, lfD (f a) = true) : ∀ l : List α, lfAll (l.map f) = true
  | [] => by simp [lfAll]
  | a :: l => by rw [List.map_cons]; unfold lfAll; rw [h a, lfAll_map h l]; rfl
theorem lf_enD (e : Ent) : lfD (enD e) = true := by
  cases e with
  | none => rfl
  | some p => obtain ⟨g, w⟩ := p; rfl
theorem lf_stD (D : Dcd) : lfD D.stD = true := by
  unfold Dcd.stD lfD
  exact lfAll_map (fun r => by unfold lfD; exact lfAll_map lf_enD r) _
theorem lf_dEn (D : Dcd) : lfD D.enD = true := by
  unfold Dcd.enD lfD
  exact lfAll_map (fun e => by cases e <;> rfl) _
mutual
theorem dg_dp {K : PySem.W.Frag} {H : Hp} : ∀ (d : PyData) (x : V), Dg K H false x d → Dp K H x d
  | .none, _, h => by cases h; exact .non
  | .int _, _, h => by cases h; exact .int _
  | .str _, _, h => by cases h; exact .str _
  | .bool _, _, h => by cases h; exact .bl _
  | .tuple ds, _, h => by
    cases h with
    | tup hs ha => exact .tup hs (dg_dpAll ds _ ha)
  | .list ds, _, h => by
    cases h with
    | lst hs _ ha => exact .lst hs (dg_dpAll ds _ ha)
  | .dict _, _, h => by
    cases h with
    | emp e => cases e
    | dct _ e => cases e
theorem dg_dpAll {K : PySem.W.Frag} {H : Hp} : ∀ (ds : List PyData) (xs : List V), DgAll K H false xs ds → DpAll K H xs ds
  | [], _, h => by cases h; exact .nil
  | d :: ds, _, h => by
    cases h with
    | cons h1 h2 => exact .cons (dg_dp d _ h1) (dg_dpAll ds _ h2)
end
end My
namespace My
open PySem PySem.Spec PyProof.Rows L2
theorem strOk_of {w : List Nat} (h : ∀ c ∈ w, c < 200) : PyData.strOk (S w) = true := by
  show (S w).cps.all (· < 0x110000) = true
  rw [← Array.all_toList, List.all_eq_true]
  intro c hc
  have hc' : c ∈ w := by rw [← S_tl w]; exact hc
  exact decide_eq_true (by have := h c hc'; omega)
theorem canAll {α : Type} {f : α → PyData} : ∀ (l : List α), (∀ a ∈ l, (f a).canLay0 = true) → PyData.canLayAll0 (l.map f) = true
  | [], _ => by simp [PyData.canLayAll0]
  | a :: l, h => by
    rw [List.map_cons]
    unfold PyData.canLayAll0
    rw [h a List.mem_cons_self, canAll l fun b hb => h b (List.mem_cons_of_mem _ hb)]; rfl
theorem shaped_of {d : PyData} (h1 : d.canLay0 = true) (h2 : d.depth ≤ 64) : SeqAt.shaped d = true := by
  unfold SeqAt.shaped
  rw [h1, decide_eq_true h2]; rfl
theorem shaped_stD {D : Dcd} (h : D.ok) : SeqAt.shaped D.stD = true := by
  refine shaped_of ?_ (Nat.le_trans (fit_stD h).d (by omega))
  unfold Dcd.stD PyData.canLay0
  refine canAll _ fun r hr => ?_
  unfold PyData.canLay0
  refine canAll _ fun e he => ?_
  have o := (h.rows r hr).2 e he
  cases e with
  | none => unfold enD PyData.canLay0; rfl
  | some p =>
    obtain ⟨g, w⟩ := p
    unfold enD PyData.canLay0 PyData.canLayAll0 PyData.canLayAll0 PyData.canLayAll0 PyData.canLay0
    rw [strOk_of fun c hc => (o g w rfl).2.1.lt c hc]; rfl
theorem shaped_dEn {D : Dcd} (h : D.ok) : SeqAt.shaped D.enD = true := by
  refine shaped_of ?_ (Nat.le_trans (fit_dEn h).d (by omega))
  unfold Dcd.enD PyData.canLay0
  refine canAll _ fun e he => ?_
  cases e with
  | none => unfold wdD PyData.canLay0; rfl
  | some w =>
    unfold wdD
    rw [show PyData.canLay0 (.str (S w)) = PyData.strOk (S w) by unfold PyData.canLay0; rfl, strOk_of fun c hc => (h.words _ he w rfl).1.lt c hc]
theorem dcd_eq {D D' : Dcd} : D = D' ↔ D.sg = D'.sg ∧ D.st = D'.st ∧ D.en = D'.en := by
  obtain ⟨a, b, c⟩ := D
  obtain ⟨a', b', c'⟩ := D'
  exact ⟨fun e => by injection e with e1 e2 e3; exact ⟨e1, e2, e3⟩, fun ⟨e1, e2, e3⟩ => by simp at e1 e2 e3; rw [e1, e2, e3]⟩
theorem eqv_stD {D D' : Dcd} : PyData.eqv D.stD D'.stD = decide (D.st = D'.st) := by
  rw [Bool.eq_iff_iff, eqv_pl _ _ (plD_stD D) (plD_stD D'), decide_eq_true_eq]
  exact ⟨stD_inj, fun e => by unfold Dcd.stD; rw [e]⟩
theorem eqv_dEn {D D' : Dcd} : PyData.eqv D.enD D'.enD = decide (D.en = D'.en) := by
  rw [Bool.eq_iff_iff, eqv_pl _ _ (plD_dEn D) (plD_dEn D'), decide_eq_true_eq]
  exact ⟨dEn_inj, fun e => by unfold Dcd.enD; rw [e]⟩
/-- a line of signs -/
abbrev lnD (l : List Nat) : PyData := .tuple (l.map fun (a : Nat) => PyData.int a)
theorem isLn_of {n : Nat} {l : List Nat} (h : ∀ a ∈ l, a < n) : isLn n (lnD l) = true := by
  show (l.map fun (a : Nat) => PyData.int a).all (isBe n) = true
  rw [List.all_eq_true]
  intro d hd
  obtain ⟨a, ha, rfl⟩ := List.mem_map.mp hd
  show (decide ((0 : Int) ≤ (a : Nat)) && decide (((a : Nat) : Int) < n)) = true
  rw [decide_eq_true (by omega), decide_eq_true (by have := h a ha; omega)]; rfl
theorem joinL_nil : ∀ ws : List (List Nat), TL.joinL [] ws = ws.flatten
  | [] => rfl
  | [w] => by simp [TL.joinL]
  | w :: v :: r => by
    show w ++ ([] ++ TL.joinL [] (v :: r)) = _
    rw [joinL_nil (v :: r)]; rfl
theorem join_words (ws : List (List Nat)) : Txt.join (Str.ofString "") (ws.map S) = S ws.flatten := by
  rw [TL.join_eq]
  have e : cs (Str.join (Str.ofString "") (ws.map S)) = ws.flatten := by
    rw [show cs (Str.join (Str.ofString "") (ws.map S)) = TL.tl (Str.join (Str.ofString "") (ws.map S)) from rfl, TL.tl_join, List.map_map]
    have : (ws.map (TL.tl ∘ S)) = ws := by
      rw [show (TL.tl ∘ S) = id from funext fun l => S_tl l]; simp
    rw [this]
    exact joinL_nil ws
  rw [← S_of (Str.join _ _), e]
theorem sum_words (ws : List (List Nat)) : ((ws.map S).map (·.length)).sum = ws.flatten.length := by
  induction ws with
  | nil => rfl
  | cons w r ih => rw [List.map_cons, List.map_cons, List.sum_cons, ih, List.flatten_cons, List.length_append, S_len]
end My
namespace My
open PySem PySem.Spec PyProof.Rows L2
theorem Dcd.go_app (D : Dcd) (l2 : List Nat) : ∀ (l1 : List Nat) (s : Nat), D.go s (l1 ++ l2) = match D.go s l1 with
    | none => none
    | some (t, u) => (D.go t l2).map fun (p : Nat × List Nat) => (p.1, u ++ p.2)
  | [], s => by
    show D.go s l2 = (D.go s l2).map fun (p : Nat × List Nat) => (p.1, [] ++ p.2)
    cases D.go s l2 with
    | none => rfl
    | some p => rfl
  | b :: l, s => by
    show (match D.at s b with | none => none | some (g, w) => (D.go g (l ++ l2)).map fun (p : Nat × List Nat) => (p.1, w ++ p.2)) = match (match D.at s b with | none => none | some (g, w) => (D.go g l).map fun (p : Nat × List Nat) => (p.1, w ++ p.2)) with | none => none | some (t, u) => (D.go t l2).map fun (p : Nat × List Nat) => (p.1, u ++ p.2)
    cases h : D.at s b with
    | none => rfl
    | some p =>
      obtain ⟨g, w⟩ := p
      show (D.go g (l ++ l2)).map _ = match (D.go g l).map (fun (p : Nat × List Nat) => (p.1, w ++ p.2)) with | none => none | some (t, u) => (D.go t l2).map fun (p : Nat × List Nat) => (p.1, u ++ p.2)
      rw [D.go_app l2 l g]
      cases D.go g l with
      | none => rfl
      | some q =>
        obtain ⟨t, u⟩ := q
        show Option.map _ (Option.map _ (D.go t l2)) = Option.map _ (D.go t l2)
        rw [Option.map_map]
        cases D.go t l2 with
        | none => rfl
        | some r => obtain ⟨x, y⟩ := r; show some (x, w ++ (u ++ y)) = some (x, w ++ u ++ y); rw [List.append_assoc]
theorem Dcd.go_none (D : Dcd) {l : List Nat} {s i : Nat} (h : D.go s (l.take i) = none) : D.go s l = none := by
  have := D.go_app (l.drop i) (l.take i) s
  rw [List.take_append_drop, h] at this
  exact this
theorem Dcd.wr_none (D : Dcd) {l : List Nat} {i : Nat} (h : D.go 0 (l.take i) = none) : D.wr l = none := by
  unfold Dcd.wr
  rw [D.go_none h]
theorem take_snoc {l : List Nat} {i a : Nat} (h : l[i]? = some a) : l.take (i + 1) = l.take i ++ [a] := by rw [List.take_add_one, h]; rfl
end My
namespace My
open PySem PySem.Spec PyProof.Rows L2
theorem wo_wo {H : Hp} {D : Addr} : wo (wo H D) D = wo H D := by
  funext b
  by_cases e : b = D
  · rw [e, wo_at, wo_at]
  · rw [wo_ne e]
/-- a comprehension over a range whose items are data -/
theorem lc_range_data {K : PySem.W.Frag} {m : Bool} {p : Addr} {lo : Int} {n : Nat} {g : TG} {tt : TT} {te : TE} {vs : List Nat} {σ : L2.St} {H1 : Hp} {D : Addr} {Qd : Hp → Prop} (f : Nat → PyData) (hD : H1 D = none) (hn : n ≤ 100000)
    (step : ∀ j H' (R : VK) (N : Hp → Prop), j < n → Same H1 H' → H' D ≠ none → (∀ y H4, Same H' H4 → Dg K (wo (wo H4 p) D) m y (f j) → R y H4) →
      g (.int (lo + j)) (wipe σ vs) H' fun σ2 H2 => wipe σ2 vs = wipe σ vs ∧ tt σ2 H2 fun b H3 => if b = true then te σ2 H3 R else N H3)
    (done : ∀ H' xs, Same H1 H' → H' D = some (.lst xs) → DgAll K (wo (wo H' p) D) m xs ((List.range n).map f) → Qd H') :
    ∃ W : Nat → Nat → Hp → Prop, (∃ m, W 0 m (L2.upd H1 D (.lst []))) ∧ ∀ i m H, W i m H →
      ((Itr lo n).stop i H ∧ Qd H) ∨ ((Itr lo n).go i H ∧ ∃ Nx : Hp → Prop, (∀ H', Nx H' → ∃ m', m' < m ∧ W (i + 1) m' H') ∧ ∀ x H', (Itr lo n).yld i H x H' → g x (wipe σ vs) H' fun σ2 H2 => wipe σ2 vs = wipe σ vs ∧ tt σ2 H2 fun b H3 =>
        if b = true then te σ2 H3 fun y H4 => ∃ acc, H4 D = some (.lst acc) ∧ acc.length < sizeLine ∧ Nx (L2.upd H4 D (.lst (acc ++ [y]))) else Nx H3) := by
  refine lc_range (lo := lo) (n := n) (fun i H' => AcM K m p H1 D ((List.range i).map f) H') (AcM.start hD) ?_ ?_
  · rintro i H' hi hA
    refine step i H' _ _ hi hA.1 hA.ne fun y H4 s4 dy => ?_
    have := hA.snoc hD (by rw [List.length_map, List.length_range]; omega) s4 dy
    rw [List.range_succ, List.map_append]
    exact this
  · rintro H' ⟨s', acc, e, ha⟩
    exact done H' acc s' e ha
/-- over a list of known values -/
theorem lc_list_data {K : PySem.W.Frag} {m : Bool} {p a : Addr} {xs : List V} {g : TG} {tt : TT} {te : TE} {vs : List Nat} {σ : L2.St} {H1 : Hp} {D : Addr} {Qd : Hp → Prop} (f : Nat → PyData) (hL : SqL K H1 a xs) (hD : H1 D = none) (hn : xs.length ≤ 100000)
    (step : ∀ j x H' (R : VK) (N : Hp → Prop), xs[j]? = some x → Same H1 H' → H' D ≠ none → (∀ y H4, Same H' H4 → Dg K (wo (wo H4 p) D) m y (f j) → R y H4) →
      g x (wipe σ vs) H' fun σ2 H2 => wipe σ2 vs = wipe σ vs ∧ tt σ2 H2 fun b H3 => if b = true then te σ2 H3 R else N H3)
    (done : ∀ H' ys, Same H1 H' → H' D = some (.lst ys) → DgAll K (wo (wo H' p) D) m ys ((List.range xs.length).map f) → Qd H') :
    ∃ W : Nat → Nat → Hp → Prop, (∃ m, W 0 m (L2.upd H1 D (.lst []))) ∧ ∀ i m H, W i m H →
      ((Itl K a).stop i H ∧ Qd H) ∨ ((Itl K a).go i H ∧ ∃ Nx : Hp → Prop, (∀ H', Nx H' → ∃ m', m' < m ∧ W (i + 1) m' H') ∧ ∀ x H', (Itl K a).yld i H x H' → g x (wipe σ vs) H' fun σ2 H2 => wipe σ2 vs = wipe σ vs ∧ tt σ2 H2 fun b H3 =>
        if b = true then te σ2 H3 fun y H4 => ∃ acc, H4 D = some (.lst acc) ∧ acc.length < sizeLine ∧ Nx (L2.upd H4 D (.lst (acc ++ [y]))) else Nx H3) := by
  refine lc_list (K := K) (a := a) (xs := xs) (fun i H' => AcM K m p H1 D ((List.range i).map f) H') (AcM.start hD) (fun i H' _ h => hL.ext h.1) ?_ ?_
  · rintro i x H' hx hA
    have hi := (List.getElem?_eq_some_iff.mp hx).1
    refine step i x H' _ _ hx hA.1 hA.ne fun y H4 s4 dy => ?_
    have := hA.snoc hD (by rw [List.length_map, List.length_range]; omega) s4 dy
    rw [List.range_succ, List.map_append]
    exact this
  · rintro H' ⟨s', acc, e, ha⟩
    exact done H' acc s' e ha
/-- what the list at D holds, told without D -/
theorem own_list {K : PySem.W.Frag} {m : Bool} {p D : Addr} {H : Hp} {xs : List V} {ds : List PyData} (h : DgAll K (wo (wo H p) D) m xs ds) : DgAll K (wo H p) m xs ds := h.ext fun _ _ e => wo_le e
theorem own_list0 {K : PySem.W.Frag} {m : Bool} {D : Addr} {H : Hp} {xs : List V} {ds : List PyData} (h : DgAll K (wo (wo H D) D) m xs ds) : DgAll K H m xs ds := h.ext fun _ _ e => wo_le (wo_le e)
/-- a decoder's parts as lists -/
def Dcd.stL (D : Dcd) : PyData := .list (D.st.map fun r => .list (r.map My.enD))
def Dcd.enL (D : Dcd) : PyData := .list (D.en.map wdD)
theorem Dcd.goodL {D : Dcd} (h : D.ok) : GoodD D (.int (D.sg : Nat)) D.stL D.enL :=
  ⟨h, rfl, rfl, fun r hr => by
    obtain ⟨x, _, rfl⟩ := List.mem_map.mp hr
    rfl, by show (D.st.map fun r => PyData.list (r.map My.enD)).map itsD = _; rw [List.map_map]; rfl, rfl, rfl⟩
theorem weight_all {α : Type} {f : α → PyData} {k : Nat} : ∀ l : List α, (∀ a ∈ l, (f a).weight ≤ k) → PyData.weightAll (l.map f) ≤ (k + 1) * l.length
  | [], _ => by simp [PyData.weightAll]
  | a :: l, h => by
    rw [List.map_cons]
    unfold PyData.weightAll
    have h1 := h a List.mem_cons_self
    have h2 := weight_all l fun b hb => h b (List.mem_cons_of_mem _ hb)
    rw [List.length_cons, Nat.mul_succ]; omega
theorem weight_stL {D : Dcd} (h : D.ok) : D.stL.weight ≤ 100000 := by
  have n40 := h.n40
  have s5 := h.s5
  unfold Dcd.stL
  rw [PyData.weight]
  refine Nat.le_trans (weight_all (k := 210) _ fun r hr => ?_) (by omega)
  rw [PyData.weight]
  obtain ⟨l, o⟩ := h.rows r hr
  refine Nat.le_trans (weight_all (k := 40) _ fun e he => (fit_enD (o e he) n40).w) (by omega)
theorem weight_enL {D : Dcd} (h : D.ok) : D.enL.weight ≤ 100000 := by
  have n40 := h.n40
  have le := h.ends
  unfold Dcd.enL
  rw [PyData.weight]
  refine Nat.le_trans (weight_all (k := 4) _ fun e he => (fit_wdD fun w q => h.words e he w q).w) (by omega)
/-- where a new instance is made, the data stand beside it -/
theorem made_dw {K : PySem.W.Frag} {H : Hp} {x dx : Addr} {o : HO} {C : Addr} {m : Bool} {v : V} {d : PyData} (hx : H x = none) (hdx : H dx = none) (h : Dg K H m v d) : Dw K x (L2.upd (L2.upd H dx o) x (.ins C dx [])) m v d := by
  refine h.ext fun b ob e => ?_
  have n1 : b ≠ x := fun z => by rw [z, hx] at e; cases e
  have n2 : b ≠ dx := fun z => by rw [z, hdx] at e; cases e
  rw [wo_ne n1, upd_ne n1, upd_ne n2]; exact e
theorem made_same {H H' : Hp} {x dx : Addr} {o : HO} {C : Addr} (hx : H x = none) (hdx : H dx = none) (k : Kp x (L2.upd (L2.upd H dx o) x (.ins C dx [])) H') : Same H H' := fun b ob e => by
  have n1 : b ≠ x := fun z => by rw [z, hx] at e; cases e
  have n2 : b ≠ dx := fun z => by rw [z, hdx] at e; cases e
  exact k b ob n1 (by rw [upd_ne n1, upd_ne n2]; exact e)
end My
namespace My
open PySem PySem.Spec PyProof.Rows L2
/-- a new tuple of known items, in a comprehension -/
theorem tup_new {K : PySem.W.Frag} {m : Bool} {p D t : Addr} {H : Hp} {xs : List V} {ds : List PyData} (eD : H D ≠ none) (ep : H p ≠ none) (ht : H t = none) (h : ∀ G, DgAll K G m xs ds) : Same H (L2.upd H t (.tup xs)) ∧ Dg K (wo (wo (L2.upd H t (.tup xs)) p) D) m (.ref t) (.tuple ds) := by
  have n1 : t ≠ D := fun z => eD (by rw [← z]; exact ht)
  have n2 : t ≠ p := fun z => ep (by rw [← z]; exact ht)
  exact ⟨Same.new (Same.refl _) ht, .tup (SqT.of (by rw [wo_ne n1, wo_ne n2]; exact upd_same)) (h _)⟩
end My

set_option Elab.async false
set_option linter.all false
set_option maxRecDepth 100000
set_option maxHeartbeats 4000000
/-! C(..) within a try: what its __init__ lets out is caught. -/
namespace L2
open PySem PySem.Spec PyProof.Rows
section
variable {X : Cx} {CX : CXT} {k : Nat} {f C : Addr} {fd : FuncData} {ps : List Str} {ds : List Value} {dvs : List V} {sp : Sp} {E : St → XK} {x : Str} {p pos : Pos} {e : Expr} {es : List Expr} {t : TA}
theorem run_makeS {pins : List (Addr × Obj)} {σ : St} {H : Hp} {s : Shared} {Q : VK} {us : List Value} {vs : List V} (M : Mk X.K C f) (F : FnOk X.prog X.w X.K X.mg X.base CX k f fd ps sp) (hr : Room (k + 1) X.A) (hb : Binds X.K fd ps ds) (hd : Vals dvs ds)
    (hx : PassesAt CX X σ (E σ)) (I : Inv X pins σ H s) (r : Vals vs us)
    (h : ∀ x dx, H x = none → H dx = none → dx ≠ x → sp (.ref x :: (vs ++ dvs)) (upd (upd H dx (.own x)) x (.ins C dx [])) (fun v H2 => v = .non ∧ Q (.ref x) H2) (E σ)) :
    wpAny (model X.prog X.w) X.A (call (.ref C) us) (EP X pins σ Q) X.xe s := by
  have hq := h (s.heap.objs.size + 1) s.heap.objs.size (I.hok.fresh (Nat.le_succ _)) (I.hok.fresh (Nat.le_refl _)) (Nat.ne_of_lt (Nat.lt_succ_self _))
  have I2 := Inv.made (C := C) I
  have r2 : Vals (V.ref (s.heap.objs.size + 1) :: (vs ++ dvs)) (Value.ref (s.heap.objs.size + 1) :: (us ++ ds)) := .cons rfl (r.append hd)
  have hl : (Value.ref (s.heap.objs.size + 1) :: us ++ ds).length = ps.length := by
    have e := r2.length
    rw [F.len _ _ _ _ hq] at e
    exact e.symm
  refine wpAny_call (make_map (f := f) I.kIn M.makes M.init (beq_iff_eq.mp M.fn) (codeAny_mono (F.run _ X.stack _ _ ⟨Value.ref (s.heap.objs.size + 1) :: us, []⟩ (Value.ref (s.heap.objs.size + 1) :: (us ++ ds)) _ _ (E σ) (hr.make C us [])
    (I2.env0.make C us []) (hb _ (Value.ref (s.heap.objs.size + 1) :: us) I2.kIn hl) r2 hq) fun r s' hq' => ?_))
  cases r with
  | error e => exact hx pins _ _ e s' I2 hq'
  | ok fl =>
    cases fl with
    | ret u =>
      obtain ⟨v, H', I3, rv, ev, q3⟩ := I2.after hq'
      subst ev
      exact ⟨rv, ⟨V.ref (s.heap.objs.size + 1), H', I3, rfl, q3⟩⟩
    | next => exact False.elim hq'
    | brk => exact False.elim hq'
    | cont => exact False.elim hq'
def tMakeS (C : Addr) (sp : Sp) (dvs : List V) (E : St → XK) (t : TA) : TE := fun σ H Q => t σ H fun vs H1 => ∀ x dx, H1 x = none → H1 dx = none → dx ≠ x →
  sp (.ref x :: (vs ++ dvs)) (upd (upd H1 dx (.own x)) x (.ins C dx [])) (fun v H2 => v = .non ∧ Q (.ref x) H2) (E σ)
theorem pe_makeS (M : Mk X.K C f) (F : FnOk X.prog X.w X.K X.mg X.base CX k f fd ps sp) (hr : Room (k + 1) X.A) (hg : Gl X x) (hm : X.mg x = some (.ref C)) (hb : Binds X.K fd ps ds) (hd : Vals dvs ds) (hx : ∀ σ, PassesAt CX X σ (E σ))
    (ha : PA X (e :: es) t) (hdb : (x == ("__debug__" : Str)) = false := by decide) (he : starEach (e :: es) X.env = (false, eval e X.env) :: starEach es X.env := by rfl) (hpl : (backTo pos (starEach es X.env)).any (·.1) = false := by rfl) :
    PE X (.Call (.Name x p) (e :: es) [] pos) (tMakeS C sp dvs E t) := by
  refine ⟨fun pins s σ H Q I h => ?_⟩
  refine wpAny_Call_Name_kw (ld_glob I hg hm ?_ hdb)
  refine PySem.W.callWith_K (h₀ := X.base) I.ok.mod.kin M.kp (thn (ha.run pos pins s σ H _ I h) fun us s1 ⟨vs, H1, I1, r, q⟩ => ⟨I1.kIn, ?_⟩) he hpl
  exact run_makeS M F hr hb hd (hx σ) I1 r q
end
end L2
namespace L2
open PySem PySem.Spec PyProof.Rows
theorem call_isi_K {X : Cx} {K : PySem.W.Frag} (e : X.K = K) : CallR X (.builtin "isinstance") (rIsi K) := by subst e; exact call_isi
theorem call_list_of_K {X : Cx} {K : PySem.W.Frag} (e : X.K = K) : CallR X (.type "list") (fun xs H Q => ∃ p ys, xs = [.ref p] ∧ (SqL K H p ys ∨ SqT K H p ys) ∧ ∀ l, H l = none → Q (.ref l) (upd H l (.lst ys))) := by subst e; exact call_list_of
theorem call_list_ofSK {X : Cx} {K : PySem.W.Frag} (e : X.K = K) : CallR X (.type "list") (fun xs H Q => ∃ p ys, xs = [.ref p] ∧ (SqL K H p ys ∨ SqT K H p ys) ∧ ∀ l, H l = none → (l == sysModules) = false → Q (.ref l) (upd H l (.lst ys))) := by subst e; exact call_list_ofS
/-- no list of one's own lies where the modules lie -/
def tLow (te : TE) : TE := fun σ H Q => te σ H fun v H' => H' sysModules = none → Q v H'
theorem pe_low {X : Cx} {base : Heap} {e : Expr} {te : TE} (hk : X.base = base) (hs : ∃ o, base.get? sysModules = some o) (h : PE X e te) : PE X e (tLow te) := by
  subst hk
  refine ⟨fun pins s σ H Q I hq => wpAny_mono (h.run pins s σ H _ I hq) (fun u s' hh => ?_) fun _ _ z => z⟩
  obtain ⟨v, H', I', r, q⟩ := hh
  obtain ⟨o, e⟩ := hs
  exact ⟨v, H', I', r, q (I'.bs _ _ e).2⟩
theorem low_ne {H : Hp} {a : Addr} (hs : H sysModules = none) (ha : H a ≠ none) : (a == sysModules) = false := beq_eq_false_iff_ne.mpr fun e => ha (by rw [e]; exact hs)
end L2

set_option Elab.async false
set_option linter.all false
set_option maxRecDepth 100000
set_option maxHeartbeats 4000000
/-! data == an instance of an own class: the data's == declines, then the instance's own. -/
namespace RcO
open PySem PySem.Spec PyProof.Rows PySem.Builtin
open AutoSeq1 (wpAny_loadPart')
open PySem.SeqAt MeetsSeq
theorem int_dec (i : Int) (t : Tok) (x C dx : Addr) :
    Meets (Builtin.«int.__eq__» ⟨[.int i t, .ref x], []⟩) (fun _ R s => s.heap.get? x = some (PySem.W.instObj C dx) ∧ R (.ok (.ret .notImplemented)) s) :=
  .of_wp fun prog w A R s h => by obtain ⟨hp, g, d, tk, os⟩ := s; obtain ⟨hl, h⟩ := h; unfold PySem.W.instObj at hl; wp_walk using wpAny_loadPart' hl, wpAny_load hl; exact ⟨_, rfl, h⟩
theorem str_dec (z : Str) (t : Tok) (x C dx : Addr) :
    Meets (Builtin.«str.__eq__» ⟨[.str z t, .ref x], []⟩) (fun _ R s => s.heap.get? x = some (PySem.W.instObj C dx) ∧ R (.ok (.ret .notImplemented)) s) :=
  .of_wp fun prog w A R s h => by obtain ⟨hp, g, d, tk, os⟩ := s; obtain ⟨hl, h⟩ := h; unfold PySem.W.instObj at hl; wp_walk using wpAny_loadPart' hl, wpAny_load hl; exact ⟨_, rfl, h⟩
theorem isI {M : Model} {A : Around} {E : Value → Shared → Prop} {s : Shared} {x C dx : Addr} {T : String} {Q : Bool → Shared → Prop} (hl : s.heap.get? x = some (PySem.W.instObj C dx)) (hs : PySem.W.Looks M s.heap (isSubtype (.ref C) (.type T)) false) (h : Q false s) :
    wpAny M A (isInstance (.ref x) (.type T)) Q E s := by
  unfold isInstance
  exact wpAny_bind ((L2.looks_ref hl).here (hs.here h))
theorem list_dec (l x C dx : Addr) (items : Array Value) (n : Nat) (dd : Option Addr) (sl : Array (Option Value)) :
    Meets (Builtin.«list.__eq__» ⟨[.ref l, .ref x], []⟩) (fun _ R s => s.heap.get? l = some { cls := .type "list", dict := dd, data := .seq items n, slots := sl } ∧ s.heap.get? x = some (PySem.W.instObj C dx) ∧ (∀ M, PySem.W.Looks M s.heap (isSubtype (.ref C) (.type "list")) false) ∧ R (.ok (.ret .notImplemented)) s) :=
  .of_wp fun prog w A R s h => by
    obtain ⟨hp, g, d, tk, os⟩ := s; obtain ⟨hl, hx, hs, h⟩ := h
    have k : ∀ {M A E} {Q : Bool → Shared → Prop}, Q false ⟨hp, g, d, tk, os⟩ → wpAny M A (isInstance (.ref x) (.type "list")) Q E ⟨hp, g, d, tk, os⟩ := fun h => isI hx (hs _) h
    wp_walk using wpAny_loadPart' hl, k
    exact ⟨_, rfl, h⟩
theorem tuple_dec (l x C dx : Addr) (items : Array Value) (n : Nat) (dd : Option Addr) (sl : Array (Option Value)) :
    Meets (Builtin.«tuple.__eq__» ⟨[.ref l, .ref x], []⟩) (fun _ R s => s.heap.get? l = some { cls := .type "tuple", dict := dd, data := .seq items n, slots := sl } ∧ s.heap.get? x = some (PySem.W.instObj C dx) ∧ (∀ M, PySem.W.Looks M s.heap (isSubtype (.ref C) (.type "tuple")) false) ∧ R (.ok (.ret .notImplemented)) s) :=
  .of_wp fun prog w A R s h => by
    obtain ⟨hp, g, d, tk, os⟩ := s; obtain ⟨hl, hx, hs, h⟩ := h
    have k : ∀ {M A E} {Q : Bool → Shared → Prop}, Q false ⟨hp, g, d, tk, os⟩ → wpAny M A (isInstance (.ref x) (.type "tuple")) Q E ⟨hp, g, d, tk, os⟩ := fun h => isI hx (hs _) h
    wp_walk using wpAny_loadPart' hl, k
    exact ⟨_, rfl, h⟩
theorem dict_dec (l x C dx : Addr) (es : Array DictEntry) (n : Nat) (dd : Option Addr) (sl : Array (Option Value)) :
    Meets (Builtin.«dict.__eq__» ⟨[.ref l, .ref x], []⟩) (fun _ R s => s.heap.get? l = some { cls := .type "dict", dict := dd, data := .dict es n, slots := sl } ∧ s.heap.get? x = some (PySem.W.instObj C dx) ∧ (∀ M, PySem.W.Looks M s.heap (isSubtype (.ref C) (.type "dict")) false) ∧ R (.ok (.ret .notImplemented)) s) :=
  .of_wp fun prog w A R s h => by
    obtain ⟨hp, g, d, tk, os⟩ := s; obtain ⟨hl, hx, hs, h⟩ := h
    have k : ∀ {M A E} {Q : Bool → Shared → Prop}, Q false ⟨hp, g, d, tk, os⟩ → wpAny M A (isInstance (.ref x) (.type "dict")) Q E ⟨hp, g, d, tk, os⟩ := fun h => isI hx (hs _) h
    wp_walk using wpAny_load hl, wpAny_loadPart' hl, k
    exact ⟨_, rfl, h⟩
end RcO
namespace RcO
open PySem PySem.Spec PyProof.Rows PySem.Builtin
section
variable {prog : Program} {w : World} {A : Around} {E : Value → Shared → Prop} {s : Shared} {K : PySem.W.Frag} {x C f : Addr} {ox : Obj} {od : Option Obj}
theorem cmp_data {a : Value} {Ta ida : String} {Q : Value → Shared → Prop} (hu : A.units < cLine) (X : K.In s.heap) (I : PySem.W.InstAt s.heap x ox C od) (ha : s.TypeIs a Ta)
    (hsub : PySem.W.subIn K (.ref C) (.type Ta) = some false) (h1 : Slot Ta (cmpInfo .Eq).2.1 ida) (hc1 : ∀ Q' : Value → Shared → Prop, Q' .notImplemented s → wpAny (model prog w) A (call (.builtin ida) [a, .ref x]) Q' E s)
    (hs : PySem.W.findIn K (.ref C) "__eq__" = some (some (.ref f))) (hf : PySem.W.isFn K (.ref f) = true)
    (h : wpAny (model prog w) A (call (.ref f) [.ref x, a]) (fun v s' => ∃ r, v = .bool r ∧ Q (.bool r) s') E s) : wpAny (model prog w) A (richCompare .Eq a (.ref x)) Q E s := by
  have e1 : (cmpInfo .Eq).2.1 = ("__eq__" : Str) := by rw [cmpInfo_Eq]
  have e2 : (cmpInfo .Eq).2.2 = ("__eq__" : Str) := by rw [cmpInfo_Eq]
  rcases hi : cmpInfo CmpOp.Eq with ⟨sym, f1, r⟩
  rw [hi] at h1 e1 e2
  dsimp only at e1 e2
  have two : wpAny (model prog w) A (tryCompare (.ref x) r a) (fun r s' => ∃ v, r = some v ∧ Q v s') E s := by
    rw [e2]
    unfold tryCompare
    refine wpAny_bind (PySem.W.ifBound_K X I hs hf (wpAny_mono h (fun v s' hv => ?_) fun _ _ e => e))
    obtain ⟨r, rfl, hq⟩ := hv
    exact wpAny_pure ⟨_, rfl, hq⟩
  simp only [richCompare, hi, ha.oneThing_none]
  refine wpAny_holding (wpAny_bind (wpAny_cRoomFor hu ?_))
  refine wpAny_bind (wpAny_typeOf ha (wpAny_bind (I.type.here ?_)))
  have go : wpAny (model prog w) A (tryCompare a f1 (.ref x)) (fun r s' => r = none ∧ s' = s) E s := wpAny_tryCompare_declines ha h1 (hc1 _ ⟨rfl, rfl, rfl⟩)
  have hne : (Value.type Ta != Value.ref C) = true := by simp
  simp only [hne, if_true]
  refine wpAny_bind ((PySem.W.looks_subIn X hsub).here ?_)
  simp only [Bool.false_eq_true, if_false, Bool.not_false, if_true]
  refine wpAny_bind (wpAny_mono go (fun r s' z => ?_) fun _ _ e => e)
  obtain ⟨rfl, rfl⟩ := z
  refine wpAny_bind (wpAny_mono two (fun r s' z => ?_) fun _ _ e => e)
  obtain ⟨v, rfl, hq⟩ := z
  exact wpAny_pure hq
end
end RcO
namespace L2
open PySem PySem.Spec PyProof.Rows
/-- data, or a list of anything -/
inductive Lft (K : PySem.W.Frag) (H : Hp) : V → String → Prop
  | non : Lft K H .non "NoneType"
  | int (i : Int) : Lft K H (.int i) "int"
  | str (z : Str) : Lft K H (.str z) "str"
  | tup {a : Addr} {xs : List V} : SqT K H a xs → Lft K H (.ref a) "tuple"
  | lst {a : Addr} {xs : List V} : H a = some (.lst xs) → Lft K H (.ref a) "list"
  | dct {a : Addr} {kvs : List (Key × V)} : H a = some (.dK kvs) → Lft K H (.ref a) "dict"
/-- x == y, y an instance, x data -/
def rEqDO (K : PySem.W.Frag) (C : Addr) (sp : Sp) : R2 := fun x y H Q => (∃ T, Lft K H x T ∧ PySem.W.subIn K (.ref C) (.type T) = some false) ∧ (∃ a dx fs, y = .ref a ∧ H a = some (.ins C dx fs)) ∧ sp [y, x] H (fun v H' => ∃ b, v = .bl b ∧ Q (.bl b) H') (fun _ _ _ => False)
section
variable {X : Cx}
theorem op_eqDO {CX : CXT} {n : Nat} {C f : Addr} {fd : FuncData} {sp : Sp} (T : OEq X.K C f) (G0 : FnOk X.prog X.w X.K X.mg X.base CX n f fd ["self", "other"] sp) (hb : Binds X.K fd ["self", "other"] []) (hx : Passes CX X (fun _ _ _ => False)) (hr : Room n X.A) (hu : X.A.units + 64 < cLine) :
    OpR X (compareOp .Eq) (rEqDO X.K C sp) := by
  intro pins s σ H x y v u Q I rx ry hq
  obtain ⟨⟨Ta, hl, hs⟩, ⟨a, dx, fs, rfl, ha⟩, q⟩ := hq
  obtain rfl : u = Value.ref a := ry
  have hi : s.heap.get? a = some (PySem.W.instObj C dx) := by
    obtain ⟨_, _, _, e, _⟩ := (show ObjOk X.prog X.w H s.heap a (.ins C dx fs) from I.hok a _ ha)
    exact e
  obtain ⟨mA, J, _⟩ := ins_get I.hok ha
  obtain ⟨od, J, _⟩ := J.look
  have run : wpAny (model X.prog X.w) X.A (call (.ref f) [.ref a, v]) (fun v s' => ∃ r, v = .bool r ∧ EP X pins σ Q (.bool r) s') X.xe s :=
    wpAny_mono (run_own G0 hb hx hr rfl I (x := .ref a) rfl rx q) (fun r s' z => by
      obtain ⟨z, H', I', rz, b, rfl, q'⟩ := z
      cases rz
      exact ⟨b, rfl, .bl b, H', I', rfl, q'⟩) fun _ _ e => e
  have hu' : X.A.units < cLine := by omega
  show wpAny (model X.prog X.w) X.A (richCompare .Eq v (.ref a)) (EP X pins σ Q) X.xe s
  have sub : ∀ {T : String}, PySem.W.subIn X.K (.ref C) (.type T) = some false → ∀ M, PySem.W.Looks M s.heap (isSubtype (.ref C) (.type T)) false := fun h M => PySem.W.looks_subIn I.kIn h
  cases hl with
  | non =>
    obtain rfl : v = Value.none := rx
    exact RcO.cmp_data hu' I.kIn J (Ta := "NoneType") rfl hs F.slot_NoneType_eq (fun Q' q' => call_gives F.slot_NoneType_eq rfl F.entry_NoneType_eq (F.args_NoneType_eq_2 _ _) (SeqAt.NoneType___eq___none_ref_0 a) q') T.eq T.fn run
  | int i =>
    obtain ⟨t, rfl⟩ := rx
    exact RcO.cmp_data hu' I.kIn J (Ta := "int") rfl hs F.slot_int_eq (fun Q' q' => call_meets F.slot_int_eq rfl F.entry_int_eq (F.args_int_eq_2 _ _) (RcO.int_dec i t a C dx) ⟨hi, q'⟩) T.eq T.fn run
  | str z =>
    obtain ⟨t, rfl⟩ := rx
    exact RcO.cmp_data hu' I.kIn J (Ta := "str") rfl hs F.slot_str_eq (fun Q' q' => call_meets F.slot_str_eq rfl F.entry_str_eq (F.args_str_eq_2 _ _) (RcO.str_dec z t a C dx) ⟨hi, q'⟩) T.eq T.fn run
  | tup h1 =>
    rename_i l xs
    obtain rfl : v = Value.ref l := rx
    obtain ⟨its, rv, ⟨o, ho, hc, n, hdd⟩, _⟩ := I.tuple h1
    obtain ⟨oc, odd, odt, osl⟩ := o
    simp only at hc hdd
    subst hc hdd
    exact RcO.cmp_data hu' I.kIn J (Ta := "tuple") ⟨_, ho, rfl⟩ hs F.slot_tuple_eq (fun Q' q' => call_meets F.slot_tuple_eq ⟨_, ho, rfl⟩ F.entry_tuple_eq (F.args_tuple_eq_2 _ _) (RcO.tuple_dec l a C dx _ _ _ _) ⟨ho, hi, sub hs, q'⟩) T.eq T.fn run
  | lst h1 =>
    rename_i l xs
    obtain rfl : v = Value.ref l := rx
    obtain ⟨_, its, n, r1, e1⟩ := (show ObjOk X.prog X.w H s.heap l (.lst xs) from I.hok l _ h1)
    exact RcO.cmp_data hu' I.kIn J (Ta := "list") ⟨_, e1, rfl⟩ hs F.slot_list_eq (fun Q' q' => call_meets F.slot_list_eq ⟨_, e1, rfl⟩ F.entry_list_eq (F.args_list_eq_2 _ _) (RcO.list_dec l a C dx _ _ _ _) ⟨e1, hi, sub hs, q'⟩) T.eq T.fn run
  | dct h1 =>
    rename_i l kvs
    obtain rfl : v = Value.ref l := rx
    obtain ⟨_, hsys, vs, hkv, od, es, ep, hget, hcl, hdat, hko, hps, _⟩ : ObjOk X.prog X.w H s.heap l (.dK kvs) := I.hok l _ h1
    obtain ⟨oc, odd, odt, osl⟩ := od
    obtain ⟨hc1, hc2⟩ := hcl
    simp only at hc1 hdat
    subst hc1 hdat
    exact RcO.cmp_data hu' I.kIn J (Ta := "dict") ⟨_, hget, rfl⟩ hs F.slot_dict_eq (fun Q' q' => call_meets F.slot_dict_eq ⟨_, hget, rfl⟩ F.entry_dict_eq (F.args_dict_eq_2 _ _) (RcO.dict_dec l a C dx _ _ _ _) ⟨hget, hi, sub hs, q'⟩) T.eq T.fn run
end
section
variable {X : Cx} {K : PySem.W.Frag} {CX : CXT} {n : Nat} {C f : Addr} {fd : FuncData} {sp : Sp}
theorem op_eqDOK (e : X.K = K) (T : OEq K C f) (G0 : FnOk X.prog X.w K X.mg X.base CX n f fd ["self", "other"] sp) (hb : Binds K fd ["self", "other"] []) (hx : Passes CX X (fun _ _ _ => False)) (hr : Room n X.A) (hu : X.A.units + 64 < cLine) : OpR X (compareOp .Eq) (rEqDO K C sp) := by subst e; exact op_eqDO T G0 hb hx hr hu
theorem op_eqOK (e : X.K = K) (T : OEq K C f) (G0 : FnOk X.prog X.w K X.mg X.base CX n f fd ["self", "other"] sp) (hb : Binds K fd ["self", "other"] []) (hx : Passes CX X (fun _ _ _ => False)) (hr : Room n X.A) (hu : X.A.units + 64 < cLine) : OpR X (compareOp .Eq) (rEqO K C sp) := by subst e; exact op_eqO T G0 hb hx hr hu
theorem op_neOK (e : X.K = K) (T : OEq K C f) (G0 : FnOk X.prog X.w K X.mg X.base CX n f fd ["self", "other"] sp) (hb : Binds K fd ["self", "other"] []) (hx : Passes CX X (fun _ _ _ => False)) (hr : Room n X.A.in1) (hu : X.A.units + 64 < cLine) : OpR X (compareOp .NotEq) (rNeO K C sp) := by subst e; exact op_neO T G0 hb hx hr hu
end
end L2

set_option Elab.async false
set_option linter.all false
set_option maxRecDepth 100000
set_option maxHeartbeats 4000000
/-! Lists of data whose items are drawn with the box at p; decoders and lists that grow. -/
namespace My
open PySem PySem.Spec PyProof.Rows L2
theorem two_kp {H H2 : Hp} {p D : Addr} (k : Kp p H H2) : Same (wo (wo H p) D) (wo (wo H2 p) D) := fun b o e => by
  have n : b ≠ D := fun z => by rw [z, wo_at] at e; cases e
  rw [wo_ne n] at e ⊢
  exact k.wo b o e
/-- the list at D, new since H1: its items are data, the j-th as G j says; c draws so far, k more for each item -/
structure AcB (K : PySem.W.Frag) (m : Bool) (p : Addr) (H1 : Hp) (D : Addr) (c k : Nat) (G : Nat → PyData → Prop) (i : Nat) (H : Hp) : Prop where
  kp : Kp p H1 H
  box : BoxAt H p (c + k * i)
  its : ∃ acc es, H D = some (.lst acc) ∧ DgAll K (wo (wo H p) D) m acc es ∧ es.length = i ∧ ∀ j e, es[j]? = some e → G j e
section
variable {K : PySem.W.Frag} {m : Bool} {p D : Addr} {H1 H H2 : Hp} {c k i : Nat} {G : Nat → PyData → Prop}
theorem AcB.start (hD : H1 D = none) (hb : BoxAt H1 p c) : AcB K m p H1 D c k G 0 (L2.upd H1 D (.lst [])) :=
  ⟨(Kp.refl p H1).new hD, (hb.new hD).mono (by omega), [], [], upd_same, .nil, rfl, fun j e h => by cases h⟩
theorem AcB.ne (h : AcB K m p H1 D c k G i H) : H D ≠ none := by
  obtain ⟨acc, es, e, _⟩ := h.its
  rw [e]; exact fun z => by cases z
theorem AcB.is (h : AcB K m p H1 D c k G i H) : ∃ l, H D = some (HO.lst l) := by
  obtain ⟨acc, es, e, _⟩ := h.its
  exact ⟨acc, e⟩
theorem AcB.snoc {y : V} {d : PyData} (h : AcB K m p H1 D c k G i H) (hD : H1 D = none) (np : D ≠ p) (l : i ≤ 100000) (s : Kp p H H2) (hb : BoxAt H2 p (c + k * (i + 1))) (dy : Dg K (wo (wo H2 p) D) m y d) (g : G i d) :
    ∃ acc, H2 D = some (.lst acc) ∧ acc.length < sizeLine ∧ AcB K m p H1 D c k G (i + 1) (L2.upd H2 D (.lst (acc ++ [y]))) := by
  obtain ⟨acc, es, e, ha, le, hg⟩ := h.its
  refine ⟨acc, s _ _ np e, by rw [ha.len, le]; exact Nat.lt_of_le_of_lt l (by decide), (h.kp.trans s).free hD, hb.other np.symm, acc ++ [y], es ++ [d], upd_same, ?_, by rw [List.length_append, le]; rfl, fun j x hx => ?_⟩
  · rw [two_upd]
    exact (ha.ext (two_kp s)).append (.cons dy .nil)
  · by_cases q : j < es.length
    · rw [List.getElem?_append_left q] at hx
      exact hg j x hx
    · have ej : j = es.length := by
        have := (List.getElem?_eq_some_iff.mp hx).1
        rw [List.length_append] at this
        simp at this
        omega
      rw [ej, List.getElem?_concat_length] at hx
      injection hx with hx
      rw [← hx, ej, le]; exact g
end
/-- a comprehension over a range, its items drawn -/
theorem lc_range_box {K : PySem.W.Frag} {m : Bool} {p : Addr} {lo : Int} {n c k : Nat} {g : TG} {tt : TT} {te : TE} {vs : List Nat} {σ : L2.St} {H1 : Hp} {D : Addr} {Qd : Hp → Prop} (G : Nat → PyData → Prop) (hD : H1 D = none) (hb : BoxAt H1 p c) (hn : n ≤ 100000)
    (step : ∀ j H' (R : VK) (N : Hp → Prop), j < n → Kp p H1 H' → (∃ l, H' D = some (HO.lst l)) → BoxAt H' p (c + k * j) → (∀ y e H4, Kp p H' H4 → BoxAt H4 p (c + k * (j + 1)) → Dg K (wo (wo H4 p) D) m y e → G j e → R y H4) →
      g (.int (lo + j)) (wipe σ vs) H' fun σ2 H2 => wipe σ2 vs = wipe σ vs ∧ tt σ2 H2 fun b H3 => if b = true then te σ2 H3 R else N H3)
    (done : ∀ H' xs es, Kp p H1 H' → BoxAt H' p (c + k * n) → H' D = some (.lst xs) → DgAll K (wo (wo H' p) D) m xs es → es.length = n → (∀ j e, es[j]? = some e → G j e) → Qd H') :
    ∃ W : Nat → Nat → Hp → Prop, (∃ m, W 0 m (L2.upd H1 D (.lst []))) ∧ ∀ i m H, W i m H →
      ((Itr lo n).stop i H ∧ Qd H) ∨ ((Itr lo n).go i H ∧ ∃ Nx : Hp → Prop, (∀ H', Nx H' → ∃ m', m' < m ∧ W (i + 1) m' H') ∧ ∀ x H', (Itr lo n).yld i H x H' → g x (wipe σ vs) H' fun σ2 H2 => wipe σ2 vs = wipe σ vs ∧ tt σ2 H2 fun b H3 =>
        if b = true then te σ2 H3 fun y H4 => ∃ acc, H4 D = some (.lst acc) ∧ acc.length < sizeLine ∧ Nx (L2.upd H4 D (.lst (acc ++ [y]))) else Nx H3) := by
  have np : D ≠ p := (hb.ne hD).symm
  refine lc_range (lo := lo) (n := n) (fun i H' => AcB K m p H1 D c k G i H') (AcB.start hD hb) ?_ ?_
  · rintro i H' hi hA
    exact step i H' _ _ hi hA.kp hA.is hA.box fun y e H4 k4 b4 dy ge => hA.snoc hD np (by omega) k4 b4 dy ge
  · rintro H' ⟨k', b', acc, es, e, ha, le, hg⟩
    exact done H' acc es k' b' e ha le hg
/-- over a list of known items -/
theorem lc_list_box {K : PySem.W.Frag} {m : Bool} {p a : Addr} {c k : Nat} {xs : List V} {g : TG} {tt : TT} {te : TE} {vs : List Nat} {σ : L2.St} {H1 : Hp} {D : Addr} {Qd : Hp → Prop} (G : Nat → PyData → Prop) (hL : SqL K (wo H1 p) a xs) (hD : H1 D = none) (hb : BoxAt H1 p c) (hn : xs.length ≤ 100000)
    (step : ∀ j x H' (R : VK) (N : Hp → Prop), xs[j]? = some x → Kp p H1 H' → (∃ l, H' D = some (HO.lst l)) → BoxAt H' p (c + k * j) → (∀ y e H4, Kp p H' H4 → BoxAt H4 p (c + k * (j + 1)) → Dg K (wo (wo H4 p) D) m y e → G j e → R y H4) →
      g x (wipe σ vs) H' fun σ2 H2 => wipe σ2 vs = wipe σ vs ∧ tt σ2 H2 fun b H3 => if b = true then te σ2 H3 R else N H3)
    (done : ∀ H' ys es, Kp p H1 H' → BoxAt H' p (c + k * xs.length) → H' D = some (.lst ys) → DgAll K (wo (wo H' p) D) m ys es → es.length = xs.length → (∀ j e, es[j]? = some e → G j e) → Qd H') :
    ∃ W : Nat → Nat → Hp → Prop, (∃ m, W 0 m (L2.upd H1 D (.lst []))) ∧ ∀ i m H, W i m H →
      ((Itl K a).stop i H ∧ Qd H) ∨ ((Itl K a).go i H ∧ ∃ Nx : Hp → Prop, (∀ H', Nx H' → ∃ m', m' < m ∧ W (i + 1) m' H') ∧ ∀ x H', (Itl K a).yld i H x H' → g x (wipe σ vs) H' fun σ2 H2 => wipe σ2 vs = wipe σ vs ∧ tt σ2 H2 fun b H3 =>
        if b = true then te σ2 H3 fun y H4 => ∃ acc, H4 D = some (.lst acc) ∧ acc.length < sizeLine ∧ Nx (L2.upd H4 D (.lst (acc ++ [y]))) else Nx H3) := by
  have np : D ≠ p := (hb.ne hD).symm
  refine lc_list (K := K) (a := a) (xs := xs) (fun i H' => AcB K m p H1 D c k G i H') (AcB.start hD hb) (fun i H' _ h => (hL.ext h.kp.wo).ext (wo_same H' p)) ?_ ?_
  · rintro i x H' hx hA
    have hi := (List.getElem?_eq_some_iff.mp hx).1
    exact step i x H' _ _ hx hA.kp hA.is hA.box fun y e H4 k4 b4 dy ge => hA.snoc hD np (by omega) k4 b4 dy ge
  · rintro H' ⟨k', b', acc, es, e, ha, le, hg⟩
    exact done H' acc es k' b' e ha le hg
/-! data without lists stay where lists change -/
mutual
theorem dg_lfwo {K : PySem.W.Frag} {H : Hp} {m : Bool} {D : Addr} {l : List V} (eD : H D = some (.lst l)) : ∀ (d : PyData) (x : V), lfD d = true → Dg K H m x d → Dg K (wo H D) m x d
  | .none, _, _, h => by cases h; exact .non
  | .int _, _, _, h => by cases h; exact .int _
  | .str _, _, _, h => by cases h; exact .str _
  | .bool _, _, _, h => by cases h; exact .bl _
  | .list _, _, e, _ => by simp [lfD] at e
  | .dict _, _, e, _ => by simp [lfD] at e
  | .tuple ds, _, e, h => by
    have e' : lfAll ds = true := by simpa [lfD] using e
    cases h with
    | @tup a xs _ hs ha =>
      refine .tup ?_ (dg_lfwoAll eD ds _ e' ha)
      rcases hs with (hs | ⟨ob, hs⟩) | hs
      · have na : a ≠ D := fun z => by rw [z, eD] at hs; cases hs
        exact .inl (.inl (by rw [wo_ne na]; exact hs))
      · have na : a ≠ D := fun z => by rw [z, eD] at hs; cases hs
        exact .inl (.inr ⟨ob, by rw [wo_ne na]; exact hs⟩)
      · exact .inr hs
theorem dg_lfwoAll {K : PySem.W.Frag} {H : Hp} {m : Bool} {D : Addr} {l : List V} (eD : H D = some (.lst l)) : ∀ (ds : List PyData) (xs : List V), lfAll ds = true → DgAll K H m xs ds → DgAll K (wo H D) m xs ds
  | [], _, _, h => by cases h; exact .nil
  | d :: ds, _, e, h => by
    have e' : lfD d = true ∧ lfAll ds = true := by simpa [lfAll] using e
    cases h with
    | cons h1 h2 => exact .cons (dg_lfwo eD d _ e'.1 h1) (dg_lfwoAll eD ds _ e'.2 h2)
end
/-- a decoder holds no list -/
theorem DecAt.mut {K : PySem.W.Frag} {C : Addr} {H : Hp} {o M : Addr} {D : Dcd} {xs : List V} (h : DecAt K C H o D) (eM : H M = some (.lst xs)) : DecAt K C (wo H M) o D := by
  obtain ⟨⟨dx, Sa, Ea, e, h1, h2⟩, ok⟩ := h
  have no : o ≠ M := fun z => by rw [z, eM] at e; cases e
  exact ⟨⟨dx, Sa, Ea, by rw [wo_ne no]; exact e, dg_lfwo eM _ _ (lf_stD D) h1, dg_lfwo eM _ _ (lf_dEn D) h2⟩, ok⟩
theorem wo_updS {H : Hp} {M : Addr} {o : HO} : Same (wo H M) (L2.upd H M o) := fun b ob e => by
  have n : b ≠ M := fun z => by rw [z, wo_at] at e; cases e
  rw [wo_ne n] at e
  rw [upd_ne n]; exact e
theorem DecAt.kp {K : PySem.W.Frag} {C : Addr} {H H' : Hp} {o M : Addr} {D : Dcd} {xs : List V} (h : DecAt K C H o D) (eM : H M = some (.lst xs)) (k : Kp M H H') : DecAt K C H' o D := ((h.mut eM).ext k.wo).ext (wo_same H' M)
theorem box_lst {H : Hp} {p : Addr} {n : Nat} (h : BoxAt H p n) : ∃ xs, H p = some (HO.lst xs) := by
  obtain ⟨o, e, a, m, c, b, rfl, _⟩ := h
  exact ⟨_, e⟩
theorem DecAt.bx {K : PySem.W.Frag} {C : Addr} {H H' : Hp} {o p : Addr} {D : Dcd} {n : Nat} (h : DecAt K C H o D) (hb : BoxAt H p n) (k : Kp p H H') : DecAt K C H' o D := by
  obtain ⟨xs, e⟩ := box_lst hb
  exact h.kp e k
theorem dg_strs {K : PySem.W.Frag} {H : Hp} {m : Bool} : ∀ {xs : List V} {es : List PyData}, DgAll K H m xs es → (∀ e ∈ es, ∃ w, e = .str (S w) ∧ Low w ∧ w.length = 1) → ∃ t : List Nat, Low t ∧ t.length = es.length ∧ xs = t.map fun c => V.str (S [c])
  | _, _, .nil, _ => ⟨[], Low.nil, rfl, rfl⟩
  | _, _, .cons (d := d) h1 h2, g => by
    obtain ⟨t, lt, ln, e⟩ := dg_strs h2 fun e he => g e (List.mem_cons_of_mem _ he)
    obtain ⟨w, rfl, lw, l1⟩ := g d List.mem_cons_self
    match w, lw, l1 with
    | [c], lw, _ =>
      cases h1
      exact ⟨c :: t, fun x hx => by
        rcases List.mem_cons.mp hx with z | z
        · rw [z]; exact lw c List.mem_cons_self
        · exact lt x z, by rw [List.length_cons, List.length_cons, ln], by rw [e]; rfl⟩
theorem asg2 {te : TE} {g : TG} {D : Ends} {σ : L2.St} {H : Hp} (R : V → Hp → Prop) (h : ∀ Q' : VK, (∀ v H', R v H' → Q' v H') → te σ H Q') (rest : ∀ v H', R v H' → g v σ H' D.nx) : tAsg te g D σ H := h _ rest
theorem seq2 {te : TE} {g : TG} {s : TS} {D : Ends} {σ : L2.St} {H : Hp} (R : V → Hp → Prop) (h : ∀ Q' : VK, (∀ v H', R v H' → Q' v H') → te σ H Q') (rest : ∀ v H', R v H' → g v σ H' fun σ2 H2 => s D σ2 H2) : tSeq (tAsg te g) s D σ H := h _ rest
theorem sIx_m1 (n : Nat) : HT.sIx n n (some (-1)) = n - 1 := by
  unfold HT.sIx
  simp
  omega
theorem cut_last (l : List Nat) : cutS (S l) none (some (-1)) = S l.dropLast := by
  show S (((cs (S l)).drop (HT.sIx (S l).length 0 none)).take (HT.sIx (S l).length (S l).length (some (-1)) - HT.sIx (S l).length 0 none)) = _
  rw [S_tl, S_len, HT.sIx_none, sIx_m1, List.drop_zero, Nat.sub_zero, List.dropLast_eq_take]
end My

set_option Elab.async false
set_option linter.all false
set_option maxRecDepth 100000
set_option maxHeartbeats 4000000
/-! Rows of one's own: lists of lists that may be written to. -/
namespace My
open PySem PySem.Spec PyProof.Rows L2
def RowL (K : PySem.W.Frag) (H : Hp) (q : Addr) (row : List Ent) : Prop := ∃ xs, H q = some (.lst xs) ∧ DgAll K H false xs (row.map enD)
theorem RowL.kp {K : PySem.W.Frag} {H H' : Hp} {q M : Addr} {row : List Ent} {l : List V} (h : RowL K H q row) (eM : H M = some (.lst l)) (n : q ≠ M) (k : Kp M H H') : RowL K H' q row := by
  obtain ⟨xs, e, ha⟩ := h
  exact ⟨xs, k _ _ n e, ((dg_lfwoAll eM _ _ (lfAll_map lf_enD _) ha).ext k.wo).ext (wo_same H' M)⟩
theorem RowL.ext {K : PySem.W.Frag} {H H' : Hp} {q : Addr} {row : List Ent} (h : RowL K H q row) (s : Same H H') : RowL K H' q row := by
  obtain ⟨xs, e, ha⟩ := h
  exact ⟨xs, s _ _ e, ha.ext s⟩
/-- the rows st at the list R, each at a list of its own -/
structure RowsL (K : PySem.W.Frag) (p : Addr) (H : Hp) (R : Addr) (qs : List Addr) (st : List (List Ent)) : Prop where
  e : H R = some (.lst (qs.map V.ref))
  nd : qs.Nodup
  nR : R ∉ qs
  np : p ∉ qs
  nRp : R ≠ p
  len : qs.length = st.length
  row : ∀ (j : Nat) (q : Addr) (r : List Ent), qs[j]? = some q → st[j]? = some r → RowL K H q r
section
variable {K : PySem.W.Frag} {p R M : Addr} {H H' : Hp} {qs : List Addr} {st : List (List Ent)} {l : List V}
theorem RowsL.kp (h : RowsL K p H R qs st) (eM : H M = some (.lst l)) (n1 : R ≠ M) (n2 : M ∉ qs) (k : Kp M H H') : RowsL K p H' R qs st :=
  ⟨k _ _ n1 h.e, h.nd, h.nR, h.np, h.nRp, h.len, fun j q r hq hr => (h.row j q r hq hr).kp eM (fun z => n2 (by rw [← z]; exact List.mem_of_getElem? hq)) k⟩
theorem RowsL.ext (h : RowsL K p H R qs st) (s : Same H H') : RowsL K p H' R qs st :=
  ⟨s _ _ h.e, h.nd, h.nR, h.np, h.nRp, h.len, fun j q r hq hr => (h.row j q r hq hr).ext s⟩
theorem RowsL.box {n : Nat} (h : RowsL K p H R qs st) (hb : BoxAt H p n) (k : Kp p H H') : RowsL K p H' R qs st := by
  obtain ⟨xs, e⟩ := box_lst hb
  exact h.kp e h.nRp h.np k
theorem dgAll_refs : ∀ (qs : List Addr) (st : List (List Ent)), qs.length = st.length → (∀ (j : Nat) (q : Addr) (r : List Ent), qs[j]? = some q → st[j]? = some r → RowL K H q r) → DgAll K H false (qs.map V.ref) (st.map fun r => .list (r.map enD))
  | [], [], _, _ => .nil
  | [], _ :: _, e, _ => by cases e
  | _ :: _, [], e, _ => by cases e
  | q :: qs, r :: st, e, h => by
    obtain ⟨xs, eq, ha⟩ := h 0 q r rfl rfl
    exact .cons (.lst (SqL.of eq) (fun z => by cases z) ha) (dgAll_refs qs st (by simpa using e) fun j q' r' h1 h2 => h (j + 1) q' r' h1 h2)
theorem RowsL.dg (h : RowsL K p H R qs st) : Dg K H false (.ref R) (.list (st.map fun r => .list (r.map enD))) := .lst (SqL.of h.e) (fun z => by cases z) (dgAll_refs qs st h.len h.row)
theorem dgAll_put {m : Bool} : ∀ {xs : List V} {es : List PyData} (a : Nat) {v : V} {d : PyData}, DgAll K H m xs es → Dg K H m v d → DgAll K H m (xs.set a v) (es.set a d)
  | _, _, _, _, _, .nil, _ => .nil
  | _, _, 0, _, _, .cons h1 h2, hv => .cons hv h2
  | _, _, a + 1, _, _, .cons h1 h2, hv => .cons h1 (dgAll_put a h2 hv)
/-- one entry is written -/
theorem RowsL.put {j a : Nat} {q : Addr} {r : List Ent} {xs : List V} {v : V} {e : Ent} (h : RowsL K p H R qs st) (hq : qs[j]? = some q) (hr : st[j]? = some r) (eq : H q = some (.lst xs)) (ha : DgAll K H false xs (r.map enD)) (hv : Dg K H false v (enD e)) :
    RowsL K p (L2.upd H q (.lst (xs.set a v))) R qs (st.set j (r.set a e)) := by
  have hm : q ∈ qs := List.mem_of_getElem? hq
  have nR : R ≠ q := fun z => h.nR (by rw [z]; exact hm)
  have hj := (List.getElem?_eq_some_iff.mp hr).1
  refine ⟨by rw [upd_ne nR]; exact h.e, h.nd, h.nR, h.np, h.nRp, by rw [List.length_set]; exact h.len, fun i q' r' hq' hr' => ?_⟩
  by_cases eij : i = j
  · subst eij
    rw [hq] at hq'
    injection hq' with hq'
    subst hq'
    rw [List.getElem?_set_self hj] at hr'
    injection hr' with hr'
    subst hr'
    refine ⟨_, upd_same, ?_⟩
    rw [List.map_set]
    exact (dgAll_put a (dg_lfwoAll eq _ _ (lfAll_map lf_enD _) ha) (dg_lfwo eq _ _ (lf_enD e) hv)).ext wo_updS
  · rw [List.getElem?_set_ne (fun z => eij z.symm)] at hr'
    have nq : q' ≠ q := fun z => by
      have h1 := (List.getElem?_eq_some_iff.mp hq)
      have h2 := (List.getElem?_eq_some_iff.mp hq')
      obtain ⟨b1, c1⟩ := h1
      obtain ⟨b2, c2⟩ := h2
      exact eij (List.getElem_inj h.nd |>.mp (by rw [c1, c2, z]))
    exact (h.row i q' r' hq' hr').kp eq nq ((Kp.refl q H).upd)
end
/-- [list(row) for row in rows] -/
theorem rows_copy {K : PySem.W.Frag} {H : Hp} {p a : Addr} {ys : List V} {st : List (List Ent)} {σ : L2.St} {te : TE} {i : Nat} {vs : List Nat} {Q : VK} {rT : List V → Hp → VK → Prop}
    (hT : ∀ a ys H R, SqL K H a ys → (∀ l, H l = none → R (V.ref l) (L2.upd H l (.lst ys))) → rT [.ref a] H R)
    (hte : ∀ R : VK, R (.ref a) H → te σ H R) (hq : SqL K H a ys) (hes : DgAll K (wo H p) false ys (st.map fun r => .list (r.map enD))) (hl : st.length ≤ 1000) (np : H p ≠ none)
    (hw : ∀ x, wipe ((wipe σ vs).set i (some x)) vs = wipe σ vs) (hi : ∀ x, ((wipe σ vs).set i (some x))[i]? = some (some x))
    (q : ∀ R qs H', Same H H' → H R = none → (∀ x ∈ qs, H x = none) → RowsL K p H' R qs st → Q (.ref R) H') :
    tLc (iList K te) (gName i) tYes (tCB rT (tCons (tVar i) tNil)) vs σ H Q := by
  have ly := hes.len
  rw [List.length_map] at ly
  refine hte _ ⟨a, rfl, ⟨ys, hq⟩, fun L hL => ?_⟩
  have nLp : L ≠ p := fun z => np (by rw [← z]; exact hL)
  refine lc_list (K := K) (a := a) (xs := ys) (fun j H' => Same H H' ∧ ∃ qs, RowsL K p H' L qs (st.take j) ∧ ∀ x ∈ qs, H x = none) ⟨Same.new (Same.refl _) hL, [], ⟨upd_same, List.nodup_nil, List.not_mem_nil, List.not_mem_nil, nLp, rfl, (fun j q r h => by cases h)⟩, fun x h => by cases h⟩ (fun j H' _ h => hq.ext h.1) ?_ ?_
  · rintro j x H' hx ⟨s', qs, hR, hn⟩
    obtain ⟨d, hd, dx⟩ := hes.at j x hx
    obtain ⟨r, hr, rfl⟩ : ∃ r, st[j]? = some r ∧ PyData.list (r.map enD) = d := by
      rw [List.getElem?_map] at hd
      cases e : st[j]? with
      | none => rw [e] at hd; cases hd
      | some row => rw [e] at hd; exact ⟨row, rfl, Option.some.inj hd⟩
    obtain ⟨b, zs, rfl, hb, _, hz⟩ := dx.lst_of
    have hj := (List.getElem?_eq_some_iff.mp hr).1
    have hb' : SqL K H' b zs := (hb.ext (wo_same H p)).ext s'
    refine ⟨hw _, tYesT ⟨_, hi _, hT _ _ _ _ hb' fun c hc => ?_⟩⟩
    have s2 : Same H' (L2.upd H' c (.lst zs)) := Same.new (Same.refl _) hc
    have hcH : H c = none := s'.free hc
    have ncL : c ≠ L := fun z => by rw [z, hR.e] at hc; cases hc
    have ncp : c ≠ p := fun z => (same_at s' np) (by rw [← z]; exact hc)
    have ncq : c ∉ qs := fun z => by
      obtain ⟨i, hi'⟩ := List.getElem?_of_mem z
      have li : i < st.length := by
        have := (List.getElem?_eq_some_iff.mp hi').1
        have l2 := hR.len
        rw [List.length_take] at l2; omega
      have li2 : i < (st.take j).length := by
        have := (List.getElem?_eq_some_iff.mp hi').1
        have l2 := hR.len; omega
      obtain ⟨xs, e, _⟩ := hR.row i c _ hi' (List.getElem?_eq_getElem li2)
      rw [hc] at e; cases e
    have hR2 := hR.ext s2
    have eL : (L2.upd H' c (.lst zs)) L = some (.lst (qs.map V.ref)) := hR2.e
    have lq : qs.length = j := by have := hR.len; rw [List.length_take] at this; omega
    refine ⟨_, eL, by rw [List.length_map, lq]; exact Nat.lt_of_le_of_lt (show j ≤ 1000 by omega) (by decide), ?_, qs ++ [c], ⟨?_, ?_, ?_, ?_, nLp, ?_, ?_⟩, ?_⟩
    · intro b' o' e'
      rw [upd_ne (ne_of_none e' hL)]
      exact s2 _ _ (s' _ _ e')
    · rw [upd_same, List.map_append]; rfl
    · exact List.nodup_append.mpr ⟨hR.nd, List.nodup_cons.mpr ⟨List.not_mem_nil, List.nodup_nil⟩, fun x hx y hy z => by rw [List.mem_singleton.mp hy] at z; exact ncq (by rw [← z]; exact hx)⟩
    · intro z
      rcases List.mem_append.mp z with z | z
      · exact hR.nR z
      · exact ncL (List.mem_singleton.mp z).symm
    · intro z
      rcases List.mem_append.mp z with z | z
      · exact hR.np z
      · exact ncp (List.mem_singleton.mp z).symm
    · rw [List.length_append, lq, List.length_take, Nat.min_eq_left (by omega)]; rfl
    · intro i q' r' hq' hr'
      have kL : Kp L (L2.upd H' c (.lst zs)) (L2.upd (L2.upd H' c (.lst zs)) L (.lst (qs.map V.ref ++ [.ref c]))) := (Kp.refl L _).upd
      by_cases hij : i < j
      · rw [List.getElem?_append_left (by omega)] at hq'
        rw [List.getElem?_take_of_lt (by omega)] at hr'
        refine (hR2.row i q' r' hq' (by rw [List.getElem?_take_of_lt hij]; exact hr')).kp eL (fun z => hR.nR (by rw [← z]; exact List.mem_of_getElem? hq')) kL
      · have ei : i = j := by
          have := (List.getElem?_eq_some_iff.mp hq').1
          rw [List.length_append] at this
          simp at this
          omega
        subst ei
        rw [List.getElem?_append_right (by omega), lq, Nat.sub_self] at hq'
        have : c = q' := by injection hq'
        subst this
        rw [List.getElem?_take_of_lt (by omega), hr] at hr'
        injection hr' with hr'
        subst hr'
        have : RowL K (L2.upd H' c (.lst zs)) c r := ⟨zs, upd_same, (hz.ext (wo_same H p)).ext (s'.trans s2)⟩
        exact this.kp eL ncL kL
    · intro x hx'
      rcases List.mem_append.mp hx' with z | z
      · exact hn x z
      · rw [List.mem_singleton.mp z]; exact hcH
  · rintro H' ⟨s', qs, hR, hn⟩
    rw [ly, List.take_length] at hR
    exact q L qs H' s' hL hn hR
theorem RowsL.wo {K : PySem.W.Frag} {p R : Addr} {H : Hp} {qs : List Addr} {st : List (List Ent)} {l : List V} (h : RowsL K p H R qs st) (ep : H p = some (.lst l)) : RowsL K p (wo H p) R qs st := by
  refine ⟨by rw [wo_ne h.nRp]; exact h.e, h.nd, h.nR, h.np, h.nRp, h.len, fun j q r hq hr => ?_⟩
  obtain ⟨xs, e, ha⟩ := h.row j q r hq hr
  have nq : q ≠ p := fun z => h.np (by rw [← z]; exact List.mem_of_getElem? hq)
  exact ⟨xs, by rw [wo_ne nq]; exact e, dg_lfwoAll ep _ _ (lfAll_map lf_enD _) ha⟩
theorem RowsL.dgw {K : PySem.W.Frag} {p R : Addr} {H : Hp} {qs : List Addr} {st : List (List Ent)} {n : Nat} (h : RowsL K p H R qs st) (hb : BoxAt H p n) : Dg K (My.wo H p) false (.ref R) (.list (st.map fun r => .list (r.map enD))) := by
  obtain ⟨l, e⟩ := box_lst hb
  exact (h.wo e).dg
theorem lf_wd (e : Option (List Nat)) : lfD (wdD e) = true := by cases e <;> rfl
/-- the words at a list of one's own -/
structure WrdL (K : PySem.W.Frag) (p : Addr) (H : Hp) (W : Addr) (en : List (Option (List Nat))) : Prop where
  np : W ≠ p
  ex : ∃ zs, H W = some (.lst zs) ∧ DgAll K H false zs (en.map wdD)
section
variable {K : PySem.W.Frag} {p W M : Addr} {H H' : Hp} {en : List (Option (List Nat))} {l : List V}
theorem WrdL.kp (h : WrdL K p H W en) (eM : H M = some (.lst l)) (n : W ≠ M) (k : Kp M H H') : WrdL K p H' W en := by
  obtain ⟨np, zs, e, ha⟩ := h
  exact ⟨np, zs, k _ _ n e, ((dg_lfwoAll eM _ _ (lfAll_map lf_wd _) ha).ext k.wo).ext (wo_same H' M)⟩
theorem WrdL.ext (h : WrdL K p H W en) (s : Same H H') : WrdL K p H' W en := by
  obtain ⟨np, zs, e, ha⟩ := h
  exact ⟨np, zs, s _ _ e, ha.ext s⟩
theorem WrdL.box {n : Nat} (h : WrdL K p H W en) (hb : BoxAt H p n) (k : Kp p H H') : WrdL K p H' W en := by
  obtain ⟨xs, e⟩ := box_lst hb
  exact h.kp e h.np k
theorem WrdL.dgw {n : Nat} (h : WrdL K p H W en) (hb : BoxAt H p n) : Dg K (My.wo H p) false (.ref W) (.list (en.map wdD)) := by
  obtain ⟨l, el⟩ := box_lst hb
  obtain ⟨np, zs, e, ha⟩ := h
  exact .lst (SqL.of (by rw [wo_ne np]; exact e)) (fun z => by cases z) (dg_lfwoAll el _ _ (lfAll_map lf_wd _) ha)
theorem WrdL.put {j : Nat} {v : V} {e : Option (List Nat)} {zs : List V} (h : WrdL K p H W en) (ez : H W = some (.lst zs)) (hv : Dg K H false v (wdD e)) : WrdL K p (L2.upd H W (.lst (zs.set j v))) W (en.set j e) := by
  obtain ⟨np, zs', e', ha⟩ := h
  rw [ez] at e'
  injection e' with e'
  injection e' with e'
  subst e'
  refine ⟨np, _, upd_same, ?_⟩
  rw [List.map_set]
  exact (dgAll_put j (dg_lfwoAll ez _ _ (lfAll_map lf_wd _) ha) (dg_lfwo ez _ _ (lf_wd e) hv)).ext wo_updS
end
theorem ixN_at {n i : Nat} (h : i < n) : ixN n (i : Int) = some i := by
  unfold ixN
  simp
  omega
end My

set_option Elab.async false
set_option linter.all false
set_option maxRecDepth 100000
set_option maxHeartbeats 2000000
namespace My
open PySem PySem.Spec PyProof.Rows L2
def topS (i : Nat) : Stmt := PySem.Challenge.pw_spoiltline_k01_decoders_and_their_parts.main.body.getD i (.Pass ⟨0, 0, 0, 0⟩)
abbrev s_is_integer : Stmt := topS 4
abbrev N_is_integer : List Str := ["value"]
theorem sc_is_integer : FnScope N_is_integer ["value"] (defScope s_is_integer) := ⟨rfl, rfl, rfl, by decide +kernel, rfl, by decide +kernel, by decide +kernel⟩
abbrev s_is_count : Stmt := topS 5
abbrev N_is_count : List Str := ["value"]
theorem sc_is_count : FnScope N_is_count ["value"] (defScope s_is_count) := ⟨rfl, rfl, rfl, by decide +kernel, rfl, by decide +kernel, by decide +kernel⟩
abbrev s_is_list : Stmt := topS 6
abbrev N_is_list : List Str := ["value"]
theorem sc_is_list : FnScope N_is_list ["value"] (defScope s_is_list) := ⟨rfl, rfl, rfl, by decide +kernel, rfl, by decide +kernel, by decide +kernel⟩
abbrev s_is_text : Stmt := topS 7
abbrev N_is_text : List Str := ["value"]
theorem sc_is_text : FnScope N_is_text ["value"] (defScope s_is_text) := ⟨rfl, rfl, rfl, by decide +kernel, rfl, by decide +kernel, by decide +kernel⟩
abbrev s_is_word : Stmt := topS 8
abbrev N_is_word : List Str := ["value"]
theorem sc_is_word : FnScope N_is_word ["value"] (defScope s_is_word) := ⟨rfl, rfl, rfl, by decide +kernel, rfl, by decide +kernel, by decide +kernel⟩
abbrev s_is_number_of_signs : Stmt := topS 9
abbrev N_is_number_of_signs : List Str := ["value"]
theorem sc_is_number_of_signs : FnScope N_is_number_of_signs ["value"] (defScope s_is_number_of_signs) := ⟨rfl, rfl, rfl, by decide +kernel, rfl, by decide +kernel, by decide +kernel⟩
abbrev s_is_below : Stmt := topS 10
abbrev N_is_below : List Str := ["value", "limit"]
theorem sc_is_below : FnScope N_is_below ["value", "limit"] (defScope s_is_below) := ⟨rfl, rfl, rfl, by decide +kernel, rfl, by decide +kernel, by decide +kernel⟩
abbrev s_are_steps : Stmt := topS 19
abbrev N_are_steps : List Str := ["value", "signs", "row"]
theorem sc_are_steps : FnScope N_are_steps ["value", "signs"] (defScope s_are_steps) := ⟨rfl, rfl, rfl, by decide +kernel, rfl, by decide +kernel, by decide +kernel⟩
abbrev s_are_entries : Stmt := topS 20
abbrev N_are_entries : List Str := ["value", "signs", "states", "entry"]
theorem sc_are_entries : FnScope N_are_entries ["value", "signs", "states"] (defScope s_are_entries) := ⟨rfl, rfl, rfl, by decide +kernel, rfl, by decide +kernel, by decide +kernel⟩
abbrev s_is_step : Stmt := topS 21
abbrev N_is_step : List Str := ["value", "states"]
theorem sc_is_step : FnScope N_is_step ["value", "states"] (defScope s_is_step) := ⟨rfl, rfl, rfl, by decide +kernel, rfl, by decide +kernel, by decide +kernel⟩
abbrev s_are_ends : Stmt := topS 22
abbrev N_are_ends : List Str := ["value", "states", "end"]
theorem sc_are_ends : FnScope N_are_ends ["value", "states"] (defScope s_are_ends) := ⟨rfl, rfl, rfl, by decide +kernel, rfl, by decide +kernel, by decide +kernel⟩
abbrev s_law_cell : Stmt := topS 24
abbrev N_law_cell : List Str := ["script", "k"]
theorem sc_law_cell : FnScope N_law_cell ["script", "k"] (defScope s_law_cell) := ⟨rfl, rfl, rfl, by decide +kernel, rfl, by decide +kernel, by decide +kernel⟩
abbrev s_law_box : Stmt := topS 25
abbrev N_law_box : List Str := ["great"]
theorem sc_law_box : FnScope N_law_box ["great"] (defScope s_law_box) := ⟨rfl, rfl, rfl, by decide +kernel, rfl, by decide +kernel, by decide +kernel⟩
abbrev s_law_take : Stmt := topS 26
abbrev N_law_take : List Str := ["box", "many", "digit", "mixed"]
theorem sc_law_take : FnScope N_law_take ["box", "many"] (defScope s_law_take) := ⟨rfl, rfl, rfl, by decide +kernel, rfl, by decide +kernel, by decide +kernel⟩
abbrev s_law_word : Stmt := topS 27
abbrev N_law_word : List Str := ["box", "letters", "turn"]
theorem sc_law_word : FnScope N_law_word ["box"] (defScope s_law_word) := ⟨rfl, rfl, rfl, by decide +kernel, rfl, by decide +kernel, by decide +kernel⟩
abbrev s_law_entry : Stmt := topS 28
abbrev N_law_entry : List Str := ["box", "states"]
theorem sc_law_entry : FnScope N_law_entry ["box", "states"] (defScope s_law_entry) := ⟨rfl, rfl, rfl, by decide +kernel, rfl, by decide +kernel, by decide +kernel⟩
abbrev s_law_row : Stmt := topS 29
abbrev N_law_row : List Str := ["box", "signs", "states", "a"]
theorem sc_law_row : FnScope N_law_row ["box", "signs", "states"] (defScope s_law_row) := ⟨rfl, rfl, rfl, by decide +kernel, rfl, by decide +kernel, by decide +kernel⟩
abbrev s_law_end : Stmt := topS 30
abbrev N_law_end : List Str := ["box"]
theorem sc_law_end : FnScope N_law_end ["box"] (defScope s_law_end) := ⟨rfl, rfl, rfl, by decide +kernel, rfl, by decide +kernel, by decide +kernel⟩
abbrev s_law_parts : Stmt := topS 31
abbrev N_law_parts : List Str := ["box", "signs", "states", "steps", "state"]
theorem sc_law_parts : FnScope N_law_parts ["box"] (defScope s_law_parts) := ⟨rfl, rfl, rfl, by decide +kernel, rfl, by decide +kernel, by decide +kernel⟩
abbrev s_law_listed : Stmt := topS 32
abbrev N_law_listed : List Str := ["box", "rows", "found", "row"]
theorem sc_law_listed : FnScope N_law_listed ["box", "rows"] (defScope s_law_listed) := ⟨rfl, rfl, rfl, by decide +kernel, rfl, by decide +kernel, by decide +kernel⟩
abbrev s_law_plain_rows : Stmt := topS 33
abbrev N_law_plain_rows : List Str := ["rows", "row"]
theorem sc_law_plain_rows : FnScope N_law_plain_rows ["rows"] (defScope s_law_plain_rows) := ⟨rfl, rfl, rfl, by decide +kernel, rfl, by decide +kernel, by decide +kernel⟩
abbrev s_law_stands : Stmt := topS 34
abbrev N_law_stands : List Str := ["made", "parts", "signs", "steps", "ends", "row", "told"]
theorem sc_law_stands : FnScope N_law_stands ["made", "parts"] (defScope s_law_stands) := ⟨rfl, rfl, rfl, by decide +kernel, rfl, by decide +kernel, by decide +kernel⟩
abbrev s_law_met : Stmt := topS 35
abbrev N_law_met : List Str := ["signs", "steps", "ends", "e"]
theorem sc_law_met : FnScope N_law_met ["signs", "steps", "ends"] (defScope s_law_met) := ⟨rfl, rfl, rfl, by decide +kernel, rfl, by decide +kernel, by decide +kernel⟩
abbrev s_law_other_word : Stmt := topS 36
abbrev N_law_other_word : List Str := ["box", "word", "menu"]
theorem sc_law_other_word : FnScope N_law_other_word ["box", "word"] (defScope s_law_other_word) := ⟨rfl, rfl, rfl, by decide +kernel, rfl, by decide +kernel, by decide +kernel⟩
abbrev s_law_changed : Stmt := topS 37
abbrev N_law_changed : List Str := ["box", "parts", "signs", "steps", "ends", "rows", "words", "at", "a", "row", "way", "entry", "word"]
theorem sc_law_changed : FnScope N_law_changed ["box", "parts"] (defScope s_law_changed) := ⟨rfl, rfl, rfl, by decide +kernel, rfl, by decide +kernel, by decide +kernel⟩
abbrev s_law_equal_right : Stmt := topS 38
abbrev N_law_equal_right : List Str := ["box", "made", "parts", "signs", "steps", "ends", "twin", "turn", "changed", "other", "things", "thing"]
theorem sc_law_equal_right : FnScope N_law_equal_right ["box", "made", "parts"] (defScope s_law_equal_right) := ⟨rfl, rfl, rfl, by decide +kernel, rfl, by decide +kernel, by decide +kernel⟩
abbrev s_law_spoilt_steps : Stmt := topS 39
abbrev N_law_spoilt_steps : List Str := ["box", "signs", "steps", "rows", "states", "way", "row", "at", "a", "word", "odd"]
theorem sc_law_spoilt_steps : FnScope N_law_spoilt_steps ["box", "signs", "steps"] (defScope s_law_spoilt_steps) := ⟨rfl, rfl, rfl, by decide +kernel, rfl, by decide +kernel, by decide +kernel⟩
abbrev s_law_spoilt_ends : Stmt := topS 40
abbrev N_law_spoilt_ends : List Str := ["box", "ends", "words", "at", "way", "odd"]
theorem sc_law_spoilt_ends : FnScope N_law_spoilt_ends ["box", "ends"] (defScope s_law_spoilt_ends) := ⟨rfl, rfl, rfl, by decide +kernel, rfl, by decide +kernel, by decide +kernel⟩
abbrev s_law_copy : Stmt := topS 41
abbrev N_law_copy : List Str := ["value", "row"]
theorem sc_law_copy : FnScope N_law_copy ["value"] (defScope s_law_copy) := ⟨rfl, rfl, rfl, by decide +kernel, rfl, by decide +kernel, by decide +kernel⟩
abbrev s_law_tuples : Stmt := topS 42
abbrev N_law_tuples : List Str := ["value", "row"]
theorem sc_law_tuples : FnScope N_law_tuples ["value"] (defScope s_law_tuples) := ⟨rfl, rfl, rfl, by decide +kernel, rfl, by decide +kernel, by decide +kernel⟩
abbrev s_law_door : Stmt := topS 43
abbrev N_law_door : List Str := ["word", "signs", "steps", "ends", "things", "told", "wrong"]
theorem sc_law_door : FnScope N_law_door ["word", "signs", "steps", "ends"] (defScope s_law_door) := ⟨rfl, rfl, rfl, by decide +kernel, rfl, by decide +kernel, by decide +kernel⟩
abbrev s_law_refused_right : Stmt := topS 44
abbrev N_law_refused_right : List Str := ["box", "parts", "signs", "steps", "ends", "menu", "bad", "rows", "words", "told"]
theorem sc_law_refused_right : FnScope N_law_refused_right ["box", "parts"] (defScope s_law_refused_right) := ⟨rfl, rfl, rfl, by decide +kernel, rfl, by decide +kernel, by decide +kernel⟩
abbrev s_law_many_right : Stmt := topS 45
abbrev N_law_many_right : List Str := ["box", "place", "rows", "k", "made"]
theorem sc_law_many_right : FnScope N_law_many_right ["box"] (defScope s_law_many_right) := ⟨rfl, rfl, rfl, by decide +kernel, rfl, by decide +kernel, by decide +kernel⟩
abbrev s_law_right : Stmt := topS 46
abbrev N_law_right : List Str := ["box", "parts", "signs", "steps", "ends", "handed", "given", "row", "kept"]
theorem sc_law_right : FnScope N_law_right ["box"] (defScope s_law_right) := ⟨rfl, rfl, rfl, by decide +kernel, rfl, by decide +kernel, by decide +kernel⟩
abbrev s_law : Stmt := topS 47
abbrev N_law : List Str := ["script", "k", "box"]
theorem sc_law : FnScope N_law ["script"] (defScope s_law) := ⟨rfl, rfl, rfl, by decide +kernel, rfl, by decide +kernel, by decide +kernel⟩
abbrev s_Decoder_init : Stmt := inClass (topS 18) 0
abbrev N_Decoder_init : List Str := ["self", "signs", "steps", "ends", "row"]
theorem sc_Decoder_init : FnScope N_Decoder_init ["self", "signs", "steps", "ends"] (defScope s_Decoder_init) := ⟨rfl, rfl, rfl, by decide +kernel, rfl, by decide +kernel, by decide +kernel⟩
abbrev s_Decoder_eq : Stmt := inClass (topS 18) 1
abbrev N_Decoder_eq : List Str := ["self", "other"]
theorem sc_Decoder_eq : FnScope N_Decoder_eq ["self", "other"] (defScope s_Decoder_eq) := ⟨rfl, rfl, rfl, by decide +kernel, rfl, by decide +kernel, by decide +kernel⟩
structure Txt (K : PySem.W.Frag) (mg : Str → Option Value) (base : Heap) where
  f_is_integer : Addr
  fd_is_integer : FuncData
  F_is_integer : Fun K "is_integer" "is_integer" s_is_integer f_is_integer fd_is_integer
  b_is_integer : Binds K fd_is_integer ["value"] []
  g_is_integer : mg "is_integer" = some (.ref f_is_integer)
  f_is_count : Addr
  fd_is_count : FuncData
  F_is_count : Fun K "is_count" "is_count" s_is_count f_is_count fd_is_count
  b_is_count : Binds K fd_is_count ["value"] []
  g_is_count : mg "is_count" = some (.ref f_is_count)
  f_is_list : Addr
  fd_is_list : FuncData
  F_is_list : Fun K "is_list" "is_list" s_is_list f_is_list fd_is_list
  b_is_list : Binds K fd_is_list ["value"] []
  g_is_list : mg "is_list" = some (.ref f_is_list)
  f_is_text : Addr
  fd_is_text : FuncData
  F_is_text : Fun K "is_text" "is_text" s_is_text f_is_text fd_is_text
  b_is_text : Binds K fd_is_text ["value"] []
  g_is_text : mg "is_text" = some (.ref f_is_text)
  f_is_word : Addr
  fd_is_word : FuncData
  F_is_word : Fun K "is_word" "is_word" s_is_word f_is_word fd_is_word
  b_is_word : Binds K fd_is_word ["value"] []
  g_is_word : mg "is_word" = some (.ref f_is_word)
  f_is_number_of_signs : Addr
  fd_is_number_of_signs : FuncData
  F_is_number_of_signs : Fun K "is_number_of_signs" "is_number_of_signs" s_is_number_of_signs f_is_number_of_signs fd_is_number_of_signs
  b_is_number_of_signs : Binds K fd_is_number_of_signs ["value"] []
  g_is_number_of_signs : mg "is_number_of_signs" = some (.ref f_is_number_of_signs)
  f_is_below : Addr
  fd_is_below : FuncData
  F_is_below : Fun K "is_below" "is_below" s_is_below f_is_below fd_is_below
  b_is_below : Binds K fd_is_below ["value", "limit"] []
  g_is_below : mg "is_below" = some (.ref f_is_below)
  f_are_steps : Addr
  fd_are_steps : FuncData
  F_are_steps : Fun K "are_steps" "are_steps" s_are_steps f_are_steps fd_are_steps
  b_are_steps : Binds K fd_are_steps ["value", "signs"] []
  g_are_steps : mg "are_steps" = some (.ref f_are_steps)
  f_are_entries : Addr
  fd_are_entries : FuncData
  F_are_entries : Fun K "are_entries" "are_entries" s_are_entries f_are_entries fd_are_entries
  b_are_entries : Binds K fd_are_entries ["value", "signs", "states"] []
  g_are_entries : mg "are_entries" = some (.ref f_are_entries)
  f_is_step : Addr
  fd_is_step : FuncData
  F_is_step : Fun K "is_step" "is_step" s_is_step f_is_step fd_is_step
  b_is_step : Binds K fd_is_step ["value", "states"] []
  g_is_step : mg "is_step" = some (.ref f_is_step)
  f_are_ends : Addr
  fd_are_ends : FuncData
  F_are_ends : Fun K "are_ends" "are_ends" s_are_ends f_are_ends fd_are_ends
  b_are_ends : Binds K fd_are_ends ["value", "states"] []
  g_are_ends : mg "are_ends" = some (.ref f_are_ends)
  f_law_cell : Addr
  fd_law_cell : FuncData
  F_law_cell : Fun K "_law_cell" "_law_cell" s_law_cell f_law_cell fd_law_cell
  b_law_cell : Binds K fd_law_cell ["script", "k"] []
  g_law_cell : mg "_law_cell" = some (.ref f_law_cell)
  f_law_box : Addr
  fd_law_box : FuncData
  F_law_box : Fun K "_law_box" "_law_box" s_law_box f_law_box fd_law_box
  b_law_box : Binds K fd_law_box ["great"] []
  g_law_box : mg "_law_box" = some (.ref f_law_box)
  f_law_take : Addr
  fd_law_take : FuncData
  F_law_take : Fun K "_law_take" "_law_take" s_law_take f_law_take fd_law_take
  b_law_take : Binds K fd_law_take ["box", "many"] []
  g_law_take : mg "_law_take" = some (.ref f_law_take)
  f_law_word : Addr
  fd_law_word : FuncData
  F_law_word : Fun K "_law_word" "_law_word" s_law_word f_law_word fd_law_word
  b_law_word : Binds K fd_law_word ["box"] []
  g_law_word : mg "_law_word" = some (.ref f_law_word)
  f_law_entry : Addr
  fd_law_entry : FuncData
  F_law_entry : Fun K "_law_entry" "_law_entry" s_law_entry f_law_entry fd_law_entry
  b_law_entry : Binds K fd_law_entry ["box", "states"] []
  g_law_entry : mg "_law_entry" = some (.ref f_law_entry)
  f_law_row : Addr
  fd_law_row : FuncData
  F_law_row : Fun K "_law_row" "_law_row" s_law_row f_law_row fd_law_row
  b_law_row : Binds K fd_law_row ["box", "signs", "states"] []
  g_law_row : mg "_law_row" = some (.ref f_law_row)
  f_law_end : Addr
  fd_law_end : FuncData
  F_law_end : Fun K "_law_end" "_law_end" s_law_end f_law_end fd_law_end
  b_law_end : Binds K fd_law_end ["box"] []
  g_law_end : mg "_law_end" = some (.ref f_law_end)
  f_law_parts : Addr
  fd_law_parts : FuncData
  F_law_parts : Fun K "_law_parts" "_law_parts" s_law_parts f_law_parts fd_law_parts
  b_law_parts : Binds K fd_law_parts ["box"] []
  g_law_parts : mg "_law_parts" = some (.ref f_law_parts)
  f_law_listed : Addr
  fd_law_listed : FuncData
  F_law_listed : Fun K "_law_listed" "_law_listed" s_law_listed f_law_listed fd_law_listed
  b_law_listed : Binds K fd_law_listed ["box", "rows"] []
  g_law_listed : mg "_law_listed" = some (.ref f_law_listed)
  f_law_plain_rows : Addr
  fd_law_plain_rows : FuncData
  F_law_plain_rows : Fun K "_law_plain_rows" "_law_plain_rows" s_law_plain_rows f_law_plain_rows fd_law_plain_rows
  b_law_plain_rows : Binds K fd_law_plain_rows ["rows"] []
  g_law_plain_rows : mg "_law_plain_rows" = some (.ref f_law_plain_rows)
  f_law_stands : Addr
  fd_law_stands : FuncData
  F_law_stands : Fun K "_law_stands" "_law_stands" s_law_stands f_law_stands fd_law_stands
  b_law_stands : Binds K fd_law_stands ["made", "parts"] []
  g_law_stands : mg "_law_stands" = some (.ref f_law_stands)
  f_law_met : Addr
  fd_law_met : FuncData
  F_law_met : Fun K "_law_met" "_law_met" s_law_met f_law_met fd_law_met
  b_law_met : Binds K fd_law_met ["signs", "steps", "ends"] []
  g_law_met : mg "_law_met" = some (.ref f_law_met)
  f_law_other_word : Addr
  fd_law_other_word : FuncData
  F_law_other_word : Fun K "_law_other_word" "_law_other_word" s_law_other_word f_law_other_word fd_law_other_word
  b_law_other_word : Binds K fd_law_other_word ["box", "word"] []
  g_law_other_word : mg "_law_other_word" = some (.ref f_law_other_word)
  f_law_changed : Addr
  fd_law_changed : FuncData
  F_law_changed : Fun K "_law_changed" "_law_changed" s_law_changed f_law_changed fd_law_changed
  b_law_changed : Binds K fd_law_changed ["box", "parts"] []
  g_law_changed : mg "_law_changed" = some (.ref f_law_changed)
  f_law_equal_right : Addr
  fd_law_equal_right : FuncData
  F_law_equal_right : Fun K "_law_equal_right" "_law_equal_right" s_law_equal_right f_law_equal_right fd_law_equal_right
  b_law_equal_right : Binds K fd_law_equal_right ["box", "made", "parts"] []
  g_law_equal_right : mg "_law_equal_right" = some (.ref f_law_equal_right)
  f_law_spoilt_steps : Addr
  fd_law_spoilt_steps : FuncData
  F_law_spoilt_steps : Fun K "_law_spoilt_steps" "_law_spoilt_steps" s_law_spoilt_steps f_law_spoilt_steps fd_law_spoilt_steps
  b_law_spoilt_steps : Binds K fd_law_spoilt_steps ["box", "signs", "steps"] []
  g_law_spoilt_steps : mg "_law_spoilt_steps" = some (.ref f_law_spoilt_steps)
  f_law_spoilt_ends : Addr
  fd_law_spoilt_ends : FuncData
  F_law_spoilt_ends : Fun K "_law_spoilt_ends" "_law_spoilt_ends" s_law_spoilt_ends f_law_spoilt_ends fd_law_spoilt_ends
  b_law_spoilt_ends : Binds K fd_law_spoilt_ends ["box", "ends"] []
  g_law_spoilt_ends : mg "_law_spoilt_ends" = some (.ref f_law_spoilt_ends)
  f_law_copy : Addr
  fd_law_copy : FuncData
  F_law_copy : Fun K "_law_copy" "_law_copy" s_law_copy f_law_copy fd_law_copy
  b_law_copy : Binds K fd_law_copy ["value"] []
  g_law_copy : mg "_law_copy" = some (.ref f_law_copy)
  f_law_tuples : Addr
  fd_law_tuples : FuncData
  F_law_tuples : Fun K "_law_tuples" "_law_tuples" s_law_tuples f_law_tuples fd_law_tuples
  b_law_tuples : Binds K fd_law_tuples ["value"] []
  g_law_tuples : mg "_law_tuples" = some (.ref f_law_tuples)
  f_law_door : Addr
  fd_law_door : FuncData
  F_law_door : Fun K "_law_door" "_law_door" s_law_door f_law_door fd_law_door
  b_law_door : Binds K fd_law_door ["word", "signs", "steps", "ends"] []
  g_law_door : mg "_law_door" = some (.ref f_law_door)
  f_law_refused_right : Addr
  fd_law_refused_right : FuncData
  F_law_refused_right : Fun K "_law_refused_right" "_law_refused_right" s_law_refused_right f_law_refused_right fd_law_refused_right
  b_law_refused_right : Binds K fd_law_refused_right ["box", "parts"] []
  g_law_refused_right : mg "_law_refused_right" = some (.ref f_law_refused_right)
  f_law_many_right : Addr
  fd_law_many_right : FuncData
  F_law_many_right : Fun K "_law_many_right" "_law_many_right" s_law_many_right f_law_many_right fd_law_many_right
  b_law_many_right : Binds K fd_law_many_right ["box"] []
  g_law_many_right : mg "_law_many_right" = some (.ref f_law_many_right)
  f_law_right : Addr
  fd_law_right : FuncData
  F_law_right : Fun K "_law_right" "_law_right" s_law_right f_law_right fd_law_right
  b_law_right : Binds K fd_law_right ["box"] []
  g_law_right : mg "_law_right" = some (.ref f_law_right)
  f_law : Addr
  fd_law : FuncData
  F_law : Fun K "law" "law" s_law f_law fd_law
  b_law : Binds K fd_law ["script"] []
  g_law : mg "law" = some (.ref f_law)
  C_Decoder : Addr
  f_Decoder_init : Addr
  fd_Decoder_init : FuncData
  F_Decoder_init : Fun K "__init__" "Decoder.__init__" s_Decoder_init f_Decoder_init fd_Decoder_init
  b_Decoder_init : Binds K fd_Decoder_init ["self", "signs", "steps", "ends"] []
  f_Decoder_eq : Addr
  fd_Decoder_eq : FuncData
  F_Decoder_eq : Fun K "__eq__" "Decoder.__eq__" s_Decoder_eq f_Decoder_eq fd_Decoder_eq
  b_Decoder_eq : Binds K fd_Decoder_eq ["self", "other"] []
  z_abs : mg "abs" = none
  z_all : mg "all" = none
  z_bool : mg "bool" = none
  z_int : mg "int" = none
  z_isinstance : mg "isinstance" = none
  z_len : mg "len" = none
  z_list : mg "list" = none
  z_max : mg "max" = none
  z_min : mg "min" = none
  z_range : mg "range" = none
  z_repr : mg "repr" = none
  z_str : mg "str" = none
  z_sum : mg "sum" = none
  z_tuple : mg "tuple" = none
  sysd : ∃ o, base.get? sysModules = some o
  g_Decoder : mg "Decoder" = some (.ref C_Decoder)
  cl_Decoder : Cls K C_Decoder
  mk_Decoder : Mk K C_Decoder f_Decoder_init
  oe_Decoder : OEq K C_Decoder f_Decoder_eq
  na_Decoder_signs : NoAttr K C_Decoder "signs"
  na_Decoder_states : NoAttr K C_Decoder "states"
  na_Decoder_steps : NoAttr K C_Decoder "steps"
  na_Decoder_ends : NoAttr K C_Decoder "ends"
  sb_Decoder_NoneType : PySem.W.subIn K (.ref C_Decoder) (.type "NoneType") = some false
  sb_Decoder_int : PySem.W.subIn K (.ref C_Decoder) (.type "int") = some false
  sb_Decoder_str : PySem.W.subIn K (.ref C_Decoder) (.type "str") = some false
  sb_Decoder_tuple : PySem.W.subIn K (.ref C_Decoder) (.type "tuple") = some false
  sb_Decoder_list : PySem.W.subIn K (.ref C_Decoder) (.type "list") = some false
  sb_Decoder_dict : PySem.W.subIn K (.ref C_Decoder) (.type "dict") = some false
  ii_Decoder : PySem.W.isClsIn K C_Decoder = true
  it_Decoder : PySem.W.typeIn K (.ref C_Decoder) = some (.type "type")
  is_Decoder : PySem.W.subIn K (.ref C_Decoder) (.ref C_Decoder) = some true
  t_MOST_SIGNS : Tok
  c_MOST_SIGNS : mg "MOST_SIGNS" = some (.int (5) t_MOST_SIGNS)
  t_MOST_LETTERS : Tok
  c_MOST_LETTERS : mg "MOST_LETTERS" = some (.int (3) t_MOST_LETTERS)
  t_MOST_STATES : Tok
  c_MOST_STATES : mg "MOST_STATES" = some (.int (40) t_MOST_STATES)
  C_InvalidEnds : Addr
  i_InvalidEnds : Addr
  e_InvalidEnds : ErrX.ETxt K mg "InvalidEnds" "InvalidEnds.__init__" C_InvalidEnds i_InvalidEnds
  x_InvalidEnds : PySem.W.exmOne K (.ref C_InvalidEnds) (.ref C_InvalidEnds) = some true
  C_InvalidSigns : Addr
  i_InvalidSigns : Addr
  e_InvalidSigns : ErrX.ETxt K mg "InvalidSigns" "InvalidSigns.__init__" C_InvalidSigns i_InvalidSigns
  x_InvalidSigns : PySem.W.exmOne K (.ref C_InvalidSigns) (.ref C_InvalidSigns) = some true
  C_InvalidSteps : Addr
  i_InvalidSteps : Addr
  e_InvalidSteps : ErrX.ETxt K mg "InvalidSteps" "InvalidSteps.__init__" C_InvalidSteps i_InvalidSteps
  x_InvalidSteps : PySem.W.exmOne K (.ref C_InvalidSteps) (.ref C_InvalidSteps) = some true
  no_InvalidEnds_InvalidSigns : PySem.W.exmOne K (.ref C_InvalidEnds) (.ref C_InvalidSigns) = some false
  no_InvalidEnds_InvalidSteps : PySem.W.exmOne K (.ref C_InvalidEnds) (.ref C_InvalidSteps) = some false
  no_InvalidSigns_InvalidEnds : PySem.W.exmOne K (.ref C_InvalidSigns) (.ref C_InvalidEnds) = some false
  no_InvalidSigns_InvalidSteps : PySem.W.exmOne K (.ref C_InvalidSigns) (.ref C_InvalidSteps) = some false
  no_InvalidSteps_InvalidEnds : PySem.W.exmOne K (.ref C_InvalidSteps) (.ref C_InvalidEnds) = some false
  no_InvalidSteps_InvalidSigns : PySem.W.exmOne K (.ref C_InvalidSteps) (.ref C_InvalidSigns) = some false
end My

set_option Elab.async false
set_option linter.all false
set_option maxRecDepth 100000
set_option maxHeartbeats 8000000
namespace My
open PySem PySem.Spec PyProof.Rows L2
section
variable {P : Program} {w : World} {K : PySem.W.Frag} {mg : Str → Option Value} {base : Heap}
def spD (K : PySem.W.Frag) (f : PyData → Bool) : Sp := fun vs H Q _ => ∃ x d m, vs = [x] ∧ Dg K H m x d ∧ Q (.bl (f d)) H
def spDn (K : PySem.W.Frag) (f : Int → PyData → Bool) : Sp := fun vs H Q _ => ∃ x d m n, vs = [x, .int n] ∧ Dg K H m x d ∧ Q (.bl (f n d)) H
def spDw (K : PySem.W.Frag) (f : PyData → Bool) : Sp := fun vs H Q _ => ∃ x d m, vs = [x] ∧ Dg K H m x d ∧ d.weight ≤ 100000 ∧ Q (.bl (f d)) H
def spDnw (K : PySem.W.Frag) (f : Int → PyData → Bool) : Sp := fun vs H Q _ => ∃ x d m n, vs = [x, .int n] ∧ Dg K H m x d ∧ d.weight ≤ 100000 ∧ Q (.bl (f n d)) H
def spDns (K : PySem.W.Frag) (f : Int → PyData → Bool) : Sp := fun vs H Q _ => ∃ x d m n, vs = [x, .int n] ∧ Dg K H m x d ∧ d.weight ≤ 100000 ∧ ∀ H', Same H H' → Q (.bl (f n d)) H'
theorem all_id {f : PyData → Bool} (l : List PyData) : (l.map f).all id = l.all f := by rw [List.all_map]; rfl
theorem ok_is_integer (T : Txt K mg base) : FnOk P w K mg base CX0 1 T.f_is_integer T.fd_is_integer ["value"] (spD K isI) := by
  refine T.F_is_integer.ok sc_is_integer (fun vs H Q E h => ?_) (fun cdv A outer s H vs Q E hr h => ?_)
  · obtain ⟨x, d, m, rfl, _⟩ := h; rfl
  · obtain ⟨x, d, m, rfl, hd, q⟩ := h
    refine ⟨_, (pss_one (ps_ret (pe_and (pe_callB call_isi (by rfl) T.z_isinstance (by decide +kernel) (pa_cons (pv 0) (pa_cons (pe_bltn (v := .ty "int") (u := .type "int") (by rfl) T.z_int (by decide +kernel) rfl) pa_nil))) (pe_one (pe_not (pe_callB call_isi (by rfl) T.z_isinstance (by decide +kernel) (pa_cons (pv 0) (pa_cons (pe_bltn (v := .ty "bool") (u := .type "bool") (by rfl) T.z_bool (by decide +kernel) rfl) pa_nil)))))))), ?_⟩
    have e : (isNumD d && !isBlD d) = isI d := by cases d <;> rfl
    rw [← e] at q
    refine ⟨_, rfl, _, _, _, _, isNumD d, rfl, .ty _, hd.ty, kit_numD d, _, rfl, ?_⟩
    cases h1 : isNumD d with
    | false => rw [h1] at q; exact iteF q
    | true =>
      rw [h1, Bool.true_and] at q
      exact iteT ⟨_, rfl, _, _, _, _, isBlD d, rfl, .ty _, hd.ty, kit_blD d, _, rfl, q⟩
theorem ok_is_count (T : Txt K mg base) : FnOk P w K mg base CX0 2 T.f_is_count T.fd_is_count ["value"] (spD K isCn) := by
  refine T.F_is_count.ok sc_is_count (fun vs H Q E h => ?_) (fun cdv A outer s H vs Q E hr h => ?_)
  · obtain ⟨x, d, m, rfl, _⟩ := h; rfl
  · obtain ⟨x, d, m, rfl, hd, q⟩ := h
    refine ⟨_, (pss_one (ps_ret (pe_and (pe_call (ok_is_integer T) (hr.mono (by decide)) rfl T.g_is_integer T.F_is_integer.kp T.b_is_integer .nil pass0 (pa_cons (pv 0) pa_nil)) (pe_one (pe_cmpR op_ge (pv 0) pe_int (nomark _)))))), ?_⟩
    refine ⟨_, rfl, x, d, m, rfl, hd, _, rfl, ?_⟩
    cases d with
    | int i =>
      obtain rfl := hd.int_of
      exact iteT ⟨_, rfl, _, _, rfl, rfl, q⟩
    | _ => exact iteF q
theorem ok_is_list (T : Txt K mg base) : FnOk P w K mg base CX0 1 T.f_is_list T.fd_is_list ["value"] (fun vs H Q _ => ∃ x d m, vs = [x] ∧ Dg K H m x d ∧ ∀ H', Same H H' → Q (.bl (isSqD d)) H') := by
  refine T.F_is_list.ok sc_is_list (fun vs H Q E h => ?_) (fun cdv A outer s H vs Q E hr h => ?_)
  · obtain ⟨x, d, m, rfl, _⟩ := h; rfl
  · obtain ⟨x, d, m, rfl, hd, q⟩ := h
    refine ⟨_, (pss_one (ps_ret (pe_callB call_isiT (by rfl) T.z_isinstance (by decide +kernel) (pa_cons (pv 0) (pa_cons (pe_tup (pa_cons (pe_bltn (v := .ty "list") (u := .type "list") (by rfl) T.z_list (by decide +kernel) rfl) (pa_cons (pe_bltn (v := .ty "tuple") (u := .type "tuple") (by rfl) T.z_tuple (by decide +kernel) rfl) pa_nil))) pa_nil))))), ?_⟩
    exact ⟨_, rfl, (by show 2 ≤ sizeLine; decide), fun tp htp => ⟨_, tp, _, _, [.type "list", .type "tuple"], isSqD d, rfl, upd_same, .cons (.ty _) (.cons (.ty _) .nil), (hd.ext (Same.new (Same.refl H) htp)).ty, kit_sqD d, q _ (Same.new (Same.refl H) htp)⟩⟩
theorem ok_is_number_of_signs (T : Txt K mg base) : FnOk P w K mg base CX0 2 T.f_is_number_of_signs T.fd_is_number_of_signs ["value"] (spD K isSg) := by
  refine T.F_is_number_of_signs.ok sc_is_number_of_signs (fun vs H Q E h => ?_) (fun cdv A outer s H vs Q E hr h => ?_)
  · obtain ⟨x, d, m, rfl, _⟩ := h; rfl
  · obtain ⟨x, d, m, rfl, hd, q⟩ := h
    refine ⟨_, (pss_one (ps_ret (pe_and (pe_call (ok_is_integer T) (hr.mono (by decide)) rfl T.g_is_integer T.F_is_integer.kp T.b_is_integer .nil pass0 (pa_cons (pv 0) pa_nil)) (pe_one (pe_chain op_le op_le pe_int (pv 0) (pe_glob (v := .int (5)) rfl T.c_MOST_SIGNS ⟨_, rfl⟩)))))), ?_⟩
    refine ⟨_, rfl, x, d, m, rfl, hd, _, rfl, ?_⟩
    cases d with
    | int i =>
      obtain rfl := hd.int_of
      refine iteT ⟨_, rfl, _, _, rfl, rfl, _, rfl, ?_⟩
      have q' : Q (.bl (decide (1 ≤ i) && decide (i ≤ 5))) H := q
      refine ite2 (fun c => ?_) (fun c => ?_)
      · rw [c, Bool.true_and] at q'
        exact ⟨_, _, rfl, rfl, q'⟩
      · rw [Bool.not_eq_true] at c
        rw [c, Bool.false_and] at q'
        exact q'
    | _ => exact iteF q
theorem ok_is_below (T : Txt K mg base) : FnOk P w K mg base CX0 3 T.f_is_below T.fd_is_below ["value", "limit"] (spDn K isBe) := by
  refine T.F_is_below.ok sc_is_below (fun vs H Q E h => ?_) (fun cdv A outer s H vs Q E hr h => ?_)
  · obtain ⟨x, d, m, n, rfl, _⟩ := h; rfl
  · obtain ⟨x, d, m, n, rfl, hd, q⟩ := h
    refine ⟨_, (pss_one (ps_ret (pe_and (pe_call (ok_is_count T) (hr.mono (by decide)) rfl T.g_is_count T.F_is_count.kp T.b_is_count .nil pass0 (pa_cons (pv 0) pa_nil)) (pe_one (pe_cmpR op_lt (pv 0) (pv 1) (nomark _)))))), ?_⟩
    refine ⟨_, rfl, x, d, m, rfl, hd, _, rfl, ?_⟩
    cases d with
    | int i =>
      obtain rfl := hd.int_of
      have q' : Q (.bl (decide (0 ≤ i) && decide (i < n))) H := q
      show if decide (0 ≤ i) = true then _ else _
      refine ite2 (fun c => ?_) (fun c => ?_)
      · rw [c, Bool.true_and] at q'
        exact ⟨_, rfl, _, rfl, _, _, rfl, rfl, q'⟩
      · rw [Bool.not_eq_true] at c
        rw [c, Bool.false_and] at q'
        exact q'
    | _ => exact iteF q
theorem ok_is_text (T : Txt K mg base) : FnOk P w K mg base CX0 1 T.f_is_text T.fd_is_text ["value"] (spD K isTx) := by
  refine T.F_is_text.ok sc_is_text (fun vs H Q E h => ?_) (fun cdv A outer s H vs Q E hr h => ?_)
  · obtain ⟨x, d, m, rfl, _⟩ := h; rfl
  · obtain ⟨x, d, m, rfl, hd, q⟩ := h
    refine ⟨_, (pss_cons (ps_if (pt_not (pt_val (pe_callB call_isi (by rfl) T.z_isinstance (by decide +kernel) (pa_cons (pv 0) (pa_cons (pe_bltn (v := .ty "str") (u := .type "str") (by rfl) T.z_str (by decide +kernel) rfl) pa_nil))))) (pss_one (ps_ret pe_bl)) pss_nil)
      (pss_one (ps_ret (pe_or (pe_cmpR op_eq (pv 0) pe_str (nomark _)) (pe_one (pe_and (pe_bm0 PySem.F.plainAttrs_str PySem.F.slot_str_isascii PySem.F.type_str_isascii mt_isascii (pv 0)) (pe_and (pe_bm0 PySem.F.plainAttrs_str PySem.F.slot_str_isalpha PySem.F.type_str_isalpha mt_isalpha (pv 0)) (pe_one (pe_bm0 PySem.F.plainAttrs_str PySem.F.slot_str_islower PySem.F.type_str_islower mt_islower (pv 0)))))))))), ?_⟩
    refine ⟨_, rfl, _, _, _, _, isStrD d, rfl, .ty _, hd.ty, kit_strD d, _, rfl, ?_⟩
    cases d with
    | str z =>
      obtain rfl := hd.str_of
      have q : Q (.bl (isT z)) H := q
      refine iteF ⟨_, rfl, rfl, _, rfl, ?_⟩
      have e := istext_eq z
      cases h0 : decide (V.str z = V.str (Str.ofString "")) with
      | true =>
        rw [h0, Bool.true_or] at e
        refine iteT ?_
        unfold isT at q
        rw [← e] at q
        exact q
      | false =>
        rw [h0, Bool.false_or] at e
        have e2 : (Txt.isascii z && (Txt.isalpha z && Txt.islower z)) = isT z := by rw [← Bool.and_assoc]; exact e
        refine iteF ⟨_, rfl, rfl, z, rfl, rfl, trivial, _, rfl, ?_⟩
        cases h1 : Txt.isascii z with
        | false => rw [h1] at e2; rw [← e2] at q; exact iteF q
        | true =>
          rw [h1, Bool.true_and] at e2
          refine iteT ⟨_, rfl, rfl, z, rfl, rfl, trivial, _, rfl, ?_⟩
          cases h2 : Txt.isalpha z with
          | false => rw [h2] at e2; rw [← e2] at q; exact iteF q
          | true =>
            rw [h2, Bool.true_and] at e2
            rw [← e2] at q
            exact iteT ⟨_, rfl, rfl, z, rfl, rfl, trivial, q⟩
    | _ => exact iteT q
theorem ok_is_word (T : Txt K mg base) : FnOk P w K mg base CX0 2 T.f_is_word T.fd_is_word ["value"] (spDw K isWd) := by
  refine T.F_is_word.ok sc_is_word (fun vs H Q E h => ?_) (fun cdv A outer s H vs Q E hr h => ?_)
  · obtain ⟨x, d, m, rfl, _⟩ := h; rfl
  · obtain ⟨x, d, m, rfl, hd, hw, q⟩ := h
    refine ⟨_, (pss_one (ps_ret (pe_and (pe_call (ok_is_text T) (hr.mono (by decide)) rfl T.g_is_text T.F_is_text.kp T.b_is_text .nil pass0 (pa_cons (pv 0) pa_nil)) (pe_one (pe_cmpR op_le (pe_callB call_len_str (by rfl) T.z_len (by decide +kernel) (pa_cons (pv 0) pa_nil)) (pe_glob (v := .int (3)) rfl T.c_MOST_LETTERS ⟨_, rfl⟩) (nomark _)))))), ?_⟩
    refine ⟨_, rfl, x, d, m, rfl, hd, _, rfl, ?_⟩
    cases d with
    | str z =>
      obtain rfl := hd.str_of
      have q' : Q (.bl (isT z && decide ((z.length : Int) ≤ 3))) H := q
      have hz : z.length ≤ sizeLine := by
        rw [PyData.weight] at hw
        exact Nat.le_trans hw (by decide)
      show if isT z = true then _ else _
      refine ite2 (fun c => ?_) (fun c => ?_)
      · rw [c, Bool.true_and] at q'
        exact ⟨_, rfl, z, rfl, hz, _, _, rfl, rfl, q'⟩
      · rw [Bool.not_eq_true] at c
        rw [c, Bool.false_and] at q'
        exact q'
    | _ => exact iteF q
theorem ok_is_step (T : Txt K mg base) : FnOk P w K mg base CX0 4 T.f_is_step T.fd_is_step ["value", "states"] (spDnw K isStp) := by
  refine T.F_is_step.ok sc_is_step (fun vs H Q E h => ?_) (fun cdv A outer s H vs Q E hr h => ?_)
  · obtain ⟨x, d, m, n, rfl, _⟩ := h; rfl
  · obtain ⟨x, d, m, n, rfl, hd, hw, q⟩ := h
    refine ⟨_, (pss_cons (ps_if (PW.pt (pw_or (pt_not (pt_val (pe_callB call_isi (by rfl) T.z_isinstance (by decide +kernel) (pa_cons (pv 0) (pa_cons (pe_bltn (v := .ty "tuple") (u := .type "tuple") (by rfl) T.z_tuple (by decide +kernel) rfl) pa_nil))))) (pw_or1 (pt_cmpR op_ne (pe_callB call_len_seq (by rfl) T.z_len (by decide +kernel) (pa_cons (pv 0) pa_nil)) pe_int (nomark _))))) (pss_one (ps_ret pe_bl)) pss_nil)
      (pss_one (ps_ret (pe_and (pe_call (ok_is_below T) (hr.mono (by decide)) rfl T.g_is_below T.F_is_below.kp T.b_is_below .nil pass0 (pa_cons (pe_ix ix_tup (pv 0) pe_int (fun _ _ => rfl)) (pa_cons (pv 1) pa_nil))) (pe_one (pe_call (ok_is_word T) (hr.mono (by decide)) rfl T.g_is_word T.F_is_word.kp T.b_is_word .nil pass0 (pa_cons (pe_ix ix_tup (pv 0) pe_int (fun _ _ => rfl)) pa_nil))))))), ?_⟩
    refine ⟨_, rfl, _, _, _, _, isTupD d, rfl, .ty _, hd.ty, kit_tupD d, _, rfl, ?_⟩
    cases d with
    | tuple ds =>
      obtain ⟨a, xs, rfl, hs, ha⟩ := hd.tup_of
      have wt := (weight_its (d := .tuple ds)).2
      refine iteF ⟨_, rfl, a, xs, rfl, .inr hs, rfl, _, rfl, ?_⟩
      have hl := ha.len
      match ds, ha, q, hl, wt, hw with
      | [a1, b1], ha, q, hl, wt, hw =>
        rw [decide_eq_true (show V.int (xs.length : Int) = V.int 2 by rw [hl]; rfl)]
        obtain ⟨x0, ys, rfl, h0, ht⟩ := ha.cons_of
        obtain ⟨x1, zs, rfl, h1, ht'⟩ := ht.cons_of
        refine iteF ⟨_, rfl, a, _, _, _, rfl, rfl, hs, atI_nat (j := 0) rfl, _, rfl, x0, a1, m, n, rfl, h0, _, rfl, ?_⟩
        have q' : Q (.bl (isBe n a1 && isWd b1)) H := q
        show if isBe n a1 = true then _ else _
        refine ite2 (fun c => ?_) (fun c => ?_)
        · rw [c, Bool.true_and] at q'
          exact ⟨_, rfl, a, _, _, _, rfl, rfl, hs, atI_nat (j := 1) rfl, x1, b1, m, rfl, h1, Nat.le_trans (wt b1 (by show b1 ∈ [a1, b1]; simp)) hw, q'⟩
        · rw [Bool.not_eq_true] at c
          rw [c, Bool.false_and] at q'
          exact q'
      | [], ha, q, hl, _, _ =>
        rw [decide_eq_false (show ¬ V.int (xs.length : Int) = V.int 2 by rw [hl]; simp)]
        exact iteT q
      | [a1], ha, q, hl, _, _ =>
        rw [decide_eq_false (show ¬ V.int (xs.length : Int) = V.int 2 by rw [hl]; simp)]
        exact iteT q
      | a1 :: b1 :: c1 :: r, ha, q, hl, _, _ =>
        rw [decide_eq_false (show ¬ V.int (xs.length : Int) = V.int 2 from fun z => by have := V.int.inj z; rw [hl, List.length_cons, List.length_cons, List.length_cons] at this; omega)]
        exact iteT q
    | _ => exact iteT (iteT q)
theorem dg_non {K : PySem.W.Frag} {H : Hp} {m : Bool} {x : V} {d : PyData} (h : Dg K H m x d) : decide (x = .non) = isNn d := by
  cases h <;> simp [isNn]
theorem ok_are_entries (T : Txt K mg base) : FnOk P w K mg base CX0 5 T.f_are_entries T.fd_are_entries ["value", "signs", "states"] (fun vs H Q _ => ∃ x d m k n, vs = [x, .int k, .int n] ∧ Dg K H m x d ∧ d.weight ≤ 100000 ∧ ∀ H', Same H H' → Q (.bl (entB k n d)) H') := by
  refine T.F_are_entries.ok sc_are_entries (fun vs H Q E h => ?_) (fun cdv A outer s H vs Q E hr h => ?_)
  · obtain ⟨x, d, m, k, n, rfl, _⟩ := h; rfl
  · obtain ⟨x, d, m, k, n, rfl, hd, hw, q⟩ := h
    refine ⟨_, (pss_cons (ps_if (PW.pt (pw_or (pt_not (pt_val (pe_call (ok_is_list T) (hr.mono (by decide)) rfl T.g_is_list T.F_is_list.kp T.b_is_list .nil pass0 (pa_cons (pv 0) pa_nil)))) (pw_or1 (pt_cmpR op_ne (pe_callB call_len_seq (by rfl) T.z_len (by decide +kernel) (pa_cons (pv 0) pa_nil)) (pv 1) (nomark _))))) (pss_one (ps_ret pe_bl)) pss_nil)
      (pss_one (ps_ret (pe_callB (cr_all rfl) (by rfl) T.z_all (by decide +kernel) (pa_cons (pe_lc (own := [("entry", 3)]) (g := gName 3) (by rfl) sc_are_entries.nd (pi_sq (pv 0)) (blkOk_by (own := [("entry", 3)]) (N := N_are_entries) (sc := defScope s_are_entries) (by decide +kernel)) (fun _ _ _ _ _ => pg_name (i := 3) sc_are_entries.nd rfl (Or.inl rfl)) (fun _ _ _ _ _ => pts_nil) (fun _ _ _ _ _ => (pe_or (pe_cmp (pc_isN (pv 3)) rfl) (pe_one (pe_call (ok_is_step T) (hr.mono (by decide)) rfl T.g_is_step T.F_is_step.kp T.b_is_step .nil pass0 (pa_cons (pv 3) (pa_cons (pv 2) pa_nil))))))) pa_nil))))), ?_⟩
    refine ⟨_, rfl, x, d, m, rfl, hd, fun H1 s1 => ⟨_, rfl, ?_⟩⟩
    have q' : ∀ H', Same H H' → Q (.bl (isSqD d && (decide (((itsD d).length : Int) = k) && (itsD d).all (isEn n)))) H' := q
    obtain ⟨hlen, hwt⟩ := weight_its (d := d)
    cases hf : isSqD d with
    | false => rw [hf] at q'; exact iteT (iteT (q' _ s1))
    | true =>
      rw [hf, Bool.true_and] at q'
      obtain ⟨a, ys, rfl, hq, hes⟩ := (hd.ext s1).lst_q (sq_its hf)
      generalize itsD d = es at *
      have le := hes.len
      refine iteF ⟨_, rfl, a, ys, rfl, hq, _, rfl, rfl, _, rfl, ?_⟩
      by_cases c : (es.length : Int) = k
      · rw [decide_eq_true (show V.int (ys.length : Int) = V.int k by rw [le, c])]
        rw [decide_eq_true c, Bool.true_and] at q'
        refine iteF ⟨_, rfl, a, rfl, lc_sq hq fun D hD => ⟨fun i H' => Same H1 H' ∧ H' D = some (.lst (((es.take i).map (isEn n)).map V.bl)), ⟨Same.new (Same.refl _) hD, upd_same⟩, fun i H' h => h.1, ?_, ?_⟩⟩
        · rintro i x H' hx ⟨s', e'⟩
          obtain ⟨d', hd', dx⟩ := hes.at i x hx
          have hm : d' ∈ es := List.mem_of_getElem? hd'
          refine ⟨rfl, tYesT ?_⟩
          have fin : ∀ H2, Same H' H2 → ∃ acc, H2 D = some (.lst acc) ∧ acc.length < sizeLine ∧ Same H1 (upd H2 D (.lst (acc ++ [.bl (isEn n d')]))) ∧ (upd H2 D (.lst (acc ++ [.bl (isEn n d')]))) D = some (.lst (((es.take (i + 1)).map (isEn n)).map V.bl)) := fun H2 s2 => by
            refine ⟨_, s2 _ _ e', ?_, fun b o e => ?_, ?_⟩
            · rw [List.length_map, List.length_map]
              exact Nat.lt_of_le_of_lt (List.length_take_le' _ _) (Nat.lt_of_le_of_lt (by omega : es.length ≤ 100000) (by decide))
            · rw [upd_ne (ne_of_none e hD)]; exact s2 _ _ (s' b o e)
            · rw [upd_same, List.take_add_one, hd', List.map_append, List.map_append]; rfl
          have dn := dg_non dx
          refine ⟨_, rfl, _, rfl, ?_⟩
          rw [dn]
          unfold isEn at fin
          cases hn : isNn d' with
          | true => rw [hn] at fin; exact iteT (fin H' (Same.refl _))
          | false =>
            rw [hn] at fin
            exact iteF ⟨_, rfl, _, rfl, x, d', m, n, rfl, dx.ext s', Nat.le_trans (hwt d' hm) hw, fin H' (Same.refl _)⟩
        · rintro H2 ⟨s', e'⟩
          rw [le, List.take_length] at e'
          refine ⟨D, _, rfl, SqL.of e', ?_⟩
          rw [all_id]
          exact q' _ (s1.trans s')
      · rw [decide_eq_false (show ¬ V.int (ys.length : Int) = V.int k from fun z => c (by rw [← le]; exact V.int.inj z))]
        rw [decide_eq_false c, Bool.false_and] at q'
        exact iteT (q' _ s1)
theorem ok_are_steps (T : Txt K mg base) : FnOk P w K mg base CX0 6 T.f_are_steps T.fd_are_steps ["value", "signs"] (spDns K stepsB) := by
  refine T.F_are_steps.ok sc_are_steps (fun vs H Q E h => ?_) (fun cdv A outer s H vs Q E hr h => ?_)
  · obtain ⟨x, d, m, n, rfl, _⟩ := h; rfl
  · obtain ⟨x, d, m, n, rfl, hd, hw, q⟩ := h
    refine ⟨_, (pss_cons (ps_if (PW.pt (pw_or (pt_not (pt_val (pe_call (ok_is_list T) (hr.mono (by decide)) rfl T.g_is_list T.F_is_list.kp T.b_is_list .nil pass0 (pa_cons (pv 0) pa_nil)))) (pw_or1 (pt_not (pt_chain op_le op_le pe_int (pe_callB call_len_seq (by rfl) T.z_len (by decide +kernel) (pa_cons (pv 0) pa_nil)) (pe_glob (v := .int (40)) rfl T.c_MOST_STATES ⟨_, rfl⟩)))))) (pss_one (ps_ret pe_bl)) pss_nil)
      (pss_one (ps_ret (pe_callB (cr_all rfl) (by rfl) T.z_all (by decide +kernel) (pa_cons (pe_lc (own := [("row", 2)]) (g := gName 2) (by rfl) sc_are_steps.nd (pi_sq (pv 0)) (blkOk_by (own := [("row", 2)]) (N := N_are_steps) (sc := defScope s_are_steps) (by decide +kernel)) (fun _ _ _ _ _ => pg_name (i := 2) sc_are_steps.nd rfl (Or.inl rfl)) (fun _ _ _ _ _ => pts_nil) (fun _ _ _ _ _ => (pe_call (ok_are_entries T) (hr.mono (by decide)) rfl T.g_are_entries T.F_are_entries.kp T.b_are_entries .nil pass0 (pa_cons (pv 2) (pa_cons (pv 1) (pa_cons (pe_callB (call_len_seqK (K := K) rfl) (by rfl) T.z_len (by decide +kernel) (pa_cons (pv 0) pa_nil)) pa_nil)))))) pa_nil))))), ?_⟩
    refine ⟨_, rfl, x, d, m, rfl, hd, fun H1 s1 => ⟨_, rfl, ?_⟩⟩
    have q' : ∀ H', Same H H' → Q (.bl (isSqD d && ((decide (1 ≤ ((itsD d).length : Int)) && decide (((itsD d).length : Int) ≤ 40)) && (itsD d).all (entB n ((itsD d).length : Int))))) H' := q
    obtain ⟨hlen, hwt⟩ := weight_its (d := d)
    cases hf : isSqD d with
    | false => rw [hf] at q'; exact iteT (iteT (q' _ s1))
    | true =>
      rw [hf, Bool.true_and] at q'
      obtain ⟨a, ys, rfl, hq, hes⟩ := (hd.ext s1).lst_q (sq_its hf)
      generalize itsD d = es at *
      have le := hes.len
      refine iteF ⟨_, rfl, a, ys, rfl, hq, _, _, rfl, rfl, _, rfl, ?_⟩
      refine ite2 (fun c1 => ?_) (fun c1 => ?_)
      · have c1' : (1 : Int) ≤ (ys.length : Int) := of_decide_eq_true c1
        refine ⟨_, _, rfl, rfl, _, rfl, ?_⟩
        show if (!decide ((ys.length : Int) ≤ 40)) = true then _ else _
        rw [decide_eq_true (show (1 : Int) ≤ (es.length : Int) by omega), Bool.true_and] at q'
        cases c2 : decide ((ys.length : Int) ≤ 40) with
        | false =>
          rw [← le, c2, Bool.false_and] at q'
          exact iteT (q' _ s1)
        | true =>
          rw [← le, c2, Bool.true_and, le] at q'
          refine iteF ⟨_, rfl, a, rfl, lc_sq hq fun D hD => ⟨fun i H' => Same H1 H' ∧ H' D = some (.lst (((es.take i).map (entB n (es.length : Int))).map V.bl)), ⟨Same.new (Same.refl _) hD, upd_same⟩, fun i H' h => h.1, ?_, ?_⟩⟩
          · rintro i x H' hx ⟨s', e'⟩
            obtain ⟨d', hd', dx⟩ := hes.at i x hx
            have hm : d' ∈ es := List.mem_of_getElem? hd'
            refine ⟨rfl, tYesT ⟨_, rfl, _, rfl, _, rfl, a, ys, rfl, hq.same s', x, d', m, n, (ys.length : Int), rfl, dx.ext s', Nat.le_trans (hwt d' hm) hw, fun H2 s2 => ⟨_, s2 _ _ e', ?_, fun b o e => ?_, ?_⟩⟩⟩
            · rw [List.length_map, List.length_map]
              exact Nat.lt_of_le_of_lt (List.length_take_le' _ _) (Nat.lt_of_le_of_lt (by omega : es.length ≤ 100000) (by decide))
            · rw [upd_ne (ne_of_none e hD)]; exact s2 _ _ (s' b o e)
            · rw [upd_same, List.take_add_one, hd', List.map_append, List.map_append, le]; rfl
          · rintro H2 ⟨s', e'⟩
            rw [le, List.take_length] at e'
            refine ⟨D, _, rfl, SqL.of e', ?_⟩
            rw [all_id]
            exact q' _ (s1.trans s')
      · have c1' : ¬ (1 : Int) ≤ (ys.length : Int) := fun z => c1 (decide_eq_true z)
        rw [decide_eq_false (show ¬ (1 : Int) ≤ (es.length : Int) by omega), Bool.false_and, Bool.false_and] at q'
        exact ⟨_, rfl, iteT (q' _ s1)⟩
theorem ok_are_ends (T : Txt K mg base) : FnOk P w K mg base CX0 3 T.f_are_ends T.fd_are_ends ["value", "states"] (spDns K endsB) := by
  refine T.F_are_ends.ok sc_are_ends (fun vs H Q E h => ?_) (fun cdv A outer s H vs Q E hr h => ?_)
  · obtain ⟨x, d, m, n, rfl, _⟩ := h; rfl
  · obtain ⟨x, d, m, n, rfl, hd, hw, q⟩ := h
    refine ⟨_, (pss_cons (ps_if (PW.pt (pw_or (pt_not (pt_val (pe_call (ok_is_list T) (hr.mono (by decide)) rfl T.g_is_list T.F_is_list.kp T.b_is_list .nil pass0 (pa_cons (pv 0) pa_nil)))) (pw_or1 (pt_cmpR op_ne (pe_callB call_len_seq (by rfl) T.z_len (by decide +kernel) (pa_cons (pv 0) pa_nil)) (pv 1) (nomark _))))) (pss_one (ps_ret pe_bl)) pss_nil)
      (pss_one (ps_ret (pe_callB (cr_all rfl) (by rfl) T.z_all (by decide +kernel) (pa_cons (pe_lc (own := [("end", 2)]) (g := gName 2) (by rfl) sc_are_ends.nd (pi_sq (pv 0)) (blkOk_by (own := [("end", 2)]) (N := N_are_ends) (sc := defScope s_are_ends) (by decide +kernel)) (fun _ _ _ _ _ => pg_name (i := 2) sc_are_ends.nd rfl (Or.inl rfl)) (fun _ _ _ _ _ => pts_nil) (fun _ _ _ _ _ => (pe_or (pe_cmp (pc_isN (pv 2)) rfl) (pe_one (pe_call (ok_is_word T) (hr.mono (by decide)) rfl T.g_is_word T.F_is_word.kp T.b_is_word .nil pass0 (pa_cons (pv 2) pa_nil)))))) pa_nil))))), ?_⟩
    refine ⟨_, rfl, x, d, m, rfl, hd, fun H1 s1 => ⟨_, rfl, ?_⟩⟩
    have q' : ∀ H', Same H H' → Q (.bl (isSqD d && (decide (((itsD d).length : Int) = n) && (itsD d).all endB))) H' := q
    obtain ⟨hlen, hwt⟩ := weight_its (d := d)
    cases hf : isSqD d with
    | false => rw [hf] at q'; exact iteT (iteT (q' _ s1))
    | true =>
      rw [hf, Bool.true_and] at q'
      obtain ⟨a, ys, rfl, hq, hes⟩ := (hd.ext s1).lst_q (sq_its hf)
      generalize itsD d = es at *
      have le := hes.len
      refine iteF ⟨_, rfl, a, ys, rfl, hq, _, rfl, rfl, _, rfl, ?_⟩
      by_cases c : (es.length : Int) = n
      · rw [decide_eq_true (show V.int (ys.length : Int) = V.int n by rw [le, c])]
        rw [decide_eq_true c, Bool.true_and] at q'
        refine iteF ⟨_, rfl, a, rfl, lc_sq hq fun D hD => ⟨fun i H' => Same H1 H' ∧ H' D = some (.lst (((es.take i).map endB).map V.bl)), ⟨Same.new (Same.refl _) hD, upd_same⟩, fun i H' h => h.1, ?_, ?_⟩⟩
        · rintro i x H' hx ⟨s', e'⟩
          obtain ⟨d', hd', dx⟩ := hes.at i x hx
          have hm : d' ∈ es := List.mem_of_getElem? hd'
          refine ⟨rfl, tYesT ?_⟩
          have fin : ∀ H2, Same H' H2 → ∃ acc, H2 D = some (.lst acc) ∧ acc.length < sizeLine ∧ Same H1 (upd H2 D (.lst (acc ++ [.bl (endB d')]))) ∧ (upd H2 D (.lst (acc ++ [.bl (endB d')]))) D = some (.lst (((es.take (i + 1)).map endB).map V.bl)) := fun H2 s2 => by
            refine ⟨_, s2 _ _ e', ?_, fun b o e => ?_, ?_⟩
            · rw [List.length_map, List.length_map]
              exact Nat.lt_of_le_of_lt (List.length_take_le' _ _) (Nat.lt_of_le_of_lt (by omega : es.length ≤ 100000) (by decide))
            · rw [upd_ne (ne_of_none e hD)]; exact s2 _ _ (s' b o e)
            · rw [upd_same, List.take_add_one, hd', List.map_append, List.map_append]; rfl
          have dn := dg_non dx
          refine ⟨_, rfl, _, rfl, ?_⟩
          rw [dn]
          unfold endB at fin
          cases hn : isNn d' with
          | true => rw [hn] at fin; exact iteT (fin H' (Same.refl _))
          | false =>
            rw [hn] at fin
            exact iteF ⟨_, rfl, x, d', m, rfl, dx.ext s', Nat.le_trans (hwt d' hm) hw, fin H' (Same.refl _)⟩
        · rintro H2 ⟨s', e'⟩
          rw [le, List.take_length] at e'
          refine ⟨D, _, rfl, SqL.of e', ?_⟩
          rw [all_id]
          exact q' _ (s1.trans s')
      · rw [decide_eq_false (show ¬ V.int (ys.length : Int) = V.int n from fun z => c (by rw [← le]; exact V.int.inj z))]
        rw [decide_eq_false c, Bool.false_and] at q'
        exact iteT (q' _ s1)
end
end My

set_option Elab.async false
set_option linter.all false
set_option maxRecDepth 100000
set_option maxHeartbeats 8000000
namespace My
open PySem PySem.Spec PyProof.Rows L2
section
variable {P : Program} {w : World} {K : PySem.W.Frag} {mg : Str → Option Value} {base : Heap}
def spInit (T : Txt K mg base) : Sp := fun vs H Q E => ∃ p dx x1 x2 x3 d1 d2 d3 m1 m2 m3, vs = [.ref p, x1, x2, x3] ∧ H p = some (.ins T.C_Decoder dx []) ∧ Dw K p H m1 x1 d1 ∧ Dw K p H m2 x2 d2 ∧ Dw K p H m3 x3 d3 ∧ d2.weight ≤ 100000 ∧ d3.weight ≤ 100000 ∧
  ((isSg d1 = false ∧ Bad T.C_InvalidSigns H x1 E) ∨ (isSg d1 = true ∧ stepsB (numD d1) d2 = false ∧ Bad T.C_InvalidSteps H x2 E) ∨ (isSg d1 = true ∧ stepsB (numD d1) d2 = true ∧ endsB ((itsD d2).length : Int) d3 = false ∧ Bad T.C_InvalidEnds H x3 E) ∨
   ∃ D, GoodD D d1 d2 d3 ∧ ∀ H', Kp p H H' → DecAt K T.C_Decoder H' p D → Q .non H')
theorem ok_Decoder_init (T : Txt K mg base) : FnOk P w K mg base (L2.CX P w) 7 T.f_Decoder_init T.fd_Decoder_init ["self", "signs", "steps", "ends"] (spInit T) := by
  refine T.F_Decoder_init.okX sc_Decoder_init (fun vs H Q E h => ?_) (fun cdv A outer s H vs Q E hr h => ?_)
  · obtain ⟨p, dx, x1, x2, x3, d1, d2, d3, m1, m2, m3, rfl, _⟩ := h; rfl
  · obtain ⟨p, dx, x1, x2, x3, d1, d2, d3, m1, m2, m3, rfl, hp, h1, h2, h3, w2, w3, hh⟩ := h
    refine ⟨_, (pss_cons (ps_if (pt_not (pt_val (pe_call (ok_is_number_of_signs T) (hr.mono (by decide)) rfl T.g_is_number_of_signs T.F_is_number_of_signs.kp T.b_is_number_of_signs .nil pass0 (pa_cons (pv 1) pa_nil)))) (pss_one (ps_raiseE rfl T.e_InvalidSigns hr (takes_of rfl rfl rfl rfl) (pa_cons (pv 1) pa_nil))) pss_nil)
      (pss_cons (ps_if (pt_not (pt_val (pe_call (ok_are_steps T) (hr.mono (by decide)) rfl T.g_are_steps T.F_are_steps.kp T.b_are_steps .nil pass0 (pa_cons (pv 2) (pa_cons (pv 1) pa_nil))))) (pss_one (ps_raiseE rfl T.e_InvalidSteps hr (takes_of rfl rfl rfl rfl) (pa_cons (pv 2) pa_nil))) pss_nil)
      (pss_cons (ps_if (pt_not (pt_val (pe_call (ok_are_ends T) (hr.mono (by decide)) rfl T.g_are_ends T.F_are_ends.kp T.b_are_ends .nil pass0 (pa_cons (pv 3) (pa_cons (pe_callB call_len_seq (by rfl) T.z_len (by decide +kernel) (pa_cons (pv 2) pa_nil)) pa_nil))))) (pss_one (ps_raiseE rfl T.e_InvalidEnds hr (takes_of rfl rfl rfl rfl) (pa_cons (pv 3) pa_nil))) pss_nil)
      (pss_cons (ps_fld (pv 0) (pv 1) rfl)
      (pss_cons (ps_fld (pv 0) (pe_callB call_len_seq (by rfl) T.z_len (by decide +kernel) (pa_cons (pv 2) pa_nil)) rfl)
      (pss_cons (ps_fld (pv 0) (pe_callTy call_tuple_of (by rfl) T.z_tuple (by decide +kernel) (pa_cons (pe_lc (own := [("row", 4)]) (g := gName 4) (by rfl) sc_Decoder_init.nd (pi_sq (pv 2)) (blkOk_by (own := [("row", 4)]) (N := N_Decoder_init) (sc := defScope s_Decoder_init) (by decide +kernel)) (fun _ _ _ _ _ => pg_name (i := 4) sc_Decoder_init.nd rfl (Or.inl rfl)) (fun _ _ _ _ _ => pts_nil) (fun _ _ _ _ _ => (pe_callTy (call_tuple_ofK (K := K) rfl) (by rfl) T.z_tuple (by decide +kernel) (pa_cons (pv 4) pa_nil)))) pa_nil)) rfl)
      (pss_one (ps_fld (pv 0) (pe_callTy call_tuple_of (by rfl) T.z_tuple (by decide +kernel) (pa_cons (pv 3) pa_nil)) rfl)))))))), ?_⟩
    have g1 : isSg d1 = false → Bad T.C_InvalidSigns H x1 E := fun z => by
      rcases hh with h | h | h | h
      · exact h.2
      · rw [z] at h; cases h.1
      · rw [z] at h; cases h.1
      · obtain ⟨D, g, _⟩ := h; rw [g.sg] at z; cases z
    have g2 : isSg d1 = true → stepsB (numD d1) d2 = false → Bad T.C_InvalidSteps H x2 E := fun z0 z => by
      rcases hh with h | h | h | h
      · rw [h.1] at z0; cases z0
      · exact h.2.2
      · rw [z] at h; cases h.2.1
      · obtain ⟨D, g, _⟩ := h
        have := g.steps
        rw [g.e1] at z
        rw [show numD (.int (D.sg : Nat)) = ((D.sg : Nat) : Int) from rfl, this] at z; cases z
    have g3 : isSg d1 = true → stepsB (numD d1) d2 = true → endsB ((itsD d2).length : Int) d3 = false → Bad T.C_InvalidEnds H x3 E := fun z0 z1 z => by
      rcases hh with h | h | h | h
      · rw [h.1] at z0; cases z0
      · rw [h.2.1] at z1; cases z1
      · exact h.2.2.2
      · obtain ⟨D, g, _⟩ := h
        rw [g.ends] at z; cases z
    have raise_ : ∀ {C : Addr} {x : V} {H' : Hp}, Bad C H x E → Same H H' → ∀ d, H' d = none → E (.ref C) (some d) (upd H' d (.xd (gvn x))) := fun kb s d hd =>
      kb d _ (Same.new s hd) (s.free hd) upd_same
    refine ⟨_, rfl, x1, d1, m1, rfl, h1.dg, _, rfl, ?_⟩
    cases c1 : isSg d1 with
    | false =>
      exact iteT ⟨_, rfl, x1, rfl, fun d hd => raise_ (g1 c1) (Same.refl _) d hd⟩
    | true =>
    obtain ⟨i, rfl⟩ : ∃ i, d1 = .int i := by cases d1 <;> first | exact ⟨_, rfl⟩ | cases c1
    obtain rfl := h1.int_of
    refine iteF ⟨_, rfl, _, rfl, x2, d2, m2, i, rfl, h2.dg, w2, fun H1 s1 => ⟨_, rfl, ?_⟩⟩
    cases c2 : stepsB i d2 with
    | false =>
      exact iteT ⟨_, rfl, x2, rfl, fun d hd => raise_ (g2 c1 c2) s1 d hd⟩
    | true =>
    have c2' := c2
    unfold stepsB at c2'
    rw [Bool.and_eq_true] at c2'
    have hsq := c2'.1
    have k1 : Kp p H H1 := Kp.of s1
    obtain ⟨a, ys, rfl, hq, hes⟩ := (h2.kp k1).lst_q (sq_its hsq)
    have le := hes.len
    have hq1 : SqQ K H1 a ys := hq.same (wo_same H1 p)
    refine iteF ⟨_, rfl, _, rfl, a, ys, rfl, hq1, x3, d3, m3, (ys.length : Int), rfl, (h3.kp k1).dg, w3, fun H2 s2 => ⟨_, rfl, ?_⟩⟩
    have s12 := s1.trans s2
    rw [le]
    cases c3 : endsB ((itsD d2).length : Int) d3 with
    | false =>
      exact iteT ⟨_, rfl, x3, rfl, fun d hd => raise_ (g3 c1 c2 c3) s12 d hd⟩
    | true =>
    obtain ⟨D, good, kQ⟩ : ∃ D, GoodD D (.int i) d2 d3 ∧ ∀ H', Kp p H H' → DecAt K T.C_Decoder H' p D → Q .non H' := by
      rcases hh with h | h | h | h
      · rw [h.1] at c1; cases c1
      · have := h.2.1; rw [show numD (.int i) = i from rfl, c2] at this; cases this
      · have := h.2.2.1; rw [c3] at this; cases this
      · exact h
    have ei : i = (D.sg : Nat) := by have := good.e1; injection this
    have l2 := good.len2
    have n40 := good.ok.n40
    have hp2 : H2 p = some (.ins T.C_Decoder dx []) := s12 _ _ hp
    have k2 : Kp p H H2 := Kp.of s12
    have lt0 : ∀ n : Nat, n ≤ 10 → n < 1000 := fun n h => by omega
    refine iteF ⟨_, rfl, _, rfl, p, T.C_Decoder, dx, _, rfl, hp2, T.cl_Decoder, T.na_Decoder_signs, (by show 0 < 1000; omega), ?_⟩
    have hq3 : SqQ K (upd H2 p (.ins T.C_Decoder dx (putF "signs" (.int i) []))) a ys := (hq.same ((Kp.of s2).wo.trans (by rw [← wo_upd (H := H2) (p := p) (o := .ins T.C_Decoder dx (putF "signs" (.int i) []))]; exact Same.refl _))).same (wo_same _ p)
    refine ⟨_, rfl, a, ys, rfl, hq3, _, rfl, p, T.C_Decoder, dx, _, rfl, upd_same, T.cl_Decoder, T.na_Decoder_states, (by show 1 < 1000; omega), ?_⟩
    rw [upd_upd]
    have k3 : Kp p H2 (upd H2 p (.ins T.C_Decoder dx (putF "states" (.int (ys.length : Int)) (putF "signs" (.int i) [])))) := (Kp.refl p H2).upd
    have e3 : (upd H2 p (.ins T.C_Decoder dx (putF "states" (.int (ys.length : Int)) (putF "signs" (.int i) [])))) p = some (.ins T.C_Decoder dx (putF "states" (.int (ys.length : Int)) (putF "signs" (.int i) []))) := upd_same
    generalize upd H2 p (.ins T.C_Decoder dx (putF "states" (.int (ys.length : Int)) (putF "signs" (.int i) []))) = H3 at k3 e3 ⊢
    have kH3 := k2.trans k3
    have hq4 : SqQ K H3 a ys := (hq.same ((Kp.of s2).wo.trans k3.wo)).same (wo_same H3 p)
    have he4 : DgAll K (wo H3 p) m2 ys (itsD d2) := hes.ext ((Kp.of s2).wo.trans k3.wo)
    dsimp only [L2.tSeq]
    unfold L2.sFld
    refine rows_tup (A := Unit) (p := p) (a := a) (i := 4) rfl rfl (fun R h => ⟨_, rfl, h⟩) hq4 he4 good.r2 (by omega) (by rw [e3]; exact fun z => by cases z) (fun _ => rfl) (fun _ => rfl) (fun r zs H4 s4 er nr hz => ?_)
    have e4 := s4 _ _ e3
    refine ⟨_, rfl, p, T.C_Decoder, dx, _, rfl, e4, T.cl_Decoder, T.na_Decoder_steps, (by show 2 < 1000; omega), ?_⟩
    have st4 : Dg K (wo H4 p) false (.ref r) D.stD := by
      refine dg_lf _ _ (lf_stD D) ?_ (m := m2)
      rw [← good.tup]
      exact .tup (SqT.of (by rw [wo_ne nr]; exact er)) hz
    have k4 : Kp p H3 H4 := Kp.of s4
    have hd4 : Dg K (wo H4 p) m3 x3 d3 := h3.kp (kH3.trans k4)
    obtain ⟨b, zs3, rfl, hq3', hes3⟩ := hd4.lst_q (sq_its good.s3)
    have k5 : Kp p H4 (upd H4 p (.ins T.C_Decoder dx (putF "steps" (.ref r) (putF "states" (.int (ys.length : Int)) (putF "signs" (.int i) []))))) := (Kp.refl p H4).upd
    have e5 : (upd H4 p (.ins T.C_Decoder dx (putF "steps" (.ref r) (putF "states" (.int (ys.length : Int)) (putF "signs" (.int i) []))))) p = some (.ins T.C_Decoder dx (putF "steps" (.ref r) (putF "states" (.int (ys.length : Int)) (putF "signs" (.int i) [])))) := upd_same
    generalize upd H4 p (.ins T.C_Decoder dx (putF "steps" (.ref r) (putF "states" (.int (ys.length : Int)) (putF "signs" (.int i) [])))) = H5 at k5 e5 ⊢
    have fin : ∀ t H6, Same H5 H6 → H6 p = some (.ins T.C_Decoder dx (putF "steps" (.ref r) (putF "states" (.int (ys.length : Int)) (putF "signs" (.int i) [])))) → Dg K (wo H6 p) m3 (.ref t) (.tuple (itsD d3)) →
        tVar 0 (L2.start N_Decoder_init [V.ref p, V.int i, V.ref a, V.ref b]) H6 fun x H2 => ∃ a C dx fs, x = V.ref a ∧ H2 a = some (HO.ins C dx fs) ∧ Cls K C ∧ NoAttr K C (Str.ofString "ends") ∧ fs.length < 1000 ∧ Q .non (upd H2 a (HO.ins C dx (putF (Str.ofString "ends") (.ref t) fs))) := fun t H6 s6 e6 ht => by
      refine ⟨_, rfl, p, T.C_Decoder, dx, _, rfl, e6, T.cl_Decoder, T.na_Decoder_ends, (by show 3 < 1000; omega), ?_⟩
      have k6 : Kp p H6 (upd H6 p (.ins T.C_Decoder dx (putF (Str.ofString "ends") (.ref t) (putF "steps" (.ref r) (putF "states" (.int (ys.length : Int)) (putF "signs" (.int i) [])))))) := (Kp.refl p H6).upd
      have ka : Kp p H4 (upd H6 p (.ins T.C_Decoder dx (putF (Str.ofString "ends") (.ref t) (putF "steps" (.ref r) (putF "states" (.int (ys.length : Int)) (putF "signs" (.int i) [])))))) := (k5.trans (Kp.of s6)).trans k6
      refine kQ _ ((kH3.trans k4).trans ka) ⟨⟨dx, r, t, ?_, (st4.ext ka.wo).ext (wo_same _ p), ?_⟩, good.ok⟩
      · rw [upd_same, ei, le, l2]; rfl
      · have : Dg K (wo H6 p) false (.ref t) D.enD := by
          refine dg_lf _ _ (lf_dEn D) ?_ (m := m3)
          rw [← good.tupE]; exact ht
        exact (this.ext k6.wo).ext (wo_same _ p)
    have hq5 : SqQ K H5 b zs3 := (hq3'.same k5.wo).same (wo_same H5 p)
    have hes5 : DgAll K (wo H5 p) m3 zs3 (itsD d3) := hes3.ext k5.wo
    rcases hq3' with hq6 | hq6
    · refine ⟨_, rfl, b, zs3, rfl, .inl ⟨(hq6.ext k5.wo).ext (wo_same H5 p), fun t ht => ?_⟩⟩
      have nt : t ≠ p := fun z => by rw [z, e5] at ht; cases ht
      have s6 : Same H5 (upd H5 t (.tup zs3)) := Same.new (Same.refl _) ht
      exact fin t _ s6 (s6 _ _ e5) (.tup (SqT.of (by rw [wo_ne nt]; exact upd_same)) (hes5.ext (Kp.of s6).wo))
    · exact ⟨_, rfl, b, zs3, rfl, .inr ⟨(hq6.ext k5.wo).ext (wo_same H5 p), fin b H5 (Same.refl _) e5 (.tup (hq6.ext k5.wo) hes5)⟩⟩
def spDeq (T : Txt K mg base) : Sp := fun vs H Q _ => ∃ p y D, vs = [.ref p, y] ∧ DecAt K T.C_Decoder H p D ∧ ((∃ q D', y = .ref q ∧ DecAt K T.C_Decoder H q D' ∧ Q (.bl (decide (D = D'))) H) ∨ (∃ d m, Dg K H m y d ∧ Q (.bl false) H) ∨ (∃ t, TyX K H y t ∧ PySem.W.kitOne K t (.ref T.C_Decoder) = some false ∧ Q (.bl false) H))
theorem ok_Decoder_eq (T : Txt K mg base) : FnOk P w K mg base CX0 1 T.f_Decoder_eq T.fd_Decoder_eq ["self", "other"] (spDeq T) := by
  refine T.F_Decoder_eq.ok sc_Decoder_eq (fun vs H Q E h => ?_) (fun cdv A outer s H vs Q E hr h => ?_)
  · obtain ⟨p, y, D, rfl, _⟩ := h; rfl
  · obtain ⟨p, y, D, rfl, ⟨⟨dx, Sa, Ea, ep, hs, he⟩, ok⟩, hh⟩ := h
    refine ⟨_, (pss_one (ps_ret (pe_and (pe_callB call_isi (by rfl) T.z_isinstance (by decide +kernel) (pa_cons (pv 1) (pa_cons (pe_glob (v := .ref T.C_Decoder) rfl T.g_Decoder rfl) pa_nil))) (pe_and (pe_cmpR op_eq (pe_fld (pv 0) rfl) (pe_fld (pv 1) rfl) (nomark _)) (pe_and (pe_cmpR (op_eqD (un64 hr)) (pe_fld (pv 0) rfl) (pe_fld (pv 1) rfl) (nomark _)) (pe_one (pe_cmpR (op_eqD (un64 hr)) (pe_fld (pv 0) rfl) (pe_fld (pv 1) rfl) (nomark _)))))))), ?_⟩
    rcases hh with ⟨q, D', rfl, ⟨⟨dy, Sb, Eb, eq, hs', he'⟩, ok'⟩, kQ⟩ | ⟨d, m, hd, kQ⟩ | ⟨t, ht, hk, kQ⟩
    · refine ⟨_, rfl, _, _, _, _, true, rfl, .own _, T.oe_Decoder.ty eq, kit_same, _, rfl, iteT ?_⟩
      have e : decide (D = D') = (decide (D.sg = D'.sg) && (decide (D.st = D'.st) && decide (D.en = D'.en))) := by
        rw [Bool.eq_iff_iff]; simp [dcd_eq]
      rw [e] at kQ
      refine ⟨_, rfl, p, _, dx, _, _, rfl, ep, T.cl_Decoder, T.na_Decoder_signs, dfs_signs, _, rfl, q, _, dy, _, _, rfl, eq, T.cl_Decoder, T.na_Decoder_signs, dfs_signs, rfl, _, rfl, ?_⟩
      have e1 : decide (V.int (D.sg : Nat) = V.int (D'.sg : Nat)) = decide (D.sg = D'.sg) := by
        rw [Bool.eq_iff_iff, decide_eq_true_eq, decide_eq_true_eq]
        exact ⟨fun z => by have := V.int.inj z; omega, fun z => by rw [z]⟩
      rw [e1]
      cases c1 : decide (D.sg = D'.sg) with
      | false => rw [c1, Bool.false_and] at kQ; exact iteF kQ
      | true =>
        rw [c1, Bool.true_and] at kQ
        refine iteT ⟨_, rfl, p, _, dx, _, _, rfl, ep, T.cl_Decoder, T.na_Decoder_steps, dfs_steps, _, rfl, q, _, dy, _, _, rfl, eq, T.cl_Decoder, T.na_Decoder_steps, dfs_steps, D.stD, D'.stD, dg_dp _ _ hs, dg_dp _ _ hs', shaped_stD ok, shaped_stD ok', _, rfl, ?_⟩
        rw [eqv_stD]
        cases c2 : decide (D.st = D'.st) with
        | false => rw [c2, Bool.false_and] at kQ; exact iteF kQ
        | true =>
          rw [c2, Bool.true_and] at kQ
          refine iteT ⟨_, rfl, p, _, dx, _, _, rfl, ep, T.cl_Decoder, T.na_Decoder_ends, dfs_ends, _, rfl, q, _, dy, _, _, rfl, eq, T.cl_Decoder, T.na_Decoder_ends, dfs_ends, D.enD, D'.enD, dg_dp _ _ he, dg_dp _ _ he', shaped_dEn ok, shaped_dEn ok', ?_⟩
          rw [eqv_dEn]
          exact kQ
    · exact ⟨_, rfl, _, _, _, _, false, rfl, .own _, hd.ty, kit_ownD T.ii_Decoder T.it_Decoder d, _, rfl, iteF kQ⟩
    · exact ⟨_, rfl, _, _, _, _, false, rfl, .own _, ht, hk, _, rfl, iteF kQ⟩
end
end My

set_option Elab.async false
set_option linter.all false
set_option maxRecDepth 100000
set_option maxHeartbeats 8000000
namespace My
open PySem PySem.Spec PyProof.Rows L2
theorem str_nil : Str.ofString "" = S [] := by decide +kernel
section
variable {P : Program} {w : World} {K : PySem.W.Frag} {mg : Str → Option Value} {base : Heap}
def spCell (K : PySem.W.Frag) : Sp := fun vs H Q _ => ∃ (a : Addr) (ns : List Int) (k : Nat), vs = [.ref a, .int k] ∧ SqL K H a (ns.map V.int) ∧ ∀ c H', Same H H' → Q (.int c) H'
theorem ok_law_cell (T : Txt K mg base) : FnOk P w K mg base CX0 1 T.f_law_cell T.fd_law_cell ["script", "k"] (spCell K) := by
  refine T.F_law_cell.ok sc_law_cell (fun vs H Q E h => ?_) (fun cdv A outer s H vs Q E hr h => ?_)
  · obtain ⟨a, ns, k, rfl, _⟩ := h; rfl
  · obtain ⟨a, ns, k, rfl, hS, q⟩ := h
    refine ⟨_, (pss_one (ps_ret (pe_ifExp (pt_cmpR op_lt (pv 1) (pe_callB call_len_seq (by rfl) T.z_len (by decide +kernel) (pa_cons (pv 0) pa_nil)) (nomark _)) (pe_ix ix_list (pv 0) (pv 1) (fun _ _ => rfl)) (pe_op op_add (pe_op op_mul pe_int (pv 1)) (pe_op op_mod (pe_callB (cr_sum rfl) (by rfl) T.z_sum (by decide +kernel) (pa_cons (pe_slice sl_list (pv 0) po_none (po_some pe_int)) pa_nil)) pe_int))))), ?_⟩
    refine ⟨_, rfl, _, rfl, a, _, rfl, .inl hS, _, _, rfl, rfl, _, rfl, ite2 (fun c => ?_) (fun c => ?_)⟩
    · have c' := of_decide_eq_true c
      have hk : k < ns.length := by rw [List.length_map] at c'; omega
      exact ⟨_, rfl, _, rfl, a, _, _, _, rfl, rfl, hS, atI_nat (j := k) (v := V.int ns[k]) (by rw [List.getElem?_map, List.getElem?_eq_getElem hk]; rfl), q _ H (Same.refl H)⟩
    · refine ⟨_, rfl, _, _, rfl, rfl, .inl (by decide), _, rfl, 1, rfl, a, _, rfl, hS, fun p hp => ?_⟩
      rw [show cutV (ns.map V.int) none (some 1) = (ns.take 1).map V.int by rw [show (some (1 : Int)) = some ((1 : Nat) : Int) from rfl, cutV_to, List.map_take]]
      exact ⟨p, ns.take 1, rfl, SqL.of upd_same, _, _, rfl, rfl, (by show (0 : Int) < 1000081; decide), _, _, rfl, rfl, q _ _ (Same.new (Same.refl H) hp)⟩
def spBox : Sp := fun vs H Q _ => ∃ c : Int, vs = [.int c] ∧ ∀ p o, H p = none → BoxO 0 o → Q (.ref p) (upd H p o)
theorem ok_law_box (T : Txt K mg base) : FnOk P w K mg base CX0 1 T.f_law_box T.fd_law_box ["great"] spBox := by
  refine T.F_law_box.ok sc_law_box (fun vs H Q E h => ?_) (fun cdv A outer s H vs Q E hr h => ?_)
  · obtain ⟨c, rfl, _⟩ := h; rfl
  · obtain ⟨c, rfl, q⟩ := h
    refine ⟨_, (pss_one (ps_ret (pe_lst (pa_cons (pe_callB call_abs (by rfl) T.z_abs (by decide +kernel) (pa_cons (pv 0) pa_nil)) (pa_cons (pe_cmpR op_ge (pe_callB call_abs (by rfl) T.z_abs (by decide +kernel) (pa_cons (pv 0) pa_nil)) (pe_op op_pow pe_int pe_int) (nomark _)) (pa_cons (pe_op op_mod (pe_callTy call_int1 (by rfl) T.z_int (by decide +kernel) (pa_cons (pe_callB call_abs (by rfl) T.z_abs (by decide +kernel) (pa_cons (pv 0) pa_nil)) pa_nil)) pe_int) (pa_cons pe_int pa_nil))))))), ?_⟩
    refine ⟨_, rfl, _, rfl, _, rfl, _, rfl, _, _, rfl, rfl, ⟨by decide, by decide, by decide⟩, _, _, rfl, rfl, _, rfl, _, rfl, .inl ⟨_, rfl, _, _, rfl, rfl, (by show (0 : Int) < 2147483629; decide), (by show 4 ≤ sizeLine; decide), fun p hp => q p _ hp ⟨_, _, _, _, rfl, ?_, ?_, Int.le_refl 0, Int.le_refl 0⟩⟩⟩
    · exact Int.emod_nonneg _ (by decide)
    · have := Int.emod_lt_of_pos (if c < 0 then -c else c) (by decide : (0 : Int) < 2147483629)
      omega
/-- a draw below many; the box goes on -/
def spTake : Sp := fun vs H Q _ => ∃ (p : Addr) (n : Nat) (many : Int), vs = [.ref p, .int many] ∧ BoxAt H p n ∧ n < 1000000000 ∧ 0 < many ∧ many < 1000000 ∧
  ∀ (d : Nat) o, (d : Int) < many → BoxO (n + 1) o → Q (.int d) (upd H p o)
theorem ok_law_take (T : Txt K mg base) : FnOk P w K mg base CX0 1 T.f_law_take T.fd_law_take ["box", "many"] spTake := by
  refine T.F_law_take.ok sc_law_take (fun vs H Q E h => ?_) (fun cdv A outer s H vs Q E hr h => ?_)
  · obtain ⟨p, n, m, rfl, _⟩ := h; rfl
  · obtain ⟨p, n, many, rfl, ⟨o, ho, a, m, c, b, rfl, m0, m1, c0, c1⟩, hn, p0, p1, q⟩ := h
    refine ⟨_, (pss_cons (ps_if (PW.pt (pw_and (pt_val (pe_ix ix_list (pv 0) pe_int (fun _ _ => rfl))) (pw_and1 (pt_cmpR op_gt (pe_ix ix_list (pv 0) pe_int (fun _ _ => rfl)) pe_int (nomark _))))) (pss_cons (ps_set (i := 2) sc_law_take.nd rfl (Or.inl rfl) (pe_op op_mod (pe_callTy call_int1 (by rfl) T.z_int (by decide +kernel) (pa_cons (pe_ix ix_list (pv 0) pe_int (fun _ _ => rfl)) pa_nil)) (pv 1)))
      (pss_cons (ps_asg (pe_op op_fdivW (pe_ix ix_list (pv 0) pe_int (fun _ _ => rfl)) (pv 1)) (pg_sub (pv 0) pe_int set_list))
      (pss_one (ps_ret (pv 2))))) pss_nil)
      (pss_cons (ps_asg (pe_op op_add (pe_ix ix_list (pv 0) pe_int (fun _ _ => rfl)) pe_int) (pg_sub (pv 0) pe_int set_list))
      (pss_cons (ps_set (i := 3) sc_law_take.nd rfl (Or.inl rfl) (pe_op op_mod (pe_callTy call_int1 (by rfl) T.z_int (by decide +kernel) (pa_cons (pe_op op_pow (pe_op op_add (pe_op op_add (pe_ix ix_list (pv 0) pe_int (fun _ _ => rfl)) (pe_op op_mul pe_int (pe_ix ix_list (pv 0) pe_int (fun _ _ => rfl)))) pe_int) pe_int) pa_nil)) pe_int))
      (pss_one (ps_ret (pe_op op_mod (pe_op op_fdivW (pe_op op_mod (pe_callTy call_int1 (by rfl) T.z_int (by decide +kernel) (pa_cons (pe_op op_pow (pe_op op_add (pe_op op_mul (pv 3) pe_int) (pe_op op_mul pe_int (pe_ix ix_list (pv 0) pe_int (fun _ _ => rfl)))) pe_int) pa_nil)) pe_int) pe_int) (pv 1))))))), ?_⟩
    have at0 : atI [V.int a, .bl b, .int m, .int c] 0 = some (.int a) := atI_nat (j := 0) rfl
    have at1 : atI [V.int a, .bl b, .int m, .int c] 1 = some (.bl b) := atI_nat (j := 1) rfl
    have at3 : atI [V.int a, .bl b, .int m, .int c] 3 = some (.int c) := atI_nat (j := 3) rfl
    have lm : CDivW a many := ⟨p0, by
      have : many.natAbs < 2 ^ 20 := by omega
      exact Nat.lt_of_lt_of_le (PySem.Flt.log2_lt_of (by decide) this) (by decide)⟩
    have second : tSeq (tAsg (tOp (rI0 fun i j => .int (i + j)) (tOp (rIxL K) (tVar 0) (tC (.int 3))) (tC (.int 1))) (gSub (tVar 0) (tC (.int 3)) rSetL))
        (tSeq (tAsg (tOp (rI (fun _ j => 0 < j) fun i j => .int (i % j)) (tCB (fun xs H Q => (∃ i, xs = [.int i] ∧ Q (.int i) H) ∨ ∃ k, xs = [.bl k] ∧ Q (.int (if k then 1 else 0)) H) (tCons (tOp (rI CPow fun i j => .int (i ^ j.toNat)) (tOp (rI0 fun i j => .int (i + j)) (tOp (rI0 fun i j => .int (i + j)) (tOp (rIxL K) (tVar 0) (tC (.int 2))) (tOp (rI CMul fun i j => .int (i * j)) (tC (.int 15485863)) (tOp (rIxL K) (tVar 0) (tC (.int 3))))) (tC (.int 179424697))) (tC (.int 5))) tNil)) (tC (.int 2147483647))) (gName 3))
        (tRet (tOp (rI (fun _ j => 0 < j) fun i j => .int (i % j)) (tOp (rI CDivW fun i j => .int (i / j)) (tOp (rI (fun _ j => 0 < j) fun i j => .int (i % j)) (tCB (fun xs H Q => (∃ i, xs = [.int i] ∧ Q (.int i) H) ∨ ∃ k, xs = [.bl k] ∧ Q (.int (if k then 1 else 0)) H) (tCons (tOp (rI CPow fun i j => .int (i ^ j.toNat)) (tOp (rI0 fun i j => .int (i + j)) (tOp (rI CMul fun i j => .int (i * j)) (tVar 3) (tC (.int 48271))) (tOp (rI CMul fun i j => .int (i * j)) (tC (.int 104723)) (tOp (rIxL K) (tVar 0) (tC (.int 3))))) (tC (.int 3))) tNil)) (tC (.int 2147483587))) (tC (.int 64))) (tVar 1))))
        { nx := fun _ H' => Q .non H', rt := Q } [some (.ref p), some (.int many), none, none] H := by
      refine ⟨_, rfl, p, _, _, _, rfl, rfl, SqL.of ho, at3, _, _, rfl, rfl, _, rfl, p, _, 3, 3, rfl, rfl, ho, rfl, ?_⟩
      have hu : upd H p (.lst [.int a, .bl b, .int m, .int (c + 1)]) p = some (.lst [.int a, .bl b, .int m, .int (c + 1)]) := upd_same
      refine ⟨_, rfl, p, _, _, _, rfl, rfl, SqL.of hu, atI_nat (j := 2) rfl, _, rfl, p, _, _, _, rfl, rfl, SqL.of hu, atI_nat (j := 3) rfl, _, _, rfl, rfl, .inl (by decide), _, _, rfl, rfl, _, _, rfl, rfl, _, _, rfl, rfl, ⟨by decide, by decide, by omega⟩, .inl ⟨_, rfl, _, _, rfl, rfl, (by show (0 : Int) < 2147483647; decide), ?_⟩⟩
      refine ⟨_, rfl, _, _, rfl, rfl, .inr (by decide), _, rfl, p, _, _, _, rfl, rfl, SqL.of hu, atI_nat (j := 3) rfl, _, _, rfl, rfl, .inl (by decide), _, _, rfl, rfl, _, _, rfl, rfl, ⟨by decide, by decide, by omega⟩, .inl ⟨_, rfl, _, _, rfl, rfl, (by show (0 : Int) < 2147483587; decide), _, _, rfl, rfl, ⟨by decide, by decide⟩, _, rfl, _, _, rfl, rfl, p0, ?_⟩⟩
      have y0 := Int.emod_nonneg ((((m + 15485863 * (c + 1) + 179424697) ^ (5 : Int).toNat % 2147483647) * 48271 + 104723 * (c + 1)) ^ (3 : Int).toNat % 2147483587 / 64) (by omega : many ≠ 0)
      have y1 := Int.emod_lt_of_pos ((((m + 15485863 * (c + 1) + 179424697) ^ (5 : Int).toNat % 2147483647) * 48271 + 104723 * (c + 1)) ^ (3 : Int).toNat % 2147483587 / 64) p0
      show Q (.int ((((m + 15485863 * (c + 1) + 179424697) ^ (5 : Int).toNat % 2147483647) * 48271 + 104723 * (c + 1)) ^ (3 : Int).toNat % 2147483587 / 64 % many)) _
      generalize (((m + 15485863 * (c + 1) + 179424697) ^ (5 : Int).toNat % 2147483647) * 48271 + 104723 * (c + 1)) ^ (3 : Int).toNat % 2147483587 / 64 % many = y at *
      obtain ⟨d, rfl⟩ : ∃ d : Nat, y = d := ⟨y.toNat, by omega⟩
      exact q d _ y1 ⟨a, m, c + 1, b, rfl, m0, m1, by omega, by omega⟩
    refine ⟨_, rfl, p, _, _, _, rfl, rfl, SqL.of ho, at1, b, rfl, ?_⟩
    cases b with
    | false => exact iteF (iteF second)
    | true =>
      refine iteT ⟨_, rfl, p, _, _, _, rfl, rfl, SqL.of ho, at0, _, _, rfl, rfl, _, rfl, ite2 (fun z => ?_) (fun z => second)⟩
      refine ⟨_, rfl, p, _, _, _, rfl, rfl, SqL.of ho, at0, .inl ⟨_, rfl, _, rfl, _, _, rfl, rfl, p0, ?_⟩⟩
      refine ⟨_, rfl, p, _, _, _, rfl, rfl, SqL.of ho, at0, _, rfl, _, _, rfl, rfl, lm, _, rfl, p, _, 0, 0, rfl, rfl, ho, rfl, _, rfl, ?_⟩
      have y0 := Int.emod_nonneg a (by omega : many ≠ 0)
      have y1 := Int.emod_lt_of_pos a p0
      show Q (.int (a % many)) _
      generalize a % many = y at *
      obtain ⟨d, rfl⟩ : ∃ d : Nat, y = d := ⟨y.toNat, by omega⟩
      exact q d _ y1 ⟨a / many, m, c, true, rfl, m0, m1, c0, by omega⟩
def spWord : Sp := fun vs H Q _ => ∃ (p : Addr) (c : Nat), vs = [.ref p] ∧ BoxAt H p c ∧ c < 100000000 ∧ ∀ w H', Kp p H H' → BoxAt H' p (c + 4) → okW w → Q (.str (S w)) H'
theorem ok_law_word (T : Txt K mg base) : FnOk P w K mg base CX0 2 T.f_law_word T.fd_law_word ["box"] spWord := by
  refine T.F_law_word.ok sc_law_word (fun vs H Q E h => ?_) (fun cdv A outer s H vs Q E hr h => ?_)
  · obtain ⟨p, c, rfl, _⟩ := h; rfl
  · obtain ⟨p, c, rfl, hb, hc, kQ⟩ := h
    refine ⟨_, (pss_cons (ps_set (i := 1) sc_law_word.nd rfl (Or.inr rfl) pe_str)
      (pss_one (ps_ret (pe_bm PySem.F.plainAttrs_str PySem.F.slot_str_join PySem.F.type_str_join mt_join pe_str (pa_cons (pe_lc (own := [("turn", 2)]) (g := gName 2) (by rfl) sc_law_word.nd (pi_range1 rfl T.z_range (pa_cons (pe_ix ix_list (pe_lst (pa_cons pe_int (pa_cons pe_int (pa_cons pe_int (pa_cons pe_int (pa_cons pe_int (pa_cons pe_int pa_nil))))))) (pe_call (ok_law_take T) (hr.mono (by decide)) rfl T.g_law_take T.F_law_take.kp T.b_law_take .nil pass0 (pa_cons (pv 0) (pa_cons pe_int pa_nil))) (fun _ _ => rfl)) pa_nil)) (blkOk_by (own := [("turn", 2)]) (N := N_law_word) (sc := defScope s_law_word) (by decide +kernel)) (fun _ _ _ _ _ => pg_name (i := 2) sc_law_word.nd rfl (Or.inl rfl)) (fun _ _ _ _ _ => pts_nil) (fun _ _ _ _ _ => (pe_ix ix_str (pv 1) (pe_call (ok_law_take T) (hr.mono (by decide)) rfl T.g_law_take T.F_law_take.kp T.b_law_take .nil pass0 (pa_cons (pv 0) (pa_cons pe_int pa_nil))) (fun _ _ => rfl)))) pa_nil))))), ?_⟩
    have six : 6 ≤ sizeLine := by decide
    refine ⟨rfl, six, fun M hM => ⟨_, rfl, p, c, 6, rfl, hb.new hM, by omega, by omega, by omega, fun d o hd ho => ?_⟩⟩
    have nM : M ≠ p := (hb.ne hM).symm
    obtain ⟨n, hn, n3⟩ : ∃ n : Nat, ([V.int 0, .int 1, .int 2, .int 3, .int 1, .int 3])[d]? = some (V.int (n : Nat)) ∧ n ≤ 3 := by
      have : d = 0 ∨ d = 1 ∨ d = 2 ∨ d = 3 ∨ d = 4 ∨ d = 5 := by omega
      rcases this with rfl | rfl | rfl | rfl | rfl | rfl
      · exact ⟨0, rfl, by omega⟩
      · exact ⟨1, rfl, by omega⟩
      · exact ⟨2, rfl, by omega⟩
      · exact ⟨3, rfl, by omega⟩
      · exact ⟨1, rfl, by omega⟩
      · exact ⟨3, rfl, by omega⟩
    have k1 : Kp p H (upd (upd H M (.lst [.int 0, .int 1, .int 2, .int 3, .int 1, .int 3])) p o) := ((Kp.refl p H).new hM).upd
    have b1 : BoxAt (upd (upd H M (.lst [.int 0, .int 1, .int 2, .int 3, .int 1, .int 3])) p o) p (c + 1) := ho.at
    have e1 : (upd (upd H M (.lst [.int 0, .int 1, .int 2, .int 3, .int 1, .int 3])) p o) M = some (.lst [.int 0, .int 1, .int 2, .int 3, .int 1, .int 3]) := by rw [upd_ne nM]; exact upd_same
    show rIxL K (.ref M) (.int (d : Nat)) (upd (upd H M (.lst [.int 0, .int 1, .int 2, .int 3, .int 1, .int 3])) p o) _
    generalize upd (upd H M (.lst [.int 0, .int 1, .int 2, .int 3, .int 1, .int 3])) p o = H1 at k1 b1 e1 ⊢
    refine ⟨M, _, (d : Int), .int (n : Nat), rfl, rfl, SqL.of e1, atI_nat hn, (n : Int), rfl, by omega, by omega, fun D hD => ?_⟩
    rw [Int.toNat_natCast]
    refine lc_range_box (K := K) (m := false) (p := p) (c := c + 1) (k := 1) (lo := 0) (n := n) (fun _ e => ∃ w, e = .str (S w) ∧ Low w ∧ w.length = 1) hD b1 (by omega) (fun j H' R N hj k' eD b' kk => ⟨rfl, tYesT ⟨_, rfl, _, rfl, p, _, 26, rfl, b', by omega, by omega, by omega, fun d2 o2 hd2 ho2 => ⟨_, _, _, rfl, rfl, (by show 26 ≤ sizeLine; decide), alpha_at (by omega), ?_⟩⟩⟩) (fun H' xs es k' b' eD ha le hg => ?_)
    · exact kk _ (.str (S [97 + d2])) _ ((Kp.refl p H').upd) (ho2.at.mono (by omega)) (.str _) ⟨_, rfl, Low.one (low_alpha (by omega)), rfl⟩
    · obtain ⟨t, lt, lt2, ex⟩ := dg_strs ha fun e he => by
        obtain ⟨j, hj⟩ := List.getElem?_of_mem he
        exact hg j e hj
      refine ⟨_, D, t.map fun c => S [c], rfl, rfl, .inl (SqL.of (by rw [List.map_map, eD, ex]; rfl)), ?_, ?_⟩
      · rw [List.map_map, ones_sum, List.length_map]
        show _ + _ * 0 ≤ _
        have : (100 : Nat) ≤ 16777216 := by decide
        omega
      rw [join_ones]
      exact kQ t H' (k1.trans k') (b'.mono (by omega)) ⟨lt, by omega⟩
theorem ok_law_entry (T : Txt K mg base) : FnOk P w K mg base CX0 3 T.f_law_entry T.fd_law_entry ["box", "states"] (fun vs H Q _ => ∃ (p : Addr) (c n : Nat), vs = [.ref p, .int (n : Nat)] ∧ BoxAt H p c ∧ c < 50000000 ∧ 1 ≤ n ∧ n ≤ 100 ∧ ∀ y e H', Kp p H H' → BoxAt H' p (c + 6) → okE n e → Dw K p H' false y (enD e) → Q y H') := by
  refine T.F_law_entry.ok sc_law_entry (fun vs H Q E h => ?_) (fun cdv A outer s H vs Q E hr h => ?_)
  · obtain ⟨p, c, n, rfl, _⟩ := h; rfl
  · obtain ⟨p, c, n, rfl, hb, hc, n1, n100, kQ⟩ := h
    refine ⟨_, (pss_one (ps_ret (pe_ifExp (pt_cmpR op_eq (pe_call (ok_law_take T) (hr.mono (by decide)) rfl T.g_law_take T.F_law_take.kp T.b_law_take .nil pass0 (pa_cons (pv 0) (pa_cons pe_int pa_nil))) pe_int (nomark _)) pe_non (pe_tup (pa_cons (pe_call (ok_law_take T) (hr.mono (by decide)) rfl T.g_law_take T.F_law_take.kp T.b_law_take .nil pass0 (pa_cons (pv 0) (pa_cons (pv 1) pa_nil))) (pa_cons (pe_call (ok_law_word T) (hr.mono (by decide)) rfl T.g_law_word T.F_law_word.kp T.b_law_word .nil pass0 (pa_cons (pv 0) pa_nil)) pa_nil)))))), ?_⟩
    refine ⟨_, rfl, p, c, 5, rfl, hb, by omega, by omega, by omega, fun d o hd ho => ⟨rfl, _, rfl, ite2 (fun _ => ?_) (fun _ => ?_)⟩⟩
    · exact kQ _ none _ ((Kp.refl p H).upd) (ho.at.mono (by omega)) (fun g w e => by cases e) .non
    · refine ⟨_, rfl, _, rfl, p, _, (n : Int), rfl, ho.at, by omega, by omega, by omega, fun g o2 hg ho2 => ⟨_, rfl, p, _, rfl, ho2.at, by omega, fun w H1 k1 b1 hw => ⟨(by show 2 ≤ sizeLine; decide), fun t ht => ?_⟩⟩⟩
      have nt : t ≠ p := (b1.ne ht).symm
      refine kQ _ (some (g, w)) _ ((((Kp.refl p H).upd).upd.trans k1).new ht) ((b1.new ht).mono (by omega)) (fun g' w' e => by injection e with e; injection e with e1 e2; subst e1 e2; exact ⟨by omega, hw⟩) ?_
      exact .tup (SqT.of (by rw [wo_ne nt]; exact upd_same)) (.cons (.int _) (.cons (.str _) .nil))
/-- a row at a new list -/
def RowAt (K : PySem.W.Frag) (p : Addr) (H H' : Hp) (r : Addr) (row : List Ent) : Prop := H r = none ∧ (r == sysModules) = false ∧ ∃ xs, H' r = some (.lst xs) ∧ DgAll K (wo H' p) false xs (row.map enD)
theorem ents_of {n : Nat} {es : List PyData} : (∀ e ∈ es, ∃ q : Ent, e = enD q ∧ okE n q) → ∃ row : List Ent, es = row.map enD ∧ row.length = es.length ∧ ∀ q ∈ row, okE n q := by
  induction es with
  | nil => exact fun _ => ⟨[], rfl, rfl, fun q h => by cases h⟩
  | cons e es ih =>
    intro h
    obtain ⟨row, e1, e2, e3⟩ := ih fun x hx => h x (List.mem_cons_of_mem _ hx)
    obtain ⟨q, eq, oq⟩ := h e List.mem_cons_self
    exact ⟨q :: row, by rw [e1, eq]; rfl, by rw [List.length_cons, List.length_cons, e2], fun x hx => by
      rcases List.mem_cons.mp hx with z | z
      · rw [z]; exact oq
      · exact e3 x z⟩
theorem ok_law_row (T : Txt K mg base) : FnOk P w K mg base CX0 4 T.f_law_row T.fd_law_row ["box", "signs", "states"] (fun vs H Q _ => ∃ (p : Addr) (c s n : Nat), vs = [.ref p, .int (s : Nat), .int (n : Nat)] ∧ BoxAt H p c ∧ c < 10000000 ∧ s ≤ 5 ∧ 1 ≤ n ∧ n ≤ 100 ∧
    ∀ r row H', Kp p H H' → BoxAt H' p (c + 30) → RowAt K p H H' r row → row.length = s → (∀ e ∈ row, okE n e) → Q (.ref r) H') := by
  refine T.F_law_row.ok sc_law_row (fun vs H Q E h => ?_) (fun cdv A outer s H vs Q E hr h => ?_)
  · obtain ⟨p, c, s, n, rfl, _⟩ := h; rfl
  · obtain ⟨p, c, sg, n, rfl, hb, hc, s5, n1, n100, kQ⟩ := h
    refine ⟨_, (pss_one (ps_ret (pe_low (base := base) rfl T.sysd (pe_lc (own := [("a", 3)]) (g := gName 3) (by rfl) sc_law_row.nd (pi_range1 rfl T.z_range (pa_cons (pv 1) pa_nil)) (blkOk_by (own := [("a", 3)]) (N := N_law_row) (sc := defScope s_law_row) (by decide +kernel)) (fun _ _ _ _ _ => pg_name (i := 3) sc_law_row.nd rfl (Or.inl rfl)) (fun _ _ _ _ _ => pts_nil) (fun _ _ _ _ _ => (pe_call (ok_law_entry T) (hr.mono (by decide)) rfl T.g_law_entry T.F_law_entry.kp T.b_law_entry .nil pass0 (pa_cons (pv 0) (pa_cons (pv 2) pa_nil)))))))), ?_⟩
    refine ⟨_, rfl, (sg : Int), rfl, by omega, by omega, fun D hD => ?_⟩
    rw [Int.toNat_natCast]
    refine lc_range_box (K := K) (m := false) (p := p) (c := c) (k := 6) (lo := 0) (n := sg) (fun _ e => ∃ q : Ent, e = enD q ∧ okE n q) hD hb (by omega) (fun j H' R N hj k' eD b' kk => ⟨rfl, tYesT ⟨_, rfl, _, rfl, p, _, n, rfl, b', by omega, n1, n100, fun y e H4 k4 b4 oe dy => ?_⟩⟩) (fun H' xs es k' b' eD ha le hg => ?_)
    · have nD : D ≠ p := (hb.ne hD).symm
      obtain ⟨l, el⟩ := eD
      have el : (wo H4 p) D = some (.lst l) := by rw [wo_ne nD]; exact k4 _ _ nD el
      exact kk y (enD e) H4 k4 b4 (dg_lfwo el _ _ (lf_enD e) dy) ⟨e, rfl, oe⟩
    · intro hsys
      obtain ⟨row, e1, e2, e3⟩ := ents_of fun e he => by
        obtain ⟨j, hj⟩ := List.getElem?_of_mem he
        exact hg j e hj
      refine kQ D row H' k' (b'.mono (by omega)) ⟨hD, low_ne hsys (by rw [eD]; exact fun z => by cases z), xs, eD, ?_⟩ (by omega) e3
      rw [← e1]
      exact own_list ha
end
end My

set_option Elab.async false
set_option linter.all false
set_option maxRecDepth 100000
set_option maxHeartbeats 8000000
namespace My
open PySem PySem.Spec PyProof.Rows L2
theorem map_of {α : Type} {f : α → PyData} {G : α → Prop} {es : List PyData} : (∀ e ∈ es, ∃ q : α, e = f q ∧ G q) → ∃ l : List α, es = l.map f ∧ l.length = es.length ∧ ∀ q ∈ l, G q := by
  induction es with
  | nil => exact fun _ => ⟨[], rfl, rfl, fun q h => by cases h⟩
  | cons e es ih =>
    intro h
    obtain ⟨row, e1, e2, e3⟩ := ih fun x hx => h x (List.mem_cons_of_mem _ hx)
    obtain ⟨q, eq, oq⟩ := h e List.mem_cons_self
    exact ⟨q :: row, by rw [e1, eq]; rfl, by rw [List.length_cons, List.length_cons, e2], fun x hx => by
      rcases List.mem_cons.mp hx with z | z
      · rw [z]; exact oq
      · exact e3 x z⟩
theorem all_at {es : List PyData} {G : PyData → Prop} (h : ∀ (j : Nat) e, es[j]? = some e → G e) : ∀ e ∈ es, G e := fun e he => by
  obtain ⟨j, hj⟩ := List.getElem?_of_mem he
  exact h j e hj
def wdV : Option (List Nat) → V | none => .non | some w => .str (S w)
theorem dg_wd {K : PySem.W.Frag} {H : Hp} {m : Bool} : ∀ e, Dg K H m (wdV e) (wdD e)
  | none => .non
  | some w => .str _
theorem lf_wdD (e : Option (List Nat)) : lfD (wdD e) = true := by cases e <;> rfl
/-- the parts of a decoder at r, beside the box at p -/
def PartsAt (K : PySem.W.Frag) (p : Addr) (H : Hp) (r : Addr) (D : Dcd) : Prop := ∃ Sa Ea, SqL K (wo H p) r [.int (D.sg : Nat), .ref Sa, .ref Ea] ∧ Dg K (wo H p) false (.ref Sa) D.stL ∧ Dg K (wo H p) false (.ref Ea) D.enL ∧ D.ok
theorem PartsAt.kp {K : PySem.W.Frag} {p r : Addr} {H H' : Hp} {D : Dcd} (h : PartsAt K p H r D) (k : Kp p H H') : PartsAt K p H' r D := by
  obtain ⟨Sa, Ea, h1, h2, h3, ok⟩ := h
  exact ⟨Sa, Ea, h1.ext k.wo, h2.ext k.wo, h3.ext k.wo, ok⟩
mutual
def ndD : PyData → Bool
  | .none => true
  | .int _ => true
  | .str _ => true
  | .bool _ => true
  | .list ds => ndAll ds
  | .tuple ds => ndAll ds
  | .dict _ => false
def ndAll : List PyData → Bool
  | [] => true
  | d :: ds => ndD d && ndAll ds
end
mutual
theorem dg_nd {K : PySem.W.Frag} {H : Hp} {m : Bool} : ∀ (d : PyData) (x : V), ndD d = true → Dg K H m x d → Dg K H false x d
  | .none, _, _, h => by cases h; exact .non
  | .int _, _, _, h => by cases h; exact .int _
  | .str _, _, _, h => by cases h; exact .str _
  | .bool _, _, _, h => by cases h; exact .bl _
  | .list ds, _, e, h => by
    have e' : ndAll ds = true := by simpa [ndD] using e
    cases h with
    | lst hs _ ha => exact .lst hs (fun z => by cases z) (dg_ndAll ds _ e' ha)
  | .tuple ds, _, e, h => by
    have e' : ndAll ds = true := by simpa [ndD] using e
    cases h with
    | tup hs ha => exact .tup hs (dg_ndAll ds _ e' ha)
  | .dict _, _, e, _ => by simp [ndD] at e
theorem dg_ndAll {K : PySem.W.Frag} {H : Hp} {m : Bool} : ∀ (ds : List PyData) (xs : List V), ndAll ds = true → DgAll K H m xs ds → DgAll K H false xs ds
  | [], _, _, h => by cases h; exact .nil
  | d :: ds, _, e, h => by
    have e' : ndD d = true ∧ ndAll ds = true := by simpa [ndAll] using e
    cases h with
    | cons h1 h2 => exact .cons (dg_nd d _ e'.1 h1) (dg_ndAll ds _ e'.2 h2)
end
theorem ndAll_map {α : Type} {f : α → PyData} (h : ∀ a, ndD (f a) = true) : ∀ l : List α, ndAll (l.map f) = true
  | [] => by simp [ndAll]
  | a :: l => by rw [List.map_cons]; unfold ndAll; rw [h a, ndAll_map h l]; rfl
theorem nd_enD (e : Ent) : ndD (My.enD e) = true := by
  cases e with
  | none => rfl
  | some p => obtain ⟨g, w⟩ := p; rfl
theorem nd_stL (D : Dcd) : ndD D.stL = true := by
  unfold Dcd.stL ndD
  exact ndAll_map (fun r => by unfold ndD; exact ndAll_map nd_enD r) _
theorem nd_enL (D : Dcd) : ndD D.enL = true := by
  unfold Dcd.enL ndD
  exact ndAll_map (fun e => by cases e <;> rfl) _
/-- the same, with no list where the modules lie -/
def PartsT (K : PySem.W.Frag) (p : Addr) (H : Hp) (r : Addr) (D : Dcd) : Prop := ∃ Sa Ea, SqL K (wo H p) r [.int (D.sg : Nat), .ref Sa, .ref Ea] ∧ Dg K (wo H p) true (.ref Sa) D.stL ∧ Dg K (wo H p) true (.ref Ea) D.enL ∧ D.ok
theorem PartsT.at_ {K : PySem.W.Frag} {p r : Addr} {H : Hp} {D : Dcd} (h : PartsT K p H r D) : PartsAt K p H r D := by
  obtain ⟨Sa, Ea, h1, h2, h3, ok⟩ := h
  exact ⟨Sa, Ea, h1, dg_nd _ _ (nd_stL D) h2, dg_nd _ _ (nd_enL D) h3, ok⟩
theorem PartsT.kp {K : PySem.W.Frag} {p r : Addr} {H H' : Hp} {D : Dcd} (h : PartsT K p H r D) (k : Kp p H H') : PartsT K p H' r D := by
  obtain ⟨Sa, Ea, h1, h2, h3, ok⟩ := h
  exact ⟨Sa, Ea, h1.ext k.wo, h2.ext k.wo, h3.ext k.wo, ok⟩
section
variable {P : Program} {w : World} {K : PySem.W.Frag} {mg : Str → Option Value} {base : Heap}
theorem ok_law_end (T : Txt K mg base) : FnOk P w K mg base CX0 3 T.f_law_end T.fd_law_end ["box"] (fun vs H Q _ => ∃ (p : Addr) (c : Nat), vs = [.ref p] ∧ BoxAt H p c ∧ c < 50000000 ∧ ∀ e H', Kp p H H' → BoxAt H' p (c + 5) → (∀ w, e = some w → okW w) → Q (wdV e) H') := by
  refine T.F_law_end.ok sc_law_end (fun vs H Q E h => ?_) (fun cdv A outer s H vs Q E hr h => ?_)
  · obtain ⟨p, c, rfl, _⟩ := h; rfl
  · obtain ⟨p, c, rfl, hb, hc, kQ⟩ := h
    refine ⟨_, (pss_one (ps_ret (pe_ifExp (pt_cmpR op_eq (pe_call (ok_law_take T) (hr.mono (by decide)) rfl T.g_law_take T.F_law_take.kp T.b_law_take .nil pass0 (pa_cons (pv 0) (pa_cons pe_int pa_nil))) pe_int (nomark _)) pe_non (pe_call (ok_law_word T) (hr.mono (by decide)) rfl T.g_law_word T.F_law_word.kp T.b_law_word .nil pass0 (pa_cons (pv 0) pa_nil))))), ?_⟩
    refine ⟨_, rfl, p, c, 3, rfl, hb, by omega, by omega, by omega, fun d o hd ho => ⟨rfl, _, rfl, ite2 (fun _ => ?_) (fun _ => ?_)⟩⟩
    · exact kQ none _ ((Kp.refl p H).upd) (ho.at.mono (by omega)) (fun w e => by cases e)
    · exact ⟨_, rfl, p, _, rfl, ho.at, by omega, fun w H1 k1 b1 hw => kQ (some w) _ (((Kp.refl p H).upd).trans k1) (b1.mono (by omega)) fun w' e => by injection e with e; rw [← e]; exact hw⟩
theorem ok_law_parts (T : Txt K mg base) : FnOk P w K mg base CX0 5 T.f_law_parts T.fd_law_parts ["box"] (fun vs H Q _ => ∃ (p : Addr) (c : Nat), vs = [.ref p] ∧ BoxAt H p c ∧ c < 1000000 ∧ ∀ r D H', Kp p H H' → BoxAt H' p (c + 500) → PartsT K p H' r D → D.st.length ≤ 12 → Q (.ref r) H') := by
  refine T.F_law_parts.ok sc_law_parts (fun vs H Q E h => ?_) (fun cdv A outer s H vs Q E hr h => ?_)
  · obtain ⟨p, c, rfl, _⟩ := h; rfl
  · obtain ⟨p, c, rfl, hb, hc, kQ⟩ := h
    refine ⟨_, (pss_cons (ps_asg (pe_tup (pa_cons (pe_op op_add pe_int (pe_call (ok_law_take T) (hr.mono (by decide)) rfl T.g_law_take T.F_law_take.kp T.b_law_take .nil pass0 (pa_cons (pv 0) (pa_cons pe_int pa_nil)))) (pa_cons (pe_ix ix_list (pe_lst (pa_cons pe_int (pa_cons pe_int (pa_cons pe_int (pa_cons pe_int (pa_cons pe_int (pa_cons pe_int pa_nil))))))) (pe_call (ok_law_take T) (hr.mono (by decide)) rfl T.g_law_take T.F_law_take.kp T.b_law_take .nil pass0 (pa_cons (pv 0) (pa_cons pe_int pa_nil))) (fun _ _ => rfl)) pa_nil))) (pg_tup rfl (pgs_cons (pg_name (i := 1) sc_law_parts.nd rfl (Or.inr rfl)) (pgs_cons (pg_name (i := 2) sc_law_parts.nd rfl (Or.inr rfl)) pgs_nil))))
      (pss_cons (ps_setLc (i := 3) (own := [("state", 4)]) (g := gName 4) (by rfl) sc_law_parts.nd rfl rfl (sw_true rfl rfl rfl (by decide +kernel)) (pi_range1 rfl T.z_range (pa_cons (pv 2) pa_nil)) (blkOk_by (own := [("state", 4)]) (N := N_law_parts) (sc := defScope s_law_parts) (by decide +kernel)) (fun _ _ _ _ _ => pg_name (i := 4) sc_law_parts.nd rfl (Or.inl rfl)) (fun _ _ _ _ _ => pts_nil) (fun _ _ _ _ _ => (pe_call (ok_law_row T) (hr.mono (by decide)) rfl T.g_law_row T.F_law_row.kp T.b_law_row .nil pass0 (pa_cons (pv 0) (pa_cons (pv 1) (pa_cons (pv 2) pa_nil))))))
      (pss_one (ps_ret (pe_lst (pa_cons (pv 1) (pa_cons (pv 3) (pa_cons (pe_low (base := base) rfl T.sysd (pe_lc (own := [("state", 4)]) (g := gName 4) (by rfl) sc_law_parts.nd (pi_range1 rfl T.z_range (pa_cons (pv 2) pa_nil)) (blkOk_by (own := [("state", 4)]) (N := N_law_parts) (sc := defScope s_law_parts) (by decide +kernel)) (fun _ _ _ _ _ => pg_name (i := 4) sc_law_parts.nd rfl (Or.inl rfl)) (fun _ _ _ _ _ => pts_nil) (fun _ _ _ _ _ => (pe_call (ok_law_end T) (hr.mono (by decide)) rfl T.g_law_end T.F_law_end.kp T.b_law_end .nil pass0 (pa_cons (pv 0) pa_nil))))) pa_nil)))))))), ?_⟩
    have six : 6 ≤ sizeLine := by decide
    refine ⟨_, rfl, p, c, 5, rfl, hb, by omega, by omega, by omega, fun d0 o0 hd0 ho0 => ⟨_, _, rfl, rfl, six, fun M hM => ⟨_, rfl, p, _, 6, rfl, (ho0.at).new hM, by omega, by omega, by omega, fun d o hd ho => ?_⟩⟩⟩
    have nM : M ≠ p := ((ho0.at (H := H) (p := p)).ne hM).symm
    have two : 2 ≤ sizeLine := by decide
    obtain ⟨n, hn, n1, n12⟩ : ∃ n : Nat, ([V.int 1, .int 2, .int 3, .int 5, .int 11, .int 12])[d]? = some (V.int (n : Nat)) ∧ 1 ≤ n ∧ n ≤ 12 := by
      have : d = 0 ∨ d = 1 ∨ d = 2 ∨ d = 3 ∨ d = 4 ∨ d = 5 := by omega
      rcases this with rfl | rfl | rfl | rfl | rfl | rfl
      · exact ⟨1, rfl, by omega, by omega⟩
      · exact ⟨2, rfl, by omega, by omega⟩
      · exact ⟨3, rfl, by omega, by omega⟩
      · exact ⟨5, rfl, by omega, by omega⟩
      · exact ⟨11, rfl, by omega, by omega⟩
      · exact ⟨12, rfl, by omega, by omega⟩
    have k1 : Kp p H (upd (upd (upd H p o0) M (.lst [.int 1, .int 2, .int 3, .int 5, .int 11, .int 12])) p o) := (((Kp.refl p H).upd).new hM).upd
    have b1 : BoxAt (upd (upd (upd H p o0) M (.lst [.int 1, .int 2, .int 3, .int 5, .int 11, .int 12])) p o) p (c + 2) := ho.at
    have e1 : (upd (upd (upd H p o0) M (.lst [.int 1, .int 2, .int 3, .int 5, .int 11, .int 12])) p o) M = some (.lst [.int 1, .int 2, .int 3, .int 5, .int 11, .int 12]) := by rw [upd_ne nM]; exact upd_same
    show rIxL K (.ref M) (.int (d : Nat)) (upd (upd (upd H p o0) M (.lst [.int 1, .int 2, .int 3, .int 5, .int 11, .int 12])) p o) _
    generalize upd (upd (upd H p o0) M (.lst [.int 1, .int 2, .int 3, .int 5, .int 11, .int 12])) p o = H1 at k1 b1 e1 ⊢
    obtain ⟨sg, esg, sg1, sg5⟩ : ∃ sg : Nat, (1 : Int) + (d0 : Int) = (sg : Int) ∧ 1 ≤ sg ∧ sg ≤ 5 := ⟨1 + d0, by omega, by omega, by omega⟩
    refine ⟨M, _, (d : Int), .int (n : Nat), rfl, rfl, SqL.of e1, atI_nat hn, two, fun t ht => ⟨t, [.int (sg : Nat), .int (n : Nat)], rfl, SqT.of (by rw [← esg]; exact upd_same), rfl, _, _, rfl, _, _, rfl, rfl, ?_⟩⟩
    have k2 : Kp p H (upd H1 t (.tup [.int (1 + (d0 : Int)), .int (n : Nat)])) := k1.new ht
    have b2 := b1.new ht (o := .tup [.int (1 + (d0 : Int)), .int (n : Nat)])
    generalize upd H1 t (.tup [.int (1 + (d0 : Int)), .int (n : Nat)]) = H2 at k2 b2 ⊢
    refine ⟨_, rfl, (n : Int), rfl, by omega, by omega, fun D hD => ?_⟩
    rw [Int.toNat_natCast]
    have nD : D ≠ p := (b2.ne hD).symm
    refine lc_range_box (K := K) (m := true) (p := p) (c := c + 2) (k := 30) (lo := 0) (n := n) (fun _ e => ∃ q : List Ent, e = .list (q.map enD) ∧ (q.length = sg ∧ ∀ x ∈ q, okE n x)) hD b2 (by omega) (fun j H' R N hj k' eD b' kk => ⟨rfl, tYesT ⟨_, rfl, _, rfl, _, rfl, p, _, sg, n, rfl, b', by omega, sg5, n1, by omega, fun r row H4 k4 b4 ⟨hr0, lowr, ys, er, hys⟩ lr orow => ?_⟩⟩) (fun H3 xs es k3 b3 eD3 ha le hg => ?_)
    · obtain ⟨l, el⟩ := eD
      have el4 : (wo H4 p) D = some (.lst l) := by rw [wo_ne nD]; exact k4 _ _ nD el
      have nrD : r ≠ D := fun z => by rw [z, el] at hr0; cases hr0
      have nrp : r ≠ p := (b'.ne hr0).symm
      exact kk _ (.list (row.map enD)) H4 k4 b4 (.lst (SqL.of (by rw [wo_ne nrD, wo_ne nrp]; exact er)) (fun _ => lowr) (dg_lfAll _ _ (lfAll_map lf_enD _) (dg_lfwoAll el4 _ _ (lfAll_map lf_enD _) hys))) ⟨row, rfl, lr, orow⟩
    obtain ⟨st, e2, l2, g2⟩ := map_of (f := fun q : List Ent => .list (q.map enD)) (all_at (G := fun e => ∃ q : List Ent, e = .list (q.map enD) ∧ (q.length = sg ∧ ∀ x ∈ q, okE n x)) hg)
    have hst := own_list ha
    rw [e2] at hst
    dsimp only [L2.gName]
    refine ⟨_, rfl, _, rfl, _, rfl, (n : Int), rfl, by omega, by omega, fun D2 hD2 => ?_⟩
    rw [Int.toNat_natCast]
    have nD2 : D2 ≠ p := (b3.ne hD2).symm
    refine lc_range_box (K := K) (m := true) (p := p) (c := c + 2 + 30 * n) (k := 5) (lo := 0) (n := n) (fun _ e => ∃ q : Option (List Nat), e = wdD q ∧ ∀ w, q = some w → okW w) hD2 b3 (by omega) (fun j H' R N hj k' eD b' kk => ⟨rfl, tYesT ⟨_, rfl, p, _, rfl, b', by omega, fun e H4 k4 b4 oe => ?_⟩⟩) (fun H4 ys es2 k4 b4 eD4 ha2 le2 hg2 => ?_)
    · exact kk _ (wdD e) H4 k4 b4 (dg_wd e) ⟨e, rfl, oe⟩
    intro hsys4
    have lowD : (D == sysModules) = false := low_ne hsys4 (by rw [k4 _ _ nD eD3]; exact fun z => by cases z)
    have lowD2 : (D2 == sysModules) = false := low_ne hsys4 (by rw [eD4]; exact fun z => by cases z)
    obtain ⟨en, e3, l3, g3⟩ := map_of (f := wdD) (all_at (G := fun e => ∃ q : Option (List Nat), e = wdD q ∧ ∀ w, q = some w → okW w) hg2)
    have hen := own_list ha2
    rw [e3] at hen
    refine ⟨(by show 3 ≤ sizeLine; decide), fun r hr0 => ?_⟩
    have nr : r ≠ p := (b4.ne hr0).symm
    have k5 : Kp p H4 (upd H4 r (.lst [.int (sg : Nat), .ref D, .ref D2])) := (Kp.refl p H4).new hr0
    refine kQ r ⟨sg, st, en⟩ _ (((k2.trans k3).trans k4).trans k5) ((b4.new hr0).mono (by omega)) ⟨D, D2, SqL.of (by rw [wo_ne nr]; exact upd_same), ?_, ?_, ?_⟩ (by show st.length ≤ 12; omega)
    · exact .lst (SqL.of (by rw [wo_ne nD]; exact k5 _ _ nD (k4 _ _ nD eD3))) (fun _ => lowD) (hst.ext (k4.trans k5).wo)
    · exact .lst (SqL.of (by rw [wo_ne nD2]; exact k5 _ _ nD2 eD4)) (fun _ => lowD2) (hen.ext k5.wo)
    · refine ⟨sg1, sg5, by show 1 ≤ st.length; omega, by show st.length ≤ 40; omega, fun r hr => ?_, by show en.length = st.length; omega, g3⟩
      obtain ⟨a, b⟩ := g2 r hr
      exact ⟨a, by show ∀ e ∈ r, okE st.length e; rw [show st.length = n by omega]; exact b⟩
theorem ok_law_plain_rows (T : Txt K mg base) : FnOk P w K mg base CX0 1 T.f_law_plain_rows T.fd_law_plain_rows ["rows"] (fun vs H Q _ => ∃ (p a : Addr) (D : Dcd), vs = [.ref a] ∧ D.ok ∧ H p ≠ none ∧ Dg K (wo H p) false (.ref a) D.stL ∧ ∀ r H', Same H H' → r ≠ p → Dg K (wo H' p) false (.ref r) D.stD → Q (.ref r) H') := by
  refine T.F_law_plain_rows.ok sc_law_plain_rows (fun vs H Q E h => ?_) (fun cdv A outer s H vs Q E hr h => ?_)
  · obtain ⟨p, a, D, rfl, _⟩ := h; rfl
  · obtain ⟨p, a, D, rfl, ok, np, hd, kQ⟩ := h
    refine ⟨_, (pss_one (ps_ret (pe_callTy call_tuple_of (by rfl) T.z_tuple (by decide +kernel) (pa_cons (pe_lc (own := [("row", 1)]) (g := gName 1) (by rfl) sc_law_plain_rows.nd (pi_sq (pv 0)) (blkOk_by (own := [("row", 1)]) (N := N_law_plain_rows) (sc := defScope s_law_plain_rows) (by decide +kernel)) (fun _ _ _ _ _ => pg_name (i := 1) sc_law_plain_rows.nd rfl (Or.inl rfl)) (fun _ _ _ _ _ => pts_nil) (fun _ _ _ _ _ => (pe_callTy (call_tuple_ofK (K := K) rfl) (by rfl) T.z_tuple (by decide +kernel) (pa_cons (pv 1) pa_nil)))) pa_nil)))), ?_⟩
    have good := Dcd.goodL ok
    obtain ⟨a', ys, ea, hqa, hya⟩ := hd.lst_q (.inl rfl)
    injection ea with ea
    subst ea
    have n40 := ok.n40
    show L2.tCB _ _ _ _ _
    refine rows_tup (A := Unit) (p := p) (a := a) (i := 1) rfl rfl (fun R h => ⟨_, rfl, h⟩) (hqa.same (wo_same H p)) hya good.r2 (by rw [List.length_map]; omega) np (fun _ => rfl) (fun _ => rfl) (fun t us H2 s2 et nt hus => ?_)
    refine kQ t H2 s2 nt ?_
    rw [← good.tup]
    exact .tup (SqT.of (by rw [wo_ne nt]; exact et)) hus
def spSt (T : Txt K mg base) : Sp := fun vs H Q _ => ∃ (p o r : Addr) (D : Dcd), vs = [.ref o, .ref r] ∧ (∃ c, BoxAt H p c) ∧ DecAt K T.C_Decoder H o D ∧ PartsAt K p H r D ∧ ∀ H', Same H H' → Q (.bl true) H'
theorem ok_law_stands (T : Txt K mg base) : FnG P w K mg base CX0 2 T.f_law_stands T.fd_law_stands ["made", "parts"] (spSt T) := by
  refine T.F_law_stands.okG sc_law_stands (fun vs H Q E h => ?_) (fun cdv A outer s0 H vs Q E hgd hr h => ?_)
  · obtain ⟨p, o, r, D, rfl, _⟩ := h; rfl
  · obtain ⟨p, o, r, D, rfl, ⟨c, hb⟩, hd, ⟨Sa, Ea, hS, hdS, hdE, ok⟩, kQ⟩ := h
    have hun := un64 hr
    refine ⟨_, (pss_cons (ps_asg (pv 1) (pg_lst rfl (pgs_cons (pg_name (i := 2) sc_law_stands.nd rfl (Or.inl rfl)) (pgs_cons (pg_name (i := 3) sc_law_stands.nd rfl (Or.inl rfl)) (pgs_cons (pg_name (i := 4) sc_law_stands.nd rfl (Or.inl rfl)) pgs_nil)))))
      (pss_cons (ps_if (PW.pt (pw_or (pt_val (pe_callB call_isi (by rfl) T.z_isinstance (by decide +kernel) (pa_cons (pe_fld (pv 0) rfl) (pa_cons (pe_bltn (v := .ty "bool") (u := .type "bool") (by rfl) T.z_bool (by decide +kernel) rfl) pa_nil)))) (pw_or (pt_not (pt_val (pe_callB call_isi (by rfl) T.z_isinstance (by decide +kernel) (pa_cons (pe_fld (pv 0) rfl) (pa_cons (pe_bltn (v := .ty "int") (u := .type "int") (by rfl) T.z_int (by decide +kernel) rfl) pa_nil))))) (pw_or1 (pt_val (pe_callB call_isi (by rfl) T.z_isinstance (by decide +kernel) (pa_cons (pe_fld (pv 0) rfl) (pa_cons (pe_bltn (v := .ty "bool") (u := .type "bool") (by rfl) T.z_bool (by decide +kernel) rfl) pa_nil)))))))) (pss_one (ps_ret pe_bl)) pss_nil)
      (pss_cons (ps_if (PW.pt (pw_or (pt_not (pt_val (pe_callB call_isi (by rfl) T.z_isinstance (by decide +kernel) (pa_cons (pe_fld (pv 0) rfl) (pa_cons (pe_bltn (v := .ty "tuple") (u := .type "tuple") (by rfl) T.z_tuple (by decide +kernel) rfl) pa_nil))))) (pw_or1 (pt_cmpR (op_ne_nil (un0 hr)) (pe_lc (own := [("row", 5)]) (g := gName 5) (by rfl) sc_law_stands.nd (pi_tup (pe_fld (pv 0) rfl)) (blkOk_by (own := [("row", 5)]) (N := N_law_stands) (sc := defScope s_law_stands) (by decide +kernel)) (fun _ _ _ _ _ => pg_name (i := 5) sc_law_stands.nd rfl (Or.inl rfl)) (fun _ _ _ _ _ => (pts_one (pt_not (pt_val (pe_callB (call_isi_K (K := K) rfl) (by rfl) T.z_isinstance (by decide +kernel) (pa_cons (pv 5) (pa_cons (pe_bltn (v := .ty "tuple") (u := .type "tuple") (by rfl) T.z_tuple (by decide +kernel) rfl) pa_nil))))))) (fun _ _ _ _ _ => (pv 5))) (pe_lst pa_nil) (nomark _))))) (pss_one (ps_ret pe_bl)) pss_nil)
      (pss_cons (ps_set (i := 6) sc_law_stands.nd rfl (Or.inl rfl) (pe_callB (call_reprG hgd hun) (by rfl) T.z_repr (by decide +kernel) (pa_cons (pe_lst (pa_cons (pe_fld (pv 0) rfl) (pa_cons (pe_fld (pv 0) rfl) (pa_cons (pe_fld (pv 0) rfl) (pa_cons (pe_fld (pv 0) rfl) pa_nil))))) pa_nil)))
      (pss_one (ps_ret (pe_cmpR op_eq (pv 6) (pe_callB (call_reprG hgd hun) (by rfl) T.z_repr (by decide +kernel) (pa_cons (pe_lst (pa_cons (pv 2) (pa_cons (pe_callB call_len_seq (by rfl) T.z_len (by decide +kernel) (pa_cons (pv 3) pa_nil)) (pa_cons (pe_call (ok_law_plain_rows T) (hr.mono (by decide)) rfl T.g_law_plain_rows T.F_law_plain_rows.kp T.b_law_plain_rows .nil pass0 (pa_cons (pv 3) pa_nil)) (pa_cons (pe_callTy call_tuple_of (by rfl) T.z_tuple (by decide +kernel) (pa_cons (pv 4) pa_nil)) pa_nil))))) pa_nil)) (nomark _)))))))), ?_⟩
    obtain ⟨⟨dx, St, Et, eo, hs, he⟩, _⟩ := id hd
    have hS' : SqL K H r _ := hS.ext (wo_same H p)
    refine ⟨_, rfl, r, _, rfl, hS', rfl, _, _, rfl, _, _, rfl, _, _, rfl, rfl, ?_⟩
    have ti : ∀ i : Int, TyX K H (.int i) (.type (tyD (.int i))) := fun i => (Dg.int (m := false) i).ty
    refine ⟨_, rfl, o, _, dx, _, _, rfl, eo, T.cl_Decoder, T.na_Decoder_signs, dfs_signs, _, _, _, _, false, rfl, .ty _, ti _, kit_blD (.int _), _, rfl, iteF ?_⟩
    refine ⟨_, rfl, o, _, dx, _, _, rfl, eo, T.cl_Decoder, T.na_Decoder_signs, dfs_signs, _, _, _, _, true, rfl, .ty _, ti _, kit_numD (.int _), _, rfl, iteF ?_⟩
    refine ⟨_, rfl, o, _, dx, _, _, rfl, eo, T.cl_Decoder, T.na_Decoder_states, dfs_states, _, _, _, _, false, rfl, .ty _, ti _, kit_blD (.int _), _, rfl, iteF ?_⟩
    obtain ⟨St', us, eSt, hsq, hua⟩ := hs.tup_of
    injection eSt with eSt
    subst eSt
    refine ⟨_, rfl, o, _, dx, _, _, rfl, eo, T.cl_Decoder, T.na_Decoder_steps, dfs_steps, _, _, _, _, true, rfl, .ty _, hs.ty, kit_tupD D.stD, _, rfl, iteF ?_⟩
    refine ⟨_, rfl, o, _, dx, _, _, rfl, eo, T.cl_Decoder, T.na_Decoder_steps, dfs_steps, St, rfl, ⟨_, hsq⟩, fun L hL => ?_⟩
    refine lc_tup (K := K) (a := St) (xs := us) (fun i H' => Same H H' ∧ H' L = some (.lst [])) ⟨Same.new (Same.refl H) hL, upd_same⟩ (fun i H' _ h => hsq.ext h.1) ?_ ?_
    · rintro i x H' hx ⟨s', e'⟩
      obtain ⟨d, hd', dd⟩ := hua.at i x hx
      obtain ⟨rw_, _, rfl⟩ := List.mem_map.mp (List.mem_of_getElem? hd')
      exact ⟨rfl, _, rfl, _, _, _, _, true, rfl, .ty _, (dd.ext s').ty, kit_tupD (.tuple (rw_.map enD)), _, rfl, iteF ⟨s', e'⟩⟩
    rintro H1 ⟨s1, e1⟩
    have two : 2 ≤ sizeLine := by decide
    have four : 4 ≤ sizeLine := by decide
    refine ⟨(by show 0 ≤ sizeLine; decide), fun N hN => ⟨L, N, [], rfl, rfl, Same.new (Same.refl _) hN _ _ e1, upd_same, _, rfl, iteF ?_⟩⟩
    have s2 : Same H (upd H1 N (.lst [])) := s1.trans (Same.new (Same.refl _) hN)
    generalize upd H1 N (.lst []) = H2 at s2 ⊢
    have shd : Sh (.list [.int (D.sg : Nat), .int (D.st.length : Nat), D.stD, D.enD]) := by
      have n40 := ok.n40
      have s5 := ok.s5
      exact (Fit.list (k := 4) (FitAll.cons (Fit.nat (by omega)) (FitAll.cons (Fit.nat (by omega)) (FitAll.cons (fit_stD ok) (FitAll.cons ((fit_dEn ok).mono (by omega) (Nat.le_refl _)) FitAll.nil))))).sh (by omega) (by omega)
    have eo2 := s2 _ _ eo
    refine ⟨_, rfl, o, _, dx, _, _, rfl, eo2, T.cl_Decoder, T.na_Decoder_signs, dfs_signs, _, rfl, o, _, dx, _, _, rfl, eo2, T.cl_Decoder, T.na_Decoder_states, dfs_states, _, rfl, o, _, dx, _, _, rfl, eo2, T.cl_Decoder, T.na_Decoder_steps, dfs_steps, _, rfl, o, _, dx, _, _, rfl, eo2, T.cl_Decoder, T.na_Decoder_ends, dfs_ends, four, fun q hq => ?_⟩
    have s3 : Same H2 (upd H2 q (.lst [.int (D.sg : Nat), .int (D.st.length : Nat), .ref St, .ref Et])) := Same.new (Same.refl _) hq
    have gq : Dg K (upd H2 q (.lst [.int (D.sg : Nat), .int (D.st.length : Nat), .ref St, .ref Et])) false (.ref q) (.list [.int (D.sg : Nat), .int (D.st.length : Nat), D.stD, D.enD]) :=
      .lst (SqL.of upd_same) (fun z => by cases z) (.cons (.int _) (.cons (.int _) (.cons (hs.ext (s2.trans s3)) (.cons (he.ext (s2.trans s3)) .nil))))
    generalize upd H2 q (.lst [.int (D.sg : Nat), .int (D.st.length : Nat), .ref St, .ref Et]) = H3 at s3 gq ⊢
    obtain ⟨dd, edd⟩ : ∃ dd, dd = PyData.list [.int (D.sg : Nat), .int (D.st.length : Nat), D.stD, D.enD] := ⟨_, rfl⟩
    rw [← edd] at gq shd
    refine ⟨_, dd, false, rfl, gq, shd.1, shd.2.1, shd.2.2, ?_⟩
    have s03 := s2.trans s3
    have b3 := hb.same s03
    have kH3 : Kp p H H3 := Kp.of s03
    have hdS3 := hdS.ext kH3.wo
    have hdE3 := hdE.ext kH3.wo
    obtain ⟨Sa', ys, eSa, hqS, hyS⟩ := hdS3.lst_q (.inl rfl)
    injection eSa with eSa
    subst eSa
    have lys := hyS.len
    rw [List.length_map] at lys
    refine ⟨_, rfl, _, rfl, _, rfl, Sa, ys, rfl, hqS.same (wo_same H3 p), _, rfl, p, Sa, D, rfl, ok, b3.some, hdS3, fun t H4 s4 nt hus => ?_⟩
    have hdE4 := hdE3.ext (Kp.of (p := p) s4).wo
    obtain ⟨Ea', zs, eEa, hqE, _, hzE⟩ := hdE4.lst_of
    injection eEa with eEa
    subst eEa
    have good := Dcd.goodL ok
    have fin : ∀ (u : Addr) (H5 : Hp), Same H4 H5 → u ≠ p → Dg K (wo H5 p) false (.ref u) D.enD → (4 ≤ sizeLine ∧ ∀ q', H5 q' = none → rReprG K [.ref q'] (upd H5 q' (.lst [.int (D.sg : Nat), .int (ys.length : Int), .ref t, .ref u])) fun v H' => rEq (V.str dd.shown) v H' Q) := fun u H5 s5 nu du => by
      refine ⟨four, fun q' hq' => ?_⟩
      have s6 : Same H5 (upd H5 q' (.lst [.int (D.sg : Nat), .int (ys.length : Int), .ref t, .ref u])) := Same.new (Same.refl _) hq'
      refine ⟨_, dd, false, rfl, ?_, shd.1, shd.2.1, shd.2.2, ?_⟩
      · rw [edd]
        refine .lst (SqL.of upd_same) (fun z => by cases z) (.cons (.int _) (.cons (by rw [lys]; exact .int _) (.cons ?_ (.cons ?_ .nil))))
        · exact (hus.ext (fun b o e => wo_le e)).ext (s5.trans s6)
        · exact (du.ext (fun b o e => wo_le e)).ext s6
      · refine ⟨rfl, ?_⟩
        rw [decide_eq_true rfl]
        exact kQ _ (((s03.trans s4).trans s5).trans s6)
    refine ⟨_, rfl, Ea, zs, rfl, .inl ⟨hqE.ext (wo_same H4 p), fun u hu => ?_⟩⟩
    have b4 := b3.same s4
    have nu : u ≠ p := (b4.ne hu).symm
    refine fin u _ (Same.new (Same.refl _) hu) nu ?_
    rw [← good.tupE]
    exact .tup (SqT.of (by rw [wo_ne nu]; exact upd_same)) (hzE.ext (Kp.of (Same.new (Same.refl _) hu)).wo)
end
end My

set_option Elab.async false
set_option linter.all false
set_option maxRecDepth 100000
set_option maxHeartbeats 8000000
namespace My
open PySem PySem.Spec PyProof.Rows L2
theorem weightAll_le {k : Nat} : ∀ l : List PyData, (∀ a ∈ l, a.weight ≤ k) → PyData.weightAll l ≤ (k + 1) * l.length
  | [], _ => by simp [PyData.weightAll]
  | a :: l, h => by
    unfold PyData.weightAll
    have h1 := h a List.mem_cons_self
    have h2 := weightAll_le l fun b hb => h b (List.mem_cons_of_mem _ hb)
    rw [List.length_cons, Nat.mul_succ]; omega
theorem weight_sq {d : PyData} (h : isSqD d = true) : d.weight = PyData.weightAll (itsD d) := by
  cases d with
  | list es => rw [PyData.weight]; rfl
  | tuple es => rw [PyData.weight]; rfl
  | _ => cases h
theorem GoodD.w2 {D : Dcd} {d1 d2 d3 : PyData} (g : GoodD D d1 d2 d3) : d2.weight ≤ 100000 := by
  have n40 := g.ok.n40
  have s5 := g.ok.s5
  have l2 := g.len2
  rw [weight_sq g.s2]
  refine Nat.le_trans (weightAll_le (k := 210) _ fun r hr => ?_) (by omega)
  rw [weight_sq (g.r2 r hr)]
  have hm : itsD r ∈ (itsD d2).map itsD := List.mem_map.mpr ⟨r, hr, rfl⟩
  rw [g.e2] at hm
  obtain ⟨row, hrow, e⟩ := List.mem_map.mp hm
  rw [← e]
  obtain ⟨l, o⟩ := g.ok.rows row hrow
  refine Nat.le_trans (weight_all (k := 40) _ fun e he => (fit_enD (o e he) n40).w) (by omega)
theorem GoodD.w3 {D : Dcd} {d1 d2 d3 : PyData} (g : GoodD D d1 d2 d3) : d3.weight ≤ 100000 := by
  have n40 := g.ok.n40
  have le := g.ok.ends
  rw [weight_sq g.s3, g.e3]
  refine Nat.le_trans (weight_all (k := 4) _ fun e he => (fit_wdD fun w q => g.ok.words e he w q).w) (by omega)
section
variable {P : Program} {w : World} {K : PySem.W.Frag} {mg : Str → Option Value} {base : Heap}
/-- steps as lists or tuples of lists or tuples -/
structure StpD (D : Dcd) (d : PyData) : Prop where
  s : isSqD d = true
  r : ∀ x ∈ itsD d, isSqD x = true
  e : (itsD d).map itsD = D.st.map (fun r => r.map enD)
theorem StpD.good {D : Dcd} {d d3 : PyData} (h : StpD D d) (ok : D.ok) (s3 : isSqD d3 = true) (e3 : itsD d3 = D.en.map wdD) : GoodD D (.int (D.sg : Nat)) d d3 := ⟨ok, rfl, h.s, h.r, h.e, s3, e3⟩
theorem ok_law_listed (T : Txt K mg base) : FnOk P w K mg base CX0 2 T.f_law_listed T.fd_law_listed ["box", "rows"] (fun vs H Q _ => ∃ (p a : Addr) (c : Nat) (D : Dcd), vs = [.ref p, .ref a] ∧ BoxAt H p c ∧ c < 1000000 ∧ D.ok ∧ Dg K (wo H p) false (.ref a) D.stL ∧
    ∀ x d H', Kp p H H' → BoxAt H' p (c + 50) → Dw K p H' false x d → StpD D d → Q x H') := by
  refine T.F_law_listed.ok sc_law_listed (fun vs H Q E h => ?_) (fun cdv A outer s H vs Q E hr h => ?_)
  · obtain ⟨p, a, c, D, rfl, _⟩ := h; rfl
  · obtain ⟨p, a, c, D, rfl, hb, hc, ok, hd, kQ⟩ := h
    refine ⟨_, (pss_cons (ps_setLc (i := 2) (own := [("row", 3)]) (g := gName 3) (by rfl) sc_law_listed.nd rfl rfl (sw_true rfl rfl rfl (by decide +kernel)) (pi_list (pv 1)) (blkOk_by (own := [("row", 3)]) (N := N_law_listed) (sc := defScope s_law_listed) (by decide +kernel)) (fun _ _ _ _ _ => pg_name (i := 3) sc_law_listed.nd rfl (Or.inl rfl)) (fun _ _ _ _ _ => pts_nil) (fun _ _ _ _ _ => (pe_ifExp (pt_cmpR op_eq (pe_call (ok_law_take T) (hr.mono (by decide)) rfl T.g_law_take T.F_law_take.kp T.b_law_take .nil pass0 (pa_cons (pv 0) (pa_cons pe_int pa_nil))) pe_int (nomark _)) (pe_callTy (call_list_of_K (K := K) rfl) (by rfl) T.z_list (by decide +kernel) (pa_cons (pv 3) pa_nil)) (pe_callTy (call_tuple_ofK (K := K) rfl) (by rfl) T.z_tuple (by decide +kernel) (pa_cons (pv 3) pa_nil)))))
      (pss_one (ps_ret (pe_ifExp (pt_cmpR op_eq (pe_call (ok_law_take T) (hr.mono (by decide)) rfl T.g_law_take T.F_law_take.kp T.b_law_take .nil pass0 (pa_cons (pv 0) (pa_cons pe_int pa_nil))) pe_int (nomark _)) (pv 2) (pe_callTy call_tuple_of (by rfl) T.z_tuple (by decide +kernel) (pa_cons (pv 2) pa_nil)))))), ?_⟩
    obtain ⟨a', ys, ea, hqa, _, hya⟩ := hd.lst_of
    injection ea with ea
    subst ea
    have n40 := ok.n40
    have lys := hya.len
    rw [List.length_map] at lys
    refine ⟨_, rfl, a, rfl, ⟨_, hqa.ext (wo_same H p)⟩, fun L hL => ?_⟩
    have nL : L ≠ p := (hb.ne hL).symm
    refine lc_list_box (K := K) (m := false) (p := p) (a := a) (c := c) (k := 1) (xs := ys) (fun j e => isSqD e = true ∧ ∃ row, D.st[j]? = some row ∧ itsD e = row.map enD) hqa hL hb (by omega) (fun j x H' R N hx k' eD b' kk => ?_) (fun H1 xs es k1 b1 eD ha le hg => ?_)
    · obtain ⟨d, hd', dx⟩ := hya.at j x hx
      obtain ⟨row, hrow, rfl⟩ : ∃ row, D.st[j]? = some row ∧ PyData.list (row.map enD) = d := by
        rw [List.getElem?_map] at hd'
        cases e : D.st[j]? with
        | none => rw [e] at hd'; cases hd'
        | some row => rw [e] at hd'; exact ⟨row, rfl, Option.some.inj hd'⟩
      obtain ⟨q, zs, rfl, hq, _, hz⟩ := dx.lst_of
      obtain ⟨l, el⟩ := eD
      have hj := (List.getElem?_eq_some_iff.mp hx).1
      refine ⟨rfl, tYesT ⟨_, rfl, p, _, 2, rfl, b', by omega, by omega, by omega, fun d2 o2 hd2 ho2 => ⟨rfl, _, rfl, ?_⟩⟩⟩
      have k2 : Kp p H' (upd H' p o2) := (Kp.refl p H').upd
      have b2 : BoxAt (upd H' p o2) p (c + 1 * (j + 1)) := ho2.at.mono (by omega)
      have e2 : (upd H' p o2) L = some (.lst l) := k2 _ _ nL el
      generalize upd H' p o2 = H2 at k2 b2 e2 ⊢
      have kH2 := k'.trans k2
      have hq2 : SqL K H2 q zs := (hq.ext kH2.wo).ext (wo_same H2 p)
      have hz2 := hz.ext kH2.wo
      refine ite2 (fun _ => ⟨_, rfl, q, zs, rfl, .inl hq2, fun u hu => ?_⟩) (fun _ => ⟨_, rfl, q, zs, rfl, .inl ⟨hq2, fun u hu => ?_⟩⟩)
      · have nu : u ≠ p := (b2.ne hu).symm
        have nuL : u ≠ L := fun z => by rw [z, e2] at hu; cases hu
        have k3 : Kp p H2 (upd H2 u (.lst zs)) := (Kp.refl p H2).new hu
        have el3 : (wo (upd H2 u (.lst zs)) p) L = some (.lst l) := by rw [wo_ne nL]; exact k3 _ _ nL e2
        exact kk _ (.list (row.map enD)) _ (k2.trans k3) (b2.new hu) (.lst (SqL.of (by rw [wo_ne nuL, wo_ne nu]; exact upd_same)) (fun z => by cases z) (dg_lfwoAll el3 _ _ (lfAll_map lf_enD _) (hz2.ext k3.wo))) ⟨rfl, row, hrow, rfl⟩
      · have nu : u ≠ p := (b2.ne hu).symm
        have nuL : u ≠ L := fun z => by rw [z, e2] at hu; cases hu
        have k3 : Kp p H2 (upd H2 u (.tup zs)) := (Kp.refl p H2).new hu
        have el3 : (wo (upd H2 u (.tup zs)) p) L = some (.lst l) := by rw [wo_ne nL]; exact k3 _ _ nL e2
        exact kk _ (.tuple (row.map enD)) _ (k2.trans k3) (b2.new hu) (.tup (SqT.of (by rw [wo_ne nuL, wo_ne nu]; exact upd_same)) (dg_lfwoAll el3 _ _ (lfAll_map lf_enD _) (hz2.ext k3.wo))) ⟨rfl, row, hrow, rfl⟩
    have hes : (∀ x ∈ es, isSqD x = true) ∧ es.map itsD = D.st.map (fun r => r.map enD) := by
      refine ⟨all_at fun j e he => (hg j e he).1, List.ext_getElem? fun j => ?_⟩
      rw [List.getElem?_map, List.getElem?_map]
      cases e : es[j]? with
      | none =>
        rw [List.getElem?_eq_none_iff] at e
        rw [List.getElem?_eq_none (by omega)]; rfl
      | some x =>
        obtain ⟨_, row, hrow, ex⟩ := hg j x e
        rw [hrow]
        exact congrArg some ex
    have ha' := own_list ha
    refine ⟨_, rfl, p, _, 2, rfl, b1, by omega, by omega, by omega, fun d2 o2 hd2 ho2 => ⟨rfl, _, rfl, ?_⟩⟩
    have k2 : Kp p H1 (upd H1 p o2) := (Kp.refl p H1).upd
    have b2 : BoxAt (upd H1 p o2) p (c + 50) := ho2.at.mono (by omega)
    have e2 := k2 _ _ nL eD
    have ha2 := ha'.ext k2.wo
    generalize upd H1 p o2 = H2 at k2 b2 e2 ha2 ⊢
    refine ite2 (fun _ => ⟨_, rfl, ?_⟩) (fun _ => ⟨_, rfl, L, xs, rfl, .inl ⟨SqL.of e2, fun u hu => ?_⟩⟩)
    · exact kQ _ (.list es) _ (k1.trans k2) b2 (.lst (SqL.of (by rw [wo_ne nL]; exact e2)) (fun z => by cases z) ha2) ⟨rfl, hes.1, hes.2⟩
    · have nu : u ≠ p := (b2.ne hu).symm
      have k3 : Kp p H2 (upd H2 u (.tup xs)) := (Kp.refl p H2).new hu
      exact kQ _ (.tuple es) _ ((k1.trans k2).trans k3) (b2.new hu) (.tup (SqT.of (by rw [wo_ne nu]; exact upd_same)) (ha2.ext k3.wo)) ⟨rfl, hes.1, hes.2⟩
def spMet (T : Txt K mg base) : Sp := fun vs H Q _ => ∃ (x1 x2 x3 : V) (d1 d2 d3 : PyData) (m1 m2 m3 : Bool), vs = [x1, x2, x3] ∧ Dg K H m1 x1 d1 ∧ Dg K H m2 x2 d2 ∧ Dg K H m3 x3 d3 ∧ d2.weight ≤ 100000 ∧ d3.weight ≤ 100000 ∧
  (isSg d1 = false → ∀ r H', Same H H' → H r = none → H' r = some (.lst [.str (Str.ofString "signs"), x1]) → Q (.ref r) H') ∧
  (isSg d1 = true → stepsB (numD d1) d2 = false → ∀ r H', Same H H' → H r = none → H' r = some (.lst [.str (Str.ofString "steps"), x2]) → Q (.ref r) H') ∧
  (isSg d1 = true → stepsB (numD d1) d2 = true → endsB ((itsD d2).length : Int) d3 = false → ∀ r H', Same H H' → H r = none → H' r = some (.lst [.str (Str.ofString "ends"), x3]) → Q (.ref r) H') ∧
  (∀ D, GoodD D d1 d2 d3 → ∀ r o H', Same H H' → H r = none → H' r = some (.lst [.str (Str.ofString "made"), .ref o]) → DecAt K T.C_Decoder H' o D → Q (.ref r) H')
theorem ok_law_met (T : Txt K mg base) : FnOk P w K mg base CX0 9 T.f_law_met T.fd_law_met ["signs", "steps", "ends"] (spMet T) := by
  refine T.F_law_met.ok sc_law_met (fun vs H Q E h => ?_) (fun cdv A outer s0 H vs Q E hr h => ?_)
  · obtain ⟨x1, x2, x3, d1, d2, d3, m1, m2, m3, rfl, _⟩ := h; rfl
  · obtain ⟨x1, x2, x3, d1, d2, d3, m1, m2, m3, rfl, h1, h2, h3, w2, w3, kA, kB, kC, kG⟩ := h
    refine ⟨_, (pss_one (ps_tryAll (i := 3) rfl rfl sc_law_met.nd rfl rfl takes0 (fun W pn xe tk _ => (pss_one (ps_ret (pe_lst (pa_cons pe_str (pa_cons (pe_makeS T.mk_Decoder (ok_Decoder_init T) (hr.mono (by decide)) rfl T.g_Decoder T.b_Decoder_init .nil (fun σ => passAt tk σ) (pa_cons (pv 0) (pa_cons (pv 1) (pa_cons (pv 2) pa_nil)))) pa_nil)))))) (.more ⟨rfl, by decide, Or.inl T.e_InvalidSigns.gC⟩ (fun a oe cls d pn hz hf => (pss_one (ps_ret (pe_lst (pa_cons pe_str (pa_cons (pe_gvn T.e_InvalidSigns hz hf (pv 3)) pa_nil)))))) (.more ⟨rfl, by decide, Or.inl T.e_InvalidSteps.gC⟩ (fun a oe cls d pn hz hf => (pss_one (ps_ret (pe_lst (pa_cons pe_str (pa_cons (pe_gvn T.e_InvalidSteps hz hf (pv 3)) pa_nil)))))) (.more ⟨rfl, by decide, Or.inl T.e_InvalidEnds.gC⟩ (fun a oe cls d pn hz hf => (pss_one (ps_ret (pe_lst (pa_cons pe_str (pa_cons (pe_gvn T.e_InvalidEnds hz hf (pv 3)) pa_nil)))))) .last))))), ?_⟩
    have two : 2 ≤ sizeLine := by decide
    refine ⟨_, rfl, _, rfl, _, rfl, fun x dx hx hdx ne => ?_⟩
    refine ⟨x, dx, x1, x2, x3, d1, d2, d3, m1, m2, m3, rfl, upd_same, made_dw hx hdx h1, made_dw hx hdx h2, made_dw hx hdx h3, w2, w3, ?_⟩
    have sm : Same H (upd (upd H dx (.own x)) x (.ins T.C_Decoder dx [])) := made_same hx hdx (Kp.refl _ _)
    cases c1 : isSg d1 with
    | false =>
      refine .inl ⟨rfl, fun dd H1 s1 hdn ed => ?_⟩
      refine ⟨true, T.x_InvalidSigns, fun _ a ha => ⟨_, rfl, rfl, rfl, dd, _, rfl, ed, two, fun r hr => ?_⟩, fun z => by cases z⟩
      have s := sm.trans s1
      exact kA c1 r _ (s.trans (Same.new (Same.refl _) hr)) (s.free hr) upd_same
    | true =>
    cases c2 : stepsB (numD d1) d2 with
    | false =>
      refine .inr (.inl ⟨rfl, rfl, fun dd H1 s1 hdn ed => ?_⟩)
      refine ⟨false, T.no_InvalidSteps_InvalidSigns, (fun z => by cases z), fun _ => ⟨true, T.x_InvalidSteps, fun _ a ha => ⟨_, rfl, rfl, rfl, dd, _, rfl, ed, two, fun r hr => ?_⟩, fun z => by cases z⟩⟩
      have s := sm.trans s1
      exact kB c1 c2 r _ (s.trans (Same.new (Same.refl _) hr)) (s.free hr) upd_same
    | true =>
    cases c3 : endsB ((itsD d2).length : Int) d3 with
    | false =>
      refine .inr (.inr (.inl ⟨rfl, rfl, rfl, fun dd H1 s1 hdn ed => ?_⟩))
      refine ⟨false, T.no_InvalidEnds_InvalidSigns, (fun z => by cases z), fun _ => ⟨false, T.no_InvalidEnds_InvalidSteps, (fun z => by cases z), fun _ => ⟨true, T.x_InvalidEnds, fun _ a ha => ⟨_, rfl, rfl, rfl, dd, _, rfl, ed, two, fun r hr => ?_⟩, fun z => by cases z⟩⟩⟩
      have s := sm.trans s1
      exact kC c1 c2 c3 r _ (s.trans (Same.new (Same.refl _) hr)) (s.free hr) upd_same
    | true =>
      obtain ⟨D, g⟩ := good_of c1 c2 c3
      refine .inr (.inr (.inr ⟨D, g, fun H1 k1 dec => ⟨rfl, two, fun r hr => ?_⟩⟩))
      have s1 : Same H H1 := made_same hx hdx k1
      have s2 : Same H1 (upd H1 r (.lst [.str (Str.ofString "made"), .ref x])) := Same.new (Same.refl _) hr
      exact kG D g r x _ (s1.trans s2) (s1.free hr) upd_same (dec.ext s2)
end
end My

set_option Elab.async false
set_option linter.all false
set_option maxRecDepth 100000
set_option maxHeartbeats 8000000
namespace My
open PySem PySem.Spec PyProof.Rows L2
abbrev Wd := Option (List Nat)
def okE2 (e : Wd) : Prop := ∀ w, e = some w → okW w
section
variable {P : Program} {w : World} {K : PySem.W.Frag} {mg : Str → Option Value} {base : Heap}
theorem ok_law_other_word (T : Txt K mg base) : FnOk P w K mg base CX0 2 T.f_law_other_word T.fd_law_other_word ["box", "word"] (fun vs H Q _ => ∃ (p : Addr) (c : Nat) (e : Wd), vs = [.ref p, wdV e] ∧ BoxAt H p c ∧ c < 10000000 ∧ okE2 e ∧ ∀ e' H', Kp p H H' → BoxAt H' p (c + 1) → okE2 e' → e' ≠ e → Q (wdV e') H') := by
  refine T.F_law_other_word.ok sc_law_other_word (fun vs H Q E h => ?_) (fun cdv A outer s H vs Q E hr h => ?_)
  · obtain ⟨p, c, e, rfl, _⟩ := h; rfl
  · obtain ⟨p, c, e, rfl, hb, hc, oe, kQ⟩ := h
    refine ⟨_, (pss_cons (ps_if (pt_cmp (pc_isN (pv 1))) (pss_one (ps_ret (pe_ix ix_list (pe_lst (pa_cons pe_str (pa_cons pe_str pa_nil))) (pe_call (ok_law_take T) (hr.mono (by decide)) rfl T.g_law_take T.F_law_take.kp T.b_law_take .nil pass0 (pa_cons (pv 0) (pa_cons pe_int pa_nil))) (fun _ _ => rfl)))) pss_nil)
      (pss_cons (ps_set (i := 2) sc_law_other_word.nd rfl (Or.inl rfl) (pe_ifExp (pt_cmpR op_lt (pe_callB call_len_str (by rfl) T.z_len (by decide +kernel) (pa_cons (pv 1) pa_nil)) pe_int (nomark _)) (pe_lst (pa_cons (pe_op op_add_str (pv 1) pe_str) pa_nil)) (pe_lst (pa_cons (pe_slice sl_str (pv 1) po_none (po_some pe_int)) (pa_cons (pe_ifExp (pt_cmpR op_ne (pe_ix ix_str (pv 1) pe_int (fun _ _ => rfl)) pe_str (nomark _)) (pe_op op_add_str pe_str (pe_slice sl_str (pv 1) po_none (po_some pe_int))) (pe_op op_add_str pe_str (pe_slice sl_str (pv 1) po_none (po_some pe_int)))) pa_nil)))))
      (pss_cons (ps_set (i := 2) sc_law_other_word.nd rfl (Or.inl rfl) (pe_ifExp (pt_cmpR op_ne (pv 1) pe_str (nomark _)) (pe_op op_cat (pv 2) (pe_lst (pa_cons (pe_slice sl_str (pv 1) po_none (po_some (pe_un un_neg pe_int))) (pa_cons pe_non pa_nil)))) (pe_op op_cat (pv 2) (pe_lst (pa_cons pe_non pa_nil)))))
      (pss_one (ps_ret (pe_ix ix_list (pv 2) (pe_call (ok_law_take T) (hr.mono (by decide)) rfl T.g_law_take T.F_law_take.kp T.b_law_take .nil pass0 (pa_cons (pv 0) (pa_cons (pe_callB call_len_seq (by rfl) T.z_len (by decide +kernel) (pa_cons (pv 2) pa_nil)) pa_nil))) (fun _ _ => rfl))))))), ?_⟩
    have two : 2 ≤ sizeLine := by decide
    have one : 1 ≤ sizeLine := by decide
    have pick : ∀ (M : Addr) (H1 : Hp) (ms : List Wd) (d : Nat) (o : HO), Kp p H H1 → BoxAt H1 p c → H1 M = some (.lst (ms.map wdV)) → d < ms.length → BoxO (c + 1) o → (∀ x ∈ ms, okE2 x ∧ x ≠ e) → M ≠ p → rIxL K (.ref M) (.int (d : Nat)) (upd H1 p o) Q := fun M H1 ms d o k1 b1 e1 hd ho hms nM => by
      have hx : ms[d]? = some ms[d] := List.getElem?_eq_getElem hd
      obtain ⟨o1, o2⟩ := hms _ (List.mem_of_getElem? hx)
      exact ⟨M, _, (d : Int), wdV ms[d], rfl, rfl, SqL.of (by rw [upd_ne nM]; exact e1), atI_nat (by rw [List.getElem?_map, hx]; rfl), kQ _ _ (k1.upd) ho.at o1 o2⟩
    have a97 : Str.ofString "a" = S [97] := by decide +kernel
    have z122 : Str.ofString "z" = S [122] := by decide +kernel
    cases e with
    | none =>
      refine ⟨_, rfl, _, rfl, iteT ⟨two, fun M hM => ⟨_, rfl, p, c, 2, rfl, hb.new hM, by omega, by omega, by omega, fun d o hd ho => ?_⟩⟩⟩
      refine pick M _ [some [], some [97]] d o ((Kp.refl p H).new hM) (hb.new hM) (by rw [upd_same, str_nil, a97]; rfl) (by show d < 2; omega) ho (fun x hx => ?_) (hb.ne hM).symm
      simp only [List.mem_cons, List.not_mem_nil, or_false] at hx
      rcases hx with rfl | rfl
      · exact ⟨fun w e => by injection e with e; rw [← e]; exact ⟨Low.nil, by simp⟩, fun z => by cases z⟩
      · exact ⟨fun w e => by injection e with e; rw [← e]; exact ⟨Low.one (by decide), by simp⟩, fun z => by cases z⟩
    | some w =>
      have ow : okW w := oe w rfl
      have lw : (S w).length ≤ sizeLine := by rw [S_len]; exact Nat.le_trans ow.2 (by decide)
      refine ⟨_, rfl, _, rfl, iteF ?_⟩
      dsimp only [L2.tNext]
      refine seq2 (fun v H' => ∃ M ms, v = .ref M ∧ Kp p H H' ∧ BoxAt H' p c ∧ H' M = some (.lst (List.map wdV ms)) ∧ M ≠ p ∧ 1 ≤ ms.length ∧ ms.length ≤ 2 ∧ ∀ x ∈ ms, okE2 x ∧ x ≠ some w) (fun Q' q => ?_) (fun v H1 ⟨M, ms, ev, k1, b1, e1, nM, l1, l2, hms⟩ => ?_)
      · refine ⟨_, rfl, _, rfl, lw, _, _, rfl, rfl, _, rfl, ?_⟩
        rw [S_len]
        refine ite2 (fun c3 => ?_) (fun c3 => ?_)
        · have c3 := of_decide_eq_true c3
          refine ⟨_, rfl, _, _, rfl, rfl, ?_, one, fun M hM => ?_⟩
          · rw [S_len, show (Str.ofString "a").length = 1 by decide +kernel]; exact Nat.le_trans (show w.length + 1 ≤ 4 by omega) (by decide)
          · rw [a97, S_app]
            refine q _ _ ⟨M, [some (w ++ [97])], rfl, (Kp.refl p H).new hM, hb.new hM, upd_same, (hb.ne hM).symm, Nat.le_refl _, by simp, fun x hx => ?_⟩
            rw [List.mem_singleton.mp hx]
            refine ⟨fun w' e => by injection e with e; rw [← e]; exact ⟨Low.append ow.1 (Low.one (by decide)), by rw [List.length_append]; simp; omega⟩, fun z => ?_⟩
            injection z with z
            have := congrArg List.length z
            rw [List.length_append] at this
            simp at this
        · have c3' : ¬ ((w.length : Nat) : Int) < 3 := fun z => c3 (decide_eq_true z)
          have o2 := ow.2
          match w, ow, lw, c3', q, o2 with
          | [], _, _, c3', _, _ => simp at c3'
          | [_], _, _, c3', _, _ => simp at c3'
          | [_, _], _, _, c3', _, _ => simp at c3'
          | [a, b, g], ow, lw, _, q, _ =>
            have ct : cutS (S [a, b, g]) none (some 2) = S [a, b] := cut_to [a, b, g] 2
            have lo : ∀ x, x ∈ [a, b] → low x = true := fun x hx => ow.1 x (by simp at hx ⊢; rcases hx with rfl | rfl <;> simp)
            have okab : okW [a, b] := ⟨lo, by simp⟩
            have lz : ∀ u : List Nat, u.length = 1 → (S u).length + (S [a, b]).length ≤ sizeLine := fun u hu => by rw [S_len, S_len, hu]; exact (show 3 ≤ sizeLine by decide)
            have fin : ∀ h : Nat, low h = true → h ≠ a → ∀ M, H M = none → Q' (.ref M) (upd H M (.lst [.str (S [a, b]), .str (S (h :: [a, b]))])) := fun h lh nh M hM => by
              refine q _ _ ⟨M, [some [a, b], some (h :: [a, b])], rfl, (Kp.refl p H).new hM, hb.new hM, upd_same, (hb.ne hM).symm, by simp, by simp, fun x hx => ?_⟩
              simp only [List.mem_cons, List.not_mem_nil, or_false] at hx
              rcases hx with rfl | rfl
              · exact ⟨fun w' e => by injection e with e; rw [← e]; exact okab, fun z => by simp at z⟩
              · exact ⟨fun w' e => by injection e with e; rw [← e]; exact ⟨fun x hx => by rcases List.mem_cons.mp hx with z | z; (rw [z]; exact lh); exact lo x z, by simp⟩, fun z => by simp at z; exact nh z.1⟩
            refine ⟨_, rfl, 2, rfl, _, rfl, lw, ?_⟩
            rw [ct]
            refine ⟨_, rfl, _, _, _, rfl, rfl, lw, (atI_nat (j := 0) (v := a) rfl), rfl, _, rfl, ?_⟩
            rw [z122, show decide (V.str ({ cps := #[a] } : Str) = V.str (S [122])) = decide ([a] = [122]) from S_eqV [a] [122]]
            by_cases ha : a = 122
            · rw [decide_eq_true (by rw [ha])]
              refine iteF ⟨_, rfl, 2, rfl, _, rfl, lw, ?_⟩
              rw [ct]
              refine ⟨_, _, rfl, rfl, ?_, two, fun M hM => ?_⟩
              · rw [a97]; exact lz _ rfl
              · rw [a97, S_app]
                exact fin 97 (by decide) (by omega) M hM
            · rw [decide_eq_false (fun z => ha (by injection z))]
              refine iteT ⟨_, rfl, 2, rfl, _, rfl, lw, ?_⟩
              rw [ct]
              refine ⟨_, _, rfl, rfl, ?_, two, fun M hM => ?_⟩
              · exact lz _ rfl
              · rw [S_app]
                exact fin 122 (by decide) (fun z => ha z.symm) M hM
      subst ev
      dsimp only [L2.gName]
      refine seq2 (fun v H' => ∃ M ms, v = .ref M ∧ Kp p H H' ∧ BoxAt H' p c ∧ H' M = some (.lst (List.map wdV ms)) ∧ M ≠ p ∧ 1 ≤ ms.length ∧ ms.length ≤ 4 ∧ ∀ x ∈ ms, okE2 x ∧ x ≠ some w) (fun Q' q => ?_) (fun v H2 ⟨M2, ms2, ev, k2, b2, e2, nM2, l21, l22, hms2⟩ => ?_)
      · have big : ∀ a b : Nat, a ≤ 2 → b ≤ 2 → a + b ≤ sizeLine := fun a b h1 h2 => Nat.le_trans (show a + b ≤ 4 by omega) (by decide)
        have cat : ∀ (ns : List Wd) (N : Addr), H1 N = none → ns.length ≤ 2 → (∀ x ∈ ns, okE2 x ∧ x ≠ some w) → rCat (.ref M) (.ref N) (upd H1 N (.lst (ns.map wdV))) Q' := fun ns N hN ln hns => by
          have nN : N ≠ M := fun z => by rw [z, e1] at hN; cases hN
          refine ⟨M, N, ms.map wdV, ns.map wdV, rfl, rfl, by rw [upd_ne nN.symm]; exact e1, upd_same, by rw [List.length_map, List.length_map]; exact big _ _ l2 ln, fun R hR => ?_⟩
          have kR : Kp p H (upd (upd H1 N (.lst (ns.map wdV))) R (.lst (ms.map wdV ++ ns.map wdV))) := (k1.new hN).new hR
          have bR := (b1.new hN (o := .lst (ns.map wdV))).new hR (o := .lst (ms.map wdV ++ ns.map wdV))
          refine q _ _ ⟨R, ms ++ ns, rfl, kR, bR, by rw [upd_same, List.map_append], ((b1.new hN).ne hR).symm, by rw [List.length_append]; omega, by rw [List.length_append]; omega, fun x hx => ?_⟩
          rcases List.mem_append.mp hx with z | z
          · exact hms x z
          · exact hns x z
        refine ⟨_, rfl, rfl, _, rfl, ?_⟩
        rw [str_nil, show decide (wdV (some w) = V.str (S [])) = decide (w = []) from S_eqV w []]
        by_cases h0 : w = []
        · rw [decide_eq_true h0]
          refine iteF ⟨_, rfl, one, fun N hN => cat [none] N hN (by simp) fun x hx => ?_⟩
          rw [List.mem_singleton.mp hx]
          exact ⟨fun w e => by (cases e), fun z => by cases z⟩
        · rw [decide_eq_false h0]
          refine iteT ⟨_, rfl, _, rfl, 1, rfl, -1, rfl, _, rfl, lw, two, fun N hN => ?_⟩
          rw [cut_last]
          refine cat [some w.dropLast, none] N hN (by simp) fun x hx => ?_
          simp only [List.mem_cons, List.not_mem_nil, or_false] at hx
          rcases hx with rfl | rfl
          · refine ⟨fun w' e => by injection e with e; rw [← e]; exact ⟨fun x hx => ow.1 x (List.dropLast_subset _ hx), by rw [List.length_dropLast]; have := ow.2; omega⟩, fun z => ?_⟩
            injection z with z
            have := congrArg List.length z
            rw [List.length_dropLast] at this
            have := List.length_pos_iff.mpr h0
            omega
          · exact ⟨fun w e => by (cases e), fun z => by cases z⟩
      subst ev
      dsimp only [L2.gName]
      have lm : (ms2.map wdV).length = ms2.length := List.length_map _
      refine ⟨_, rfl, _, rfl, _, rfl, M2, _, rfl, .inl (SqL.of e2), p, c, (ms2.length : Int), congrArg (fun z : Nat => [V.ref p, V.int (z : Int)]) lm, b2, by omega, by omega, by omega, fun d o hd ho => ?_⟩
      exact pick M2 H2 ms2 d o k2 b2 e2 (by omega) ho hms2 nM2
end
end My

set_option Elab.async false
set_option linter.all false
set_option maxRecDepth 100000
set_option maxHeartbeats 8000000
namespace My
open PySem PySem.Spec PyProof.Rows L2
theorem parts_new {K : PySem.W.Frag} {p R W l : Addr} {H : Hp} {qs : List Addr} {st : List (List Ent)} {en : List (Option (List Nat))} {sg n : Nat} (hR : RowsL K p H R qs st) (hW : WrdL K p H W en) (hb : BoxAt H p n) (hl : H l = none) (ok : (Dcd.mk sg st en).ok) :
    PartsAt K p (L2.upd H l (.lst [.int (sg : Nat), .ref R, .ref W])) l ⟨sg, st, en⟩ := by
  have nl : l ≠ p := (hb.ne hl).symm
  have k : Kp p H (L2.upd H l (.lst [.int (sg : Nat), .ref R, .ref W])) := (Kp.refl p H).new hl
  exact ⟨R, W, SqL.of (by rw [wo_ne nl]; exact upd_same), (hR.dgw hb).ext k.wo, (hW.dgw hb).ext k.wo, ok⟩
theorem dg_wdV {K : PySem.W.Frag} {H : Hp} {m : Bool} {v : V} {e : Option (List Nat)} (h : Dg K H m v (wdD e)) : v = wdV e := by
  cases e with
  | none => cases h; rfl
  | some w => cases h; rfl
theorem ok_st {D : Dcd} (ok : D.ok) {j a : Nat} {r : List Ent} {e : Ent} (hr : D.st[j]? = some r) (oe : okE D.st.length e) : (Dcd.mk D.sg (D.st.set j (r.set a e)) D.en).ok := by
  refine ⟨ok.s1, ok.s5, by show 1 ≤ (D.st.set j _).length; rw [List.length_set]; exact ok.n1, by show (D.st.set j _).length ≤ 40; rw [List.length_set]; exact ok.n40, fun q hq => ?_, by show D.en.length = (D.st.set j _).length; rw [List.length_set]; exact ok.ends, ok.words⟩
  show q.length = D.sg ∧ ∀ e ∈ q, okE (D.st.set j _).length e
  rw [List.length_set]
  rcases List.mem_or_eq_of_mem_set hq with z | z
  · exact ok.rows q z
  · obtain ⟨l, o⟩ := ok.rows r (List.mem_of_getElem? hr)
    rw [z]
    refine ⟨by rw [List.length_set]; exact l, fun x hx => ?_⟩
    rcases List.mem_or_eq_of_mem_set hx with y | y
    · exact o x y
    · rw [y]; exact oe
theorem ne_st {D : Dcd} {j a : Nat} {r : List Ent} {e : Ent} (hr : D.st[j]? = some r) (ha : a < r.length) (ne : r[a]? ≠ some e) : (Dcd.mk D.sg (D.st.set j (r.set a e)) D.en) ≠ D := fun z => by
  have z2 : D.st.set j (r.set a e) = D.st := congrArg Dcd.st z
  have hj := (List.getElem?_eq_some_iff.mp hr).1
  have z3 : (D.st.set j (r.set a e))[j]? = D.st[j]? := by rw [z2]
  rw [List.getElem?_set_self hj, hr] at z3
  injection z3 with z3
  have z4 : (r.set a e)[a]? = r[a]? := by rw [z3]
  rw [List.getElem?_set_self ha] at z4
  exact ne z4.symm
theorem ok_en {D : Dcd} (ok : D.ok) {j : Nat} {e : Wd} (oe : okE2 e) : (Dcd.mk D.sg D.st (D.en.set j e)).ok := by
  refine ⟨ok.s1, ok.s5, ok.n1, ok.n40, ok.rows, by show (D.en.set j e).length = D.st.length; rw [List.length_set]; exact ok.ends, fun x hx => ?_⟩
  rcases List.mem_or_eq_of_mem_set hx with y | y
  · exact ok.words x y
  · rw [y]; exact oe
theorem ne_en {D : Dcd} {j : Nat} {e e0 : Wd} (h0 : D.en[j]? = some e0) (ne : e ≠ e0) : (Dcd.mk D.sg D.st (D.en.set j e)) ≠ D := fun z => by
  have z2 : D.en.set j e = D.en := congrArg Dcd.en z
  have hj := (List.getElem?_eq_some_iff.mp h0).1
  have z3 : (D.en.set j e)[j]? = D.en[j]? := by rw [z2]
  rw [List.getElem?_set_self hj, h0] at z3
  injection z3 with z3
  exact ne z3
section
variable {P : Program} {w : World} {K : PySem.W.Frag} {mg : Str → Option Value} {base : Heap}
theorem ok_law_changed (T : Txt K mg base) : FnOk P w K mg base CX0 5 T.f_law_changed T.fd_law_changed ["box", "parts"] (fun vs H Q _ => ∃ (p r : Addr) (c : Nat) (D : Dcd), vs = [.ref p, .ref r] ∧ BoxAt H p c ∧ c < 1000000 ∧ PartsAt K p H r D ∧ D.st.length ≤ 39 ∧ ∀ r' D' H', Kp p H H' → BoxAt H' p (c + 100) → PartsAt K p H' r' D' → D' ≠ D → Q (.ref r') H') := by
  refine T.F_law_changed.ok sc_law_changed (fun vs H Q E h => ?_) (fun cdv A outer s H vs Q E hr h => ?_)
  · obtain ⟨p, r, c, D, rfl, _⟩ := h; rfl
  · obtain ⟨p, r, c, D, rfl, hb, hc, ⟨Sa, Ea, hS, hdS, hdE, ok⟩, l39, kQ⟩ := h
    refine ⟨_, (pss_cons (ps_asg (pv 1) (pg_lst rfl (pgs_cons (pg_name (i := 2) sc_law_changed.nd rfl (Or.inl rfl)) (pgs_cons (pg_name (i := 3) sc_law_changed.nd rfl (Or.inl rfl)) (pgs_cons (pg_name (i := 4) sc_law_changed.nd rfl (Or.inl rfl)) pgs_nil)))))
      (pss_cons (ps_asg (pe_tup (pa_cons (pe_lc (own := [("row", 9)]) (g := gName 9) (by rfl) sc_law_changed.nd (pi_list (pv 3)) (blkOk_by (own := [("row", 9)]) (N := N_law_changed) (sc := defScope s_law_changed) (by decide +kernel)) (fun _ _ _ _ _ => pg_name (i := 9) sc_law_changed.nd rfl (Or.inl rfl)) (fun _ _ _ _ _ => pts_nil) (fun _ _ _ _ _ => (pe_callTy (call_list_of_K (K := K) rfl) (by rfl) T.z_list (by decide +kernel) (pa_cons (pv 9) pa_nil)))) (pa_cons (pe_callTy call_list_of (by rfl) T.z_list (by decide +kernel) (pa_cons (pv 4) pa_nil)) (pa_cons (pe_call (ok_law_take T) (hr.mono (by decide)) rfl T.g_law_take T.F_law_take.kp T.b_law_take .nil pass0 (pa_cons (pv 0) (pa_cons (pe_callB call_len_seq (by rfl) T.z_len (by decide +kernel) (pa_cons (pv 3) pa_nil)) pa_nil))) (pa_cons (pe_call (ok_law_take T) (hr.mono (by decide)) rfl T.g_law_take T.F_law_take.kp T.b_law_take .nil pass0 (pa_cons (pv 0) (pa_cons (pv 2) pa_nil))) pa_nil))))) (pg_tup rfl (pgs_cons (pg_name (i := 5) sc_law_changed.nd rfl (Or.inl rfl)) (pgs_cons (pg_name (i := 6) sc_law_changed.nd rfl (Or.inl rfl)) (pgs_cons (pg_name (i := 7) sc_law_changed.nd rfl (Or.inl rfl)) (pgs_cons (pg_name (i := 8) sc_law_changed.nd rfl (Or.inl rfl)) pgs_nil))))))
      (pss_cons (ps_par (i := 10) (j := 11) (by rfl) sc_law_changed.nd rfl rfl (by decide) rfl rfl (pa_cons (pe_call (ok_law_take T) (hr.mono (by decide)) rfl T.g_law_take T.F_law_take.kp T.b_law_take .nil pass0 (pa_cons (pv 0) (pa_cons pe_int pa_nil))) (pa_cons (pe_ix ix_list (pe_ix ix_list (pv 5) (pv 7) (fun _ _ => rfl)) (pv 8) (fun _ _ => rfl)) pa_nil)) (by rfl))
      (pss_cons (ps_if (pt_cmpR op_eq (pv 10) pe_int (nomark _)) (pss_one (ps_asg (pe_call (ok_law_other_word T) (hr.mono (by decide)) rfl T.g_law_other_word T.F_law_other_word.kp T.b_law_other_word .nil pass0 (pa_cons (pv 0) (pa_cons (pe_ix ix_list (pv 6) (pv 7) (fun _ _ => rfl)) pa_nil))) (pg_sub (pv 6) (pv 7) set_list))) (pss_one (ps_if (pt_cmpR op_eq (pv 10) pe_int (nomark _)) (pss_one (ps_ret (pe_lst (pa_cons (pv 2) (pa_cons (pe_op op_cat (pv 5) (pe_lst (pa_cons (pe_call (ok_law_row T) (hr.mono (by decide)) rfl T.g_law_row T.F_law_row.kp T.b_law_row .nil pass0 (pa_cons (pv 0) (pa_cons (pv 2) (pa_cons (pe_op op_add (pe_callB call_len_seq (by rfl) T.z_len (by decide +kernel) (pa_cons (pv 3) pa_nil)) pe_int) pa_nil)))) pa_nil))) (pa_cons (pe_op op_cat (pv 6) (pe_lst (pa_cons (pe_call (ok_law_end T) (hr.mono (by decide)) rfl T.g_law_end T.F_law_end.kp T.b_law_end .nil pass0 (pa_cons (pv 0) pa_nil)) pa_nil))) pa_nil)))))) (pss_one (ps_if (pt_cmp (pc_isN (pv 11))) (pss_one (ps_asg (pe_tup (pa_cons (pe_call (ok_law_take T) (hr.mono (by decide)) rfl T.g_law_take T.F_law_take.kp T.b_law_take .nil pass0 (pa_cons (pv 0) (pa_cons (pe_callB call_len_seq (by rfl) T.z_len (by decide +kernel) (pa_cons (pv 3) pa_nil)) pa_nil))) (pa_cons (pe_call (ok_law_word T) (hr.mono (by decide)) rfl T.g_law_word T.F_law_word.kp T.b_law_word .nil pass0 (pa_cons (pv 0) pa_nil)) pa_nil))) (pg_sub (pe_ix ix_list (pv 5) (pv 7) (fun _ _ => rfl)) (pv 8) set_list))) (pss_one (ps_if (PW.pt (pw_and (pt_cmpR op_eq (pv 10) pe_int (nomark _)) (pw_and1 (pt_cmpR op_gt (pe_callB call_len_seq (by rfl) T.z_len (by decide +kernel) (pa_cons (pv 3) pa_nil)) pe_int (nomark _))))) (pss_one (ps_asg (pe_tup (pa_cons (pe_op op_mod (pe_callTy call_int1 (by rfl) T.z_int (by decide +kernel) (pa_cons (pe_op op_add (pe_op op_add (pe_ix ix_tup (pv 11) pe_int (fun _ _ => rfl)) pe_int) (pe_call (ok_law_take T) (hr.mono (by decide)) rfl T.g_law_take T.F_law_take.kp T.b_law_take .nil pass0 (pa_cons (pv 0) (pa_cons (pe_op op_sub (pe_callB call_len_seq (by rfl) T.z_len (by decide +kernel) (pa_cons (pv 3) pa_nil)) pe_int) pa_nil)))) pa_nil)) (pe_callB call_len_seq (by rfl) T.z_len (by decide +kernel) (pa_cons (pv 3) pa_nil))) (pa_cons (pe_ix ix_tup (pv 11) pe_int (fun _ _ => rfl)) pa_nil))) (pg_sub (pe_ix ix_list (pv 5) (pv 7) (fun _ _ => rfl)) (pv 8) set_list))) (pss_cons (ps_set (i := 12) sc_law_changed.nd rfl (Or.inl rfl) (pe_call (ok_law_other_word T) (hr.mono (by decide)) rfl T.g_law_other_word T.F_law_other_word.kp T.b_law_other_word .nil pass0 (pa_cons (pv 0) (pa_cons (pe_ix ix_tup (pv 11) pe_int (fun _ _ => rfl)) pa_nil))))
      (pss_one (ps_asg (pe_ifExp (pt_cmp (pc_isN (pv 12))) pe_non (pe_tup (pa_cons (pe_ix ix_tup (pv 11) pe_int (fun _ _ => rfl)) (pa_cons (pv 12) pa_nil)))) (pg_sub (pe_ix ix_list (pv 5) (pv 7) (fun _ _ => rfl)) (pv 8) set_list)))))))))))
      (pss_one (ps_ret (pe_lst (pa_cons (pv 2) (pa_cons (pv 5) (pa_cons (pv 6) pa_nil)))))))))), ?_⟩
    have hS' : SqL K H r _ := hS.ext (wo_same H p)
    obtain ⟨Sa', ys, eSa, hqS, _, hyS⟩ := hdS.lst_of
    injection eSa with eSa
    subst eSa
    obtain ⟨Ea', zs, eEa, hqE, _, hzE⟩ := hdE.lst_of
    injection eEa with eEa
    subst eEa
    refine ⟨_, rfl, r, _, rfl, hS', rfl, _, _, rfl, _, _, rfl, _, _, rfl, rfl, ?_⟩
    have n40 := ok.n40
    have n1 := ok.n1
    have sg1 := ok.s1
    have sg5 := ok.s5
    have lys := hyS.len
    rw [List.length_map] at lys
    have two : 2 ≤ sizeLine := by decide
    have three : 3 ≤ sizeLine := by decide
    have four : 4 ≤ sizeLine := by decide
    have one : 1 ≤ sizeLine := by decide
    dsimp only [L2.tNext, L2.tSeq, L2.tAsg, L2.tTup, L2.tCons]
    refine rows_copy (K := K) (p := p) (a := Sa) (ys := ys) (st := D.st) (i := 9) (fun a ys H R hS h => ⟨a, ys, rfl, .inl hS, h⟩) (fun R h => ⟨_, rfl, h⟩) (hqS.ext (wo_same H p)) hyS (by omega) hb.some (fun _ => rfl) (fun _ => rfl) (fun R qs H1 s1 hR0 hq0 hR => ?_)
    have b1 := hb.same s1
    refine ⟨_, rfl, Ea, zs, rfl, .inl ((hqE.ext (wo_same H p)).ext s1), fun W hW0 => ?_⟩
    have nW : W ≠ p := (b1.ne hW0).symm
    have hW0H : H W = none := s1.free hW0
    have s2 : Same H1 (upd H1 W (.lst zs)) := Same.new (Same.refl _) hW0
    have hWL : WrdL K p (upd H1 W (.lst zs)) W D.en := ⟨nW, zs, upd_same, (hzE.ext (wo_same H p)).ext (s1.trans s2)⟩
    have hR2 := hR.ext s2
    have nRW : R ≠ W := fun z => by rw [← z, hR.e] at hW0; cases hW0
    have nqW : W ∉ qs := fun z => by
      obtain ⟨i, hi⟩ := List.getElem?_of_mem z
      have li := (List.getElem?_eq_some_iff.mp hi).1
      have l2 := hR.len
      obtain ⟨xs, e, _⟩ := hR.row i W _ hi (List.getElem?_eq_getElem (by omega))
      rw [hW0] at e; cases e
    have b2 := b1.same s2
    have s02 := s1.trans s2
    generalize upd H1 W (.lst zs) = H2 at s2 hWL hR2 b2 s02 ⊢
    refine ⟨_, rfl, _, rfl, Sa, ys, rfl, .inl ((hqS.ext (wo_same H p)).ext s02), p, c, (ys.length : Int), rfl, b2, by omega, by omega, by omega, fun at_ o3 hat ho3 => ⟨_, rfl, _, rfl, p, _, (D.sg : Int), rfl, ho3.at, by omega, by omega, by omega, fun a o4 ha ho4 => ⟨four, fun t ht => ⟨t, _, rfl, SqT.of upd_same, rfl, _, _, rfl, _, _, rfl, _, _, rfl, _, _, rfl, rfl, ?_⟩⟩⟩⟩
    have hat' : at_ < D.st.length := by omega
    have ha' : a < D.sg := by omega
    have k3 : Kp p H2 (upd (upd (upd H2 p o3) p o4) t (.tup [.ref R, .ref W, .int (at_ : Nat), .int (a : Nat)])) := (((Kp.refl p H2).upd).upd).new ht
    have b3 : BoxAt (upd (upd (upd H2 p o3) p o4) t (.tup [.ref R, .ref W, .int (at_ : Nat), .int (a : Nat)])) p (c + 2) := (ho4.at).new ht
    have hR3 := hR2.box b2 k3
    have hW3 := hWL.box b2 k3
    have k03 : Kp p H _ := (Kp.of s02).trans k3
    generalize upd (upd (upd H2 p o3) p o4) t (.tup [.ref R, .ref W, .int (at_ : Nat), .int (a : Nat)]) = H3 at k03 b3 hR3 hW3 ⊢
    obtain ⟨row, hrow⟩ : ∃ row, D.st[at_]? = some row := ⟨_, List.getElem?_eq_getElem hat'⟩
    obtain ⟨lrow, orow⟩ := ok.rows row (List.mem_of_getElem? hrow)
    obtain ⟨q, hq⟩ : ∃ q, qs[at_]? = some q := ⟨_, List.getElem?_eq_getElem (by rw [hR3.len]; exact hat')⟩
    obtain ⟨e, he⟩ : ∃ e, row[a]? = some e := ⟨_, List.getElem?_eq_getElem (by omega)⟩
    have oe := orow e (List.mem_of_getElem? he)
    -- way, entry
    refine ⟨_, rfl, p, _, 5, rfl, b3, by omega, by omega, by omega, fun way o5 hw ho5 => ?_⟩
    have k5 : Kp p H3 (upd H3 p o5) := (Kp.refl p H3).upd
    have b5 : BoxAt (upd H3 p o5) p (c + 3) := ho5.at
    have hR5 := hR3.box b3 k5
    have hW5 := hW3.box b3 k5
    have k05 := k03.trans k5
    generalize upd H3 p o5 = H5 at k05 b5 hR5 hW5 ⊢
    obtain ⟨xs, eq, hxs⟩ := hR5.row at_ q row hq hrow
    have lxs := hxs.len
    rw [List.length_map] at lxs
    obtain ⟨v, hv⟩ : ∃ v, xs[a]? = some v := ⟨_, List.getElem?_eq_getElem (by omega)⟩
    obtain ⟨d, hd, dv⟩ := hxs.at a v hv
    rw [List.getElem?_map, he] at hd
    injection hd with hd
    subst hd
    have hqR : (qs.map V.ref)[at_]? = some (.ref q) := by rw [List.getElem?_map, hq]; rfl
    refine ⟨_, rfl, _, rfl, R, _, _, _, rfl, rfl, SqL.of hR5.e, atI_nat hqR, _, rfl, q, _, _, _, rfl, rfl, SqL.of eq, atI_nat hv, ?_⟩
    have lqs := hR5.len
    have leD := ok.ends
    have done : ∀ (H' : Hp) (st : List (List Ent)) (en : List Wd) (n : Nat), Kp p H H' → BoxAt H' p n → n ≤ c + 100 → RowsL K p H' R qs st → WrdL K p H' W en → (Dcd.mk D.sg st en).ok → (Dcd.mk D.sg st en) ≠ D → ∀ l, H' l = none → Q (.ref l) (upd H' l (.lst [.int (D.sg : Nat), .ref R, .ref W])) := fun H' st en n k b hn hR hW ok' ne l hl =>
      kQ l _ _ (k.new hl) ((b.new hl).mono hn) (parts_new hR hW b hl ok') ne
    have mq : q ∈ qs := List.mem_of_getElem? hq
    have hq0H : H q = none := hq0 q mq
    have nqp : q ≠ p := fun z => hR5.np (by rw [← z]; exact mq)
    have nWq : W ≠ q := fun z => nqW (by rw [z]; exact mq)
    have put : ∀ (H' : Hp) (n : Nat) (v' : V) (e' : Ent), Kp p H H' → Kp p H5 H' → BoxAt H' p n → n ≤ c + 100 → Dg K H' false v' (enD e') → okE D.st.length e' → e' ≠ e → ∀ l, (upd H' q (.lst (xs.set a v'))) l = none → Q (.ref l) (upd (upd H' q (.lst (xs.set a v'))) l (.lst [.int (D.sg : Nat), .ref R, .ref W])) := fun H' n v' e' k k5' b hn dv' oe' ne l hl => by
      have eq' : H' q = some (.lst xs) := k5' _ _ nqp eq
      obtain ⟨lb, elb⟩ := box_lst b5
      have hxs' : DgAll K H' false xs (row.map enD) := ((dg_lfwoAll elb _ _ (lfAll_map lf_enD _) hxs).ext k5'.wo).ext (wo_same H' p)
      have hR' := hR5.box b5 k5'
      have hW' := hW5.box b5 k5'
      refine done _ (D.st.set at_ (row.set a e')) D.en n (k.free hq0H) (b.other nqp.symm) hn (hR'.put hq hrow eq' hxs' dv') (hW'.kp eq' nWq ((Kp.refl q H').upd)) (ok_st ok hrow oe') (ne_st hrow (by omega) (fun z => ?_)) l hl
      rw [he] at z
      injection z with z
      exact ne z.symm
    refine ⟨_, _, rfl, ?_⟩
    refine ⟨_, rfl, rfl, _, rfl, ite2 (fun c0 => ?_) (fun c0 => ⟨_, rfl, rfl, _, rfl, ite2 (fun c1 => ?_) (fun c1 => ?_)⟩)⟩
    · obtain ⟨np5, zs5, eW5, hz5⟩ := id hW5
      have lz5 := hz5.len
      rw [List.length_map] at lz5
      obtain ⟨e0, he0⟩ : ∃ e0, D.en[at_]? = some e0 := ⟨_, List.getElem?_eq_getElem (by omega)⟩
      obtain ⟨v0, hv0⟩ : ∃ v0, zs5[at_]? = some v0 := ⟨_, List.getElem?_eq_getElem (by omega)⟩
      obtain ⟨d0, hd0, dv0⟩ := hz5.at at_ v0 hv0
      rw [List.getElem?_map, he0] at hd0
      injection hd0 with hd0
      subst hd0
      obtain rfl := dg_wdV dv0
      refine ⟨_, rfl, _, rfl, _, rfl, W, _, _, _, rfl, rfl, SqL.of eW5, atI_nat hv0, p, _, e0, rfl, b5, by omega, fun w hw' => ok.words e0 (List.mem_of_getElem? he0) w hw', fun e' H6 k6 b6 oe' ne' => ⟨_, rfl, _, rfl, W, zs5, (at_ : Int), at_, rfl, rfl, k6 _ _ nW eW5, ixN_nat (by omega), _, rfl, _, rfl, _, rfl, three, fun l hl => ?_⟩⟩
      have eW6 := k6 _ _ nW eW5
      exact done _ D.st (D.en.set at_ e') (c + 4) ((k05.trans k6).free hW0H) (b6.other nW.symm) (by omega) ((hR5.box b5 k6).kp eW6 nRW nqW ((Kp.refl W H6).upd)) ((hW5.box b5 k6).put eW6 (dg_wd e')) (ok_en ok oe') (ne_en he0 ne') l hl
    · have fit1 : ∀ m : Nat, m ≤ 50 → m + 1 ≤ sizeLine := fun m h => Nat.le_trans (show m + 1 ≤ 51 by omega) (by decide)
      have hSa5 : SqL K H5 Sa ys := (hqS.ext k05.wo).ext (wo_same H5 p)
      refine ⟨_, rfl, _, rfl, _, rfl, _, rfl, _, rfl, Sa, ys, rfl, .inl hSa5, _, _, rfl, rfl, p, c + 3, D.sg, D.st.length + 1, by rw [lys]; rfl, b5, by omega, sg5, by omega, by omega, fun r' row' H6 k6 b6 ⟨hr0', _, xs', er', hx'⟩ lr' or' => ?_⟩
      have nr' : r' ≠ p := (b5.ne hr0').symm
      have hR6 := hR5.box b5 k6
      have hW6 := hW5.box b5 k6
      have dq : DgAll K (wo H6 p) false (qs.map V.ref) (D.st.map fun r => .list (r.map enD)) := by
        obtain ⟨l, el⟩ := box_lst b6
        exact dgAll_refs qs D.st hR6.len (hR6.wo el).row
      have dr : Dg K (wo H6 p) false (.ref r') (.list (row'.map enD)) := .lst (SqL.of (by rw [wo_ne nr']; exact er')) (fun z => by cases z) hx'
      have k06 := k05.trans k6
      refine ⟨one, fun L1 hL1 => ⟨R, L1, qs.map V.ref, [.ref r'], rfl, rfl, Same.new (Same.refl _) hL1 _ _ hR6.e, upd_same, by rw [List.length_map]; exact fit1 _ (by omega), fun R2 hR2 => ?_⟩⟩
      have nL1 : L1 ≠ p := (b6.ne hL1).symm
      have k7 : Kp p H6 (upd H6 L1 (.lst [.ref r'])) := (Kp.refl p H6).new hL1
      have b7 := b6.new hL1 (o := .lst [.ref r'])
      have hW7 := hW6.ext (Same.new (Same.refl _) hL1 : Same H6 (upd H6 L1 (.lst [.ref r'])))
      generalize upd H6 L1 (.lst [.ref r']) = H7 at k7 b7 hW7 hR2 ⊢
      have nR2 : R2 ≠ p := (b7.ne hR2).symm
      have k8 : Kp p H7 (upd H7 R2 (.lst (qs.map V.ref ++ [.ref r']))) := (Kp.refl p H7).new hR2
      have b8 := b7.new hR2 (o := .lst (qs.map V.ref ++ [.ref r']))
      have hW8 := hW7.ext (Same.new (Same.refl _) hR2 : Same H7 (upd H7 R2 (.lst (qs.map V.ref ++ [.ref r']))))
      have e8 : (upd H7 R2 (.lst (qs.map V.ref ++ [.ref r']))) R2 = some (.lst (qs.map V.ref ++ [.ref r'])) := upd_same
      generalize upd H7 R2 (.lst (qs.map V.ref ++ [.ref r'])) = H8 at k8 b8 hW8 e8 ⊢
      refine ⟨_, rfl, _, rfl, p, _, rfl, b8, by omega, fun e' H9 k9 b9 oe' => ⟨one, fun L2 hL2 => ?_⟩⟩
      have hW9 := hW8.box b8 k9
      obtain ⟨_, zs9, eW9, hz9⟩ := hW9
      have lz9 := hz9.len
      rw [List.length_map] at lz9
      have nL2 : L2 ≠ p := (b9.ne hL2).symm
      refine ⟨W, L2, zs9, [wdV e'], rfl, rfl, Same.new (Same.refl _) hL2 _ _ eW9, upd_same, by rw [lz9]; exact fit1 _ (by omega), fun W2 hW2 => ⟨three, fun l hl => ?_⟩⟩
      have k10 : Kp p H9 (upd H9 L2 (.lst [wdV e'])) := (Kp.refl p H9).new hL2
      have b10 := b9.new hL2 (o := .lst [wdV e'])
      generalize upd H9 L2 (.lst [wdV e']) = H10 at k10 b10 hW2 hl ⊢
      have nW2 : W2 ≠ p := (b10.ne hW2).symm
      have k11 : Kp p H10 (upd H10 W2 (.lst (zs9 ++ [wdV e']))) := (Kp.refl p H10).new hW2
      have b11 := b10.new hW2 (o := .lst (zs9 ++ [wdV e']))
      have e11 : (upd H10 W2 (.lst (zs9 ++ [wdV e']))) W2 = some (.lst (zs9 ++ [wdV e'])) := upd_same
      generalize upd H10 W2 (.lst (zs9 ++ [wdV e'])) = H11 at k11 b11 e11 hl ⊢
      have nl : l ≠ p := (b11.ne hl).symm
      have k12 : Kp p H11 (upd H11 l (.lst [.int (D.sg : Nat), .ref R2, .ref W2])) := (Kp.refl p H11).new hl
      have k812 := ((k9.trans k10).trans k11).trans k12
      have k612 := (k7.trans k8).trans k812
      have ok' : (Dcd.mk D.sg (D.st ++ [row']) (D.en ++ [e'])).ok := by
        refine ⟨ok.s1, ok.s5, by show 1 ≤ (D.st ++ [row']).length; rw [List.length_append]; omega, by show (D.st ++ [row']).length ≤ 40; rw [List.length_append]; exact Nat.le_trans (show D.st.length + 1 ≤ 40 by omega) (Nat.le_refl _), fun x hx => ?_, by show (D.en ++ [e']).length = (D.st ++ [row']).length; rw [List.length_append, List.length_append, leD]; rfl, fun x hx => ?_⟩
        · show x.length = D.sg ∧ ∀ e ∈ x, okE (D.st ++ [row']).length e
          rw [show (D.st ++ [row']).length = D.st.length + 1 by rw [List.length_append]; rfl]
          rcases List.mem_append.mp hx with z | z
          · obtain ⟨l1, o1⟩ := ok.rows x z
            exact ⟨l1, fun e he g w ew => ⟨by have := (o1 e he g w ew).1; omega, (o1 e he g w ew).2⟩⟩
          · rw [List.mem_singleton.mp z]; exact ⟨lr', or'⟩
        · rcases List.mem_append.mp hx with z | z
          · exact ok.words x z
          · rw [List.mem_singleton.mp z]; exact oe'
      refine kQ l ⟨D.sg, D.st ++ [row'], D.en ++ [e']⟩ _ (k06.trans k612) ((b11.new hl).mono (by omega)) ⟨R2, W2, SqL.of (by rw [wo_ne nl]; exact upd_same), ?_, ?_, ok'⟩ (fun z => ?_)
      · refine .lst (SqL.of (by rw [wo_ne nR2]; exact k812 _ _ nR2 e8)) (fun z => by cases z) ?_
        show DgAll K _ false _ ((D.st ++ [row']).map fun r => PyData.list (r.map enD))
        rw [List.map_append]
        exact (dq.ext k612.wo).append (.cons (dr.ext k612.wo) .nil)
      · refine .lst (SqL.of (by rw [wo_ne nW2]; exact k12 _ _ nW2 e11)) (fun z => by cases z) ?_
        show DgAll K _ false _ ((D.en ++ [e']).map wdD)
        rw [List.map_append]
        obtain ⟨lb, elb⟩ := box_lst b9
        exact ((dg_lfwoAll elb _ _ (lfAll_map lf_wd _) hz9).ext ((k10.trans k11).trans k12).wo).append (.cons (dg_wd e') .nil)
      · have := congrArg (fun x : Dcd => x.st.length) z
        have : (D.st ++ [row']).length = D.st.length := this
        rw [List.length_append] at this
        simp at this
    · have hSa : ∀ H', Kp p H H' → SqL K H' Sa ys := fun H' k => (hqS.ext k.wo).ext (wo_same H' p)
      cases e with
      | none =>
        obtain rfl : v = .non := by cases dv; rfl
        refine ⟨_, rfl, _, rfl, iteT ?_⟩
        refine ⟨_, rfl, _, rfl, Sa, ys, rfl, .inl (hSa _ k05), p, c + 3, (ys.length : Int), rfl, b5, by omega, by omega, by omega, fun g o6 hg ho6 => ⟨_, rfl, p, _, rfl, ho6.at, by omega, fun w H7 k7 b7 ow => ⟨two, fun t2 ht2 => ?_⟩⟩⟩
        have k57 : Kp p H5 (upd H7 t2 (.tup [.int (g : Nat), .str (S w)])) := (((Kp.refl p H5).upd).trans k7).new ht2
        have b8 := b7.new ht2 (o := .tup [.int (g : Nat), .str (S w)])
        have dt : Dg K (upd H7 t2 (.tup [.int (g : Nat), .str (S w)])) false (.ref t2) (enD (some (g, w))) := .tup (SqT.of upd_same) (.cons (.int _) (.cons (.str _) .nil))
        generalize upd H7 t2 (.tup [.int (g : Nat), .str (S w)]) = H8 at k57 b8 dt ⊢
        exact ⟨_, rfl, _, rfl, R, _, _, _, rfl, rfl, SqL.of (hR5.box b5 k57).e, atI_nat hqR, _, rfl, q, xs, (a : Int), a, rfl, rfl, k57 _ _ nqp eq, ixN_nat (by omega), _, rfl, _, rfl, _, rfl, three, fun l hl => put H8 _ (.ref t2) (some (g, w)) (k05.trans k57) k57 b8 (by omega) dt (fun g' w' e => by injection e with e; injection e with e1 e2; subst e1 e2; exact ⟨by omega, ow⟩) (fun z => by cases z) l hl⟩
      | some gw =>
        obtain ⟨g0, w0⟩ := gw
        obtain ⟨t0, us, rfl, ht0, hu0⟩ := dv.tup_of
        refine ⟨_, rfl, _, rfl, iteF ?_⟩
        obtain ⟨u0, us1, rfl, hu0', hu1⟩ := hu0.cons_of
        obtain ⟨u1, us2, rfl, hu1', hu2⟩ := hu1.cons_of
        obtain rfl := hu2.nil_of
        obtain rfl := hu0'.int_of
        obtain rfl := hu1'.str_of
        obtain ⟨g0n, ow0⟩ := oe g0 w0 rfl
        have ht' : ∀ H', Kp p H5 H' → SqT K H' t0 [.int (g0 : Nat), .str (S w0)] := fun H' k => by
          obtain ⟨lb, elb⟩ := box_lst b5
          have dvw := dg_lfwo elb _ _ (lf_enD (some (g0, w0))) dv
          obtain ⟨t0', us', e1, e2, e3⟩ := (dvw.ext k.wo).tup_of
          injection e1 with e1
          subst e1
          obtain ⟨u0, us1, rfl, h0, h1⟩ := e3.cons_of
          obtain ⟨u1, us2, rfl, h1', h2⟩ := h1.cons_of
          obtain rfl := h2.nil_of
          obtain rfl := h0.int_of
          obtain rfl := h1'.str_of
          exact e2.ext (wo_same H' p)
        have other : ∀ Q' : Prop, Q' → Q' := fun _ h => h
        refine ⟨_, rfl, rfl, _, rfl, ite2 (fun c2 => ⟨_, rfl, Sa, ys, rfl, .inl (hSa _ k05), _, _, rfl, rfl, _, rfl, ite2 (fun c3 => ?_) (fun c3 => ?_)⟩) (fun c2 => iteF ?_)⟩
        · have c3' : (1 : Int) < (ys.length : Int) := of_decide_eq_true c3
          refine ⟨_, rfl, t0, _, _, _, rfl, rfl, ht0, atI_nat (j := 0) rfl, _, _, rfl, rfl, _, rfl, _, rfl, Sa, ys, rfl, .inl (hSa _ k05), _, _, rfl, rfl, p, c + 3, (ys.length : Int) - 1, rfl, b5, by omega, by omega, by omega, fun d6 o6 hd6 ho6 => ⟨_, _, rfl, rfl, .inl ⟨_, rfl, _, rfl, Sa, ys, rfl, .inl (hSa _ (k05.upd)), _, _, rfl, rfl, (by show (0 : Int) < (ys.length : Int); omega), _, rfl, t0, _, _, _, rfl, rfl, ht' _ ((Kp.refl p H5).upd), atI_nat (j := 1) rfl, two, fun t2 ht2 => ?_⟩⟩⟩
          obtain ⟨g', eg, lg, ng⟩ : ∃ g' : Nat, ((g0 : Int) + 1 + (d6 : Int)) % (ys.length : Int) = (g' : Int) ∧ g' < D.st.length ∧ g' ≠ g0 := by
            refine ⟨(g0 + 1 + d6) % ys.length, by first | (rw [Int.natCast_emod]; rfl) | (rw [Int.natCast_mod]; rfl) | exact (Int.natCast_emod _ _).symm | exact (Int.natCast_mod _ _).symm | simp, ?_, ?_⟩
            · rw [← lys]; exact Nat.mod_lt _ (by omega)
            · intro z
              have h1 : g0 + 1 + d6 < 2 * ys.length := by omega
              by_cases h2 : g0 + 1 + d6 < ys.length
              · rw [Nat.mod_eq_of_lt h2] at z; omega
              · rw [Nat.mod_eq_sub_mod (by omega), Nat.mod_eq_of_lt (by omega)] at z; omega
          have k57 : Kp p H5 (upd (upd H5 p o6) t2 (.tup [.int (((g0 : Int) + 1 + (d6 : Int)) % (ys.length : Int)), .str (S w0)])) := ((Kp.refl p H5).upd).new ht2
          have b8 : BoxAt (upd (upd H5 p o6) t2 (.tup [.int (((g0 : Int) + 1 + (d6 : Int)) % (ys.length : Int)), .str (S w0)])) p (c + 4) := (ho6.at).new ht2
          have dt : Dg K (upd (upd H5 p o6) t2 (.tup [.int (((g0 : Int) + 1 + (d6 : Int)) % (ys.length : Int)), .str (S w0)])) false (.ref t2) (enD (some (g', w0))) := .tup (SqT.of upd_same) (.cons (by rw [eg]; exact .int _) (.cons (.str _) .nil))
          generalize upd (upd H5 p o6) t2 (.tup [.int (((g0 : Int) + 1 + (d6 : Int)) % (ys.length : Int)), .str (S w0)]) = H8 at k57 b8 dt ⊢
          exact ⟨_, rfl, _, rfl, R, _, _, _, rfl, rfl, SqL.of (hR5.box b5 k57).e, atI_nat hqR, _, rfl, q, xs, (a : Int), a, rfl, rfl, k57 _ _ nqp eq, ixN_nat (by omega), _, rfl, _, rfl, _, rfl, three, fun l hl => put H8 _ (.ref t2) (some (g', w0)) (k05.trans k57) k57 b8 (by omega) dt (fun g w e => by injection e with e; injection e with e1 e2; subst e1 e2; exact ⟨lg, ow0⟩) (fun z => by injection z with z; injection z with z1 z2; exact ng z1) l hl⟩
        all_goals
          refine ⟨_, rfl, _, rfl, t0, _, _, _, rfl, rfl, ht0, atI_nat (j := 1) rfl, p, c + 3, some w0, rfl, b5, by omega, fun w e => by injection e with e; rw [← e]; exact ow0, fun e' H6 k6 b6 oe' ne' => ⟨_, rfl, _, rfl, ?_⟩⟩
          cases e' with
          | none =>
            exact iteT ⟨_, rfl, _, rfl, R, _, _, _, rfl, rfl, SqL.of (hR5.box b5 k6).e, atI_nat hqR, _, rfl, q, xs, (a : Int), a, rfl, rfl, k6 _ _ nqp eq, ixN_nat (by omega), _, rfl, _, rfl, _, rfl, three, fun l hl => put H6 _ .non none (k05.trans k6) k6 b6 (by omega) .non (fun g w e => by cases e) (fun z => by cases z) l hl⟩
          | some w =>
            refine iteF ⟨_, rfl, t0, _, _, _, rfl, rfl, ht' _ k6, atI_nat (j := 0) rfl, _, rfl, two, fun t2 ht2 => ?_⟩
            have k57 : Kp p H5 (upd H6 t2 (.tup [.int (g0 : Nat), .str (S w)])) := k6.new ht2
            have b8 := b6.new ht2 (o := .tup [.int (g0 : Nat), .str (S w)])
            have dt : Dg K (upd H6 t2 (.tup [.int (g0 : Nat), .str (S w)])) false (.ref t2) (enD (some (g0, w))) := .tup (SqT.of upd_same) (.cons (.int _) (.cons (.str _) .nil))
            exact ⟨_, rfl, _, rfl, R, _, _, _, rfl, rfl, SqL.of (hR5.box b5 k57).e, atI_nat hqR, _, rfl, q, xs, (a : Int), a, rfl, rfl, k57 _ _ nqp eq, ixN_nat (by omega), _, rfl, _, rfl, _, rfl, three, fun l hl => put _ _ (.ref t2) (some (g0, w)) (k05.trans k57) k57 b8 (by omega) dt (fun g' w' e => by injection e with e; injection e with e1 e2; subst e1 e2; exact ⟨g0n, oe' w rfl⟩) (fun z => by injection z with z; injection z with z1 z2; exact ne' (by rw [z2])) l hl⟩
end
end My

set_option Elab.async false
set_option linter.all false
set_option maxRecDepth 100000
set_option maxHeartbeats 8000000
namespace My
open PySem PySem.Spec PyProof.Rows L2
theorem old_wo {K : PySem.W.Frag} {m : Bool} {D : Addr} {H1 H : Hp} {x : V} {d : PyData} (hD : H1 D = none) (s : Same H1 H) (h : Dg K H1 m x d) : Dg K (wo H D) m x d := h.ext fun b o e => by
  have n : b ≠ D := fun z => by rw [z, hD] at e; cases e
  rw [wo_ne n]; exact s b o e
theorem old_woAll {K : PySem.W.Frag} {m : Bool} {D : Addr} {H1 H : Hp} {x : List V} {d : List PyData} (hD : H1 D = none) (s : Same H1 H) (h : DgAll K H1 m x d) : DgAll K (wo H D) m x d := h.ext fun b o e => by
  have n : b ≠ D := fun z => by rw [z, hD] at e; cases e
  rw [wo_ne n]; exact s b o e
section
variable {P : Program} {w : World} {K : PySem.W.Frag} {mg : Str → Option Value} {base : Heap}
def spCopy (K : PySem.W.Frag) : Sp := fun vs H Q _ => ∃ x d, vs = [x] ∧ Dg K H true x d ∧ (itsD d).length ≤ 1000 ∧ ∀ y H', Same H H' → Dg K H' true y d → (∀ es, d = .list es → ∃ L xs, y = .ref L ∧ H L = none ∧ (L == sysModules) = false ∧ H' L = some (.lst xs) ∧ DgAll K (wo H' L) true xs es) → Q y H'
theorem ok_law_copy (T : Txt K mg base) : FnOk P w K mg base CX0 1 T.f_law_copy T.fd_law_copy ["value"] (spCopy K) := by
  refine T.F_law_copy.ok sc_law_copy (fun vs H Q E h => ?_) (fun cdv A outer s H vs Q E hr h => ?_)
  · obtain ⟨x, d, rfl, _⟩ := h; rfl
  · obtain ⟨x, d, rfl, hd, hl, kQ⟩ := h
    refine ⟨_, (pss_one (ps_ret (pe_ifExp (pt_val (pe_callB call_isi (by rfl) T.z_isinstance (by decide +kernel) (pa_cons (pv 0) (pa_cons (pe_bltn (v := .ty "list") (u := .type "list") (by rfl) T.z_list (by decide +kernel) rfl) pa_nil)))) (pe_low (base := base) rfl T.sysd (pe_lc (own := [("row", 1)]) (g := gName 1) (by rfl) sc_law_copy.nd (pi_list (pv 0)) (blkOk_by (own := [("row", 1)]) (N := N_law_copy) (sc := defScope s_law_copy) (by decide +kernel)) (fun _ _ _ _ _ => pg_name (i := 1) sc_law_copy.nd rfl (Or.inl rfl)) (fun _ _ _ _ _ => pts_nil) (fun _ _ _ _ _ => (pe_ifExp (pt_val (pe_callB (call_isi_K (K := K) rfl) (by rfl) T.z_isinstance (by decide +kernel) (pa_cons (pv 1) (pa_cons (pe_bltn (v := .ty "list") (u := .type "list") (by rfl) T.z_list (by decide +kernel) rfl) pa_nil)))) (pe_callTy (call_list_ofSK (K := K) rfl) (by rfl) T.z_list (by decide +kernel) (pa_cons (pv 1) pa_nil)) (pv 1))))) (pv 0)))), ?_⟩
    refine ⟨_, rfl, _, _, _, _, isLstD d, rfl, .ty _, hd.ty, kit_lstD d, _, rfl, ?_⟩
    cases d with
    | list es =>
      obtain ⟨a, ys, rfl, hq, _, hy⟩ := hd.lst_of
      have ly := hy.len
      have hl : es.length ≤ 1000 := hl
      refine iteT ⟨_, rfl, a, rfl, ⟨_, hq⟩, fun D hD => ?_⟩
      refine lc_list (K := K) (a := a) (xs := ys) (fun i H' => Ac K H D (es.take i) H') (Ac.start hD) (fun i H' _ h => hq.ext h.1) ?_ ?_
      · rintro i x H' hx hA
        obtain ⟨d, hd', dx⟩ := hy.at i x hx
        have hi := (List.getElem?_eq_some_iff.mp hx).1
        have eD := hA.ne
        have s' := hA.1
        have fin : ∀ y H2, Same H' H2 → Dg K (wo H2 D) true y d → ∃ acc, H2 D = some (.lst acc) ∧ acc.length < sizeLine ∧ Ac K H D (es.take (i + 1)) (upd H2 D (.lst (acc ++ [y]))) := fun y H2 s2 dy => by
          have := hA.snoc hD (by rw [List.length_take]; omega) s2 dy
          rw [List.take_add_one, hd']
          exact this
        refine ⟨rfl, tYesT ⟨_, rfl, _, _, _, _, isLstD d, rfl, .ty _, (dx.ext s').ty, kit_lstD d, _, rfl, ?_⟩⟩
        cases d with
        | list ds =>
          obtain ⟨b, zs, rfl, hb, _, hz⟩ := dx.lst_of
          refine iteT ⟨_, rfl, b, zs, rfl, .inl (hb.ext s'), fun l hl0 low => ?_⟩
          have nl : l ≠ D := fun z => eD (by rw [← z]; exact hl0)
          have s2 : Same H' (upd H' l (.lst zs)) := Same.new (Same.refl _) hl0
          exact fin _ _ s2 (.lst (SqL.of (by rw [wo_ne nl]; exact upd_same)) (fun _ => low) (old_woAll hD (s'.trans s2) hz))
        | _ => exact iteF ⟨_, rfl, fin _ _ (Same.refl _) (old_wo hD s' dx)⟩
      · rintro H' ⟨s', acc, e, ha⟩ hsys
        rw [ly, List.take_length] at ha
        have low : (D == sysModules) = false := low_ne hsys (by rw [e]; exact fun z => by cases z)
        exact kQ (.ref D) H' s' (.lst (SqL.of e) (fun _ => low) (ha.ext fun b o e => wo_le e)) (fun es' ee => by injection ee with ee; subst ee; exact ⟨D, acc, rfl, hD, low, e, ha⟩)
    | _ => exact iteF ⟨_, rfl, kQ _ H (Same.refl _) hd fun es e => by cases e⟩
end
end My

set_option Elab.async false
set_option linter.all false
set_option maxRecDepth 100000
set_option maxHeartbeats 8000000
namespace My
open PySem PySem.Spec PyProof.Rows L2
def tupR : PyData → PyData | .list ds => .tuple ds | d => d
def tupsD : PyData → PyData | .list es => .tuple (es.map tupR) | d => d
def moreD : PyData → PyData | .list es => .list (es ++ [.str (Str.ofString "more")]) | d => d
section
variable {P : Program} {w : World} {K : PySem.W.Frag} {mg : Str → Option Value} {base : Heap}
theorem ok_law_tuples (T : Txt K mg base) : FnOk P w K mg base CX0 1 T.f_law_tuples T.fd_law_tuples ["value"] (fun vs H Q _ => ∃ x d, vs = [x] ∧ Dg K H true x d ∧ (itsD d).length ≤ 1000 ∧ ∀ y H', Same H H' → Dg K H' true y (tupsD d) → Q y H') := by
  refine T.F_law_tuples.ok sc_law_tuples (fun vs H Q E h => ?_) (fun cdv A outer s H vs Q E hr h => ?_)
  · obtain ⟨x, d, rfl, _⟩ := h; rfl
  · obtain ⟨x, d, rfl, hd, hl, kQ⟩ := h
    refine ⟨_, (pss_one (ps_ret (pe_ifExp (pt_val (pe_callB call_isi (by rfl) T.z_isinstance (by decide +kernel) (pa_cons (pv 0) (pa_cons (pe_bltn (v := .ty "list") (u := .type "list") (by rfl) T.z_list (by decide +kernel) rfl) pa_nil)))) (pe_callTy call_tuple_of (by rfl) T.z_tuple (by decide +kernel) (pa_cons (pe_low (base := base) rfl T.sysd (pe_lc (own := [("row", 1)]) (g := gName 1) (by rfl) sc_law_tuples.nd (pi_list (pv 0)) (blkOk_by (own := [("row", 1)]) (N := N_law_tuples) (sc := defScope s_law_tuples) (by decide +kernel)) (fun _ _ _ _ _ => pg_name (i := 1) sc_law_tuples.nd rfl (Or.inl rfl)) (fun _ _ _ _ _ => pts_nil) (fun _ _ _ _ _ => (pe_ifExp (pt_val (pe_callB (call_isi_K (K := K) rfl) (by rfl) T.z_isinstance (by decide +kernel) (pa_cons (pv 1) (pa_cons (pe_bltn (v := .ty "list") (u := .type "list") (by rfl) T.z_list (by decide +kernel) rfl) pa_nil)))) (pe_callTy (call_tuple_ofK (K := K) rfl) (by rfl) T.z_tuple (by decide +kernel) (pa_cons (pv 1) pa_nil)) (pv 1))))) pa_nil)) (pv 0)))), ?_⟩
    refine ⟨_, rfl, _, _, _, _, isLstD d, rfl, .ty _, hd.ty, kit_lstD d, _, rfl, ?_⟩
    cases d with
    | list es =>
      obtain ⟨a, ys, rfl, hq, _, hy⟩ := hd.lst_of
      have ly := hy.len
      have hl : es.length ≤ 1000 := hl
      refine iteT ⟨_, rfl, a, rfl, ⟨_, hq⟩, fun D hD => ?_⟩
      refine lc_list (K := K) (a := a) (xs := ys) (fun i H' => Ac K H D ((es.take i).map tupR) H') (Ac.start hD) (fun i H' _ h => hq.ext h.1) ?_ ?_
      · rintro i x H' hx hA
        obtain ⟨d, hd', dx⟩ := hy.at i x hx
        have hi := (List.getElem?_eq_some_iff.mp hx).1
        have eD := hA.ne
        have s' := hA.1
        have fin : ∀ y H2, Same H' H2 → Dg K (wo H2 D) true y (tupR d) → ∃ acc, H2 D = some (.lst acc) ∧ acc.length < sizeLine ∧ Ac K H D ((es.take (i + 1)).map tupR) (upd H2 D (.lst (acc ++ [y]))) := fun y H2 s2 dy => by
          have := hA.snoc hD (by rw [List.length_map, List.length_take]; omega) s2 dy
          rw [List.take_add_one, hd', List.map_append]
          exact this
        refine ⟨rfl, tYesT ⟨_, rfl, _, _, _, _, isLstD d, rfl, .ty _, (dx.ext s').ty, kit_lstD d, _, rfl, ?_⟩⟩
        cases d with
        | list ds =>
          obtain ⟨b, zs, rfl, hb, _, hz⟩ := dx.lst_of
          refine iteT ⟨_, rfl, b, zs, rfl, .inl ⟨hb.ext s', fun l hl0 => ?_⟩⟩
          have nl : l ≠ D := fun z => eD (by rw [← z]; exact hl0)
          have s2 : Same H' (upd H' l (.tup zs)) := Same.new (Same.refl _) hl0
          exact fin _ _ s2 (.tup (SqT.of (by rw [wo_ne nl]; exact upd_same)) (old_woAll hD (s'.trans s2) hz))
        | _ => exact iteF ⟨_, rfl, fin _ _ (Same.refl _) (old_wo hD s' dx)⟩
      · rintro H' ⟨s', acc, e, ha⟩ hsys
        rw [ly, List.take_length] at ha
        refine ⟨D, acc, rfl, .inl ⟨SqL.of e, fun l hl0 => ?_⟩⟩
        have s2 : Same H' (upd H' l (.tup acc)) := Same.new (Same.refl _) hl0
        exact kQ (.ref l) _ (s'.trans s2) (.tup (SqT.of upd_same) ((ha.ext fun b o e => wo_le e).ext s2))
    | _ => exact iteF ⟨_, rfl, kQ _ H (Same.refl _) hd⟩
def doorW (k : Nat) : Str := if k = 0 then Str.ofString "signs" else if k = 1 then Str.ofString "steps" else Str.ofString "ends"
def spDoor (K : PySem.W.Frag) : Sp := fun vs H Q _ => ∃ (k : Nat) (x1 x2 x3 : V) (d1 d2 d3 : PyData), vs = [.str (doorW k), x1, x2, x3] ∧ k < 3 ∧ Dg K H true x1 d1 ∧ Dg K H true x2 d2 ∧ Dg K H true x3 d3 ∧ d1.weight ≤ 100000 ∧ d2.weight ≤ 100000 ∧ d3.weight ≤ 100000 ∧
  (itsD d1).length ≤ 1000 ∧ (itsD d2).length ≤ 1000 ∧ (itsD d3).length ≤ 1000 ∧
  ((k = 0 ∧ isSg d1 = false ∧ Sh (moreD d1)) ∨ (k = 1 ∧ isSg d1 = true ∧ stepsB (numD d1) d2 = false ∧ Sh (moreD d2)) ∨ (k = 2 ∧ isSg d1 = true ∧ stepsB (numD d1) d2 = true ∧ endsB ((itsD d2).length : Int) d3 = false ∧ Sh (moreD d3))) ∧
  ∀ H', Same H H' → Q (.bl true) H'
theorem ok_law_door (T : Txt K mg base) : FnG P w K mg base CX0 10 T.f_law_door T.fd_law_door ["word", "signs", "steps", "ends"] (spDoor K) := by
  refine T.F_law_door.okG sc_law_door (fun vs H Q E h => ?_) (fun cdv A outer s0 H vs Q E hgd hr h => ?_)
  · obtain ⟨k, x1, x2, x3, d1, d2, d3, rfl, _⟩ := h; rfl
  · obtain ⟨k, x1, x2, x3, d1, d2, d3, rfl, hk, h1, h2, h3, w1, w2, w3, l1, l2, l3, hc, kQ⟩ := h
    have hun := un64 hr
    refine ⟨_, (pss_cons (ps_set (i := 4) sc_law_door.nd rfl (Or.inl rfl) (pe_lst (pa_cons (pe_call (ok_law_copy T) (hr.mono (by decide)) rfl T.g_law_copy T.F_law_copy.kp T.b_law_copy .nil pass0 (pa_cons (pv 1) pa_nil)) (pa_cons (pe_call (ok_law_copy T) (hr.mono (by decide)) rfl T.g_law_copy T.F_law_copy.kp T.b_law_copy .nil pass0 (pa_cons (pv 2) pa_nil)) (pa_cons (pe_call (ok_law_copy T) (hr.mono (by decide)) rfl T.g_law_copy T.F_law_copy.kp T.b_law_copy .nil pass0 (pa_cons (pv 3) pa_nil)) pa_nil)))))
      (pss_cons (ps_set (i := 5) sc_law_door.nd rfl (Or.inl rfl) (pe_call (ok_law_met T) (hr.mono (by decide)) rfl T.g_law_met T.F_law_met.kp T.b_law_met .nil pass0 (pa_cons (pe_ix ix_list (pv 4) pe_int (fun _ _ => rfl)) (pa_cons (pe_ix ix_list (pv 4) pe_int (fun _ _ => rfl)) (pa_cons (pe_ix ix_list (pv 4) pe_int (fun _ _ => rfl)) pa_nil)))))
      (pss_cons (ps_set (i := 6) sc_law_door.nd rfl (Or.inl rfl) (pe_ix ix_list (pv 4) (pe_bm PySem.F.plainAttrs_list PySem.F.slot_list_index PySem.F.type_list_index mt_index (pe_lst (pa_cons pe_str (pa_cons pe_str (pa_cons pe_str pa_nil)))) (pa_cons (pv 0) pa_nil)) (fun _ _ => rfl)))
      (pss_cons (ps_if (pt_val (pe_callB call_isi (by rfl) T.z_isinstance (by decide +kernel) (pa_cons (pv 6) (pa_cons (pe_bltn (v := .ty "list") (u := .type "list") (by rfl) T.z_list (by decide +kernel) rfl) pa_nil)))) (pss_one (ps_expr (pe_bm PySem.F.plainAttrs_list PySem.F.slot_list_append PySem.F.type_list_append mt_append (pv 6) (pa_cons pe_str pa_nil)))) pss_nil)
      (pss_one (ps_ret (pe_and (pe_cmpR op_eq (pe_ix ix_list (pv 5) pe_int (fun _ _ => rfl)) (pv 0) (nomark _)) (pe_one (pe_cmpR op_eq (pe_callB (call_reprG hgd hun) (by rfl) T.z_repr (by decide +kernel) (pa_cons (pe_ix ix_list (pv 5) pe_int (fun _ _ => rfl)) pa_nil)) (pe_callB (call_reprG hgd hun) (by rfl) T.z_repr (by decide +kernel) (pa_cons (pv 6) pa_nil)) (nomark _)))))))))), ?_⟩
    have three : 3 ≤ sizeLine := by decide
    refine ⟨_, rfl, x1, d1, rfl, h1, l1, fun y1 H1 s1 g1 c1 => ⟨_, rfl, x2, d2, rfl, h2.ext s1, l2, fun y2 H2 s2 g2 c2 => ⟨_, rfl, x3, d3, rfl, h3.ext (s1.trans s2), l3, fun y3 H3 s3 g3 c3 => ⟨three, fun M hM => ?_⟩⟩⟩⟩
    have s4 : Same H3 (upd H3 M (.lst [y1, y2, y3])) := Same.new (Same.refl _) hM
    have eM : (upd H3 M (.lst [y1, y2, y3])) M = some (.lst [y1, y2, y3]) := upd_same
    generalize upd H3 M (.lst [y1, y2, y3]) = H4 at s4 eM ⊢
    have G1 := ((g1.ext s2).ext s3).ext s4
    have G2 := (g2.ext s3).ext s4
    have G3 := g3.ext s4
    obtain ⟨y, d, Hk, ld, hyk, hdk, sHk, ck, shk, kA, kB, kC, kG⟩ : ∃ (y : V) (d : PyData) (Hk : Hp), (itsD d).length ≤ 1000 ∧ [y1, y2, y3][k]? = some y ∧ Dg K H4 true y d ∧ Same H Hk ∧ (∀ es, d = PyData.list es → ∃ L xs, y = V.ref L ∧ Hk L = none ∧ (L == sysModules) = false ∧ H4 L = some (HO.lst xs) ∧ DgAll K (wo H4 L) true xs es) ∧ Sh (moreD d) ∧
        (isSg d1 = false → k = 0 ∧ y = y1) ∧ (isSg d1 = true → stepsB (numD d1) d2 = false → k = 1 ∧ y = y2) ∧ (isSg d1 = true → stepsB (numD d1) d2 = true → endsB ((itsD d2).length : Int) d3 = false → k = 2 ∧ y = y3) ∧ (∀ D, GoodD D d1 d2 d3 → False) := by
      have up : ∀ {G : Hp} {L : Addr} {xs : List V} {es : List PyData}, Same G H4 → DgAll K (wo G L) true xs es → DgAll K (wo H4 L) true xs es := fun s h => h.ext (Kp.of s).wo
      rcases hc with ⟨rfl, a1, sh⟩ | ⟨rfl, a1, a2, sh⟩ | ⟨rfl, a1, a2, a3, sh⟩
      · refine ⟨y1, d1, H, l1, rfl, G1, Same.refl _, fun es e => ?_, sh, fun _ => ⟨rfl, rfl⟩, fun z => ?_, fun z => ?_, fun D g => ?_⟩
        · obtain ⟨L, xs, e1, e2, e3, e4, e5⟩ := c1 es e
          exact ⟨L, xs, e1, e2, e3, ((s2.trans s3).trans s4) _ _ e4, up ((s2.trans s3).trans s4) e5⟩
        · rw [a1] at z; cases z
        · rw [a1] at z; cases z
        · have := g.sg; rw [a1] at this; cases this
      · refine ⟨y2, d2, H1, l2, rfl, G2, s1, fun es e => ?_, sh, fun z => ?_, fun _ _ => ⟨rfl, rfl⟩, fun _ z => ?_, fun D g => ?_⟩
        · obtain ⟨L, xs, e1, e2, e3, e4, e5⟩ := c2 es e
          exact ⟨L, xs, e1, e2, e3, (s3.trans s4) _ _ e4, up (s3.trans s4) e5⟩
        · rw [a1] at z; cases z
        · rw [a2] at z; cases z
        · have := g.steps
          rw [g.e1] at a2
          rw [show numD (.int (D.sg : Nat)) = ((D.sg : Nat) : Int) from rfl, this] at a2; cases a2
      · refine ⟨y3, d3, H2, l3, rfl, G3, s1.trans s2, fun es e => ?_, sh, fun z => ?_, fun _ z => ?_, fun _ _ _ => ⟨rfl, rfl⟩, fun D g => ?_⟩
        · obtain ⟨L, xs, e1, e2, e3, e4, e5⟩ := c3 es e
          exact ⟨L, xs, e1, e2, e3, s4 _ _ e4, up s4 e5⟩
        · rw [a1] at z; cases z
        · rw [a2] at z; cases z
        · have := g.ends; rw [a3] at this; cases this
    have s14 : Same H H4 := ((s1.trans s2).trans s3).trans s4
    dsimp only [L2.gName]
    refine seq2 (fun v H5 => ∃ r, v = .ref r ∧ Same H4 H5 ∧ H4 r = none ∧ H5 r = some (.lst [.str (doorW k), y])) (fun Q' q => ?_) (fun v H5 ⟨r, ev, s5, hr0, er⟩ => ?_)
    · refine ⟨_, rfl, M, _, _, _, rfl, rfl, SqL.of eM, atI_nat (j := 0) rfl, _, rfl, M, _, _, _, rfl, rfl, SqL.of eM, atI_nat (j := 1) rfl, _, rfl, M, _, _, _, rfl, rfl, SqL.of eM, atI_nat (j := 2) rfl, ?_⟩
      refine ⟨y1, y2, y3, d1, d2, d3, true, true, true, rfl, G1, G2, G3, w2, w3, fun z r H5 s5 hr0 er => ?_, fun z1 z2 r H5 s5 hr0 er => ?_, fun z1 z2 z3 r H5 s5 hr0 er => ?_, fun D g => (kG D g).elim⟩
      · obtain ⟨rfl, rfl⟩ := kA z
        exact q _ _ ⟨r, rfl, s5, hr0, er⟩
      · obtain ⟨rfl, rfl⟩ := kB z1 z2
        exact q _ _ ⟨r, rfl, s5, hr0, er⟩
      · obtain ⟨rfl, rfl⟩ := kC z1 z2 z3
        exact q _ _ ⟨r, rfl, s5, hr0, er⟩
    subst ev
    dsimp only [L2.gName]
    have idx : ∀ (N : Addr) (H6 : Hp) (Q' : VK), H6 N = some (.lst [.str (Str.ofString "signs"), .str (Str.ofString "steps"), .str (Str.ofString "ends")]) → Q' (.int (k : Nat)) H6 → rIndex K (.ref N) [.str (doorW k)] H6 Q' := fun N H6 Q' eN q => by
      have : k = 0 ∨ k = 1 ∨ k = 2 := by omega
      rcases this with rfl | rfl | rfl
      · exact ⟨N, _, _, 0, _, rfl, rfl, SqL.of eN, rfl, rfl, rfl, by decide +kernel, fun m z hm => by omega, q⟩
      · exact ⟨N, _, _, 1, _, rfl, rfl, SqL.of eN, rfl, rfl, rfl, by decide +kernel, fun m z hm e => by
          obtain rfl : m = 0 := by omega
          have := Option.some.inj e
          subst this; decide +kernel, q⟩
      · exact ⟨N, _, _, 2, _, rfl, rfl, SqL.of eN, rfl, rfl, rfl, by decide +kernel, fun m z hm e => by
          have : m = 0 ∨ m = 1 := by omega
          rcases this with rfl | rfl
          · have := Option.some.inj e
            subst this; decide +kernel
          · have := Option.some.inj e
            subst this; decide +kernel, q⟩
    refine ⟨_, rfl, three, fun N hN => ⟨.inl ⟨rfl, _, SqL.of upd_same⟩, _, rfl, ?_⟩⟩
    dsimp only [L2.tNil]
    refine idx N _ _ upd_same ?_
    have s6 : Same H5 (upd H5 N (.lst [.str (Str.ofString "signs"), .str (Str.ofString "steps"), .str (Str.ofString "ends")])) := Same.new (Same.refl _) hN
    generalize upd H5 N (.lst [.str (Str.ofString "signs"), .str (Str.ofString "steps"), .str (Str.ofString "ends")]) = H6 at s6 ⊢
    have s46 := s5.trans s6
    refine ⟨M, _, (k : Int), y, rfl, rfl, SqL.of (s46 _ _ eM), atI_nat hyk, ?_⟩
    have d6 := hdk.ext s46
    have er6 := s6 _ _ er
    have s06 := s14.trans s46
    dsimp only [L2.gName]
    refine ⟨_, rfl, _, _, _, _, isLstD d, rfl, .ty _, d6.ty, kit_lstD d, _, rfl, ?_⟩
    have fin : ∀ H7, Same H H7 → H7 r = some (.lst [.str (doorW k), y]) → Dg K H7 true y (moreD d) → (tRet (tAndV (tOp rEq (tOp (rIxL K) (tVar 5) (tC (.int 0))) (tVar 0)) (tOp rEq (tCB (rReprG K) (tCons (tOp (rIxL K) (tVar 5) (tC (.int 1))) tNil)) (tCB (rReprG K) (tCons (tVar 6) tNil)))))
        { nx := fun x H' => Q V.non H', rt := Q } ((((List.set (L2.start N_law_door [V.str (doorW k), x1, x2, x3]) 4 (some (V.ref M))).set 5 (some (V.ref r))).set 6 (some y))) H7 := fun H7 s7 e7 dm => by
      refine ⟨_, rfl, r, _, _, _, rfl, rfl, SqL.of e7, atI_nat (j := 0) rfl, _, rfl, rfl, _, rfl, ?_⟩
      rw [decide_eq_true rfl]
      refine iteT ⟨_, rfl, r, _, _, _, rfl, rfl, SqL.of e7, atI_nat (j := 1) rfl, _, _, true, rfl, dm, shk.1, shk.2.1, shk.2.2, _, rfl, _, _, true, rfl, dm, shk.1, shk.2.1, shk.2.2, rfl, ?_⟩
      rw [decide_eq_true rfl]
      exact kQ _ s7
    cases d with
    | list es =>
      obtain ⟨L, xs, rfl, hL, low, eL, hx⟩ := ck es rfl
      have eL6 := s46 _ _ eL
      have nr : r ≠ L := fun z => by rw [z, eL] at hr0; cases hr0
      have hLH : H L = none := sHk.free hL
      have hx6 : DgAll K (wo H6 L) true xs es := hx.ext (Kp.of s46).wo
      have lx : xs.length < sizeLine := by
        have := hx.len
        have l5 : es.length ≤ 1000 := ld
        rw [this]; exact Nat.lt_of_le_of_lt l5 (by decide)
      refine iteT ⟨_, rfl, .inl ⟨rfl, _, SqL.of eL6⟩, L, xs, _, rfl, rfl, eL6, lx, ?_⟩
      refine fin _ (fun b o e => ?_) (by rw [upd_ne nr]; exact er6) (.lst (SqL.of upd_same) (fun _ => low) ((hx6.ext wo_updS).append (.cons (.str _) .nil)))
      rw [upd_ne (ne_of_none e hLH)]
      exact s06 _ _ e
    | _ => exact iteF (fin H6 s06 er6 d6)
end
end My

set_option Elab.async false
set_option linter.all false
set_option maxRecDepth 100000
set_option maxHeartbeats 8000000
namespace My
open PySem PySem.Spec PyProof.Rows L2
/-- forty states -/
def manD (pl : Nat) : Dcd := ⟨1, (List.range 40).map fun k => [some ((k + pl) % 40, [97])], List.replicate 40 (some [])⟩
theorem manD_ok (pl : Nat) : (manD pl).ok := by
  have l40 : (manD pl).st.length = 40 := by
    show ((List.range 40).map _).length = 40
    rw [List.length_map, List.length_range]
  refine ⟨by show 1 ≤ 1; omega, by show 1 ≤ 5; omega, by omega, by omega, fun r hr => ?_, by rw [l40]; exact List.length_replicate, fun e he w ew => ?_⟩
  · obtain ⟨k, hk, rfl⟩ := List.mem_map.mp hr
    refine ⟨rfl, fun e he => ?_⟩
    rw [List.mem_singleton.mp he, l40]
    intro g w e
    injection e with e
    injection e with e1 e2
    subst e1 e2
    exact ⟨Nat.mod_lt _ (by omega), Low.one (by decide), by simp⟩
  · rw [List.eq_of_mem_replicate he] at ew
    injection ew with ew
    rw [← ew]; exact ⟨Low.nil, by simp⟩
theorem dg_reps {K : PySem.W.Frag} {H : Hp} {m : Bool} : ∀ n : Nat, DgAll K H m (List.replicate n [V.str (Str.ofString "")]).flatten ((List.replicate n (some [])).map wdD)
  | 0 => .nil
  | n + 1 => by
    rw [List.replicate_succ, List.replicate_succ, List.flatten_cons, List.map_cons]
    exact .cons (by rw [str_nil]; exact .str _) (dg_reps n)
theorem len_reps : ∀ n : Nat, (List.replicate n [V.str (Str.ofString "")]).flatten.length = n
  | 0 => rfl
  | n + 1 => by rw [List.replicate_succ, List.flatten_cons, List.length_append, len_reps n]; simp; omega
theorem okE_man {g : Nat} (h : g < 40) : okE 40 (some (g, [97])) := fun g' w e => by injection e with e; injection e with e1 e2; subst e1 e2; exact ⟨h, Low.one (by decide), by simp⟩
theorem shaped_man {g : Nat} (h : g < 40) : SeqAt.shaped (.tuple [enD (some (g, [97]))]) = true := by
  refine shaped_of ?_ (Nat.le_trans (Fit.tuple (k := 2) (FitAll.cons (fit_enD (okE_man h) (by omega)) FitAll.nil)).d (by omega))
  unfold PyData.canLay0
  refine canAll (f := enD) [some (g, [97])] fun e he => ?_
  rw [List.mem_singleton.mp he]
  unfold enD PyData.canLay0 PyData.canLayAll0 PyData.canLayAll0 PyData.canLayAll0 PyData.canLay0
  rw [strOk_of fun c hc => by rw [List.mem_singleton.mp hc]; omega]; rfl
theorem fit_row1 {r : List Ent} (h : ∀ e ∈ r, okE 40 e) (l : r.length ≤ 5) : Fit (.list (r.map enD)) 3 300 := by
  refine (Fit.list (k := 2) (FitAll.all (w := 40) fun x hx => ?_)).mono (Nat.le_refl _) (by rw [List.length_map]; omega)
  obtain ⟨e, he, rfl⟩ := List.mem_map.mp hx
  exact fit_enD (h e he) (by omega)
def manR (pl : Nat) : List PyData := (manD pl).st.map fun r => .list (r.map enD)
def manW : List PyData := (List.replicate 41 (some ([] : List Nat))).map wdD
theorem manR_fit (pl : Nat) : ∀ d ∈ manR pl, Fit d 3 300 := fun d hd => by
  obtain ⟨r, hr, rfl⟩ := List.mem_map.mp hd
  obtain ⟨l, o⟩ := (manD_ok pl).rows r hr
  have l40 : (manD pl).st.length = 40 := by
    show ((List.range 40).map _).length = 40
    rw [List.length_map, List.length_range]
  rw [l40] at o
  exact fit_row1 o (by rw [l]; show 1 ≤ 5; omega)
theorem manR_len (pl : Nat) : (manR pl).length = 40 := by
  unfold manR
  rw [List.length_map]
  show ((List.range 40).map _).length = 40
  rw [List.length_map, List.length_range]
theorem manW_len : manW.length = 41 := by unfold manW; rw [List.length_map, List.length_replicate]
theorem manW_fit : ∀ d ∈ manW, Fit d 3 300 := fun d hd => by
  obtain ⟨e, he, rfl⟩ := List.mem_map.mp hd
  rw [List.eq_of_mem_replicate he]
  exact (fit_wdD fun w q => by injection q with q; rw [← q]; exact ⟨Low.nil, by simp⟩).mono (by omega) (by omega)
theorem okW.fit4 {w : List Nat} (h : w.length ≤ 4) (hc : ∀ c ∈ w, c < 200) : Fit (.str (S w)) 3 300 := (Fit.str h hc : Fit (.str (S w)) 1 4).mono (by omega) (by omega)
theorem more_fit : Fit (.str (Str.ofString "more")) 3 300 := by
  have e : Str.ofString "more" = S [109, 111, 114, 101] := by decide +kernel
  rw [e]
  exact (okW.fit4 (by simp) (fun c hc => by simp at hc; omega))
theorem sh_lst {ds : List PyData} (h : ∀ d ∈ ds, Fit d 3 300) (l : ds.length ≤ 100) : Sh (.list ds) ∧ (PyData.list ds).weight ≤ 100000 := by
  have f := (Fit.list (k := 3) (FitAll.all (w := 300) h)).mono (Nat.le_refl _) (show (300 + 1) * ds.length ≤ 40000 by omega)
  exact ⟨f.sh (by omega) (by omega), Nat.le_trans f.w (by omega)⟩
section
variable {P : Program} {w : World} {K : PySem.W.Frag} {mg : Str → Option Value} {base : Heap}
theorem ok_law_many_right (T : Txt K mg base) : FnG P w K mg base CX0 11 T.f_law_many_right T.fd_law_many_right ["box"] (fun vs H Q _ => ∃ (p : Addr) (c : Nat), vs = [.ref p] ∧ BoxAt H p c ∧ c < 100000 ∧ ∀ H', Kp p H H' → BoxAt H' p (c + 1) → Q (.bl true) H') := by
  refine T.F_law_many_right.okG sc_law_many_right (fun vs H Q E h => ?_) (fun cdv A outer s0 H vs Q E hgd hr h => ?_)
  · obtain ⟨p, c, rfl, _⟩ := h; rfl
  · obtain ⟨p, c, rfl, hb, hc, kQ⟩ := h
    have hun := un64 hr
    refine ⟨_, (pss_cons (ps_set (i := 1) sc_law_many_right.nd rfl (Or.inr rfl) (pe_call (ok_law_take T) (hr.mono (by decide)) rfl T.g_law_take T.F_law_take.kp T.b_law_take .nil pass0 (pa_cons (pv 0) (pa_cons pe_int pa_nil))))
      (pss_cons (ps_setLc (i := 2) (own := [("k", 3)]) (g := gName 3) (by rfl) sc_law_many_right.nd rfl rfl (sw_true rfl rfl rfl (by decide +kernel)) (pi_range1 rfl T.z_range (pa_cons pe_int pa_nil)) (blkOk_by (own := [("k", 3)]) (N := N_law_many_right) (sc := defScope s_law_many_right) (by decide +kernel)) (fun _ _ _ _ _ => pg_name (i := 3) sc_law_many_right.nd rfl (Or.inl rfl)) (fun _ _ _ _ _ => pts_nil) (fun _ _ _ _ _ => (pe_lstS (pa_cons (pe_tup (pa_cons (pe_op op_mod (pe_callTy call_int1 (by rfl) T.z_int (by decide +kernel) (pa_cons (pe_op op_add (pv 3) (pv 1)) pa_nil)) pe_int) (pa_cons pe_str pa_nil))) pa_nil))))
      (pss_cons (ps_set (i := 4) sc_law_many_right.nd rfl (Or.inl rfl) (pe_make T.mk_Decoder (ok_Decoder_init T) (hr.mono (by decide)) rfl T.g_Decoder T.b_Decoder_init .nil passL (pa_cons pe_int (pa_cons (pe_low (base := base) rfl T.sysd (pv 2)) (pa_cons (pe_low (base := base) rfl T.sysd (pe_op op_rep (pe_lstS (pa_cons pe_str pa_nil)) pe_int)) pa_nil)))))
      (pss_cons (ps_if (PW.pt (pw_or (pt_cmpR op_ne (pe_fld (pv 4) rfl) pe_int (nomark _)) (pw_or1 (pt_cmpR (op_neD (un64 hr)) (pe_ix ix_tup (pe_fld (pv 4) rfl) pe_int (fun _ _ => rfl)) (pe_tup (pa_cons (pe_tup (pa_cons (pe_op op_mod (pe_callTy call_int1 (by rfl) T.z_int (by decide +kernel) (pa_cons (pe_op op_add pe_int (pv 1)) pa_nil)) pe_int) (pa_cons pe_str pa_nil))) pa_nil)) (nomark _))))) (pss_one (ps_ret pe_bl)) pss_nil)
      (pss_one (ps_ret (pe_and (pe_callG (ok_law_door T) hgd (hr.mono (by decide)) rfl T.g_law_door T.F_law_door.kp T.b_law_door .nil pass0 (pa_cons pe_str (pa_cons pe_int (pa_cons (pe_low (base := base) rfl T.sysd (pe_op op_cat (pe_low (base := base) rfl T.sysd (pv 2)) (pe_lstS (pa_cons (pe_lstS (pa_cons pe_non pa_nil)) pa_nil)))) (pa_cons (pe_low (base := base) rfl T.sysd (pe_op op_rep (pe_lstS (pa_cons pe_str pa_nil)) pe_int)) pa_nil))))) (pe_one (pe_callG (ok_law_door T) hgd (hr.mono (by decide)) rfl T.g_law_door T.F_law_door.kp T.b_law_door .nil pass0 (pa_cons pe_str (pa_cons pe_int (pa_cons (pe_low (base := base) rfl T.sysd (pv 2)) (pa_cons (pe_low (base := base) rfl T.sysd (pe_op op_rep (pe_lstS (pa_cons pe_str pa_nil)) pe_int)) pa_nil))))))))))))), ?_⟩
    have one : 1 ≤ sizeLine := by decide
    have two : 2 ≤ sizeLine := by decide
    refine ⟨_, rfl, p, c, 40, rfl, hb, by omega, by omega, by omega, fun pl o hpl ho => ?_⟩
    have k1 : Kp p H (upd H p o) := (Kp.refl p H).upd
    have b1 : BoxAt (upd H p o) p (c + 1) := ho.at
    generalize upd H p o = H1 at k1 b1 ⊢
    refine ⟨40, rfl, by decide, by decide, fun D hD => ?_⟩
    refine lc_range_data (K := K) (m := true) (p := D) (lo := 0) (n := 40) (fun k => .list [enD (some ((k + pl) % 40, [97]))]) hD (by omega) (fun j H' R N hj s' eD kk => ⟨rfl, tYesT ?_⟩) (fun H2 xs s2 e2 h2 => ?_)
    · refine ⟨_, rfl, _, rfl, _, _, rfl, rfl, .inl ⟨_, rfl, _, _, rfl, rfl, (by show (0 : Int) < 40; decide), two, fun t ht => ⟨one, fun l hl low => ?_⟩⟩⟩
      have eg : ((0 : Int) + (j : Int) + (pl : Int)) % 40 = (((j + pl) % 40 : Nat) : Int) := by omega
      have nt : t ≠ D := fun z => eD (by rw [← z]; exact ht)
      have s2 : Same H' (upd H' t (.tup [.int (((0 : Int) + (j : Int) + (pl : Int)) % 40), .str (Str.ofString "a")])) := Same.new (Same.refl _) ht
      have et : (upd H' t (.tup [.int (((0 : Int) + (j : Int) + (pl : Int)) % 40), .str (Str.ofString "a")])) t = some (.tup [.int (((0 : Int) + (j : Int) + (pl : Int)) % 40), .str (Str.ofString "a")]) := upd_same
      generalize upd H' t (.tup [.int (((0 : Int) + (j : Int) + (pl : Int)) % 40), .str (Str.ofString "a")]) = H3 at s2 et hl ⊢
      have nl : l ≠ D := fun z => (same_at s2 eD) (by rw [← z]; exact hl)
      have s3 : Same H3 (upd H3 l (.lst [.ref t])) := Same.new (Same.refl _) hl
      have a97 : Str.ofString "a" = S [97] := by decide +kernel
      refine kk _ _ (s2.trans s3) (.lst (SqL.of (by rw [wo_ne nl, wo_ne nl]; exact upd_same)) (fun _ => low) (.cons (.tup (SqT.of (by rw [wo_ne nt, wo_ne nt]; exact s3 _ _ et)) (.cons (by rw [eg]; exact .int _) (.cons (by rw [a97]; exact .str _) .nil))) .nil))
    · have h2 := own_list0 h2
      have ok := manD_ok pl
      refine ⟨_, rfl, fun hsys => ?_⟩
      have lowD : (D == sysModules) = false := low_ne hsys (by rw [e2]; exact fun z => by cases z)
      have dR : Dg K H2 true (.ref D) (manD pl).stL := .lst (SqL.of e2) (fun _ => lowD) (by
        show DgAll K H2 true xs (((List.range 40).map fun k => [some ((k + pl) % 40, ([97] : List Nat))]).map fun r => PyData.list (r.map enD))
        rw [List.map_map]
        exact h2)
      have k2 : Kp p H H2 := k1.trans (Kp.of s2)
      have b2 := b1.same s2
      refine ⟨one, fun N1 hN1 low1 => ⟨N1, (40 : Int), [.str (Str.ofString "")], rfl, rfl, upd_same, by omega, by omega, ?_, fun N2 hN2 hsys2 => ?_⟩⟩
      · show 1 * 40 ≤ sizeLine; decide
      have s3 : Same H2 (upd H2 N1 (.lst [.str (Str.ofString "")])) := Same.new (Same.refl _) hN1
      generalize upd H2 N1 (.lst [.str (Str.ofString "")]) = H3 at s3 hN2 hsys2 ⊢
      have s4 : Same H3 (upd H3 N2 (.lst (List.replicate (Int.toNat 40) [V.str (Str.ofString "")]).flatten)) := Same.new (Same.refl _) hN2
      have lowN : (N2 == sysModules) = false := low_ne hsys2 (by rw [upd_same]; exact fun z => by cases z)
      have dW : Dg K (upd H3 N2 (.lst (List.replicate (Int.toNat 40) [V.str (Str.ofString "")]).flatten)) true (.ref N2) (manD pl).enL := .lst (SqL.of upd_same) (fun _ => lowN) (dg_reps 40)
      generalize upd H3 N2 (.lst (List.replicate (Int.toNat 40) [V.str (Str.ofString "")]).flatten) = H4 at s4 dW ⊢
      have s24 := s3.trans s4
      have dR4 := dR.ext s24
      refine fun x dx hx hdx _ => ⟨x, dx, _, _, _, .int 1, _, _, false, true, true, rfl, upd_same, .int 1, made_dw hx hdx dR4, made_dw hx hdx dW, weight_stL ok, weight_enL ok, .inr (.inr (.inr ⟨manD pl, Dcd.goodL ok, fun H5 k5 dec => ⟨rfl, ?_⟩⟩))⟩
      have s45 : Same H4 H5 := made_same hx hdx k5
      have s25 := s24.trans s45
      obtain ⟨⟨dy, St, Et, eo, hs, he⟩, _⟩ := id dec
      have l40 : (manD pl).st.length = 40 := by
        show ((List.range 40).map _).length = 40
        rw [List.length_map, List.length_range]
      refine ⟨_, rfl, x, _, dy, _, _, rfl, eo, T.cl_Decoder, T.na_Decoder_states, dfs_states, rfl, _, rfl, ?_⟩
      rw [l40, decide_eq_true (show V.int ((40 : Nat) : Int) = V.int 40 from rfl)]
      refine iteF ?_
      obtain ⟨St', us, eSt, hsq, hua⟩ := hs.tup_of
      injection eSt with eSt
      subst eSt
      have lus := hua.len
      rw [List.length_map] at lus
      obtain ⟨v39, h39⟩ : ∃ v, us[39]? = some v := ⟨_, List.getElem?_eq_getElem (by omega)⟩
      obtain ⟨d39, hd39, dv39⟩ := hua.at 39 v39 h39
      have e39 : d39 = .tuple [enD (some ((39 + pl) % 40, [97]))] := by
        have : ((manD pl).st.map fun r => PyData.tuple (r.map enD))[39]? = some (.tuple [enD (some ((39 + pl) % 40, [97]))]) := by
          show (((List.range 40).map fun k => [some ((k + pl) % 40, ([97] : List Nat))]).map fun r => PyData.tuple (r.map enD))[39]? = _
          rw [List.getElem?_map, List.getElem?_map, List.getElem?_range (by omega)]; rfl
        rw [this] at hd39
        exact (Option.some.inj hd39).symm
      subst e39
      have g40 : (39 + pl) % 40 < 40 := Nat.mod_lt _ (by omega)
      refine ⟨_, rfl, x, _, dy, _, _, rfl, eo, T.cl_Decoder, T.na_Decoder_steps, dfs_steps, St, us, 39, v39, rfl, rfl, hsq, atI_nat (j := 39) h39, _, rfl, _, _, rfl, rfl, .inl ⟨_, rfl, _, _, rfl, rfl, (by show (0 : Int) < 40; decide), two, fun t ht => ⟨one, fun t2 ht2 => ?_⟩⟩⟩
      have eg : ((39 : Int) + (pl : Int)) % 40 = (((39 + pl) % 40 : Nat) : Int) := by omega
      have s6 : Same H5 (upd H5 t (.tup [.int (((39 : Int) + (pl : Int)) % 40), .str (Str.ofString "a")])) := Same.new (Same.refl _) ht
      have et : (upd H5 t (.tup [.int (((39 : Int) + (pl : Int)) % 40), .str (Str.ofString "a")])) t = some (.tup [.int (((39 : Int) + (pl : Int)) % 40), .str (Str.ofString "a")]) := upd_same
      generalize upd H5 t (.tup [.int (((39 : Int) + (pl : Int)) % 40), .str (Str.ofString "a")]) = H6 at s6 et ht2 ⊢
      have s7 : Same H6 (upd H6 t2 (.tup [.ref t])) := Same.new (Same.refl _) ht2
      have a97 : Str.ofString "a" = S [97] := by decide +kernel
      have d2 : Dg K (upd H6 t2 (.tup [.ref t])) false (.ref t2) (.tuple [enD (some ((39 + pl) % 40, [97]))]) := .tup (SqT.of upd_same) (.cons (.tup (SqT.of (s7 _ _ et)) (.cons (by rw [eg]; exact .int _) (.cons (by rw [a97]; exact .str _) .nil))) .nil)
      generalize upd H6 t2 (.tup [.ref t]) = H7 at s7 d2 ⊢
      have s57 := s6.trans s7
      refine ⟨_, _, dg_dp _ _ (dv39.ext s57), dg_dp _ _ d2, shaped_man g40, shaped_man g40, _, rfl, ?_⟩
      have ev : PyData.eqv (.tuple [enD (some ((39 + pl) % 40, [97]))]) (.tuple [enD (some ((39 + pl) % 40, [97]))]) = true := (eqv_pl _ _ (by simp [plD, plAll, plD_enD]) (by simp [plD, plAll, plD_enD])).mpr rfl
      rw [ev]
      refine iteF ?_
      have s27 := s25.trans s57
      have hM : DgAll K H2 true xs (manR pl) := by
        show DgAll K H2 true xs (((List.range 40).map fun k => [some ((k + pl) % 40, ([97] : List Nat))]).map fun r => PyData.list (r.map enD))
        rw [List.map_map]
        exact h2
      have fit41 : ∀ xs : List V, xs.length = 40 → xs.length + 1 ≤ sizeLine := fun xs h => by rw [h]; decide
      have lxs : xs.length = 40 := by have := h2.len; rw [List.length_map, List.length_range] at this; exact this
      refine ⟨_, rfl, fun _ => ⟨one, fun n1 hn1 lw1 => ⟨one, fun n2 hn2 lw2 => ?_⟩⟩⟩
      have s8 : Same H7 (upd H7 n1 (.lst [.non])) := Same.new (Same.refl _) hn1
      have e8 : (upd H7 n1 (.lst [.non])) n1 = some (.lst [.non]) := upd_same
      generalize upd H7 n1 (.lst [.non]) = H8 at s8 e8 hn2 ⊢
      have s9 : Same H8 (upd H8 n2 (.lst [.ref n1])) := Same.new (Same.refl _) hn2
      have e9 : (upd H8 n2 (.lst [.ref n1])) n2 = some (.lst [.ref n1]) := upd_same
      generalize upd H8 n2 (.lst [.ref n1]) = H9 at s9 e9 ⊢
      have s29 := (s27.trans s8).trans s9
      refine ⟨D, n2, xs, [.ref n1], rfl, rfl, s29 _ _ e2, e9, fit41 _ lxs, fun R hR hsysR => ?_⟩
      have lowR : (R == sysModules) = false := low_ne hsysR (by rw [upd_same]; exact fun z => by cases z)
      have s10 : Same H9 (upd H9 R (.lst (xs ++ [.ref n1]))) := Same.new (Same.refl _) hR
      have dRR : Dg K (upd H9 R (.lst (xs ++ [.ref n1]))) true (.ref R) (.list (manR pl ++ [.list [.none]])) := by
        refine .lst (SqL.of upd_same) (fun _ => lowR) (DgAll.append ?_ (.cons (.lst (SqL.of (s10 _ _ (s9 _ _ e8))) (fun _ => lw1) (.cons .non .nil)) .nil))
        exact hM.ext (s29.trans s10)
      generalize upd H9 R (.lst (xs ++ [.ref n1])) = H10 at s10 dRR ⊢
      refine ⟨one, fun m1 hm1 lwm => ⟨m1, (41 : Int), [.str (Str.ofString "")], rfl, rfl, upd_same, by omega, by omega, (by show 1 * 41 ≤ sizeLine; decide), fun m2 hm2 hsysm => ?_⟩⟩
      have s11 : Same H10 (upd H10 m1 (.lst [.str (Str.ofString "")])) := Same.new (Same.refl _) hm1
      generalize upd H10 m1 (.lst [.str (Str.ofString "")]) = H11 at s11 hm2 hsysm ⊢
      have s12 : Same H11 (upd H11 m2 (.lst (List.replicate (Int.toNat 41) [V.str (Str.ofString "")]).flatten)) := Same.new (Same.refl _) hm2
      have lowm : (m2 == sysModules) = false := low_ne hsysm (by rw [upd_same]; exact fun z => by cases z)
      have dM : Dg K (upd H11 m2 (.lst (List.replicate (Int.toNat 41) [V.str (Str.ofString "")]).flatten)) true (.ref m2) (.list manW) := .lst (SqL.of upd_same) (fun _ => lowm) (dg_reps 41)
      generalize upd H11 m2 (.lst (List.replicate (Int.toNat 41) [V.str (Str.ofString "")]).flatten) = H12 at s12 dM ⊢
      have s1012 := s11.trans s12
      have s212 := (s29.trans s10).trans s1012
      obtain ⟨mR, eR⟩ : ∃ m, m = manR pl := ⟨_, rfl⟩
      obtain ⟨mW, eW⟩ : ∃ m, m = manW := ⟨_, rfl⟩
      have lM : mW.length = 41 := by rw [eW]; exact manW_len
      have lR : mR.length = 40 := by rw [eR]; exact manR_len pl
      have fR0 : ∀ d ∈ mR, Fit d 3 300 := by rw [eR]; exact manR_fit pl
      have fW0 : ∀ d ∈ mW, Fit d 3 300 := by rw [eW]; exact manW_fit
      have stB : stepsB 1 (.list mR) = true := by
        rw [eR]
        exact (Dcd.goodL ok).steps
      have dR2 : Dg K H2 true (.ref D) (.list mR) := by rw [eR]; exact dR
      rw [← eR] at hM dRR
      rw [← eW] at dM
      have none_fit : Fit (.list [.none]) 3 300 := (Fit.list (k := 2) (FitAll.cons (Fit.none (k := 2)) FitAll.nil)).mono (Nat.le_refl _) (show 0 + 1 + 0 ≤ 300 by omega)
      have fR : ∀ d ∈ mR ++ [.list [.none]], Fit d 3 300 := fun d hd => by
        rcases List.mem_append.mp hd with z | z
        · exact fR0 d z
        · rw [List.mem_singleton.mp z]; exact none_fit
      have fMo : ∀ {l : List PyData}, (∀ d ∈ l, Fit d 3 300) → ∀ d ∈ l ++ [.str (Str.ofString "more")], Fit d 3 300 := fun h d hd => by
        rcases List.mem_append.mp hd with z | z
        · exact h d z
        · rw [List.mem_singleton.mp z]; exact more_fit
      have w1 : (PyData.int 1).weight ≤ 100000 := Nat.le_trans (Fit.nat (k := 0) (r := 1) (by omega)).w (by omega)
      have l1 : (itsD (PyData.int 1)).length ≤ 1000 := by show 0 ≤ 1000; omega
      have lR1 : (mR ++ [PyData.list [.none]]).length = 41 := by rw [List.length_append, lR]; rfl
      have w2 : (PyData.list (mR ++ [.list [.none]])).weight ≤ 100000 := (sh_lst fR (by omega)).2
      have w3 : (PyData.list mW).weight ≤ 100000 := (sh_lst fW0 (by omega)).2
      have w4 : (PyData.list mR).weight ≤ 100000 := (sh_lst fR0 (by omega)).2
      have l2 : (itsD (PyData.list (mR ++ [.list [.none]]))).length ≤ 1000 := by show (mR ++ [PyData.list [.none]]).length ≤ 1000; omega
      have l3 : (itsD (PyData.list mW)).length ≤ 1000 := by show mW.length ≤ 1000; omega
      have l4 : (itsD (PyData.list mR)).length ≤ 1000 := by show mR.length ≤ 1000; omega
      have sb : stepsB (numD (.int 1)) (.list (mR ++ [.list [.none]])) = false := by
        show (true && ((decide (1 ≤ (((mR ++ [PyData.list [.none]]).length : Nat) : Int)) && decide ((((mR ++ [PyData.list [.none]]).length : Nat) : Int) ≤ 40)) && _)) = false
        rw [lR1]; rfl
      have shA : Sh (moreD (.list (mR ++ [.list [.none]]))) := (sh_lst (fMo fR) (by rw [List.length_append, lR1]; show 42 ≤ 100; omega)).1
      have shB : Sh (moreD (.list mW)) := (sh_lst (fMo fW0) (by rw [List.length_append, lM]; show 42 ≤ 100; omega)).1
      have eb : endsB ((itsD (.list mR)).length : Int) (.list mW) = false := by
        show (true && (decide (((mW.length : Nat) : Int) = ((mR.length : Nat) : Int)) && _)) = false
        rw [lM, lR]; rfl
      have s1 : isSg (.int 1) = true := by decide
      have dRRb := dRR.ext s1012
      have doorA : ∀ Q' : VK, (∀ H13, Same H12 H13 → Q' (.bl true) H13) → spDoor K [.str (Str.ofString "steps"), .int 1, .ref R, .ref m2] H12 Q' E0 := fun Q' q =>
        ⟨1, .int 1, .ref R, .ref m2, .int 1, .list (mR ++ [.list [.none]]), .list mW, rfl, by omega, .int 1, dRRb, dM, w1, w2, w3, l1, l2, l3, .inr (.inl ⟨rfl, s1, sb, shA⟩), q⟩
      dsimp only [L2.tNil]
      refine doorA _ fun H13 s13 => ?_
      refine ⟨_, rfl, iteT ⟨_, rfl, fun _ => ⟨one, fun m3 hm3 lw3 => ⟨m3, (41 : Int), [.str (Str.ofString "")], rfl, rfl, upd_same, by omega, by omega, (by show 1 * 41 ≤ sizeLine; decide), fun m4 hm4 hsys4 => ?_⟩⟩⟩⟩
      have s14 : Same H13 (upd H13 m3 (.lst [.str (Str.ofString "")])) := Same.new (Same.refl _) hm3
      generalize upd H13 m3 (.lst [.str (Str.ofString "")]) = H14 at s14 hm4 hsys4 ⊢
      have s15 : Same H14 (upd H14 m4 (.lst (List.replicate (Int.toNat 41) [V.str (Str.ofString "")]).flatten)) := Same.new (Same.refl _) hm4
      have low4 : (m4 == sysModules) = false := low_ne hsys4 (by rw [upd_same]; exact fun z => by cases z)
      have dM4 : Dg K (upd H14 m4 (.lst (List.replicate (Int.toNat 41) [V.str (Str.ofString "")]).flatten)) true (.ref m4) (.list mW) := by rw [eW]; exact .lst (SqL.of upd_same) (fun _ => low4) (dg_reps 41)
      generalize upd H14 m4 (.lst (List.replicate (Int.toNat 41) [V.str (Str.ofString "")]).flatten) = H15 at s15 dM4 ⊢
      have s215 := ((s212.trans s13).trans s14).trans s15
      have dR15 := dR2.ext s215
      dsimp only [L2.tNil]
      have doorB : ∀ Q' : VK, (∀ H16, Same H15 H16 → Q' (.bl true) H16) → spDoor K [.str (Str.ofString "ends"), .int 1, .ref D, .ref m4] H15 Q' E0 := fun Q' q =>
        ⟨2, .int 1, .ref D, .ref m4, .int 1, .list mR, .list mW, rfl, by omega, .int 1, dR15, dM4, w1, w4, w3, l1, l4, l3, .inr (.inr ⟨rfl, s1, stB, eb, shB⟩), q⟩
      refine doorB _ fun H16 s16 => ?_
      have s216 := s215.trans s16
      exact kQ H16 (k2.trans (Kp.of s216)) (b2.same s216)
end
end My

set_option Elab.async false
set_option linter.all false
set_option maxRecDepth 100000
set_option maxHeartbeats 8000000
namespace My
open PySem PySem.Spec PyProof.Rows L2
theorem fit_tupR {d : PyData} {k w : Nat} (h : Fit d k w) : Fit (tupR d) k w := by
  cases d with
  | list ds =>
    obtain ⟨h1, h2, h3, h4⟩ := h
    unfold PyData.showable at h1
    unfold PyData.depth at h2
    unfold PyData.leavesShort at h3
    unfold PyData.weight at h4
    refine ⟨?_, ?_, ?_, ?_⟩
    · show (PyData.tuple ds).showable = true
      unfold PyData.showable; exact h1
    · show (PyData.tuple ds).depth ≤ k
      unfold PyData.depth; exact h2
    · show (PyData.tuple ds).leavesShort 40 = true
      unfold PyData.leavesShort; exact h3
    · show (PyData.tuple ds).weight ≤ w
      unfold PyData.weight; exact h4
  | _ => exact h
/-- small enough, itself and as tuples -/
structure BadV (d : PyData) : Prop where
  w : d.weight ≤ 100000
  l : (itsD d).length ≤ 1000
  sh : Sh (moreD d)
  w2 : (tupsD d).weight ≤ 100000
  l2 : (itsD (tupsD d)).length ≤ 1000
  sh2 : Sh (moreD (tupsD d))
theorem more_fit9 : Fit (.str (Str.ofString "more")) 9 1000 := more_fit.mono (by omega) (by omega)
theorem badv_list {ds : List PyData} (h : ∀ d ∈ ds, Fit d 9 1000) (l : ds.length ≤ 60) : BadV (.list ds) := by
  have hl : Fit (.list ds) 10 70000 := (Fit.list (k := 9) (FitAll.all (w := 1000) h)).mono (Nat.le_refl _) (show (1000 + 1) * ds.length ≤ 70000 by omega)
  have hm : Fit (.list (ds ++ [.str (Str.ofString "more")])) 10 70000 := by
    refine (Fit.list (k := 9) (FitAll.all (w := 1000) fun d hd => ?_)).mono (Nat.le_refl _) (show (1000 + 1) * (ds ++ [PyData.str (Str.ofString "more")]).length ≤ 70000 by rw [List.length_append]; show (1000 + 1) * (ds.length + 1) ≤ _; omega)
    rcases List.mem_append.mp hd with z | z
    · exact h d z
    · rw [List.mem_singleton.mp z]; exact more_fit9
  have ht : Fit (.tuple (ds.map tupR)) 10 70000 := by
    refine (Fit.tuple (k := 9) (FitAll.all (w := 1000) fun d hd => ?_)).mono (Nat.le_refl _) (show (1000 + 1) * (ds.map tupR).length ≤ 70000 by rw [List.length_map]; omega)
    obtain ⟨e, he, rfl⟩ := List.mem_map.mp hd
    exact fit_tupR (h e he)
  exact ⟨Nat.le_trans hl.w (by omega), by show ds.length ≤ 1000; omega, hm.sh (by omega) (by omega), Nat.le_trans ht.w (by omega), by show (ds.map tupR).length ≤ 1000; rw [List.length_map]; omega, ht.sh (by omega) (by omega)⟩
theorem badv_of {d : PyData} (h : Fit d 9 1000) (n : isLstD d = false) (l : (itsD d).length ≤ 60) : BadV d := by
  have e1 : moreD d = d := by cases d <;> first | rfl | cases n
  have e2 : tupsD d = d := by cases d <;> first | rfl | cases n
  have l' : (itsD d).length ≤ 1000 := by omega
  exact ⟨Nat.le_trans h.w (by omega), l', by rw [e1]; exact h.sh (by omega) (by omega), by rw [e2]; exact Nat.le_trans h.w (by omega), by rw [e2]; exact l', by rw [e2, e1]; exact h.sh (by omega) (by omega)⟩
theorem isWd_tupR (d : PyData) : endB (tupR d) = endB d := by cases d <;> rfl
theorem all_tupR {f : PyData → Bool} (h : ∀ d, f (tupR d) = f d) : ∀ ds : List PyData, (ds.map tupR).all f = ds.all f
  | [] => rfl
  | d :: ds => by rw [List.map_cons, List.all_cons, List.all_cons, h, all_tupR h ds]
theorem its_tups (d : PyData) : (itsD (tupsD d)).length = (itsD d).length := by
  cases d with
  | list ds => show (ds.map tupR).length = ds.length; rw [List.length_map]
  | _ => rfl
theorem endsB_tups (n : Int) (d : PyData) : endsB n (tupsD d) = endsB n d := by
  cases d with
  | list ds =>
    show (true && (decide ((((ds.map tupR).length : Nat) : Int) = n) && (ds.map tupR).all endB)) = (true && (decide (((ds.length : Nat) : Int) = n) && ds.all endB))
    rw [List.length_map, all_tupR isWd_tupR]
  | _ => rfl
theorem entB_tupR (m n : Int) (d : PyData) : entB m n (tupR d) = entB m n d := by cases d <;> rfl
theorem stepsB_tups (m : Int) (d : PyData) : stepsB m (tupsD d) = stepsB m d := by
  cases d with
  | list ds =>
    show (true && ((decide (1 ≤ (((ds.map tupR).length : Nat) : Int)) && decide ((((ds.map tupR).length : Nat) : Int) ≤ 40)) && (ds.map tupR).all (entB m (((ds.map tupR).length : Nat) : Int)))) = (true && ((decide (1 ≤ ((ds.length : Nat) : Int)) && decide (((ds.length : Nat) : Int) ≤ 40)) && ds.all (entB m ((ds.length : Nat) : Int))))
    rw [List.length_map, all_tupR (entB_tupR m _)]
  | _ => rfl
theorem all_set_false {f : PyData → Bool} {ds : List PyData} {j : Nat} {x : PyData} (hj : j < ds.length) (h : f x = false) : (ds.set j x).all f = false := by
  rw [List.all_eq_false]
  exact ⟨x, List.mem_of_getElem? (List.getElem?_set_self hj), by rw [h]; exact Bool.false_ne_true⟩
theorem endsB_len {n : Nat} {ds : List PyData} (h : ds.length ≠ n) : endsB (n : Nat) (.list ds) = false := by
  show (true && (decide (((ds.length : Nat) : Int) = (n : Int)) && _)) = false
  rw [decide_eq_false (by omega)]; rfl
theorem endsB_at {n j : Nat} {ds : List PyData} {x : PyData} (hj : j < ds.length) (h : endB x = false) : endsB (n : Nat) (.list (ds.set j x)) = false := by
  show (true && (_ && (ds.set j x).all endB)) = false
  rw [all_set_false hj h, Bool.and_false]; rfl
theorem endsB_no {n : Int} {d : PyData} (h : isSqD d = false) : endsB n d = false := by
  unfold endsB
  rw [h]; rfl
theorem fit_a {n : Nat} (h : n ≤ 40) {k : Nat} : Fit (.str (Txt.mul (Str.ofString "a") (n : Int))) k 1000 := by
  have a97 : Str.ofString "a" = S [97] := by decide +kernel
  rw [a97, mul_S]
  refine Fit.str ?_ fun c hc => ?_
  · rw [Lev.rounds_len]; show n * 1 ≤ 1000; omega
  · have this : ∀ n, Lev.rounds n [97] = List.replicate n 97 := fun n => by
      induction n with
      | zero => rfl
      | succ n ih => show [97] ++ Lev.rounds n [97] = _; rw [ih]; rfl
    rw [this] at hc
    rw [List.eq_of_mem_replicate hc]; omega
theorem mulOk_a {n : Nat} (h : n ≤ 1000) : MulOk (Str.ofString "a") (n : Int) := by
  have a97 : Str.ofString "a" = S [97] := by decide +kernel
  rw [a97]
  exact mulOk_S (by simp) h
section
variable {P : Program} {w : World} {K : PySem.W.Frag} {mg : Str → Option Value} {base : Heap}
theorem ok_law_spoilt_ends (T : Txt K mg base) : FnOk P w K mg base CX0 2 T.f_law_spoilt_ends T.fd_law_spoilt_ends ["box", "ends"] (fun vs H Q _ => ∃ (p Ea : Addr) (c : Nat) (D : Dcd), vs = [.ref p, .ref Ea] ∧ BoxAt H p c ∧ c < 1000000 ∧ D.ok ∧ Dg K (wo H p) false (.ref Ea) D.enL ∧
    ∀ x d H', Kp p H H' → BoxAt H' p (c + 3) → Dw K p H' true x d → BadV d → endsB (D.st.length : Nat) d = false → Q x H') := by
  refine T.F_law_spoilt_ends.ok sc_law_spoilt_ends (fun vs H Q E h => ?_) (fun cdv A outer s H vs Q E hr h => ?_)
  · obtain ⟨p, Ea, c, D, rfl, _⟩ := h; rfl
  · obtain ⟨p, Ea, c, D, rfl, hb, hc, ok, hdE, kQ⟩ := h
    refine ⟨_, (pss_cons (ps_par3 (i := 2) (j := 3) (l := 4) (by rfl) sc_law_spoilt_ends.nd rfl rfl rfl (by decide) (by decide) (by decide) rfl rfl rfl (pa_cons (pe_callTy call_list_ofS (by rfl) T.z_list (by decide +kernel) (pa_cons (pv 1) pa_nil)) (pa_cons (pe_call (ok_law_take T) (hr.mono (by decide)) rfl T.g_law_take T.F_law_take.kp T.b_law_take .nil pass0 (pa_cons (pv 0) (pa_cons (pe_callB call_len_seq (by rfl) T.z_len (by decide +kernel) (pa_cons (pv 1) pa_nil)) pa_nil))) (pa_cons (pe_call (ok_law_take T) (hr.mono (by decide)) rfl T.g_law_take T.F_law_take.kp T.b_law_take .nil pass0 (pa_cons (pv 0) (pa_cons pe_int pa_nil))) pa_nil))) (by rfl))
      (pss_cons (ps_set (i := 5) sc_law_spoilt_ends.nd rfl (Or.inl rfl) (pe_lstS (pa_cons pe_str (pa_cons pe_str (pa_cons pe_str (pa_cons pe_str (pa_cons pe_int (pa_cons pe_bl (pa_cons (pe_lstS (pa_cons pe_str pa_nil)) (pa_cons (pe_tup (pa_cons pe_str pa_nil)) (pa_cons (pe_tup (pa_cons pe_int (pa_cons pe_str pa_nil))) (pa_cons pe_str (pa_cons pe_str (pa_cons pe_str (pa_cons (pe_tup pa_nil) (pa_cons pe_int (pa_cons pe_str (pa_cons pe_str pa_nil))))))))))))))))))
      (pss_cons (ps_if (pt_cmpR op_eq (pv 4) pe_int (nomark _)) (pss_one (ps_set (i := 2) sc_law_spoilt_ends.nd rfl (Or.inl rfl) (pe_low (base := base) rfl T.sysd (pe_op op_cat (pv 2) (pe_lstS (pa_cons (pe_ix ix_list (pe_lstS (pa_cons pe_non (pa_cons pe_str pa_nil))) (pe_call (ok_law_take T) (hr.mono (by decide)) rfl T.g_law_take T.F_law_take.kp T.b_law_take .nil pass0 (pa_cons (pv 0) (pa_cons pe_int pa_nil))) (fun _ _ => rfl)) pa_nil)))))) (pss_one (ps_if (pt_cmpR op_eq (pv 4) pe_int (nomark _)) (pss_one (ps_set (i := 2) sc_law_spoilt_ends.nd rfl (Or.inl rfl) (pe_low (base := base) rfl T.sysd (pe_op op_cat (pe_slice sl_list (pv 2) po_none (po_some (pv 3))) (pe_slice sl_list (pv 2) (po_some (pe_op op_add (pv 3) pe_int)) po_none))))) (pss_one (ps_if (pt_cmpR op_eq (pv 4) pe_int (nomark _)) (pss_one (ps_ret (pe_ix ix_list (pe_lstS (pa_cons pe_non (pa_cons (pe_op op_mul_str pe_str (pe_callB call_len_seq (by rfl) T.z_len (by decide +kernel) (pa_cons (pv 1) pa_nil))) (pa_cons pe_dnewK (pa_cons pe_int pa_nil))))) (pe_call (ok_law_take T) (hr.mono (by decide)) rfl T.g_law_take T.F_law_take.kp T.b_law_take .nil pass0 (pa_cons (pv 0) (pa_cons pe_int pa_nil))) (fun _ _ => rfl)))) (pss_one (ps_asg (pe_ix ix_list (pv 5) (pe_call (ok_law_take T) (hr.mono (by decide)) rfl T.g_law_take T.F_law_take.kp T.b_law_take .nil pass0 (pa_cons (pv 0) (pa_cons (pe_callB call_len_seq (by rfl) T.z_len (by decide +kernel) (pa_cons (pv 5) pa_nil)) pa_nil))) (fun _ _ => rfl)) (pg_sub (pv 2) (pv 3) set_list))))))))
      (pss_one (ps_ret (pv 2)))))), ?_⟩
    have one : 1 ≤ sizeLine := by decide
    have two : 2 ≤ sizeLine := by decide
    have four : 4 ≤ sizeLine := by decide
    have n40 := ok.n40
    have n1 := ok.n1
    obtain ⟨Ea', ys, e0, hqE, _, hya⟩ := hdE.lst_of
    injection e0 with e0
    subst e0
    have lys := hya.len
    rw [List.length_map] at lys
    have len : ys.length = D.st.length := by rw [lys]; exact ok.ends
    have hyb : DgAll K (wo H p) true ys (D.en.map wdD) := dg_lfAll _ _ (lfAll_map lf_wd _) hya
    have les : (D.en.map wdD).length = D.st.length := by rw [List.length_map]; exact ok.ends
    have fes : ∀ d ∈ D.en.map wdD, Fit d 9 1000 := fun d hd => by
      obtain ⟨e, he, rfl⟩ := List.mem_map.mp hd
      exact (fit_wdD fun w q => ok.words e he w q).mono (by omega) (by omega)
    obtain ⟨es, ees⟩ : ∃ es, es = D.en.map wdD := ⟨_, rfl⟩
    rw [← ees] at hyb les fes
    have hqE0 : SqL K H Ea ys := hqE.ext (wo_same H p)
    refine ⟨_, rfl, Ea, ys, rfl, .inl hqE0, fun L hL lowL => ?_⟩
    have nL : L ≠ p := (hb.ne hL).symm
    have k1 : Kp p H (upd H L (.lst ys)) := (Kp.refl p H).new hL
    have b1 := hb.new hL (o := .lst ys)
    have eL : (upd H L (.lst ys)) L = some (.lst ys) := upd_same
    have hE1 : SqL K (upd H L (.lst ys)) Ea ys := hqE0.ext (Same.new (Same.refl _) hL)
    generalize upd H L (.lst ys) = H1 at k1 b1 eL hE1 ⊢
    refine ⟨_, rfl, _, rfl, Ea, ys, rfl, .inl hE1, p, c, (ys.length : Int), rfl, b1, by omega, by omega, by omega, fun at_ o2 hat ho2 => ⟨_, rfl, p, _, 6, rfl, ho2.at, by omega, by omega, by omega, fun way o3 hway ho3 => ?_⟩⟩
    have k13 : Kp p H1 (upd (upd H1 p o2) p o3) := ((Kp.refl p H1).upd).upd
    have k3 := k1.trans k13
    have b3 : BoxAt (upd (upd H1 p o2) p o3) p (c + 2) := ho3.at
    have eL3 := k13 _ _ nL eL
    generalize upd (upd H1 p o2) p o3 = H3 at k13 k3 b3 eL3 ⊢
    refine ⟨_, _, _, rfl, ?_⟩
    dsimp only [L2.tSeq]
    show tAsg _ _ _ _ _
    unfold L2.tAsg
    refine menu_here (K := K) (w := fun G => wo (wo G p) L) (res_two eL3 nL) (P := fun e => Fit e 9 1000 ∧ endB e = false) b3.some (fun R => (evDs_cons R (evD_str _) (evDs_cons R (evD_str _) (evDs_cons R (evD_str _) (evDs_cons R (evD_str _) (evDs_cons R (evD_int _) (evDs_cons R (evD_bl _) (evDs_cons R (evD_lstS R (evDs_cons R (evD_str _) evDs_nil) (by simp)) (evDs_cons R (evD_tup R (evDs_cons R (evD_str _) evDs_nil) (by simp)) (evDs_cons R (evD_tup R (evDs_cons R (evD_int _) (evDs_cons R (evD_str _) evDs_nil)) (by simp)) (evDs_cons R (evD_str _) (evDs_cons R (evD_str _) (evDs_cons R (evD_str _) (evDs_cons R (evD_tup R evDs_nil (by simp)) (evDs_cons R (evD_int _) (evDs_cons R (evD_str _) (evDs_cons R (evD_str _) evDs_nil))))))))))))))))) ?lv (by simp) (by simp) ?rest
    case lv =>
      repeat' first
        | exact all_nil
        | refine all_cons ⟨⟨by decide +kernel, by decide +kernel, by decide +kernel, by decide +kernel⟩, by decide +kernel⟩ ?_
    case rest =>
      intro M H4 os s4 _ nM eM lowM dos lvs l0 l4
      have k34 : Kp p H3 H4 := Kp.of s4
      have k4 := k3.trans k34
      have b4 := b3.same s4
      have eL4 := s4 _ _ eL3
      have hyd : DgAll K (wo H4 p) true ys es := hyb.ext k4.wo
      refine ⟨_, rfl, rfl, _, rfl, ite2 (fun c0 => ?_) (fun c0 => ⟨_, rfl, rfl, _, rfl, ite2 (fun c1 => ?_) (fun c1 => ⟨_, rfl, rfl, _, rfl, ite2 (fun c2 => ?_) (fun c2 => ?_)⟩)⟩)⟩
      · refine ⟨_, rfl, two, fun M2 hM2 low2 => ⟨_, rfl, p, _, 2, rfl, b4.new hM2, by omega, by omega, by omega, fun d o hd ho => ?_⟩⟩
        have nM2 : M2 ≠ p := (b4.ne hM2).symm
        obtain ⟨e', hv, oe⟩ : ∃ e' : Wd, [V.non, .str (Str.ofString "")][d]? = some (wdV e') ∧ okE2 e' := by
          have : d = 0 ∨ d = 1 := by omega
          rcases this with rfl | rfl
          · exact ⟨none, rfl, fun w e => by cases e⟩
          · exact ⟨some [], by rw [str_nil]; rfl, fun w e => by injection e with e; rw [← e]; exact ⟨Low.nil, by simp⟩⟩
        have k5 : Kp p H4 (upd (upd H4 M2 (.lst [.non, .str (Str.ofString "")])) p o) := ((Kp.refl p H4).new hM2).upd
        have b5 : BoxAt (upd (upd H4 M2 (.lst [.non, .str (Str.ofString "")])) p o) p (c + 3) := ho.at
        have e5 : (upd (upd H4 M2 (.lst [.non, .str (Str.ofString "")])) p o) M2 = some (.lst [.non, .str (Str.ofString "")]) := by rw [upd_ne nM2]; exact upd_same
        generalize upd (upd H4 M2 (.lst [.non, .str (Str.ofString "")])) p o = H5 at k5 b5 e5 ⊢
        refine ⟨M2, _, (d : Int), wdV e', rfl, rfl, SqL.of e5, atI_nat hv, one, fun L2 hL2 lw2 => ⟨L, L2, ys, [wdV e'], rfl, rfl, ?_, upd_same, ?_, fun R hR hsys => ?_⟩⟩
        · rw [upd_ne (ne_of_none (k5 _ _ nL eL4) hL2)]; exact k5 _ _ nL eL4
        · show ys.length + 1 ≤ sizeLine
          exact Nat.le_trans (show ys.length + 1 ≤ 41 by omega) (by decide)
        · have s6 : Same H5 (upd H5 L2 (.lst [wdV e'])) := Same.new (Same.refl _) hL2
          generalize upd H5 L2 (.lst [wdV e']) = H6 at s6 hR hsys ⊢
          have s7 : Same H6 (upd H6 R (.lst (ys ++ [wdV e']))) := Same.new (Same.refl _) hR
          have nR : R ≠ p := ((b5.same s6).ne hR).symm
          have lowR : (R == sysModules) = false := low_ne hsys (by rw [upd_same]; exact fun z => by cases z)
          have k47 : Kp p H4 (upd H6 R (.lst (ys ++ [wdV e']))) := k5.trans (Kp.of (s6.trans s7))
          refine ⟨_, rfl, kQ (.ref R) (.list (es ++ [wdD e'])) _ (k4.trans k47) ((b5.same s6).same s7) ?_ ?_ ?_⟩
          · exact .lst (SqL.of (by rw [wo_ne nR]; exact upd_same)) (fun _ => lowR) ((hyd.ext k47.wo).append (.cons (dg_wd e') .nil))
          · refine badv_list (fun d hd => ?_) (by rw [List.length_append]; show es.length + 1 ≤ 60; omega)
            rcases List.mem_append.mp hd with z | z
            · exact fes d z
            · rw [List.mem_singleton.mp z]; exact (fit_wdD oe).mono (by omega) (by omega)
          · exact endsB_len (by rw [List.length_append]; show es.length + 1 ≠ _; omega)
      · refine ⟨_, rfl, _, rfl, _, rfl, L, ys, rfl, SqL.of eL4, fun q1 hq1 => ?_⟩
        rw [cutV_to]
        have nq1 : q1 ≠ p := (b4.ne hq1).symm
        have s5 : Same H4 (upd H4 q1 (.lst (ys.take at_))) := Same.new (Same.refl _) hq1
        have e5 : (upd H4 q1 (.lst (ys.take at_))) q1 = some (.lst (ys.take at_)) := upd_same
        generalize upd H4 q1 (.lst (ys.take at_)) = H5 at s5 e5 ⊢
        refine ⟨_, rfl, _, rfl, _, _, rfl, rfl, ((at_ + 1 : Nat) : Int), rfl, L, ys, rfl, SqL.of (s5 _ _ eL4), fun q2 hq2 => ?_⟩
        rw [cutV_fr]
        have s6 : Same H5 (upd H5 q2 (.lst (ys.drop (at_ + 1)))) := Same.new (Same.refl _) hq2
        have e6 : (upd H5 q2 (.lst (ys.drop (at_ + 1)))) q2 = some (.lst (ys.drop (at_ + 1))) := upd_same
        generalize upd H5 q2 (.lst (ys.drop (at_ + 1))) = H6 at s6 e6 ⊢
        have ln : (ys.take at_).length + (ys.drop (at_ + 1)).length ≤ 41 := by rw [List.length_take, List.length_drop]; omega
        refine ⟨q1, q2, _, _, rfl, rfl, s6 _ _ e5, e6, Nat.le_trans ln (by decide), fun R hR hsys => ?_⟩
        have s7 : Same H6 (upd H6 R (.lst (ys.take at_ ++ ys.drop (at_ + 1)))) := Same.new (Same.refl _) hR
        have b6 := (b4.same s5).same s6
        have nR : R ≠ p := (b6.ne hR).symm
        have lowR : (R == sysModules) = false := low_ne hsys (by rw [upd_same]; exact fun z => by cases z)
        have k47 : Kp p H4 (upd H6 R (.lst (ys.take at_ ++ ys.drop (at_ + 1)))) := Kp.of ((s5.trans s6).trans s7)
        refine ⟨_, rfl, kQ (.ref R) (.list (es.take at_ ++ es.drop (at_ + 1))) _ (k4.trans k47) ((b6.same s7).mono (by omega)) ?_ ?_ ?_⟩
        · exact .lst (SqL.of (by rw [wo_ne nR]; exact upd_same)) (fun _ => lowR) (((hyd.take at_).append (hyd.drop (at_ + 1))).ext k47.wo)
        · refine badv_list (fun d hd => ?_) (by rw [List.length_append, List.length_take, List.length_drop]; omega)
          rcases List.mem_append.mp hd with z | z
          · exact fes d (List.mem_of_mem_take z)
          · exact fes d (List.mem_of_mem_drop z)
        · exact endsB_len (by rw [List.length_append, List.length_take, List.length_drop]; omega)
      · have hE4 : SqL K H4 Ea ys := (hqE.ext k4.wo).ext (wo_same H4 p)
        refine ⟨_, rfl, Ea, ys, rfl, .inl hE4, _, _, rfl, rfl, mulOk_a (by omega), fun r0 hr0 => ⟨four, fun M2 hM2 low2 => ?_⟩⟩
        have n0 : r0 ≠ p := (b4.ne hr0).symm
        have s5 : Same H4 (upd H4 r0 (.dK [])) := Same.new (Same.refl _) hr0
        have e5 : (upd H4 r0 (.dK [])) r0 = some (.dK []) := upd_same
        generalize upd H4 r0 (.dK []) = H5 at s5 e5 hM2 ⊢
        have s6 : Same H5 (upd H5 M2 (.lst [.non, .str (Txt.mul (Str.ofString "a") (ys.length : Int)), .ref r0, .int 0])) := Same.new (Same.refl _) hM2
        have e6 : (upd H5 M2 (.lst [.non, .str (Txt.mul (Str.ofString "a") (ys.length : Int)), .ref r0, .int 0])) M2 = some (.lst [.non, .str (Txt.mul (Str.ofString "a") (ys.length : Int)), .ref r0, .int 0]) := upd_same
        have b5 := b4.same s5
        have nM2 : M2 ≠ p := (b5.ne hM2).symm
        generalize upd H5 M2 (.lst [.non, .str (Txt.mul (Str.ofString "a") (ys.length : Int)), .ref r0, .int 0]) = H6 at s6 e6 ⊢
        have b6 := b5.same s6
        refine ⟨_, rfl, p, _, 4, rfl, b6, by omega, by omega, by omega, fun d o hd ho => ?_⟩
        have k47 : Kp p H4 (upd H6 p o) := (Kp.of (s5.trans s6)).upd
        obtain ⟨v, e, hv, dv, bv, ev⟩ : ∃ v e, [V.non, .str (Txt.mul (Str.ofString "a") (ys.length : Int)), .ref r0, .int 0][d]? = some v ∧ Dg K (wo (upd H6 p o) p) true v e ∧ BadV e ∧ endsB (D.st.length : Nat) e = false := by
          have : d = 0 ∨ d = 1 ∨ d = 2 ∨ d = 3 := by omega
          rcases this with rfl | rfl | rfl | rfl
          · exact ⟨_, _, rfl, .non, badv_of (Fit.none.mono (Nat.le_refl _) (Nat.zero_le _)) rfl (Nat.zero_le _), endsB_no rfl⟩
          · exact ⟨_, _, rfl, .str _, badv_of (fit_a (by omega)) rfl (Nat.zero_le _), endsB_no rfl⟩
          · exact ⟨_, _, rfl, .emp rfl (by rw [wo_upd, wo_ne n0]; exact s6 _ _ e5), badv_of ((Fit.dict (k := 8) FitKv.nil).mono (Nat.le_refl _) (Nat.zero_le _)) rfl (Nat.zero_le _), endsB_no rfl⟩
          · exact ⟨_, _, rfl, .int _, badv_of ((Fit.nat (r := 0) (by omega)).mono (Nat.le_refl 9) (by omega)) rfl (Nat.zero_le _), endsB_no rfl⟩
        exact ⟨M2, _, (d : Int), v, rfl, rfl, SqL.of (by rw [upd_ne nM2]; exact e6), atI_nat hv, kQ v e _ (k4.trans k47) ho.at dv bv ev⟩
      · have los := dos.len
        refine ⟨_, rfl, _, rfl, _, rfl, M, os, rfl, .inl (SqL.of eM), p, _, (os.length : Int), rfl, b4, by omega, by omega, by omega, fun d o hd ho => ?_⟩
        obtain ⟨x, e, hx, he, dx⟩ := dos.nth (i := d) (by omega)
        obtain ⟨fe, be⟩ := lvs e (List.mem_of_getElem? he)
        have k5 : Kp p H4 (upd H4 p o) := (Kp.refl p H4).upd
        have b5 : BoxAt (upd H4 p o) p (c + 3) := ho.at
        have eL5 := k5 _ _ nL eL4
        have eM5 := k5 _ _ nM eM
        have hyd5 := hyd.ext k5.wo
        have dx5 := dx.ext (two_kp (D := L) k5)
        generalize upd H4 p o = H5 at k5 b5 eL5 eM5 hyd5 dx5 ⊢
        refine ⟨M, _, (d : Int), x, rfl, rfl, SqL.of eM5, atI_nat hx, _, rfl, _, rfl, L, ys, (at_ : Int), at_, rfl, rfl, eL5, ixN_nat (by omega), _, rfl, ?_⟩
        have hLH : H L = none := hL
        refine kQ (.ref L) (.list (es.set at_ e)) _ ((k4.trans k5).free hLH) (b5.other nL.symm) ?_ ?_ ?_
        · have hy2 : DgAll K (wo (wo H5 p) L) true ys es := by
            rw [ees] at hyd5 ⊢
            exact dg_lfwoAll (H := wo H5 p) (by rw [wo_ne nL]; exact eL5) _ _ (lfAll_map lf_wd _) hyd5
          refine .lst (SqL.of (by rw [wo_ne nL]; exact upd_same)) (fun _ => lowL) ((dgAll_put at_ hy2 dx5).ext fun b o e => ?_)
          have nb : b ≠ L := fun z => by rw [z, wo_at] at e; cases e
          rw [wo_ne nb] at e
          by_cases ebp : b = p
          · rw [ebp, wo_at] at e; cases e
          · rw [wo_ne ebp] at e ⊢; rw [upd_ne nb]; exact e
        · refine badv_list (fun d hd => ?_) (by rw [List.length_set]; omega)
          rcases List.mem_or_eq_of_mem_set hd with z | z
          · exact fes d z
          · rw [z]; exact fe
        · exact endsB_at (by omega) be
end
end My

set_option Elab.async false
set_option linter.all false
set_option maxRecDepth 100000
set_option maxHeartbeats 8000000
namespace My
open PySem PySem.Spec PyProof.Rows L2
theorem evI_neg {p : Addr} {σ : L2.St} {H : Hp} {ti : TE} {i : Int} (h : EvI p ti σ H i) : EvI p (tUn (rU fun i => .int (-i)) ti) σ H (-i) := fun H1 k n Q q => h H1 k n _ fun H2 s2 => ⟨i, rfl, q _ s2⟩
theorem evD_addS {K : PySem.W.Frag} {m : Bool} {p : Addr} {w : Hp → Hp} {σ : L2.St} {H : Hp} {ta tb : TE} {a b : Str} (ha : EvD K m p w ta σ H (.str a)) (hb : EvD K m p w tb σ H (.str b)) (l : a.length + b.length ≤ 1000) : EvD K m p w (tOp (fun x y H Q => ∃ i j, x = .str i ∧ y = .str j ∧ i.length + j.length ≤ sizeLine ∧ Q (.str (i ++ j)) H) ta tb) σ H (.str (a ++ b)) :=
  fun H1 k n Q q => ha H1 k n _ fun x H2 s2 dx => hb H2 (k.trans (Kp.of s2)) (same_at s2 n) _ fun y H3 s3 dy => by
    obtain rfl := dx.str_of
    obtain rfl := dy.str_of
    exact ⟨_, _, rfl, rfl, Nat.le_trans l (by decide), q _ _ (s2.trans s3) (.str _)⟩
theorem dgAll_pt {K : PySem.W.Frag} {G : Hp} {m : Bool} : ∀ {xs : List V} {es : List PyData}, xs.length = es.length → (∀ (j : Nat) x e, xs[j]? = some x → es[j]? = some e → Dg K G m x e) → DgAll K G m xs es
  | [], [], _, _ => .nil
  | [], _ :: _, h, _ => by cases h
  | _ :: _, [], h, _ => by cases h
  | x :: xs, e :: es, h, g => .cons (g 0 x e rfl rfl) (dgAll_pt (by simpa using h) fun j x' e' h1 h2 => g (j + 1) x' e' h1 h2)
def rowD (r : List Ent) : PyData := .list (r.map enD)
section
variable {K : PySem.W.Frag} {p R : Addr} {H : Hp} {qs : List Addr} {st : List (List Ent)} {n : Nat}
theorem rows_at_ne (h : RowsL K p H R qs st) {j : Nat} {q : Addr} (hq : qs[j]? = some q) : q ≠ R ∧ q ≠ p := ⟨fun z => h.nR (by rw [← z]; exact List.mem_of_getElem? hq), fun z => h.np (by rw [← z]; exact List.mem_of_getElem? hq)⟩
/-- the rows, told without R -/
theorem rows_dgR (h : RowsL K p H R qs st) (hb : BoxAt H p n) (hs : (R == sysModules) = false ∧ ∀ q ∈ qs, (q == sysModules) = false) : DgAll K (wo (wo H p) R) true (qs.map V.ref) (st.map rowD) := by
  obtain ⟨l, el⟩ := box_lst hb
  refine dgAll_pt (by rw [List.length_map, List.length_map]; exact h.len) fun j x e hx he => ?_
  rw [List.getElem?_map] at hx he
  obtain ⟨q, hq, rfl⟩ := Option.map_eq_some_iff.mp hx
  obtain ⟨r, hr, rfl⟩ := Option.map_eq_some_iff.mp he
  obtain ⟨nR, np⟩ := rows_at_ne h hq
  obtain ⟨xs, e, ha⟩ := h.row j q r hq hr
  refine .lst (SqL.of (by rw [wo_ne nR, wo_ne np]; exact e)) (fun _ => hs.2 q (List.mem_of_getElem? hq)) ?_
  have h1 := dg_lfwoAll el _ _ (lfAll_map lf_enD _) ha
  have h2 := dg_lfwoAll (H := wo H p) (D := R) (by rw [wo_ne h.nRp]; exact h.e) _ _ (lfAll_map lf_enD _) h1
  exact dg_lfAll _ _ (lfAll_map lf_enD _) h2
/-- a row is another value -/
theorem rows_putR (h : RowsL K p H R qs st) (hb : BoxAt H p n) (hs : (R == sysModules) = false ∧ ∀ q ∈ qs, (q == sysModules) = false) {at_ : Nat} {v : V} {d : PyData} (dv : Dg K (wo (wo H p) R) true v d) :
    Dg K (wo (L2.upd H R (.lst ((qs.map V.ref).set at_ v))) p) true (.ref R) (.list ((st.map rowD).set at_ d)) := by
  refine .lst (SqL.of (by rw [wo_ne h.nRp]; exact upd_same)) (fun _ => hs.1) ((dgAll_put at_ (rows_dgR h hb hs) dv).ext fun b o e => ?_)
  have nb : b ≠ R := fun z => by rw [z, wo_at] at e; cases e
  rw [wo_ne nb] at e
  by_cases ebp : b = p
  · rw [ebp, wo_at] at e; cases e
  · rw [wo_ne ebp] at e ⊢; rw [upd_ne nb]; exact e
/-- an entry is another value -/
theorem rows_putE (h : RowsL K p H R qs st) (hb : BoxAt H p n) (hs : (R == sysModules) = false ∧ ∀ q ∈ qs, (q == sysModules) = false) {at_ a : Nat} {q : Addr} {row : List Ent} {xs : List V} {v : V} {d : PyData} (hq : qs[at_]? = some q) (hr : st[at_]? = some row) (eq : H q = some (.lst xs)) (hx : DgAll K H false xs (row.map enD)) (dv : Dg K (wo (wo H p) q) true v d) :
    Dg K (wo (L2.upd H q (.lst (xs.set a v))) p) true (.ref R) (.list ((st.map rowD).set at_ (.list ((row.map enD).set a d)))) := by
  obtain ⟨l, el⟩ := box_lst hb
  obtain ⟨nqR, nqp⟩ := rows_at_ne h hq
  have up : Same (wo (wo H p) q) (wo (L2.upd H q (.lst (xs.set a v))) p) := fun b o e => by
    have nb : b ≠ q := fun z => by rw [z, wo_at] at e; cases e
    rw [wo_ne nb] at e
    by_cases ebp : b = p
    · rw [ebp, wo_at] at e; cases e
    · rw [wo_ne ebp] at e ⊢; rw [upd_ne nb]; exact e
  have leaf : ∀ {zs : List V} {r : List Ent}, DgAll K H false zs (r.map enD) → DgAll K (wo (wo H p) q) true zs (r.map enD) := fun ha => by
    have h1 := dg_lfwoAll el _ _ (lfAll_map lf_enD _) ha
    have h2 := dg_lfwoAll (H := wo H p) (D := q) (by rw [wo_ne nqp]; exact eq) _ _ (lfAll_map lf_enD _) h1
    exact dg_lfAll _ _ (lfAll_map lf_enD _) h2
  refine .lst (SqL.of (by rw [wo_ne h.nRp, upd_ne nqR.symm]; exact h.e)) (fun _ => hs.1) (dgAll_pt (by rw [List.length_map, List.length_set, List.length_map]; exact h.len) fun j x e hx' he => ?_)
  rw [List.getElem?_map] at hx'
  obtain ⟨q', hq', rfl⟩ := Option.map_eq_some_iff.mp hx'
  have hat := (List.getElem?_eq_some_iff.mp hr).1
  by_cases ej : j = at_
  · subst ej
    rw [hq] at hq'
    injection hq' with hq'
    subst hq'
    rw [List.getElem?_set_self (by rw [List.length_map]; exact hat)] at he
    injection he with he
    subst he
    exact .lst (SqL.of (by rw [wo_ne nqp]; exact upd_same)) (fun _ => hs.2 q (List.mem_of_getElem? hq)) ((dgAll_put a (leaf hx) dv).ext up)
  · rw [List.getElem?_set_ne (fun z => ej z.symm), List.getElem?_map] at he
    obtain ⟨r', hr', rfl⟩ := Option.map_eq_some_iff.mp he
    obtain ⟨nR, np⟩ := rows_at_ne h hq'
    obtain ⟨zs, ez, ha⟩ := h.row j q' r' hq' hr'
    have nq : q' ≠ q := fun z => by
      obtain ⟨b1, c1⟩ := List.getElem?_eq_some_iff.mp hq
      obtain ⟨b2, c2⟩ := List.getElem?_eq_some_iff.mp hq'
      exact ej (List.getElem_inj h.nd |>.mp (by rw [c1, c2, z]))
    exact .lst (SqL.of (by rw [wo_ne np, upd_ne nq]; exact ez)) (fun _ => hs.2 q' (List.mem_of_getElem? hq')) ((leaf ha).ext up)
end
theorem stepsB_at {m : Int} {j : Nat} {ds : List PyData} {x : PyData} (hj : j < ds.length) (h : entB m (ds.length : Nat) x = false) : stepsB m (.list (ds.set j x)) = false := by
  show (true && (_ && (ds.set j x).all (entB m (((ds.set j x).length : Nat) : Int)))) = false
  rw [List.length_set, all_set_false hj h, Bool.and_false]; rfl
theorem entB_len {m n : Nat} {ds : List PyData} (h : ds.length ≠ m) : entB (m : Nat) (n : Nat) (.list ds) = false := by
  show (true && (decide (((ds.length : Nat) : Int) = (m : Int)) && _)) = false
  rw [decide_eq_false (by omega)]; rfl
theorem entB_no {m n : Int} {d : PyData} (h : isSqD d = false) : entB m n d = false := by
  unfold entB
  rw [h]; rfl
theorem entB_at {m n : Int} {j : Nat} {ds : List PyData} {x : PyData} (hj : j < ds.length) (h : isEn n x = false) : entB m n (.list (ds.set j x)) = false := by
  show (true && (_ && (ds.set j x).all (isEn n))) = false
  rw [all_set_false hj h, Bool.and_false]; rfl
theorem stepsB_no {m : Int} {d : PyData} (h : isSqD d = false) : stepsB m d = false := by
  unfold stepsB
  rw [h]; rfl
theorem enF_be {n : Int} {a b : PyData} (h : isBe n a = false) : isEn n (.tuple [a, b]) = false := by
  show (false || (isBe n a && isWd b)) = false
  rw [h]; rfl
theorem enF_wd {n : Int} {a b : PyData} (h : isWd b = false) : isEn n (.tuple [a, b]) = false := by
  show (false || (isBe n a && isWd b)) = false
  rw [h, Bool.and_false]; rfl
/-- a text with a letter that is none -/
def OddW (z : Str) : Prop := ∃ u : List Nat, z = S u ∧ u.length ≤ 8 ∧ (∀ c ∈ u, c < 200) ∧ ∃ c ∈ u, low c = false
theorem OddW.no {z : Str} (h : OddW z) : isWd (.str z) = false := by
  obtain ⟨u, rfl, _, _, c, hc, hl⟩ := h
  show (isT (S u) && _) = false
  have : isT (S u) = false := by
    unfold My.isT
    rw [S_tl, List.all_eq_false]
    exact ⟨c, hc, by rw [hl]; exact Bool.false_ne_true⟩
  rw [this]; rfl
theorem OddW.fit {z : Str} (h : OddW z) {k : Nat} : Fit (.str z) k 10 := by
  obtain ⟨u, rfl, l, hc, _⟩ := h
  exact Fit.str (by omega) hc
theorem OddW.app {z : Str} (h : OddW z) {v : List Nat} (lv : v.length ≤ 2) (hv : ∀ c ∈ v, c < 200) {k : Nat} : isWd (.str (z ++ S v)) = false ∧ Fit (.str (z ++ S v)) k 12 ∧ isWd (.str (S v ++ z)) = false ∧ Fit (.str (S v ++ z)) k 12 := by
  obtain ⟨u, rfl, l, hu, c, hc, hl⟩ := h
  have no : ∀ t : List Nat, c ∈ t → isWd (.str (S t)) = false := fun t ht => by
    show (isT (S t) && _) = false
    have : isT (S t) = false := by
      unfold My.isT
      rw [S_tl, List.all_eq_false]
      exact ⟨c, ht, by rw [hl]; exact Bool.false_ne_true⟩
    rw [this]; rfl
  rw [S_app, S_app]
  refine ⟨no _ (List.mem_append_left _ hc), Fit.str (by rw [List.length_append]; omega) fun x hx => ?_, no _ (List.mem_append_right _ hc), Fit.str (by rw [List.length_append]; omega) fun x hx => ?_⟩
  · exact (List.mem_append.mp hx).elim (hu x) (hv x)
  · exact (List.mem_append.mp hx).elim (hv x) (hu x)
def OkOdd (n : Nat) (e : PyData) : Prop := Fit e 8 150 ∧ isEn (n : Nat) e = false
theorem okOdd_pair {n : Nat} {a b : PyData} {w1 w2 : Nat} (ha : Fit a 7 w1) (hb : Fit b 7 w2) (l : w1 + w2 ≤ 140) (h : isBe (n : Nat) a = false ∨ isWd b = false) : OkOdd n (.tuple [a, b]) := by
  refine ⟨(Fit.tuple (FitAll.cons ha (FitAll.cons hb FitAll.nil))).mono (Nat.le_refl _) (by omega), ?_⟩
  rcases h with h | h
  · exact enF_be h
  · exact enF_wd h
theorem isBe_out {n : Nat} {i : Int} (h : i < 0 ∨ (n : Int) ≤ i) : isBe (n : Nat) (.int i) = false := by
  show (decide (0 ≤ i) && decide (i < (n : Int))) = false
  rcases h with h | h
  · rw [decide_eq_false (by omega)]; rfl
  · rw [decide_eq_false (show ¬ i < (n : Int) by omega), Bool.and_false]
theorem big_out {n : Nat} (hn : n ≤ 40) : isBe (n : Nat) (.int ((10 : Int) ^ (18 : Int).toNat)) = false := by
  refine isBe_out (.inr ?_)
  have : ((10 : Int) ^ (18 : Int).toNat) = 1000000000000000000 := by decide +kernel
  rw [this]; omega
theorem okOdd_list1 {n : Nat} {z : Str} (hn : n ≤ 40) (hz : OddW z) :
    ∀ d ∈ [PyData.tuple [.int (n : Int), .str (Str.ofString "")], .tuple [.int (-1), .str (Str.ofString "a")], .tuple [.bool false, .str (Str.ofString "a")], .tuple [.int 0, .str (Str.ofString "abcd")], .tuple [.int 0, .str z], .tuple [.int 0, .none], .tuple [.int 0], .tuple [.int 0, .str (Str.ofString "a"), .str (Str.ofString "")], .list [.int 0, .str (Str.ofString "a")]], OkOdd n d := by
  have fs : ∀ {z : Str}, Fit (.str z) 7 10 → Fit (.str z) 7 10 := fun h => h
  have fe : Fit (.str (Str.ofString "")) 7 10 := ⟨by decide +kernel, by decide +kernel, by decide +kernel, by decide +kernel⟩
  have fa : Fit (.str (Str.ofString "a")) 7 10 := ⟨by decide +kernel, by decide +kernel, by decide +kernel, by decide +kernel⟩
  have f4 : Fit (.str (Str.ofString "abcd")) 7 10 := ⟨by decide +kernel, by decide +kernel, by decide +kernel, by decide +kernel⟩
  have f0 : Fit (.int 0) 7 10 := ⟨by decide +kernel, by decide +kernel, by decide +kernel, by decide +kernel⟩
  have fm : Fit (.int (-1)) 7 10 := ⟨by decide +kernel, by decide +kernel, by decide +kernel, by decide +kernel⟩
  refine all_cons (okOdd_pair (Fit.nat (by omega)) fe (by omega) (.inl (isBe_out (.inr (by omega))))) (all_cons (okOdd_pair fm fa (by omega) (.inl (isBe_out (.inl (by omega))))) (all_cons (okOdd_pair (Fit.bool (k := 7)) fa (by omega) (.inl rfl)) (all_cons (okOdd_pair f0 f4 (by omega) (.inr (by decide +kernel))) (all_cons (okOdd_pair f0 hz.fit (by omega) (.inr hz.no)) (all_cons (okOdd_pair f0 (Fit.none (k := 7)) (by omega) (.inr rfl)) (all_cons ?_ (all_cons ?_ (all_cons ?_ all_nil))))))))
  all_goals exact ⟨⟨by decide +kernel, by decide +kernel, by decide +kernel, by decide +kernel⟩, rfl⟩
theorem okOdd_list2 {n : Nat} (hn : n ≤ 40) :
    ∀ d ∈ [PyData.str (Str.ofString "0:a"), .tuple [.none, .str (Str.ofString "a")], .tuple [.str (Str.ofString "0"), .str (Str.ofString "a")], .tuple [.int 0, .tuple [.str (Str.ofString "a")]], .tuple [.tuple [.int 0], .str (Str.ofString "")], .tuple [], .bool false, .str (Str.ofString ""), .tuple [.int 0, .int 1], .tuple [.int ((10 : Int) ^ (18 : Int).toNat), .str (Str.ofString "a")]], OkOdd n d := by
  refine all_cons ?_ (all_cons ?_ (all_cons ?_ (all_cons ?_ (all_cons ?_ (all_cons ?_ (all_cons ?_ (all_cons ?_ (all_cons ?_ (all_cons ?_ all_nil)))))))))
  all_goals first
    | exact ⟨⟨by decide +kernel, by decide +kernel, by decide +kernel, by decide +kernel⟩, rfl⟩
    | exact ⟨⟨by decide +kernel, by decide +kernel, by decide +kernel, by decide +kernel⟩, enF_wd (by decide +kernel)⟩
    | exact ⟨⟨by decide +kernel, by decide +kernel, by decide +kernel, by decide +kernel⟩, enF_be (big_out hn)⟩
theorem okOdd_list3 {n : Nat} {z : Str} (hn : n ≤ 40) (hz : OddW z) :
    ∀ d ∈ [PyData.int 0, .tuple [.int 0, .str (Str.ofString "a" ++ z)], .tuple [.int 0, .str (z ++ Str.ofString "b")], .tuple [.int ((n : Int) + 1), .str (Str.ofString "")], .tuple [.int (-(n : Int)), .str (Str.ofString "a")]], OkOdd n d := by
  have fe : Fit (.str (Str.ofString "")) 7 10 := ⟨by decide +kernel, by decide +kernel, by decide +kernel, by decide +kernel⟩
  have fa : Fit (.str (Str.ofString "a")) 7 10 := ⟨by decide +kernel, by decide +kernel, by decide +kernel, by decide +kernel⟩
  have f0 : Fit (.int 0) 7 10 := ⟨by decide +kernel, by decide +kernel, by decide +kernel, by decide +kernel⟩
  have ea : Str.ofString "a" = S [97] := by decide +kernel
  have eb : Str.ofString "b" = S [98] := by decide +kernel
  obtain ⟨_, _, a1, a2⟩ := hz.app (v := [97]) (by simp) (fun c hc => by rw [List.mem_singleton.mp hc]; omega) (k := 7)
  obtain ⟨b1, b2, _, _⟩ := hz.app (v := [98]) (by simp) (fun c hc => by rw [List.mem_singleton.mp hc]; omega) (k := 7)
  rw [← ea] at a1 a2
  rw [← eb] at b1 b2
  refine all_cons ⟨⟨by decide +kernel, by decide +kernel, by decide +kernel, by decide +kernel⟩, rfl⟩ (all_cons (okOdd_pair f0 a2 (by omega) (.inr a1)) (all_cons (okOdd_pair f0 b2 (by omega) (.inr b1)) (all_cons (okOdd_pair (fit_int (by omega)) fe (by omega) (.inl (isBe_out (.inr (by omega))))) (all_cons ?_ all_nil))))
  by_cases h0 : n = 0
  · subst h0
    exact okOdd_pair (fit_int (by decide)) fa (by omega) (.inl (isBe_out (.inr (by decide))))
  · exact okOdd_pair (fit_int (by omega)) fa (by omega) (.inl (isBe_out (.inl (by omega))))
def oddU : List (List Nat) := [[32], [65], [96], [123], [97, 32, 98], [49], [45], [10]]
theorem oddU_ok : ∀ u ∈ oddU, u.length ≤ 3 ∧ (∀ c ∈ u, c < 200) ∧ ∃ c ∈ u, low c = false := by decide
theorem oddw_mk {d k : Nat} (hd : d < 8) (hk : k < 3) : ∃ z0, [V.str (Str.ofString " "), .str (Str.ofString "A"), .str (Str.ofString "`"), .str (Str.ofString "{"), .str (Str.ofString "a b"), .str (Str.ofString "1"), .str (Str.ofString "-"), .str (Str.ofString "\n")][d]? = some (.str z0) ∧
    z0.length + (Txt.mul (Str.ofString "a") (k : Int)).length ≤ 5 ∧ OddW (z0 ++ Txt.mul (Str.ofString "a") (k : Int)) := by
  have e : [V.str (Str.ofString " "), .str (Str.ofString "A"), .str (Str.ofString "`"), .str (Str.ofString "{"), .str (Str.ofString "a b"), .str (Str.ofString "1"), .str (Str.ofString "-"), .str (Str.ofString "\n")] = oddU.map fun u => V.str (S u) := by
    rw [show Str.ofString " " = S [32] by decide +kernel, show Str.ofString "A" = S [65] by decide +kernel, show Str.ofString "`" = S [96] by decide +kernel, show Str.ofString "{" = S [123] by decide +kernel, show Str.ofString "a b" = S [97, 32, 98] by decide +kernel, show Str.ofString "1" = S [49] by decide +kernel, show Str.ofString "-" = S [45] by decide +kernel, show Str.ofString "\n" = S [10] by decide +kernel]
    rfl
  have hl : d < oddU.length := hd
  obtain ⟨l3, l200, c, hc, lc⟩ := oddU_ok oddU[d] (List.getElem_mem hl)
  have em : Txt.mul (Str.ofString "a") (k : Int) = S (Lev.rounds k [97]) := by rw [show Str.ofString "a" = S [97] by decide +kernel, mul_S]
  have lr : (Lev.rounds k [97]).length ≤ 2 := by rw [Lev.rounds_len]; show k * 1 ≤ 2; omega
  have mr : ∀ c ∈ Lev.rounds k [97], c < 200 := by
    have : k = 0 ∨ k = 1 ∨ k = 2 := by omega
    rcases this with rfl | rfl | rfl <;> decide
  refine ⟨S oddU[d], by rw [e, List.getElem?_map, List.getElem?_eq_getElem hl]; rfl, by rw [em, S_len, S_len]; omega, oddU[d] ++ Lev.rounds k [97], by rw [em, S_app], by rw [List.length_append]; omega, fun x hx => ?_, c, List.mem_append_left _ hc, lc⟩
  exact (List.mem_append.mp hx).elim (l200 x) (mr x)
section
variable {P : Program} {w : World} {K : PySem.W.Frag} {mg : Str → Option Value} {base : Heap}
theorem ok_law_spoilt_steps (T : Txt K mg base) : FnOk P w K mg base CX0 2 T.f_law_spoilt_steps T.fd_law_spoilt_steps ["box", "signs", "steps"] (fun vs H Q _ => ∃ (p Sa : Addr) (c : Nat) (D : Dcd), vs = [.ref p, .int (D.sg : Nat), .ref Sa] ∧ BoxAt H p c ∧ c < 1000000 ∧ D.ok ∧ Dg K (wo H p) false (.ref Sa) D.stL ∧
    ∀ x d H', Kp p H H' → BoxAt H' p (c + 6) → Dw K p H' true x d → BadV d → stepsB (D.sg : Nat) d = false → Q x H') := by
  refine T.F_law_spoilt_steps.ok sc_law_spoilt_steps (fun vs H Q E h => ?_) (fun cdv A outer s H vs Q E hr h => ?_)
  · obtain ⟨p, Sa, c, D, rfl, _⟩ := h; rfl
  · obtain ⟨p, Sa, c, D, rfl, hb, hc, ok, hdS, kQ⟩ := h
    refine ⟨_, (pss_cons (ps_par3 (i := 3) (j := 4) (l := 5) (by rfl) sc_law_spoilt_steps.nd rfl rfl rfl (by decide) (by decide) (by decide) rfl rfl rfl (pa_cons (pe_low (base := base) rfl T.sysd (pe_lc (own := [("row", 6)]) (g := gName 6) (by rfl) sc_law_spoilt_steps.nd (pi_list (pv 2)) (blkOk_by (own := [("row", 6)]) (N := N_law_spoilt_steps) (sc := defScope s_law_spoilt_steps) (by decide +kernel)) (fun _ _ _ _ _ => pg_name (i := 6) sc_law_spoilt_steps.nd rfl (Or.inl rfl)) (fun _ _ _ _ _ => pts_nil) (fun _ _ _ _ _ => (pe_callTy (call_list_ofSK (K := K) rfl) (by rfl) T.z_list (by decide +kernel) (pa_cons (pv 6) pa_nil))))) (pa_cons (pe_callB call_len_seq (by rfl) T.z_len (by decide +kernel) (pa_cons (pv 2) pa_nil)) (pa_cons (pe_call (ok_law_take T) (hr.mono (by decide)) rfl T.g_law_take T.F_law_take.kp T.b_law_take .nil pass0 (pa_cons (pv 0) (pa_cons pe_int pa_nil))) pa_nil))) (by rfl))
      (pss_cons (ps_par (i := 7) (j := 8) (by rfl) sc_law_spoilt_steps.nd rfl rfl (by decide) rfl rfl (pa_cons (pe_call (ok_law_take T) (hr.mono (by decide)) rfl T.g_law_take T.F_law_take.kp T.b_law_take .nil pass0 (pa_cons (pv 0) (pa_cons (pv 4) pa_nil))) (pa_cons (pe_call (ok_law_take T) (hr.mono (by decide)) rfl T.g_law_take T.F_law_take.kp T.b_law_take .nil pass0 (pa_cons (pv 0) (pa_cons (pv 1) pa_nil))) pa_nil)) (by rfl))
      (pss_cons (ps_set (i := 9) sc_law_spoilt_steps.nd rfl (Or.inl rfl) (pe_op op_add_str (pe_ix ix_list (pe_lstS (pa_cons pe_str (pa_cons pe_str (pa_cons pe_str (pa_cons pe_str (pa_cons pe_str (pa_cons pe_str (pa_cons pe_str (pa_cons pe_str pa_nil))))))))) (pe_call (ok_law_take T) (hr.mono (by decide)) rfl T.g_law_take T.F_law_take.kp T.b_law_take .nil pass0 (pa_cons (pv 0) (pa_cons pe_int pa_nil))) (fun _ _ => rfl)) (pe_op op_mul_str pe_str (pe_call (ok_law_take T) (hr.mono (by decide)) rfl T.g_law_take T.F_law_take.kp T.b_law_take .nil pass0 (pa_cons (pv 0) (pa_cons pe_int pa_nil))))))
      (pss_cons (ps_set (i := 10) sc_law_spoilt_steps.nd rfl (Or.inl rfl) (pe_lstS (pa_cons (pe_tup (pa_cons (pv 4) (pa_cons pe_str pa_nil))) (pa_cons (pe_tup (pa_cons (pe_un un_neg pe_int) (pa_cons pe_str pa_nil))) (pa_cons (pe_tup (pa_cons pe_bl (pa_cons pe_str pa_nil))) (pa_cons (pe_tup (pa_cons pe_int (pa_cons pe_str pa_nil))) (pa_cons (pe_tup (pa_cons pe_int (pa_cons (pv 9) pa_nil))) (pa_cons (pe_tup (pa_cons pe_int (pa_cons pe_non pa_nil))) (pa_cons (pe_tup (pa_cons pe_int pa_nil)) (pa_cons (pe_tup (pa_cons pe_int (pa_cons pe_str (pa_cons pe_str pa_nil)))) (pa_cons (pe_lstS (pa_cons pe_int (pa_cons pe_str pa_nil))) pa_nil)))))))))))
      (pss_cons (ps_set (i := 10) sc_law_spoilt_steps.nd rfl (Or.inl rfl) (pe_low (base := base) rfl T.sysd (pe_op op_cat (pv 10) (pe_lstS (pa_cons pe_str (pa_cons (pe_tup (pa_cons pe_non (pa_cons pe_str pa_nil))) (pa_cons (pe_tup (pa_cons pe_str (pa_cons pe_str pa_nil))) (pa_cons (pe_tup (pa_cons pe_int (pa_cons (pe_tup (pa_cons pe_str pa_nil)) pa_nil))) (pa_cons (pe_tup (pa_cons (pe_tup (pa_cons pe_int pa_nil)) (pa_cons pe_str pa_nil))) (pa_cons (pe_tup pa_nil) (pa_cons pe_bl (pa_cons pe_str (pa_cons (pe_tup (pa_cons pe_int (pa_cons pe_int pa_nil))) (pa_cons (pe_tup (pa_cons (pe_op op_pow pe_int pe_int) (pa_cons pe_str pa_nil))) pa_nil))))))))))))))
      (pss_cons (ps_set (i := 10) sc_law_spoilt_steps.nd rfl (Or.inl rfl) (pe_low (base := base) rfl T.sysd (pe_op op_cat (pv 10) (pe_lstS (pa_cons pe_int (pa_cons (pe_tup (pa_cons pe_int (pa_cons (pe_op op_add_str pe_str (pv 9)) pa_nil))) (pa_cons (pe_tup (pa_cons pe_int (pa_cons (pe_op op_add_str (pv 9) pe_str) pa_nil))) (pa_cons (pe_tup (pa_cons (pe_op op_add (pv 4) pe_int) (pa_cons pe_str pa_nil))) (pa_cons (pe_tup (pa_cons (pe_un un_neg (pv 4)) (pa_cons pe_str pa_nil))) pa_nil)))))))))
      (pss_cons (ps_if (pt_cmpR op_eq (pv 5) pe_int (nomark _)) (pss_one (ps_asg (pe_low (base := base) rfl T.sysd (pe_op op_cat (pe_ix ix_list (pv 3) (pv 7) (fun _ _ => rfl)) (pe_lstS (pa_cons pe_non pa_nil)))) (pg_sub (pv 3) (pv 7) set_list))) (pss_one (ps_if (pt_cmpR op_eq (pv 5) pe_int (nomark _)) (pss_one (ps_asg (pe_low (base := base) rfl T.sysd (pe_op op_cat (pe_slice sl_list (pe_ix ix_list (pv 3) (pv 7) (fun _ _ => rfl)) po_none (po_some (pv 8))) (pe_slice sl_list (pe_ix ix_list (pv 3) (pv 7) (fun _ _ => rfl)) (po_some (pe_op op_add (pv 8) pe_int)) po_none))) (pg_sub (pv 3) (pv 7) set_list))) (pss_one (ps_if (pt_cmpR op_eq (pv 5) pe_int (nomark _)) (pss_one (ps_asg (pe_ix ix_list (pe_lstS (pa_cons pe_non (pa_cons (pe_op op_mul_str pe_str (pv 1)) (pa_cons (pv 1) (pa_cons pe_dnewK pa_nil))))) (pe_call (ok_law_take T) (hr.mono (by decide)) rfl T.g_law_take T.F_law_take.kp T.b_law_take .nil pass0 (pa_cons (pv 0) (pa_cons pe_int pa_nil))) (fun _ _ => rfl)) (pg_sub (pv 3) (pv 7) set_list))) (pss_one (ps_if (pt_cmpR op_eq (pv 5) pe_int (nomark _)) (pss_one (ps_ret (pe_ix ix_list (pe_lstS (pa_cons (pe_lstS pa_nil) (pa_cons pe_non (pa_cons (pe_op op_mul_str pe_str (pv 4)) (pa_cons pe_dnewK (pa_cons pe_int (pa_cons (pe_tup pa_nil) pa_nil))))))) (pe_call (ok_law_take T) (hr.mono (by decide)) rfl T.g_law_take T.F_law_take.kp T.b_law_take .nil pass0 (pa_cons (pv 0) (pa_cons pe_int pa_nil))) (fun _ _ => rfl)))) (pss_one (ps_asg (pe_ix ix_list (pv 10) (pe_call (ok_law_take T) (hr.mono (by decide)) rfl T.g_law_take T.F_law_take.kp T.b_law_take .nil pass0 (pa_cons (pv 0) (pa_cons (pe_callB call_len_seq (by rfl) T.z_len (by decide +kernel) (pa_cons (pv 10) pa_nil)) pa_nil))) (fun _ _ => rfl)) (pg_sub (pe_ix ix_list (pv 3) (pv 7) (fun _ _ => rfl)) (pv 8) set_list))))))))))
      (pss_one (ps_ret (pv 3)))))))))), ?_⟩
    have one : 1 ≤ sizeLine := by decide
    have two : 2 ≤ sizeLine := by decide
    have n40 := ok.n40
    have n1 := ok.n1
    have s1 := ok.s1
    have s5 := ok.s5
    obtain ⟨Sa', ys, e0, hqS, _, hyS⟩ := hdS.lst_of
    injection e0 with e0
    subst e0
    have lys := hyS.len
    rw [List.length_map] at lys
    have hqS0 : SqL K H Sa ys := hqS.ext (wo_same H p)
    dsimp only [L2.tNext, L2.tSeq, L2.tPar3, L2.tCons, L2.tLow]
    refine rows_copy (K := K) (p := p) (a := Sa) (ys := ys) (st := D.st) (i := 6) (fun a ys H R hS h => ⟨a, ys, rfl, .inl hS, fun l hl _ => h l hl⟩) (fun R h => ⟨_, rfl, h⟩) hqS0 hyS (by omega) hb.some (fun _ => rfl) (fun _ => rfl) (fun R qs H1 s1 hR0 hq0 hR => ?_)
    intro hsys1
    have b1 := hb.same s1
    have lowR : (R == sysModules) = false ∧ ∀ q ∈ qs, (q == sysModules) = false := by
      refine ⟨low_ne hsys1 (by rw [hR.e]; exact fun z => by cases z), fun q hq => ?_⟩
      obtain ⟨i, hi⟩ := List.getElem?_of_mem hq
      have li := (List.getElem?_eq_some_iff.mp hi).1
      have l2 := hR.len
      obtain ⟨xs, e, _⟩ := hR.row i q _ hi (List.getElem?_eq_getElem (by omega))
      exact low_ne hsys1 (by rw [e]; exact fun z => by cases z)
    refine ⟨_, rfl, Sa, ys, rfl, .inl (hqS0.ext s1), _, rfl, p, c, 12, rfl, b1, by omega, by omega, by omega, fun way o2 hway ho2 => ⟨_, _, _, rfl, ?_⟩⟩
    refine ⟨_, rfl, _, rfl, p, _, (ys.length : Int), rfl, ho2.at, by omega, by omega, by omega, fun at_ o3 hat ho3 => ⟨_, rfl, _, rfl, p, _, (D.sg : Int), rfl, ho3.at, by omega, by omega, by omega, fun a o4 ha ho4 => ⟨_, _, rfl, ?_⟩⟩⟩
    have k4 : Kp p H1 (upd (upd (upd H1 p o2) p o3) p o4) := (((Kp.refl p H1).upd).upd).upd
    have b4 : BoxAt (upd (upd (upd H1 p o2) p o3) p o4) p (c + 3) := ho4.at
    generalize upd (upd (upd H1 p o2) p o3) p o4 = H4 at k4 b4 ⊢
    refine ⟨(by show 8 ≤ sizeLine; decide), fun M hM lowM => ⟨_, rfl, p, _, 8, rfl, b4.new hM, by omega, by omega, by omega, fun d5 o5 hd5 ho5 => ?_⟩⟩
    have nM0 : M ≠ p := (b4.ne hM).symm
    have k5 : Kp p H4 (upd (upd H4 M (.lst [.str (Str.ofString " "), .str (Str.ofString "A"), .str (Str.ofString "`"), .str (Str.ofString "{"), .str (Str.ofString "a b"), .str (Str.ofString "1"), .str (Str.ofString "-"), .str (Str.ofString "\n")])) p o5) := ((Kp.refl p H4).new hM).upd
    have b5 : BoxAt (upd (upd H4 M (.lst [.str (Str.ofString " "), .str (Str.ofString "A"), .str (Str.ofString "`"), .str (Str.ofString "{"), .str (Str.ofString "a b"), .str (Str.ofString "1"), .str (Str.ofString "-"), .str (Str.ofString "\n")])) p o5) p (c + 4) := ho5.at
    have eM5 : (upd (upd H4 M (.lst [.str (Str.ofString " "), .str (Str.ofString "A"), .str (Str.ofString "`"), .str (Str.ofString "{"), .str (Str.ofString "a b"), .str (Str.ofString "1"), .str (Str.ofString "-"), .str (Str.ofString "\n")])) p o5) M = some (.lst [.str (Str.ofString " "), .str (Str.ofString "A"), .str (Str.ofString "`"), .str (Str.ofString "{"), .str (Str.ofString "a b"), .str (Str.ofString "1"), .str (Str.ofString "-"), .str (Str.ofString "\n")]) := by rw [upd_ne nM0]; exact upd_same
    generalize upd (upd H4 M (.lst [.str (Str.ofString " "), .str (Str.ofString "A"), .str (Str.ofString "`"), .str (Str.ofString "{"), .str (Str.ofString "a b"), .str (Str.ofString "1"), .str (Str.ofString "-"), .str (Str.ofString "\n")])) p o5 = H5 at k5 b5 eM5 ⊢
    obtain ⟨z0, hz0, lz0⟩ : ∃ z0, [V.str (Str.ofString " "), .str (Str.ofString "A"), .str (Str.ofString "`"), .str (Str.ofString "{"), .str (Str.ofString "a b"), .str (Str.ofString "1"), .str (Str.ofString "-"), .str (Str.ofString "\n")][d5]? = some (.str z0) ∧ ∀ k : Nat, k < 3 → z0.length + (Txt.mul (Str.ofString "a") (k : Int)).length ≤ 5 ∧ OddW (z0 ++ Txt.mul (Str.ofString "a") (k : Int)) := by
      obtain ⟨z0, h1, _⟩ := oddw_mk (d := d5) (k := 0) (by omega) (by omega)
      refine ⟨z0, h1, fun k hk => ?_⟩
      obtain ⟨z1, h2, h3⟩ := oddw_mk (d := d5) (k := k) (by omega) hk
      rw [h1] at h2
      injection h2 with h2
      injection h2 with h2
      subst h2
      exact h3
    refine ⟨M, _, (d5 : Int), .str z0, rfl, rfl, SqL.of eM5, atI_nat hz0, _, rfl, p, _, 3, rfl, b5, by omega, by omega, by omega, fun k6 o6 hk6 ho6 => ?_⟩
    obtain ⟨lz, hz⟩ := lz0 k6 (by omega)
    refine ⟨_, _, rfl, rfl, mulOk_a (by omega), _, _, rfl, rfl, Nat.le_trans lz (by decide), ?_⟩
    have k6' : Kp p H5 (upd H5 p o6) := (Kp.refl p H5).upd
    have b6 : BoxAt (upd H5 p o6) p (c + 5) := ho6.at
    generalize upd H5 p o6 = H6 at k6' b6 ⊢
    have k16 := (k4.trans k5).trans k6'
    have k06 := (Kp.of (p := p) s1).trans k16
    have hR6 := hR.box b1 k16
    have hat' : at_ < D.st.length := by omega
    have ha' : a < D.sg := by omega
    obtain ⟨row, hrow⟩ : ∃ row, D.st[at_]? = some row := ⟨_, List.getElem?_eq_getElem hat'⟩
    obtain ⟨lrow, orow⟩ := ok.rows row (List.mem_of_getElem? hrow)
    obtain ⟨q, hq⟩ : ∃ q, qs[at_]? = some q := ⟨_, List.getElem?_eq_getElem (by rw [hR6.len]; exact hat')⟩
    obtain ⟨xs, eq, hxs⟩ := hR6.row at_ q row hq hrow
    obtain ⟨nqR, nqp⟩ := rows_at_ne hR6 hq
    obtain ⟨z, ez⟩ : ∃ z, z = z0 ++ Txt.mul (Str.ofString "a") (k6 : Int) := ⟨_, rfl⟩
    rw [← ez] at hz
    have lza : (Str.ofString "a").length + z.length ≤ 1000 := by
      obtain ⟨u, rfl, lu, _⟩ := hz
      rw [S_len, show (Str.ofString "a").length = 1 by decide +kernel]; omega
    have lzb : z.length + (Str.ofString "b").length ≤ 1000 := by
      obtain ⟨u, rfl, lu, _⟩ := hz
      rw [S_len, show (Str.ofString "b").length = 1 by decide +kernel]; omega
    have hn : ((ys.length : Nat) : Int) = (D.st.length : Nat) := by rw [lys]
    show gName 9 (.str (z0 ++ Txt.mul (Str.ofString "a") (k6 : Int))) _ _ _
    rw [← ez, hn]
    dsimp only [L2.gName, L2.tSeq]
    show tAsg _ _ _ _ _
    unfold L2.tAsg
    refine menu_here (K := K) (w := fun G => wo (wo G p) q) (res_two eq nqp) (P := OkOdd D.st.length) b6.some (fun R => (evDs_cons R (evD_tup R (evDs_cons R (evD_var R rfl (.int _)) (evDs_cons R (evD_str _) evDs_nil)) (by simp)) (evDs_cons R (evD_tup R (evDs_cons R (evD_I (evI_neg (evI_c _))) (evDs_cons R (evD_str _) evDs_nil)) (by simp)) (evDs_cons R (evD_tup R (evDs_cons R (evD_bl _) (evDs_cons R (evD_str _) evDs_nil)) (by simp)) (evDs_cons R (evD_tup R (evDs_cons R (evD_int _) (evDs_cons R (evD_str _) evDs_nil)) (by simp)) (evDs_cons R (evD_tup R (evDs_cons R (evD_int _) (evDs_cons R (evD_var R rfl (.str _)) evDs_nil)) (by simp)) (evDs_cons R (evD_tup R (evDs_cons R (evD_int _) (evDs_cons R evD_non evDs_nil)) (by simp)) (evDs_cons R (evD_tup R (evDs_cons R (evD_int _) evDs_nil) (by simp)) (evDs_cons R (evD_tup R (evDs_cons R (evD_int _) (evDs_cons R (evD_str _) (evDs_cons R (evD_str _) evDs_nil))) (by simp)) (evDs_cons R (evD_lstS R (evDs_cons R (evD_int _) (evDs_cons R (evD_str _) evDs_nil)) (by simp)) evDs_nil)))))))))) (okOdd_list1 n40 hz) (by simp) (by simp) ?rest
    intro M1 H7 os1 s7 _ nM1 eM1 _ dos1 lv1 _ _
    have n7 : H7 p ≠ none := same_at s7 b6.some
    have R7 : Res p H7 (fun G => wo (wo G p) q) := (res_two eq nqp).mono (Kp.of s7)
    refine ⟨_, rfl, ?_⟩
    refine menu_here (K := K) (w := fun G => wo (wo G p) q) R7 (P := OkOdd D.st.length) n7 (fun R => (evDs_cons R (evD_str _) (evDs_cons R (evD_tup R (evDs_cons R evD_non (evDs_cons R (evD_str _) evDs_nil)) (by simp)) (evDs_cons R (evD_tup R (evDs_cons R (evD_str _) (evDs_cons R (evD_str _) evDs_nil)) (by simp)) (evDs_cons R (evD_tup R (evDs_cons R (evD_int _) (evDs_cons R (evD_tup R (evDs_cons R (evD_str _) evDs_nil) (by simp)) evDs_nil)) (by simp)) (evDs_cons R (evD_tup R (evDs_cons R (evD_tup R (evDs_cons R (evD_int _) evDs_nil) (by simp)) (evDs_cons R (evD_str _) evDs_nil)) (by simp)) (evDs_cons R (evD_tup R evDs_nil (by simp)) (evDs_cons R (evD_bl _) (evDs_cons R (evD_str _) (evDs_cons R (evD_tup R (evDs_cons R (evD_int _) (evDs_cons R (evD_int _) evDs_nil)) (by simp)) (evDs_cons R (evD_tup R (evDs_cons R (evD_I (evI_opC (evI_c _) (evI_c _) (by exact ⟨by decide, by decide, by decide⟩))) (evDs_cons R (evD_str _) evDs_nil)) (by simp)) evDs_nil))))))))))) (okOdd_list2 n40) (by simp) (by simp) ?rest2
    intro M2 H8 os2 s8 _ nM2 eM2 _ dos2 lv2 _ _
    have l1 := dos1.len
    have l2 := dos2.len
    have w8 : DgAll K (wo (wo H8 p) q) true (os1 ++ os2) (_ ++ _) := (dos1.rk R7 (Kp.of s8)).append dos2
    have lv12 := all_app (P := OkOdd D.st.length) lv1 lv2
    refine ⟨M1, M2, os1, os2, rfl, rfl, s8 _ _ eM1, eM2, by rw [l1, l2]; show 19 ≤ sizeLine; decide, fun r hr _ => ?_⟩
    have n8 : H8 p ≠ none := same_at s8 n7
    have nr : r ≠ p := fun z => n8 (by rw [← z]; exact hr)
    have s9 : Same H8 (upd H8 r (.lst (os1 ++ os2))) := Same.new (Same.refl _) hr
    have er : (upd H8 r (.lst (os1 ++ os2))) r = some (.lst (os1 ++ os2)) := upd_same
    have w9 := w8.rk (R7.mono (Kp.of s8)) (Kp.of s9)
    generalize upd H8 r (.lst (os1 ++ os2)) = H9 at s9 er w9 ⊢
    have n9 : H9 p ≠ none := same_at s9 n8
    have R9 : Res p H9 (fun G => wo (wo G p) q) := (R7.mono (Kp.of s8)).mono (Kp.of s9)
    refine ⟨_, rfl, ?_⟩
    refine menu_here (K := K) (w := fun G => wo (wo G p) q) R9 (P := OkOdd D.st.length) n9 (fun R => (evDs_cons R (evD_int _) (evDs_cons R (evD_tup R (evDs_cons R (evD_int _) (evDs_cons R (evD_addS (evD_str _) (evD_var R rfl (.str _)) (by assumption)) evDs_nil)) (by simp)) (evDs_cons R (evD_tup R (evDs_cons R (evD_int _) (evDs_cons R (evD_addS (evD_var R rfl (.str _)) (evD_str _) (by assumption)) evDs_nil)) (by simp)) (evDs_cons R (evD_tup R (evDs_cons R (evD_I (evI_op (evI_var rfl) (evI_c _))) (evDs_cons R (evD_str _) evDs_nil)) (by simp)) (evDs_cons R (evD_tup R (evDs_cons R (evD_I (evI_neg (evI_var rfl))) (evDs_cons R (evD_str _) evDs_nil)) (by simp)) evDs_nil)))))) (okOdd_list3 n40 hz) (by simp) (by simp) ?rest3
    intro M3 H10 os3 s10 _ nM3 eM3 _ dos3 lv3 _ _
    have l3 := dos3.len
    have w10 : DgAll K (wo (wo H10 p) q) true (os1 ++ os2 ++ os3) (_ ++ _) := (w9.rk R9 (Kp.of s10)).append dos3
    have lvs := all_app (P := OkOdd D.st.length) lv12 lv3
    refine ⟨r, M3, _, os3, rfl, rfl, s10 _ _ er, eM3, by rw [List.length_append, l1, l2, l3]; show 24 ≤ sizeLine; decide, fun O hO _ => ?_⟩
    have n10 : H10 p ≠ none := same_at s10 n9
    have nO : O ≠ p := fun z => n10 (by rw [← z]; exact hO)
    have s11 : Same H10 (upd H10 O (.lst (os1 ++ os2 ++ os3))) := Same.new (Same.refl _) hO
    have eO : (upd H10 O (.lst (os1 ++ os2 ++ os3))) O = some (.lst (os1 ++ os2 ++ os3)) := upd_same
    have w11 := w10.rk (R9.mono (Kp.of s10)) (Kp.of s11)
    generalize upd H10 O (.lst (os1 ++ os2 ++ os3)) = H11 at s11 eO w11 ⊢
    obtain ⟨os, eos⟩ : ∃ os, os = os1 ++ os2 ++ os3 := ⟨_, rfl⟩
    rw [← eos] at eO w11
    have los : os.length = 24 := by rw [eos, List.length_append, List.length_append, l1, l2, l3]; rfl
    obtain ⟨ods, wods, lods⟩ : ∃ ods, DgAll K (wo (wo H11 p) q) true os ods ∧ ∀ d ∈ ods, OkOdd D.st.length d := ⟨_, w11, lvs⟩
    clear w11 lvs w10 w9 w8 lv12 lv1 lv2 lv3 dos1 dos2 dos3
    have s611 : Same H6 H11 := (((s7.trans s8).trans s9).trans s10).trans s11
    have k011 := k06.trans (Kp.of s611)
    have b11 := b6.same s611
    have hR11 := hR6.ext s611
    have eq11 := s611 _ _ eq
    have hqR : (qs.map V.ref)[at_]? = some (.ref q) := by rw [List.getElem?_map, hq]; rfl
    have hRH : H R = none := hR0
    have hqH : H q = none := hq0 q (List.mem_of_getElem? hq)
    have lst : (D.st.map rowD).length = D.st.length := List.length_map _
    have lxs : xs.length = D.sg := by have := hxs.len; rw [List.length_map] at this; omega
    have frow : ∀ d ∈ row.map enD, Fit d 8 150 := fun d hd => by
      obtain ⟨e, he, rfl⟩ := List.mem_map.mp hd
      exact (fit_enD (orow e he) n40).mono (by omega) (by omega)
    have fst_ : ∀ d ∈ D.st.map rowD, Fit d 9 1000 := fun d hd => by
      obtain ⟨r, hr, rfl⟩ := List.mem_map.mp hd
      obtain ⟨l, o⟩ := ok.rows r hr
      exact (fit_row1 (fun e he => by
        have := o e he
        exact fun g w' ew => ⟨Nat.lt_of_lt_of_le (this g w' ew).1 n40, (this g w' ew).2⟩) (by omega)).mono (by omega) (by omega)
    have flist : ∀ {ds : List PyData}, (∀ d ∈ ds, Fit d 8 150) → ds.length ≤ 6 → Fit (.list ds) 9 1000 := fun h l => (Fit.list (k := 8) (FitAll.all (w := 150) h)).mono (Nat.le_refl _) (by omega)
    have bput : ∀ {d : PyData}, Fit d 9 1000 → BadV (.list ((D.st.map rowD).set at_ d)) := fun f => badv_list (fun d hd => by
      rcases List.mem_or_eq_of_mem_set hd with z | z
      · exact fst_ d z
      · rw [z]; exact f) (by rw [List.length_set, lst]; omega)
    have sput : ∀ {d : PyData}, entB (D.sg : Nat) (D.st.length : Nat) d = false → stepsB (D.sg : Nat) (.list ((D.st.map rowD).set at_ d)) = false := fun h => stepsB_at (by rw [lst]; exact hat') (by rw [lst]; exact h)
    -- a row is another value
    have setR : ∀ {H' : Hp} {v : V} {d : PyData} {m : Nat}, Kp p H11 H' → BoxAt H' p m → m ≤ c + 6 → Dg K (wo (wo H' p) R) true v d → Fit d 9 1000 → entB (D.sg : Nat) (D.st.length : Nat) d = false → Q (.ref R) (upd H' R (.lst ((qs.map V.ref).set at_ v))) := fun k b hm dv f e =>
      kQ (.ref R) _ _ ((k011.trans k).free hRH) ((b.other hR11.nRp.symm).mono hm) (rows_putR (hR11.box b11 k) b lowR dv) (bput f) (sput e)
    have leaf : ∀ {H' : Hp}, Kp p H11 H' → DgAll K (wo (wo H' p) R) true xs (row.map enD) := fun k => by
      obtain ⟨l, el⟩ := box_lst b11
      have h1 := dg_lfwoAll el _ _ (lfAll_map lf_enD _) (hxs.ext s611)
      have h2 := dg_lfwoAll (H := wo H11 p) (D := R) (by rw [wo_ne hR11.nRp]; exact hR11.e) _ _ (lfAll_map lf_enD _) h1
      exact (dg_lfAll _ _ (lfAll_map lf_enD _) h2).ext (two_kp k)
    have lrm : (row.map enD).length = D.sg := by rw [List.length_map]; exact lrow
    have lqs := hR11.len
    have iR : ixN (qs.map V.ref).length (at_ : Int) = some at_ := ixN_nat (by rw [List.length_map, lqs]; exact hat')
    have neR : ∀ {H' : Hp} {b : Addr}, Same H11 H' → H' b = none → b ≠ R ∧ b ≠ p := fun s hb' =>
      ⟨fun z => (by rw [z, s _ _ hR11.e] at hb'; cases hb'), ((b11.same s).ne hb').symm⟩
    refine ⟨_, rfl, rfl, _, rfl, ite2 (fun c0 => ?_) (fun c0 => ⟨_, rfl, rfl, _, rfl, ite2 (fun c1 => ?_) (fun c1 => ⟨_, rfl, rfl, _, rfl, ite2 (fun c2 => ?_) (fun c2 => ⟨_, rfl, rfl, _, rfl, ite2 (fun c3 => ?_) (fun c3 => ?_)⟩)⟩)⟩)⟩
    · refine ⟨_, rfl, _, rfl, R, _, (at_ : Int), .ref q, rfl, rfl, SqL.of hR11.e, atI_nat hqR, one, fun L1 hL1 lw1 => ?_⟩
      have s12 : Same H11 (upd H11 L1 (.lst [.non])) := Same.new (Same.refl _) hL1
      have e12 : (upd H11 L1 (.lst [.non])) L1 = some (.lst [.non]) := upd_same
      generalize upd H11 L1 (.lst [.non]) = H12 at s12 e12 ⊢
      refine ⟨q, L1, xs, [.non], rfl, rfl, s12 _ _ eq11, e12, Nat.le_trans (show xs.length + 1 ≤ 6 by omega) (by decide), fun N hN hsys => ?_⟩
      have s13 : Same H12 (upd H12 N (.lst (xs ++ [.non]))) := Same.new (Same.refl _) hN
      obtain ⟨nNR, nNp⟩ := neR s12 hN
      have lwN : (N == sysModules) = false := low_ne hsys (by rw [upd_same]; exact fun z => by cases z)
      have eN : (upd H12 N (.lst (xs ++ [.non]))) N = some (.lst (xs ++ [.non])) := upd_same
      generalize upd H12 N (.lst (xs ++ [.non])) = H13 at s13 eN ⊢
      have s1113 := s12.trans s13
      refine ⟨_, rfl, _, rfl, R, _, (at_ : Int), at_, rfl, rfl, s1113 _ _ hR11.e, iR, _, rfl, ?_⟩
      refine setR (m := c + 5) (Kp.of s1113) (b11.same s1113) (by omega) (.lst (SqL.of (by rw [wo_ne nNR, wo_ne nNp]; exact eN)) (fun _ => lwN) ((leaf (Kp.of s1113)).append (.cons .non .nil))) (flist (fun d hd => ?_) (by rw [List.length_append, lrm]; show D.sg + 1 ≤ 6; omega)) (entB_len (by rw [List.length_append, lrm]; show D.sg + 1 ≠ D.sg; omega))
      rcases List.mem_append.mp hd with z | z
      · exact frow d z
      · rw [List.mem_singleton.mp z]; exact Fit.none.mono (Nat.le_refl _) (Nat.zero_le _)
    · refine ⟨_, rfl, _, rfl, R, _, (at_ : Int), .ref q, rfl, rfl, SqL.of hR11.e, atI_nat hqR, _, rfl, _, rfl, q, xs, rfl, SqL.of eq11, fun q1 hq1 => ?_⟩
      rw [cutV_to]
      have s12 : Same H11 (upd H11 q1 (.lst (xs.take a))) := Same.new (Same.refl _) hq1
      have e12 : (upd H11 q1 (.lst (xs.take a))) q1 = some (.lst (xs.take a)) := upd_same
      generalize upd H11 q1 (.lst (xs.take a)) = H12 at s12 e12 ⊢
      refine ⟨_, rfl, _, rfl, R, _, (at_ : Int), .ref q, rfl, rfl, SqL.of (s12 _ _ hR11.e), atI_nat hqR, _, rfl, _, _, rfl, rfl, ((a + 1 : Nat) : Int), rfl, q, xs, rfl, SqL.of (s12 _ _ eq11), fun q2 hq2 => ?_⟩
      rw [cutV_fr]
      have s13 : Same H12 (upd H12 q2 (.lst (xs.drop (a + 1)))) := Same.new (Same.refl _) hq2
      have e13 : (upd H12 q2 (.lst (xs.drop (a + 1)))) q2 = some (.lst (xs.drop (a + 1))) := upd_same
      generalize upd H12 q2 (.lst (xs.drop (a + 1))) = H13 at s13 e13 ⊢
      have ln : (xs.take a).length + (xs.drop (a + 1)).length ≤ 6 := by rw [List.length_take, List.length_drop]; omega
      refine ⟨q1, q2, _, _, rfl, rfl, s13 _ _ e12, e13, Nat.le_trans ln (by decide), fun N hN hsys => ?_⟩
      have s14 : Same H13 (upd H13 N (.lst (xs.take a ++ xs.drop (a + 1)))) := Same.new (Same.refl _) hN
      obtain ⟨nNR, nNp⟩ := neR (s12.trans s13) hN
      have lwN : (N == sysModules) = false := low_ne hsys (by rw [upd_same]; exact fun z => by cases z)
      have eN : (upd H13 N (.lst (xs.take a ++ xs.drop (a + 1)))) N = some (.lst (xs.take a ++ xs.drop (a + 1))) := upd_same
      generalize upd H13 N (.lst (xs.take a ++ xs.drop (a + 1))) = H14 at s14 eN ⊢
      have s1114 := (s12.trans s13).trans s14
      refine ⟨_, rfl, _, rfl, R, _, (at_ : Int), at_, rfl, rfl, s1114 _ _ hR11.e, iR, _, rfl, ?_⟩
      have lf := leaf (Kp.of s1114)
      refine setR (m := c + 5) (Kp.of s1114) (b11.same s1114) (by omega) (.lst (SqL.of (by rw [wo_ne nNR, wo_ne nNp]; exact eN)) (fun _ => lwN) ((lf.take a).append (lf.drop (a + 1)))) (flist (fun d hd => ?_) (by rw [List.length_append, List.length_take, List.length_drop]; omega)) (entB_len (by rw [List.length_append, List.length_take, List.length_drop]; omega))
      rcases List.mem_append.mp hd with z | z
      · exact frow d (List.mem_of_mem_take z)
      · exact frow d (List.mem_of_mem_drop z)
    · refine ⟨_, rfl, _, _, rfl, rfl, mulOk_a (by omega), _, rfl, fun r0 hr0 => ⟨(by show 4 ≤ sizeLine; decide), fun M4 hM4 lw4 => ?_⟩⟩
      obtain ⟨n0R, n0p⟩ := neR (Same.refl H11) hr0
      have s12 : Same H11 (upd H11 r0 (.dK [])) := Same.new (Same.refl _) hr0
      have e12 : (upd H11 r0 (.dK [])) r0 = some (.dK []) := upd_same
      generalize upd H11 r0 (.dK []) = H12 at s12 e12 hM4 ⊢
      obtain ⟨nMR, nMp⟩ := neR s12 hM4
      have s13 : Same H12 (upd H12 M4 (.lst [.non, .str (Txt.mul (Str.ofString "a") (D.sg : Int)), .int (D.sg : Nat), .ref r0])) := Same.new (Same.refl _) hM4
      have e13 : (upd H12 M4 (.lst [.non, .str (Txt.mul (Str.ofString "a") (D.sg : Int)), .int (D.sg : Nat), .ref r0])) M4 = some (.lst [.non, .str (Txt.mul (Str.ofString "a") (D.sg : Int)), .int (D.sg : Nat), .ref r0]) := upd_same
      generalize upd H12 M4 (.lst [.non, .str (Txt.mul (Str.ofString "a") (D.sg : Int)), .int (D.sg : Nat), .ref r0]) = H13 at s13 e13 ⊢
      have s1113 := s12.trans s13
      refine ⟨_, rfl, p, _, 4, rfl, b11.same s1113, by omega, by omega, by omega, fun d o hd ho => ?_⟩
      have k14 : Kp p H11 (upd H13 p o) := (Kp.of s1113).upd
      have b14 : BoxAt (upd H13 p o) p (c + 6) := ho.at
      have e14 : (upd H13 p o) M4 = some (.lst [.non, .str (Txt.mul (Str.ofString "a") (D.sg : Int)), .int (D.sg : Nat), .ref r0]) := by rw [upd_ne nMp]; exact e13
      have e0 : (upd H13 p o) r0 = some (.dK []) := by rw [upd_ne n0p]; exact s13 _ _ e12
      generalize upd H13 p o = H14 at k14 b14 e14 e0 ⊢
      obtain ⟨v, e, hv, dv, fv, ev⟩ : ∃ v e, [V.non, .str (Txt.mul (Str.ofString "a") (D.sg : Int)), .int (D.sg : Nat), .ref r0][d]? = some v ∧ Dg K (wo (wo H14 p) R) true v e ∧ Fit e 9 1000 ∧ entB (D.sg : Nat) (D.st.length : Nat) e = false := by
        have : d = 0 ∨ d = 1 ∨ d = 2 ∨ d = 3 := by omega
        rcases this with rfl | rfl | rfl | rfl
        · exact ⟨_, _, rfl, .non, Fit.none.mono (Nat.le_refl _) (Nat.zero_le _), entB_no rfl⟩
        · exact ⟨_, _, rfl, .str _, fit_a (by omega), entB_no rfl⟩
        · exact ⟨_, _, rfl, .int _, (Fit.nat (k := 9) (by omega)).mono (Nat.le_refl _) (by omega), entB_no rfl⟩
        · exact ⟨_, _, rfl, .emp rfl (by rw [wo_ne n0R, wo_ne n0p]; exact e0), (Fit.dict (k := 8) FitKv.nil).mono (Nat.le_refl _) (Nat.zero_le _), entB_no rfl⟩
      exact ⟨M4, _, (d : Int), v, rfl, rfl, SqL.of e14, atI_nat hv, _, rfl, _, rfl, R, _, (at_ : Int), at_, rfl, rfl, (hR11.box b11 k14).e, iR, _, rfl, setR k14 b14 (Nat.le_refl _) dv fv ev⟩
    · refine ⟨(by show 0 ≤ sizeLine; decide), fun L0 hL0 lw0 => ⟨_, rfl, _, _, rfl, rfl, mulOk_a (by omega), fun r0 hr0 => ⟨(by show 0 ≤ sizeLine; decide), fun t0 ht0 => ⟨(by show 6 ≤ sizeLine; decide), fun M4 hM4 lw4 => ?_⟩⟩⟩⟩
      obtain ⟨nLR, nLp⟩ := neR (Same.refl H11) hL0
      have s12 : Same H11 (upd H11 L0 (.lst [])) := Same.new (Same.refl _) hL0
      have e12 : (upd H11 L0 (.lst [])) L0 = some (.lst []) := upd_same
      generalize upd H11 L0 (.lst []) = H12 at s12 e12 hr0 ht0 hM4 ⊢
      obtain ⟨n0R, n0p⟩ := neR s12 hr0
      have s13 : Same H12 (upd H12 r0 (.dK [])) := Same.new (Same.refl _) hr0
      have e13 : (upd H12 r0 (.dK [])) r0 = some (.dK []) := upd_same
      generalize upd H12 r0 (.dK []) = H13 at s13 e13 ht0 hM4 ⊢
      obtain ⟨ntR, ntp⟩ := neR (s12.trans s13) ht0
      have s14 : Same H13 (upd H13 t0 (.tup [])) := Same.new (Same.refl _) ht0
      have e14 : (upd H13 t0 (.tup [])) t0 = some (.tup []) := upd_same
      generalize upd H13 t0 (.tup []) = H14 at s14 e14 hM4 ⊢
      have s1114 := (s12.trans s13).trans s14
      obtain ⟨nMR, nMp⟩ := neR s1114 hM4
      have s15 : Same H14 (upd H14 M4 (.lst [.ref L0, .non, .str (Txt.mul (Str.ofString "a") (D.st.length : Int)), .ref r0, .int 0, .ref t0])) := Same.new (Same.refl _) hM4
      have e15 : (upd H14 M4 (.lst [.ref L0, .non, .str (Txt.mul (Str.ofString "a") (D.st.length : Int)), .ref r0, .int 0, .ref t0])) M4 = some (.lst [.ref L0, .non, .str (Txt.mul (Str.ofString "a") (D.st.length : Int)), .ref r0, .int 0, .ref t0]) := upd_same
      generalize upd H14 M4 (.lst [.ref L0, .non, .str (Txt.mul (Str.ofString "a") (D.st.length : Int)), .ref r0, .int 0, .ref t0]) = H15 at s15 e15 ⊢
      have s1115 := s1114.trans s15
      refine ⟨_, rfl, p, _, 6, rfl, b11.same s1115, by omega, by omega, by omega, fun d o hd ho => ?_⟩
      have k16 : Kp p H11 (upd H15 p o) := (Kp.of s1115).upd
      have b16 : BoxAt (upd H15 p o) p (c + 6) := ho.at
      obtain ⟨v, e, hv, dv, fv, ev⟩ : ∃ v e, [V.ref L0, .non, .str (Txt.mul (Str.ofString "a") (D.st.length : Int)), .ref r0, .int 0, .ref t0][d]? = some v ∧ Dg K (wo (upd H15 p o) p) true v e ∧ BadV e ∧ stepsB (D.sg : Nat) e = false := by
        have s25 := (s13.trans s14).trans s15
        have : d = 0 ∨ d = 1 ∨ d = 2 ∨ d = 3 ∨ d = 4 ∨ d = 5 := by omega
        rcases this with rfl | rfl | rfl | rfl | rfl | rfl
        · exact ⟨_, .list [], rfl, .lst (SqL.of (by rw [wo_upd, wo_ne nLp]; exact s25 _ _ e12)) (fun _ => lw0) .nil, badv_list all_nil (Nat.zero_le _), rfl⟩
        · exact ⟨_, _, rfl, .non, badv_of (Fit.none.mono (Nat.le_refl _) (Nat.zero_le _)) rfl (Nat.zero_le _), stepsB_no rfl⟩
        · exact ⟨_, _, rfl, .str _, badv_of (fit_a (by omega)) rfl (Nat.zero_le _), stepsB_no rfl⟩
        · exact ⟨_, _, rfl, .emp rfl (by rw [wo_upd, wo_ne n0p]; exact (s14.trans s15) _ _ e13), badv_of ((Fit.dict (k := 8) FitKv.nil).mono (Nat.le_refl _) (Nat.zero_le _)) rfl (Nat.zero_le _), stepsB_no rfl⟩
        · exact ⟨_, _, rfl, .int _, badv_of ((Fit.nat (r := 0) (by omega)).mono (Nat.le_refl 9) (by omega)) rfl (Nat.zero_le _), stepsB_no rfl⟩
        · exact ⟨_, .tuple [], rfl, .tup (SqT.of (by rw [wo_upd, wo_ne ntp]; exact s15 _ _ e14)) .nil, badv_of ((Fit.tuple (k := 8) FitAll.nil).mono (Nat.le_refl _) (Nat.zero_le _)) rfl (Nat.zero_le _), rfl⟩
      exact ⟨M4, _, (d : Int), v, rfl, rfl, SqL.of (by rw [upd_ne nMp]; exact e15), atI_nat hv, kQ v e _ (k011.trans k16) b16 dv fv ev⟩
    · refine ⟨_, rfl, _, rfl, _, rfl, O, os, rfl, .inl (SqL.of eO), p, _, (os.length : Int), rfl, b11, by omega, by omega, by omega, fun d o hd ho => ?_⟩
      obtain ⟨x, e, hx, he, dx⟩ := wods.nth (i := d) (by have := wods.len; omega)
      obtain ⟨fe, be⟩ := lods e (List.mem_of_getElem? he)
      have k12 : Kp p H11 (upd H11 p o) := (Kp.refl p H11).upd
      have b12 : BoxAt (upd H11 p o) p (c + 6) := ho.at
      have eO12 := k12 _ _ nO eO
      have eq12 := k12 _ _ nqp eq11
      have dx12 := dx.ext (two_kp (D := q) k12)
      have hR12 := hR11.box b11 k12
      have hx12 : DgAll K (upd H11 p o) false xs (row.map enD) := by
        obtain ⟨l, el⟩ := box_lst b11
        exact ((dg_lfwoAll el _ _ (lfAll_map lf_enD _) (hxs.ext s611)).ext k12.wo).ext (wo_same _ p)
      generalize upd H11 p o = H12 at k12 b12 eO12 eq12 dx12 hR12 hx12 ⊢
      refine ⟨O, _, (d : Int), x, rfl, rfl, SqL.of eO12, atI_nat hx, _, rfl, _, rfl, R, _, (at_ : Int), .ref q, rfl, rfl, SqL.of hR12.e, atI_nat hqR, _, rfl, q, xs, (a : Int), a, rfl, rfl, eq12, ixN_nat (by omega), _, rfl, ?_⟩
      refine kQ (.ref R) _ _ ((k011.trans k12).free hqH) (b12.other nqp.symm) (rows_putE hR12 b12 lowR hq hrow eq12 hx12 dx12) (bput (flist (fun d' hd' => ?_) (by rw [List.length_set, lrm]; omega))) (sput (entB_at (by rw [lrm]; exact ha') be))
      rcases List.mem_or_eq_of_mem_set hd' with z | z
      · exact frow d' z
      · rw [z]; exact fe
end
end My

set_option Elab.async false
set_option linter.all false
set_option maxRecDepth 100000
set_option maxHeartbeats 8000000
namespace My
open PySem PySem.Spec PyProof.Rows L2
section
variable {P : Program} {w : World} {K : PySem.W.Frag} {mg : Str → Option Value} {base : Heap}
theorem kn_Decoder_init_ends_signs_steps (T : Txt K mg base) : KBn K T.fd_Decoder_init ["self", "signs", "steps", "ends"] 1 ["ends", "signs", "steps"] (fun us ws => match us, ws with | [x0], [x3, x1, x2] => [x0, x1, x2, x3] | _, _ => []) (fun us ws => match us, ws with | [x0], [x3, x1, x2] => [x0, x1, x2, x3] | _, _ => []) := by
  obtain ⟨oc, od, kV, doc, pm, an, cdv, ct, osl, e, _, _⟩ := T.F_Decoder_init.ex
  refine ⟨fun s us ws _ h1 h2 => ?_, fun r rz => ?_⟩
  · match us, ws, h1, h2 with
    | [x0], [x3, x1, x2], _, _ =>
      rw [e]
      exact .of_eq rfl
  · match r, rz with
    | .cons r0 .nil, .cons r3 (.cons r1 (.cons r2 (.nil))) => exact .cons r0 (.cons r1 (.cons r2 (.cons r3 (.nil))))
    | .nil, _ => exact .nil
    | .cons _ (.cons _ _), _ => exact .nil
    | .cons _ .nil, .nil => exact .nil
    | .cons _ .nil, .cons _ (.nil) => exact .nil
    | .cons _ .nil, .cons _ (.cons _ (.nil)) => exact .nil
    | .cons _ .nil, .cons _ (.cons _ (.cons _ (.cons _ _))) => exact .nil

theorem mk_dec (T : Txt K mg base) {D : Dcd} {H H3 : Hp} {n : Nat} {v2 v3 : V} {d2 d3 : PyData} {m2 m3 : Bool} {Q : VK} {E : XK} (s : Same H H3) (g : GoodD D (.int n) d2 d3) (h2 : Dg K H3 m2 v2 d2) (h3 : Dg K H3 m3 v3 d3) (kQ : ∀ r H', Same H H' → DecAt K T.C_Decoder H' r D → Q (.ref r) H') :
    ∀ x dx, H3 x = none → H3 dx = none → dx ≠ x → spInit T [.ref x, .int n, v2, v3] (upd (upd H3 dx (.own x)) x (.ins T.C_Decoder dx [])) (fun v H2 => v = .non ∧ Q (.ref x) H2) E := fun x dx hx hdx _ =>
  ⟨x, dx, _, _, _, .int n, d2, d3, false, m2, m3, rfl, upd_same, .int _, made_dw hx hdx h2, made_dw hx hdx h3, g.w2, g.w3, .inr (.inr (.inr ⟨D, g, fun H' k dec => ⟨rfl, kQ x H' (s.trans (made_same hx hdx k)) dec⟩⟩))⟩
theorem eqO_ (T : Txt K mg base) {H : Hp} {o q : Addr} {D D' : Dcd} {Q : VK} (h1 : DecAt K T.C_Decoder H o D) (h2 : DecAt K T.C_Decoder H q D') (k : Q (.bl (decide (D = D'))) H) : rEqO K T.C_Decoder (spDeq T) (.ref o) (.ref q) H Q := by
  obtain ⟨⟨dx, _, _, e1, _, _⟩, _⟩ := id h1
  obtain ⟨⟨dy, _, _, e2, _, _⟩, _⟩ := id h2
  exact ⟨⟨o, dx, _, rfl, e1⟩, ⟨_, T.oe_Decoder.ty e2, T.oe_Decoder.first⟩, o, _, D, rfl, h1, .inl ⟨q, D', rfl, h2, _, rfl, k⟩⟩
theorem neO_ (T : Txt K mg base) {H : Hp} {o q : Addr} {D D' : Dcd} {Q : VK} (h1 : DecAt K T.C_Decoder H o D) (h2 : DecAt K T.C_Decoder H q D') (k : Q (.bl (!decide (D = D'))) H) : rNeO K T.C_Decoder (spDeq T) (.ref o) (.ref q) H Q := by
  obtain ⟨⟨dx, _, _, e1, _, _⟩, _⟩ := id h1
  obtain ⟨⟨dy, _, _, e2, _, _⟩, _⟩ := id h2
  exact ⟨⟨o, dx, _, rfl, e1⟩, ⟨_, T.oe_Decoder.ty e2, T.oe_Decoder.first⟩, o, _, D, rfl, h1, .inl ⟨q, D', rfl, h2, _, rfl, k⟩⟩
/-- a thing of another class -/
structure Oth (K : PySem.W.Frag) (C : Addr) (H : Hp) (y : V) (t : String) : Prop where
  ty : TyX K H y (.type t)
  nf : PySem.W.notFirst K C (.type t) = true
  no : PySem.W.kitOne K (.type t) (.ref C) = some false
  lf : Lft K H y t
  sb : PySem.W.subIn K (.ref C) (.type t) = some false
theorem eqO_no (T : Txt K mg base) {H : Hp} {o : Addr} {D : Dcd} {y : V} {t : String} {Q : VK} (h1 : DecAt K T.C_Decoder H o D) (h : Oth K T.C_Decoder H y t) (k : Q (.bl false) H) : rEqO K T.C_Decoder (spDeq T) (.ref o) y H Q := by
  obtain ⟨⟨dx, _, _, e1, _, _⟩, _⟩ := id h1
  exact ⟨⟨o, dx, _, rfl, e1⟩, ⟨_, h.ty, h.nf⟩, o, _, D, rfl, h1, .inr (.inr ⟨_, h.ty, h.no, _, rfl, k⟩)⟩
theorem neO_no (T : Txt K mg base) {H : Hp} {o : Addr} {D : Dcd} {y : V} {t : String} {Q : VK} (h1 : DecAt K T.C_Decoder H o D) (h : Oth K T.C_Decoder H y t) (k : Q (.bl true) H) : rNeO K T.C_Decoder (spDeq T) (.ref o) y H Q := by
  obtain ⟨⟨dx, _, _, e1, _, _⟩, _⟩ := id h1
  exact ⟨⟨o, dx, _, rfl, e1⟩, ⟨_, h.ty, h.nf⟩, o, _, D, rfl, h1, .inr (.inr ⟨_, h.ty, h.no, _, rfl, k⟩)⟩
theorem eqDO_no (T : Txt K mg base) {H : Hp} {o : Addr} {D : Dcd} {y : V} {t : String} {Q : VK} (h1 : DecAt K T.C_Decoder H o D) (h : Oth K T.C_Decoder H y t) (k : Q (.bl false) H) : rEqDO K T.C_Decoder (spDeq T) y (.ref o) H Q := by
  obtain ⟨⟨dx, _, _, e1, _, _⟩, _⟩ := id h1
  exact ⟨⟨t, h.lf, h.sb⟩, ⟨o, dx, _, rfl, e1⟩, o, _, D, rfl, h1, .inr (.inr ⟨_, h.ty, h.no, _, rfl, k⟩)⟩
theorem oth_d (T : Txt K mg base) {H : Hp} {m : Bool} {y : V} {d : PyData} (h : Dg K H m y d) (lf : Lft K H y (tyD d)) (sb : PySem.W.subIn K (.ref T.C_Decoder) (.type (tyD d)) = some false) : Oth K T.C_Decoder H y (tyD d) := ⟨h.ty, notFirst_data d, kit_ownD T.ii_Decoder T.it_Decoder d, lf, sb⟩
theorem oth_lst (T : Txt K mg base) {H : Hp} {a : Addr} {xs : List V} (h : H a = some (.lst xs)) : Oth K T.C_Decoder H (.ref a) "list" := ⟨.base (.lst h), notFirst_data (.list []), kit_ownD T.ii_Decoder T.it_Decoder (.list []), .lst h, T.sb_Decoder_list⟩
theorem oth_dct (T : Txt K mg base) {H : Hp} {a : Addr} (h : H a = some (.dK [])) : Oth K T.C_Decoder H (.ref a) "dict" := ⟨.base (.dK h), notFirst_data (.dict []), kit_ownD T.ii_Decoder T.it_Decoder (.dict []), .dct h, T.sb_Decoder_dict⟩
theorem oth_tup (T : Txt K mg base) {H : Hp} {a : Addr} {xs : List V} (h : H a = some (.tup xs)) : Oth K T.C_Decoder H (.ref a) "tuple" := ⟨.base (.tup h), notFirst_data (.tuple []), kit_ownD T.ii_Decoder T.it_Decoder (.tuple []), .tup (SqT.of h), T.sb_Decoder_tuple⟩
theorem oth_int (T : Txt K mg base) {H : Hp} (i : Int) : Oth K T.C_Decoder H (.int i) "int" := ⟨.base (.int i), notFirst_data (.int 0), kit_ownD T.ii_Decoder T.it_Decoder (.int 0), .int i, T.sb_Decoder_int⟩
theorem oth_str (T : Txt K mg base) {H : Hp} (z : Str) : Oth K T.C_Decoder H (.str z) "str" := ⟨.base (.str z), notFirst_data (.str z), kit_ownD T.ii_Decoder T.it_Decoder (.str z), .str z, T.sb_Decoder_str⟩
theorem oth_non (T : Txt K mg base) {H : Hp} : Oth K T.C_Decoder H .non "NoneType" := ⟨.base .non, notFirst_data .none, kit_ownD T.ii_Decoder T.it_Decoder .none, .non, T.sb_Decoder_NoneType⟩
theorem Oth.ext {C : Addr} {H H' : Hp} {y : V} {t : String} (h : Oth K C H y t) (s : Same H H') (ty : TyX K H' y (.type t)) : Oth K C H' y t := by
  obtain ⟨_, nf, no, lf, sb⟩ := h
  refine ⟨ty, nf, no, ?_, sb⟩
  cases lf with
  | non => exact .non
  | int i => exact .int i
  | str z => exact .str z
  | tup h => exact .tup (h.ext s)
  | lst h => exact .lst (s _ _ h)
  | dct h => exact .dct (s _ _ h)
theorem ok_law_equal_right (T : Txt K mg base) : FnG P w K mg base CX0 9 T.f_law_equal_right T.fd_law_equal_right ["box", "made", "parts"] (fun vs H Q _ => ∃ (p o r : Addr) (c : Nat) (D : Dcd), vs = [.ref p, .ref o, .ref r] ∧ BoxAt H p c ∧ c < 500000 ∧ DecAt K T.C_Decoder H o D ∧ PartsAt K p H r D ∧ D.st.length ≤ 39 ∧
    ∀ H', Kp p H H' → BoxAt H' p (c + 300) → Q (.bl true) H') := by
  refine T.F_law_equal_right.okG sc_law_equal_right (fun vs H Q E h => ?_) (fun cdv A outer s0 H vs Q E hgd hr h => ?_)
  · obtain ⟨p, o, r, c, D, rfl, _⟩ := h; rfl
  · obtain ⟨p, o, r, c, D, rfl, hb, hc, dec, parts, l39, kQ⟩ := h
    have hun := un64 hr
    refine ⟨_, (pss_cons (ps_asg (pv 2) (pg_lst rfl (pgs_cons (pg_name (i := 3) sc_law_equal_right.nd rfl (Or.inl rfl)) (pgs_cons (pg_name (i := 4) sc_law_equal_right.nd rfl (Or.inl rfl)) (pgs_cons (pg_name (i := 5) sc_law_equal_right.nd rfl (Or.inl rfl)) pgs_nil)))))
      (pss_cons (ps_set (i := 6) sc_law_equal_right.nd rfl (Or.inl rfl) (pe_makeK0 T.mk_Decoder (ok_Decoder_init T) (hr.mono (by decide)) rfl T.g_Decoder (kn_Decoder_init_ends_signs_steps T) passL (pk_cons (pe_callTy call_tuple_of (by rfl) T.z_tuple (by decide +kernel) (pa_cons (pv 5) pa_nil)) (pk_cons (pv 3) (pk_cons (pe_call (ok_law_plain_rows T) (hr.mono (by decide)) rfl T.g_law_plain_rows T.F_law_plain_rows.kp T.b_law_plain_rows .nil pass0 (pa_cons (pv 4) pa_nil)) pk_nil)))))
      (pss_cons (ps_if (PW.pt (pw_or (pt_not (pt_cmpR (op_eqO T.oe_Decoder (ok_Decoder_eq T) T.b_Decoder_eq pass0 (hr.mono (by decide)) (un64 hr)) (pv 1) (pv 6) (nomark _))) (pw_or (pt_cmpR (op_neO T.oe_Decoder (ok_Decoder_eq T) T.b_Decoder_eq pass0 (Room.in1 (hr.mono (by decide))) (un64 hr)) (pv 1) (pv 6) (nomark _)) (pw_or (pt_not (pt_cmpR (op_eqO T.oe_Decoder (ok_Decoder_eq T) T.b_Decoder_eq pass0 (hr.mono (by decide)) (un64 hr)) (pv 6) (pv 1) (nomark _))) (pw_or1 (pt_not (pt_cmpR (op_eqO T.oe_Decoder (ok_Decoder_eq T) T.b_Decoder_eq pass0 (hr.mono (by decide)) (un64 hr)) (pv 1) (pv 1) (nomark _)))))))) (pss_one (ps_ret pe_bl)) pss_nil)
      (pss_cons (ps_for PassesOwn.never rfl (pi_range1 rfl T.z_range (pa_cons pe_int pa_nil)) (pg_name (i := 7) sc_law_equal_right.nd rfl (Or.inl rfl)) (pss_cons (ps_set (i := 8) sc_law_equal_right.nd rfl (Or.inl rfl) (pe_call (ok_law_changed T) (hr.mono (by decide)) rfl T.g_law_changed T.F_law_changed.kp T.b_law_changed .nil pass0 (pa_cons (pv 0) (pa_cons (pv 2) pa_nil))))
      (pss_cons (ps_set (i := 9) sc_law_equal_right.nd rfl (Or.inl rfl) (pe_make T.mk_Decoder (ok_Decoder_init T) (hr.mono (by decide)) rfl T.g_Decoder T.b_Decoder_init .nil passL (pa_cons (pe_ix ix_list (pv 8) pe_int (fun _ _ => rfl)) (pa_cons (pe_ix ix_list (pv 8) pe_int (fun _ _ => rfl)) (pa_cons (pe_ix ix_list (pv 8) pe_int (fun _ _ => rfl)) pa_nil)))))
      (pss_one (ps_if (PW.pt (pw_or (pt_not (pt_val (pe_callG (ok_law_stands T) hgd (hr.mono (by decide)) rfl T.g_law_stands T.F_law_stands.kp T.b_law_stands .nil pass0 (pa_cons (pv 9) (pa_cons (pv 8) pa_nil))))) (pw_or (pt_cmpR (op_eqO T.oe_Decoder (ok_Decoder_eq T) T.b_Decoder_eq pass0 (hr.mono (by decide)) (un64 hr)) (pv 1) (pv 9) (nomark _)) (pw_or (pt_not (pt_cmpR (op_neO T.oe_Decoder (ok_Decoder_eq T) T.b_Decoder_eq pass0 (Room.in1 (hr.mono (by decide))) (un64 hr)) (pv 1) (pv 9) (nomark _))) (pw_or1 (pt_cmpR (op_eqO T.oe_Decoder (ok_Decoder_eq T) T.b_Decoder_eq pass0 (hr.mono (by decide)) (un64 hr)) (pv 9) (pv 1) (nomark _))))))) (pss_one (ps_ret pe_bl)) pss_nil)))))
      (pss_cons (ps_set (i := 10) sc_law_equal_right.nd rfl (Or.inl rfl) (pe_lstS (pa_cons pe_non (pa_cons pe_int (pa_cons pe_str (pa_cons (pv 3) (pa_cons (pe_tup (pa_cons (pv 3) (pa_cons (pe_call (ok_law_plain_rows T) (hr.mono (by decide)) rfl T.g_law_plain_rows T.F_law_plain_rows.kp T.b_law_plain_rows .nil pass0 (pa_cons (pv 4) pa_nil)) (pa_cons (pe_callTy call_tuple_of (by rfl) T.z_tuple (by decide +kernel) (pa_cons (pv 5) pa_nil)) pa_nil)))) (pa_cons (pe_call (ok_law_plain_rows T) (hr.mono (by decide)) rfl T.g_law_plain_rows T.F_law_plain_rows.kp T.b_law_plain_rows .nil pass0 (pa_cons (pv 4) pa_nil)) (pa_cons (pe_lstS (pa_cons (pv 1) pa_nil)) (pa_cons pe_dnewK pa_nil))))))))))
      (pss_one (ps_ret (pe_cmpR (op_eq_nil (un0 hr)) (pe_lc (own := [("thing", 11)]) (g := gName 11) (by rfl) sc_law_equal_right.nd (pi_list (pv 10)) (blkOk_by (own := [("thing", 11)]) (N := N_law_equal_right) (sc := defScope s_law_equal_right) (by decide +kernel)) (fun _ _ _ _ _ => pg_name (i := 11) sc_law_equal_right.nd rfl (Or.inl rfl)) (fun _ _ _ _ _ => (pts_one (PW.pt (pw_or (pt_cmpR (op_eqOK (K := K) rfl T.oe_Decoder (ok_Decoder_eq T) T.b_Decoder_eq pass0 (hr.mono (by decide)) (un64 hr)) (pv 1) (pv 11) (nomark _)) (pw_or (pt_cmpR (op_eqDOK (K := K) rfl T.oe_Decoder (ok_Decoder_eq T) T.b_Decoder_eq pass0 (hr.mono (by decide)) (un64 hr)) (pv 11) (pv 1) (nomark _)) (pw_or1 (pt_not (pt_cmpR (op_neOK (K := K) rfl T.oe_Decoder (ok_Decoder_eq T) T.b_Decoder_eq pass0 (Room.in1 (hr.mono (by decide))) (un64 hr)) (pv 1) (pv 11) (nomark _))))))))) (fun _ _ _ _ _ => (pv 11))) (pe_lstS pa_nil) (nomark _))))))))), ?_⟩
    obtain ⟨Sa, Ea, hS, hdS, hdE, ok⟩ := id parts
    have hS' : SqL K H r _ := hS.ext (wo_same H p)
    refine ⟨_, rfl, r, _, rfl, hS', rfl, _, _, rfl, _, _, rfl, _, _, rfl, rfl, ?_⟩
    obtain ⟨Sa', ys, e0, hqS, _, hyS⟩ := hdS.lst_of
    injection e0 with e0
    subst e0
    obtain ⟨Ea', zs, e0, hqE, _, hzE⟩ := hdE.lst_of
    injection e0 with e0
    subst e0
    have goodT := Dcd.good ok
    have nnp := hb.some
    refine ⟨_, rfl, Ea, zs, rfl, .inl ⟨hqE.ext (wo_same H p), fun t1 ht1 => ?_⟩⟩
    have nt1 : t1 ≠ p := (hb.ne ht1).symm
    have s1 : Same H (upd H t1 (.tup zs)) := Same.new (Same.refl _) ht1
    have d1 : Dg K (wo (upd H t1 (.tup zs)) p) false (.ref t1) D.enD := .tup (SqT.of (by rw [wo_ne nt1]; exact upd_same)) (hzE.ext (Kp.of s1).wo)
    generalize upd H t1 (.tup zs) = H1 at s1 d1 ⊢
    refine ⟨_, rfl, _, rfl, p, Sa, D, rfl, ok, same_at s1 nnp, hdS.ext (Kp.of s1).wo, fun t2 H2 s2 nt2 d2 => ⟨rfl, rfl, ?_⟩⟩
    have d12 := d1.ext (Kp.of s2).wo
    intro x0 dx0 hx0 hdx0 ne0
    show spInit T [.ref x0, .int (D.sg : Nat), .ref t2, .ref t1] _ _ _
    refine ⟨x0, dx0, _, _, _, .int (D.sg : Nat), _, _, false, false, false, rfl, upd_same, .int _, made_dw hx0 hdx0 d2.dg, made_dw hx0 hdx0 d12.dg, goodT.w2, goodT.w3, .inr (.inr (.inr ⟨D, goodT, fun H3 k3 decT => ⟨rfl, ?_⟩⟩))⟩
    have s3 : Same H2 H3 := made_same hx0 hdx0 k3
    have s03 := (s1.trans s2).trans s3
    have dec3 := dec.ext s03
    have b3 := hb.same s03
    have k03 : Kp p H H3 := Kp.of s03
    have p3 := parts.kp k03
    dsimp only [L2.gName]
    refine ⟨_, rfl, _, rfl, eqO_ T dec3 decT ?_⟩
    rw [decide_eq_true rfl]
    refine ⟨_, rfl, iteF ⟨_, rfl, _, rfl, neO_ T dec3 decT ?_⟩⟩
    rw [decide_eq_true rfl]
    refine ⟨_, rfl, iteF ⟨_, rfl, _, rfl, eqO_ T decT dec3 ?_⟩⟩
    rw [decide_eq_true rfl]
    refine ⟨_, rfl, iteF ⟨_, rfl, _, rfl, eqO_ T dec3 dec3 ?_⟩⟩
    rw [decide_eq_true rfl]
    refine ⟨_, rfl, iteF ⟨3, rfl, by decide, by decide, for_range (n := 3) (fun i σ H' => ∃ x7 x8 x9, σ = [some (.ref p), some (.ref o), some (.ref r), some (.int (D.sg : Nat)), some (.ref Sa), some (.ref Ea), some (.ref x0), x7, x8, x9, none, none] ∧ Kp p H3 H' ∧ BoxAt H' p (c + 100 * i)) ⟨_, _, _, rfl, Kp.refl p H3, b3⟩ ?_ ?_⟩⟩
    · rintro i σ H4 hi ⟨x7, x8, x9, rfl, k4, b4⟩
      refine ⟨_, rfl, _, rfl, p, r, c + 100 * i, D, rfl, b4, by omega, p3.kp k4, l39, fun r' D' H5 k5 b5 p5 ne' => ?_⟩
      have k35 := k4.trans k5
      have dec5 := dec3.bx b3 k35
      obtain ⟨Sb, Eb, hSb, hdSb, hdEb, ok'⟩ := id p5
      have hq5 := hSb.ext (wo_same H5 p)
      have goodL := Dcd.goodL ok'
      refine ⟨_, rfl, r', _, _, _, rfl, rfl, hq5, atI_nat (j := 0) rfl, _, rfl, r', _, _, _, rfl, rfl, hq5, atI_nat (j := 1) rfl, _, rfl, r', _, _, _, rfl, rfl, hq5, atI_nat (j := 2) rfl, fun x1 dx1 hx1 hdx1 ne1 => ?_⟩
      refine ⟨x1, dx1, _, _, _, .int (D'.sg : Nat), _, _, false, false, false, rfl, upd_same, .int _, made_dw hx1 hdx1 (hdSb.ext (wo_same H5 p)), made_dw hx1 hdx1 (hdEb.ext (wo_same H5 p)), goodL.w2, goodL.w3, .inr (.inr (.inr ⟨D', goodL, fun H6 k6 decO => ⟨rfl, ?_⟩⟩))⟩
      have s6 : Same H5 H6 := made_same hx1 hdx1 k6
      have b6 := b5.same s6
      have dec6 := dec5.ext s6
      have p6 := p5.kp (Kp.of s6)
      have k36 := k35.trans (Kp.of s6)
      dsimp only [L2.gName]
      refine ⟨_, rfl, _, rfl, p, x1, r', D', rfl, ⟨_, b6⟩, decO, p6, fun H7 s7 => ?_⟩
      have neD : D ≠ D' := fun z => ne' z.symm
      have dec7 := dec6.ext s7
      have decO7 := decO.ext s7
      refine ⟨_, rfl, iteF ⟨_, rfl, _, rfl, eqO_ T dec7 decO7 ?_⟩⟩
      rw [decide_eq_false neD]
      refine ⟨_, rfl, iteF ⟨_, rfl, _, rfl, neO_ T dec7 decO7 ?_⟩⟩
      rw [decide_eq_false neD]
      refine ⟨_, rfl, iteF ⟨_, rfl, _, rfl, eqO_ T decO7 dec7 ?_⟩⟩
      rw [decide_eq_false ne']
      refine ⟨_, rfl, iteF ?_⟩
      exact ⟨_, _, _, rfl, k36.trans (Kp.of s7), (b6.same s7).mono (by omega)⟩
    · rintro σ H4 ⟨x7, x8, x9, rfl, k4, b4⟩
      have k04 := k03.trans k4
      have three : 3 ≤ sizeLine := by decide
      have one : 1 ≤ sizeLine := by decide
      have hdS4 := hdS.ext k04.wo
      have dec4 := dec3.bx b3 k4
      refine ⟨_, rfl, _, rfl, _, rfl, p, Sa, D, rfl, ok, b4.some, hdS4, fun ta Ha sa nta dta => ?_⟩
      have hqEa : SqL K Ha Ea zs := (hqE.ext (k04.trans (Kp.of sa)).wo).ext (wo_same Ha p)
      refine ⟨_, rfl, Ea, zs, rfl, .inl ⟨hqEa, fun tb htb => ⟨three, fun tc htc => ?_⟩⟩⟩
      have sb : Same Ha (upd Ha tb (.tup zs)) := Same.new (Same.refl _) htb
      generalize upd Ha tb (.tup zs) = Hb at sb htc ⊢
      have sc : Same Hb (upd Hb tc (.tup [.int (D.sg : Nat), .ref ta, .ref tb])) := Same.new (Same.refl _) htc
      have ec : (upd Hb tc (.tup [.int (D.sg : Nat), .ref ta, .ref tb])) tc = some (.tup [.int (D.sg : Nat), .ref ta, .ref tb]) := upd_same
      generalize upd Hb tc (.tup [.int (D.sg : Nat), .ref ta, .ref tb]) = Hc at sc ec ⊢
      have s4c := (sa.trans sb).trans sc
      refine ⟨_, rfl, p, Sa, D, rfl, ok, same_at s4c b4.some, hdS4.ext (Kp.of s4c).wo, fun td Hd sd ntd dtd => ⟨_, rfl, one, fun L1 hL1 lw1 => fun r0 hr0 => ⟨(by show 8 ≤ sizeLine; decide), fun M hM lwM => ?_⟩⟩⟩
      have se : Same Hd (upd Hd L1 (.lst [.ref o])) := Same.new (Same.refl _) hL1
      have e1 : (upd Hd L1 (.lst [.ref o])) L1 = some (.lst [.ref o]) := upd_same
      generalize upd Hd L1 (.lst [.ref o]) = He at se e1 hr0 hM ⊢
      have sf : Same He (upd He r0 (.dK [])) := Same.new (Same.refl _) hr0
      have e0 : (upd He r0 (.dK [])) r0 = some (.dK []) := upd_same
      generalize upd He r0 (.dK []) = Hf at sf e0 hM ⊢
      obtain ⟨things, eth⟩ : ∃ things, things = [V.non, .int 0, .str (Str.ofString ""), .int (D.sg : Nat), .ref tc, .ref td, .ref L1, .ref r0] := ⟨_, rfl⟩
      rw [← eth]
      have sg_ : Same Hf (upd Hf M (.lst things)) := Same.new (Same.refl _) hM
      have eM : (upd Hf M (.lst things)) M = some (.lst things) := upd_same
      generalize upd Hf M (.lst things) = Hg at sg_ eM ⊢
      have s4g := (((s4c.trans sd).trans se).trans sf).trans sg_
      have oth : ∀ H', Same Hg H' → ∀ (i : Nat) x, things[i]? = some x → ∃ t, Oth K T.C_Decoder H' x t := fun H' s' i x hx => by
        rw [eth] at hx
        have hi := (List.getElem?_eq_some_iff.mp hx).1
        have hi : i < 8 := hi
        have sgf := sg_.trans s'
        have : i = 0 ∨ i = 1 ∨ i = 2 ∨ i = 3 ∨ i = 4 ∨ i = 5 ∨ i = 6 ∨ i = 7 := by omega
        rcases this with rfl | rfl | rfl | rfl | rfl | rfl | rfl | rfl <;> obtain rfl := Option.some.inj hx
        · exact ⟨_, oth_non T⟩
        · exact ⟨_, oth_int T 0⟩
        · exact ⟨_, oth_str T _⟩
        · exact ⟨_, oth_int T _⟩
        · exact ⟨_, oth_tup T (((sd.trans se).trans (sf.trans sgf)) _ _ ec)⟩
        · have dd : Dg K H' false (.ref td) D.stD := dtd.dg.ext (se.trans (sf.trans sgf))
          obtain ⟨td', us, etd, hus, _⟩ := dd.tup_of
          injection etd with etd
          subst etd
          exact ⟨_, dd.ty, notFirst_data D.stD, kit_ownD T.ii_Decoder T.it_Decoder D.stD, .tup hus, T.sb_Decoder_tuple⟩
        · exact ⟨_, oth_lst T ((sf.trans sgf) _ _ e1)⟩
        · exact ⟨_, oth_dct T (sgf _ _ e0)⟩
      have decg := dec4.ext s4g
      refine ⟨_, rfl, M, rfl, ⟨_, SqL.of eM⟩, fun R hR => ?_⟩
      refine lc_list (K := K) (a := M) (xs := things) (fun i H' => Same Hg H' ∧ H' R = some (.lst [])) ⟨Same.new (Same.refl _) hR, upd_same⟩ (fun i H' _ h => SqL.of (h.1 _ _ eM)) ?_ ?_
      · rintro i x H' hx ⟨s', e'⟩
        obtain ⟨t, ho⟩ := oth H' s' i x hx
        have dec' := decg.ext s'
        exact ⟨rfl, _, rfl, _, rfl, eqO_no T dec' ho ⟨_, rfl, iteF ⟨_, rfl, _, rfl, eqDO_no T dec' ho ⟨_, rfl, iteF ⟨_, rfl, _, rfl, neO_no T dec' ho ⟨_, rfl, iteF ⟨s', e'⟩⟩⟩⟩⟩⟩⟩
      · rintro H5 ⟨s5, e5⟩
        refine ⟨(by show 0 ≤ sizeLine; decide), fun N hN lwN => ⟨R, N, [], [], rfl, rfl, Same.new (Same.refl _) hN _ _ e5, upd_same, .inl rfl, ?_⟩⟩
        have s6 : Same H5 (upd H5 N (.lst [])) := Same.new (Same.refl _) hN
        rw [decide_eq_true rfl]
        exact kQ _ (k04.trans (Kp.of ((s4g.trans s5).trans s6))) (((b4.same s4g).same s5).same s6)
end
end My

set_option Elab.async false
set_option linter.all false
set_option maxRecDepth 100000
set_option maxHeartbeats 8000000
namespace My
open PySem PySem.Spec PyProof.Rows L2
theorem stL_row {D : Dcd} (ok : D.ok) : ∀ d ∈ D.st.map (fun r => PyData.list (r.map enD)), Fit d 9 1000 := fun d hd => by
  have n40 := ok.n40
  have s5 := ok.s5
  obtain ⟨r, hr, rfl⟩ := List.mem_map.mp hd
  obtain ⟨l, o⟩ := ok.rows r hr
  exact (fit_row1 (fun e he => by
    have := o e he
    exact fun g w' ew => ⟨Nat.lt_of_lt_of_le (this g w' ew).1 n40, (this g w' ew).2⟩) (by omega)).mono (by omega) (by omega)
theorem badv_stL {D : Dcd} (ok : D.ok) : BadV D.stL := badv_list (stL_row ok) (by rw [List.length_map]; have := ok.n40; omega)
theorem badv_enL {D : Dcd} (ok : D.ok) : BadV D.enL := badv_list (fun d hd => by
  obtain ⟨e, he, rfl⟩ := List.mem_map.mp hd
  exact (fit_wdD fun w q => ok.words e he w q).mono (by omega) (by omega)) (by rw [List.length_map, ok.ends]; have := ok.n40; omega)
def NoSg (e : PyData) : Prop := BadV e ∧ isSg e = false
theorem noSg_of {d : PyData} (h : Fit d 9 1000) (n : isLstD d = false) (l : (itsD d).length ≤ 60) (s : isSg d = false) : NoSg d := ⟨badv_of h n l, s⟩
theorem isSg_hi {i : Int} (h : i < 1 ∨ 5 < i) : isSg (.int i) = false := by
  show (decide (1 ≤ i) && decide (i ≤ 5)) = false
  rcases h with h | h
  · rw [decide_eq_false (by omega)]; rfl
  · rw [decide_eq_false (show ¬ i ≤ 5 by omega), Bool.and_false]
theorem isSg_in {n : Nat} (h : 1 ≤ n) (h5 : n ≤ 5) : isSg (.int (n : Nat)) = true := by
  show (decide (1 ≤ ((n : Nat) : Int)) && decide (((n : Nat) : Int) ≤ 5)) = true
  rw [decide_eq_true (by omega), decide_eq_true (by omega)]; rfl
theorem noSg_menu {sg : Nat} (h1 : 1 ≤ sg) (h5 : sg ≤ 5) :
    ∀ d ∈ [PyData.int 0, .int 6, .int (-1), .none, .str (Str.ofString (toString ((sg : Nat) : Int))), .bool true, .list [.int (sg : Nat)], .tuple [.int (sg : Nat)], .int ((10 : Int) ^ (18 : Int).toNat), .bool false, .int (-((sg : Nat) : Int)), .dict [], .str (Str.ofString ""), .int 7], NoSg d := by
  have fi : ∀ i : Int, i.natAbs < 10 ^ 30 → Fit (.int i) 9 1000 := fun i h => (fit_int (k := 9) h).mono (Nat.le_refl _) (by omega)
  have fsg : Fit (.int (sg : Nat)) 8 21 := Fit.nat (by omega)
  have fstr : Fit (.str (Str.ofString (toString ((sg : Nat) : Int)))) 9 1000 := by
    have : sg = 1 ∨ sg = 2 ∨ sg = 3 ∨ sg = 4 ∨ sg = 5 := by omega
    rcases this with rfl | rfl | rfl | rfl | rfl <;> exact ⟨by decide +kernel, by decide +kernel, by decide +kernel, by decide +kernel⟩
  have fint : ∀ i : Int, i.natAbs < 10 ^ 30 → (i < 1 ∨ 5 < i) → NoSg (.int i) := fun i h g => noSg_of (fi i h) rfl (Nat.zero_le _) (isSg_hi g)
  refine all_cons (fint _ (by decide) (by omega)) (all_cons (fint _ (by decide) (by omega)) (all_cons (fint _ (by decide) (by omega)) (all_cons (noSg_of (Fit.none.mono (Nat.le_refl _) (Nat.zero_le _)) rfl (Nat.zero_le _) rfl) (all_cons (noSg_of fstr rfl (Nat.zero_le _) rfl) (all_cons (noSg_of (Fit.bool.mono (Nat.le_refl _) (Nat.zero_le _)) rfl (Nat.zero_le _) rfl) (all_cons ⟨badv_list (all_cons (fsg.mono (by omega) (by omega)) all_nil) (by simp), rfl⟩ (all_cons (noSg_of ((Fit.tuple (FitAll.cons fsg FitAll.nil)).mono (Nat.le_refl _) (by omega)) rfl (by show 1 ≤ 60; omega) rfl) (all_cons (fint _ (by decide +kernel) (.inr (by decide +kernel))) (all_cons (noSg_of (Fit.bool.mono (Nat.le_refl _) (Nat.zero_le _)) rfl (Nat.zero_le _) rfl) (all_cons (fint _ (by omega) (.inl (by omega))) (all_cons (noSg_of ((Fit.dict (k := 8) FitKv.nil).mono (Nat.le_refl _) (Nat.zero_le _)) rfl (Nat.zero_le _) rfl) (all_cons (noSg_of ⟨by decide +kernel, by decide +kernel, by decide +kernel, by decide +kernel⟩ rfl (Nat.zero_le _) rfl) (all_cons (fint _ (by decide) (by omega)) all_nil)))))))))))))
theorem stepsB_other {D : Dcd} (ok : D.ok) {n : Nat} (h : n ≠ D.sg) : stepsB (n : Nat) D.stL = false := by
  have n1 := ok.n1
  obtain ⟨r, hr⟩ : ∃ r, r ∈ D.st := by
    cases e : D.st with
    | nil => rw [e] at n1; simp at n1
    | cons r _ => exact ⟨r, List.mem_cons_self⟩
  obtain ⟨l, _⟩ := ok.rows r hr
  show (true && (_ && (D.st.map fun r => PyData.list (r.map enD)).all (entB (n : Nat) _))) = false
  have : (D.st.map fun r => PyData.list (r.map enD)).all (entB (n : Nat) (((itsD D.stL).length : Nat) : Int)) = false := by
    rw [List.all_eq_false]
    refine ⟨.list (r.map enD), List.mem_map.mpr ⟨r, hr, rfl⟩, ?_⟩
    show ¬ entB (n : Nat) ((((itsD D.stL).length : Nat)) : Int) (.list (r.map enD)) = true
    rw [entB_len (m := n) (by rw [List.length_map, l]; exact fun z => h z.symm)]
    exact Bool.false_ne_true
  rw [this, Bool.and_false]; rfl
theorem GoodD.uniq {D D' : Dcd} {d1 d2 d3 : PyData} (g : GoodD D d1 d2 d3) (g' : GoodD D' d1 d2 d3) : D' = D := by
  refine dcd_eq.mpr ⟨?_, ?_, ?_⟩
  · have := g'.e1.symm.trans g.e1
    injection this with this
    omega
  · exact map_inj (fun a b e => map_inj enD_inj e) (g'.e2.symm.trans g.e2)
  · exact map_inj wdD_inj (g'.e3.symm.trans g.e3)
section
variable {P : Program} {w : World} {K : PySem.W.Frag} {mg : Str → Option Value} {base : Heap}
theorem door0 {H : Hp} {x1 x2 x3 : V} {d1 d2 d3 : PyData} {Q : VK} (h1 : Dg K H true x1 d1) (h2 : Dg K H true x2 d2) (h3 : Dg K H true x3 d3) (b1 : BadV d1) (b2 : BadV d2) (b3 : BadV d3) (c : isSg d1 = false) (q : ∀ H', Same H H' → Q (.bl true) H') :
    spDoor K [.str (Str.ofString "signs"), x1, x2, x3] H Q E0 := ⟨0, x1, x2, x3, d1, d2, d3, rfl, by omega, h1, h2, h3, b1.w, b2.w, b3.w, b1.l, b2.l, b3.l, .inl ⟨rfl, c, b1.sh⟩, q⟩
theorem door1 {H : Hp} {x1 x2 x3 : V} {d1 d2 d3 : PyData} {Q : VK} (h1 : Dg K H true x1 d1) (h2 : Dg K H true x2 d2) (h3 : Dg K H true x3 d3) (b1 : BadV d1) (b2 : BadV d2) (b3 : BadV d3) (c : isSg d1 = true) (e : stepsB (numD d1) d2 = false) (q : ∀ H', Same H H' → Q (.bl true) H') :
    spDoor K [.str (Str.ofString "steps"), x1, x2, x3] H Q E0 := ⟨1, x1, x2, x3, d1, d2, d3, rfl, by omega, h1, h2, h3, b1.w, b2.w, b3.w, b1.l, b2.l, b3.l, .inr (.inl ⟨rfl, c, e, b2.sh⟩), q⟩
theorem door2 {H : Hp} {x1 x2 x3 : V} {d1 d2 d3 : PyData} {Q : VK} (h1 : Dg K H true x1 d1) (h2 : Dg K H true x2 d2) (h3 : Dg K H true x3 d3) (b1 : BadV d1) (b2 : BadV d2) (b3 : BadV d3) (c : isSg d1 = true) (e : stepsB (numD d1) d2 = true) (f : endsB ((itsD d2).length : Int) d3 = false) (q : ∀ H', Same H H' → Q (.bl true) H') :
    spDoor K [.str (Str.ofString "ends"), x1, x2, x3] H Q E0 := ⟨2, x1, x2, x3, d1, d2, d3, rfl, by omega, h1, h2, h3, b1.w, b2.w, b3.w, b1.l, b2.l, b3.l, .inr (.inr ⟨rfl, c, e, f, b3.sh⟩), q⟩
theorem tups_tups (d : PyData) : tupsD (tupsD d) = tupsD d := by cases d <;> rfl
theorem badv_tups {d : PyData} (h : BadV d) : BadV (tupsD d) := ⟨h.w2, h.l2, h.sh2, by rw [tups_tups]; exact h.w2, by rw [tups_tups]; exact h.l2, by rw [tups_tups]; exact h.sh2⟩
theorem badv_sg {n : Nat} (h : n ≤ 5) : BadV (.int (n : Nat)) := badv_of ((Fit.nat (k := 9) (by omega)).mono (Nat.le_refl _) (by omega)) rfl (Nat.zero_le _)
theorem ok_law_refused_right (T : Txt K mg base) : FnG P w K mg base CX0 11 T.f_law_refused_right T.fd_law_refused_right ["box", "parts"] (fun vs H Q _ => ∃ (p r : Addr) (c : Nat) (D : Dcd), vs = [.ref p, .ref r] ∧ BoxAt H p c ∧ c < 200000 ∧ PartsT K p H r D ∧
    ∀ H', Kp p H H' → BoxAt H' p (c + 20) → Q (.bl true) H') := by
  refine T.F_law_refused_right.okG sc_law_refused_right (fun vs H Q E h => ?_) (fun cdv A outer s0 H vs Q E hgd hr h => ?_)
  · obtain ⟨p, r, c, D, rfl, _⟩ := h; rfl
  · obtain ⟨p, r, c, D, rfl, hb, hc, parts, kQ⟩ := h
    have hun := un64 hr
    refine ⟨_, (pss_cons (ps_asg (pv 1) (pg_lst rfl (pgs_cons (pg_name (i := 2) sc_law_refused_right.nd rfl (Or.inl rfl)) (pgs_cons (pg_name (i := 3) sc_law_refused_right.nd rfl (Or.inl rfl)) (pgs_cons (pg_name (i := 4) sc_law_refused_right.nd rfl (Or.inl rfl)) pgs_nil)))))
      (pss_cons (ps_set (i := 5) sc_law_refused_right.nd rfl (Or.inl rfl) (pe_lstS (pa_cons pe_int (pa_cons pe_int (pa_cons (pe_un un_neg pe_int) (pa_cons pe_non (pa_cons (pe_callTy call_str_int (by rfl) T.z_str (by decide +kernel) (pa_cons (pv 2) pa_nil)) (pa_cons pe_bl (pa_cons (pe_lstS (pa_cons (pv 2) pa_nil)) (pa_cons (pe_tup (pa_cons (pv 2) pa_nil)) (pa_cons (pe_op op_pow pe_int pe_int) (pa_cons pe_bl (pa_cons (pe_un un_neg (pv 2)) (pa_cons pe_dnewK (pa_cons pe_str (pa_cons pe_int pa_nil))))))))))))))))
      (pss_cons (ps_par3 (i := 6) (j := 7) (l := 8) (by rfl) sc_law_refused_right.nd rfl rfl rfl (by decide) (by decide) (by decide) rfl rfl rfl (pa_cons (pe_ix ix_list (pv 5) (pe_call (ok_law_take T) (hr.mono (by decide)) rfl T.g_law_take T.F_law_take.kp T.b_law_take .nil pass0 (pa_cons (pv 0) (pa_cons pe_int pa_nil))) (fun _ _ => rfl)) (pa_cons (pe_call (ok_law_spoilt_steps T) (hr.mono (by decide)) rfl T.g_law_spoilt_steps T.F_law_spoilt_steps.kp T.b_law_spoilt_steps .nil pass0 (pa_cons (pv 0) (pa_cons (pv 2) (pa_cons (pv 3) pa_nil)))) (pa_cons (pe_call (ok_law_spoilt_ends T) (hr.mono (by decide)) rfl T.g_law_spoilt_ends T.F_law_spoilt_ends.kp T.b_law_spoilt_ends .nil pass0 (pa_cons (pv 0) (pa_cons (pv 4) pa_nil))) pa_nil))) (by rfl))
      (pss_cons (ps_if (PW.pt (pw_or (pt_not (pt_val (pe_callG (ok_law_door T) hgd (hr.mono (by decide)) rfl T.g_law_door T.F_law_door.kp T.b_law_door .nil pass0 (pa_cons pe_str (pa_cons (pv 6) (pa_cons (pv 3) (pa_cons (pv 4) pa_nil))))))) (pw_or1 (pt_not (pt_val (pe_callG (ok_law_door T) hgd (hr.mono (by decide)) rfl T.g_law_door T.F_law_door.kp T.b_law_door .nil pass0 (pa_cons pe_str (pa_cons (pv 6) (pa_cons (pv 7) (pa_cons (pv 8) pa_nil)))))))))) (pss_one (ps_ret pe_bl)) pss_nil)
      (pss_cons (ps_if (PW.pt (pw_or (pt_not (pt_val (pe_callG (ok_law_door T) hgd (hr.mono (by decide)) rfl T.g_law_door T.F_law_door.kp T.b_law_door .nil pass0 (pa_cons pe_str (pa_cons (pv 2) (pa_cons (pv 7) (pa_cons (pv 4) pa_nil))))))) (pw_or1 (pt_not (pt_val (pe_callG (ok_law_door T) hgd (hr.mono (by decide)) rfl T.g_law_door T.F_law_door.kp T.b_law_door .nil pass0 (pa_cons pe_str (pa_cons (pv 2) (pa_cons (pv 7) (pa_cons (pv 8) pa_nil)))))))))) (pss_one (ps_ret pe_bl)) pss_nil)
      (pss_cons (ps_if (PW.pt (pw_or (pt_not (pt_val (pe_callG (ok_law_door T) hgd (hr.mono (by decide)) rfl T.g_law_door T.F_law_door.kp T.b_law_door .nil pass0 (pa_cons pe_str (pa_cons (pv 2) (pa_cons (pv 3) (pa_cons (pv 8) pa_nil))))))) (pw_or1 (pt_not (pt_val (pe_callG (ok_law_door T) hgd (hr.mono (by decide)) rfl T.g_law_door T.F_law_door.kp T.b_law_door .nil pass0 (pa_cons pe_str (pa_cons (pe_op op_add pe_int (pe_op op_mod (pe_callTy call_int1 (by rfl) T.z_int (by decide +kernel) (pa_cons (pv 2) pa_nil)) pe_int)) (pa_cons (pv 3) (pa_cons (pv 4) pa_nil)))))))))) (pss_one (ps_ret pe_bl)) pss_nil)
      (pss_cons (ps_if (pt_not (pt_val (pe_callG (ok_law_door T) hgd (hr.mono (by decide)) rfl T.g_law_door T.F_law_door.kp T.b_law_door .nil pass0 (pa_cons pe_str (pa_cons (pv 2) (pa_cons (pe_call (ok_law_tuples T) (hr.mono (by decide)) rfl T.g_law_tuples T.F_law_tuples.kp T.b_law_tuples .nil pass0 (pa_cons (pv 7) pa_nil)) (pa_cons (pe_call (ok_law_tuples T) (hr.mono (by decide)) rfl T.g_law_tuples T.F_law_tuples.kp T.b_law_tuples .nil pass0 (pa_cons (pv 8) pa_nil)) pa_nil))))))) (pss_one (ps_ret pe_bl)) pss_nil)
      (pss_cons (ps_if (pt_not (pt_val (pe_callG (ok_law_door T) hgd (hr.mono (by decide)) rfl T.g_law_door T.F_law_door.kp T.b_law_door .nil pass0 (pa_cons pe_str (pa_cons (pv 2) (pa_cons (pe_call (ok_law_tuples T) (hr.mono (by decide)) rfl T.g_law_tuples T.F_law_tuples.kp T.b_law_tuples .nil pass0 (pa_cons (pv 3) pa_nil)) (pa_cons (pe_call (ok_law_tuples T) (hr.mono (by decide)) rfl T.g_law_tuples T.F_law_tuples.kp T.b_law_tuples .nil pass0 (pa_cons (pv 8) pa_nil)) pa_nil))))))) (pss_one (ps_ret pe_bl)) pss_nil)
      (pss_cons (ps_set (i := 9) sc_law_refused_right.nd rfl (Or.inl rfl) (pe_call (ok_law_met T) (hr.mono (by decide)) rfl T.g_law_met T.F_law_met.kp T.b_law_met .nil pass0 (pa_cons (pv 2) (pa_cons (pv 3) (pa_cons (pv 4) pa_nil)))))
      (pss_one (ps_ret (pe_and (pe_cmpR op_eq (pe_ix ix_list (pv 9) pe_int (fun _ _ => rfl)) pe_str (nomark _)) (pe_one (pe_callG (ok_law_stands T) hgd (hr.mono (by decide)) rfl T.g_law_stands T.F_law_stands.kp T.b_law_stands .nil pass0 (pa_cons (pe_ix ix_list (pv 9) pe_int (fun _ _ => rfl)) (pa_cons (pv 1) pa_nil)))))))))))))))), ?_⟩
    obtain ⟨Sa, Ea, hS, hdS, hdE, ok⟩ := id parts
    have n1 := ok.n1
    have n40 := ok.n40
    have s1 := ok.s1
    have s5 := ok.s5
    have lg : (((D.sg : Nat) : Int)).natAbs.log2 < 1920 := Nat.lt_of_le_of_lt (Nat.log2_le_self _) (by omega)
    have hS' : SqL K H r _ := hS.ext (wo_same H p)
    refine ⟨_, rfl, r, _, rfl, hS', rfl, _, _, rfl, _, _, rfl, _, _, rfl, rfl, ?_⟩
    dsimp only [L2.tSeq]
    show tAsg _ _ _ _ _
    unfold L2.tAsg
    refine menu_here (K := K) (w := fun G => wo G p) res_p (P := NoSg) hb.some (fun R => (evDs_cons R (evD_int _) (evDs_cons R (evD_int _) (evDs_cons R (evD_I (evI_neg (evI_c _))) (evDs_cons R evD_non (evDs_cons R (evD_strI (evI_var rfl) (by assumption)) (evDs_cons R (evD_bl _) (evDs_cons R (evD_lstS R (evDs_cons R (evD_var R rfl (.int _)) evDs_nil) (by simp)) (evDs_cons R (evD_tup R (evDs_cons R (evD_var R rfl (.int _)) evDs_nil) (by simp)) (evDs_cons R (evD_I (evI_opC (evI_c _) (evI_c _) (by exact ⟨by decide, by decide, by decide⟩))) (evDs_cons R (evD_bl _) (evDs_cons R (evD_I (evI_neg (evI_var rfl))) (evDs_cons R (evD_emp R) (evDs_cons R (evD_str _) (evDs_cons R (evD_int _) evDs_nil))))))))))))))) (noSg_menu s1 s5) (by simp) (by simp) ?rest
    intro M H1 ms s1' _ nM eM _ dms lvs l0 _
    have b1 := hb.same s1'
    refine ⟨_, rfl, _, rfl, p, c, 14, rfl, b1, by omega, by omega, by omega, fun d0 o0 hd0 ho0 => ?_⟩
    obtain ⟨x0, e0, hx0, he0, dx0⟩ := dms.nth (i := d0) (by show d0 < 14; omega)
    obtain ⟨bv0, sg0⟩ := lvs e0 (List.mem_of_getElem? he0)
    have k2 : Kp p H1 (upd H1 p o0) := (Kp.refl p H1).upd
    have b2 : BoxAt (upd H1 p o0) p (c + 1) := ho0.at
    have eM2 := k2 _ _ nM eM
    have dx2 := dx0.ext k2.wo
    generalize upd H1 p o0 = H2 at k2 b2 eM2 dx2 ⊢
    have k02 : Kp p H H2 := (Kp.of s1').trans k2
    refine ⟨M, _, (d0 : Int), x0, rfl, rfl, SqL.of eM2, atI_nat hx0, ?_⟩
    have nS : ndD D.stL = true := nd_stL D
    have nE : ndD D.enL = true := nd_enL D
    refine ⟨_, rfl, _, rfl, _, rfl, p, Sa, c + 1, D, rfl, b2, by omega, ok, dg_nd _ _ nS (hdS.ext k02.wo), fun xr dr H3 k3 b3 dR bvR stR => ?_⟩
    have k03 := k02.trans k3
    refine ⟨_, rfl, _, rfl, p, Ea, c + 1 + 6, D, rfl, b3, by omega, ok, dg_nd _ _ nE (hdE.ext k03.wo), fun xw dw H4 k4 b4 dW bvW enW => ⟨_, _, _, rfl, ?_⟩⟩
    have k04 := k03.trans k4
    have gB : Dg K H4 true x0 e0 := (dx2.ext (k3.trans k4).wo).ext (wo_same H4 p)
    have gR : Dg K H4 true xr dr := (dR.ext k4.wo).ext (wo_same H4 p)
    have gW : Dg K H4 true xw dw := dW.ext (wo_same H4 p)
    have gS : Dg K H4 true (.ref Sa) D.stL := (hdS.ext k04.wo).ext (wo_same H4 p)
    have gE : Dg K H4 true (.ref Ea) D.enL := (hdE.ext k04.wo).ext (wo_same H4 p)
    have bS := badv_stL ok
    have bE := badv_enL ok
    have bG := badv_sg s5
    have sgT := isSg_in s1 s5
    have stT : stepsB (numD (.int (D.sg : Nat))) D.stL = true := (Dcd.goodL ok).steps
    have lenS : ((itsD D.stL).length : Int) = (D.st.length : Nat) := by
      show ((D.st.map _).length : Int) = _
      rw [List.length_map]
    have enF : endsB ((itsD D.stL).length : Int) dw = false := by rw [lenS]; exact enW
    have enT : ∀ {d : PyData}, endsB ((itsD D.stL).length : Int) d = false → endsB ((itsD (tupsD D.stL)).length : Int) (tupsD d) = false := fun h => by rw [its_tups, endsB_tups]; exact h
    dsimp only [L2.tNext]
    -- the doors
    refine ⟨_, rfl, _, rfl, _, rfl, ?_⟩
    dsimp only [L2.tNil]
    refine door0 gB gS gE bv0 bS bE sg0 (fun Ha sa => ?_)
    refine ⟨_, rfl, iteF ⟨_, rfl, _, rfl, _, rfl, ?_⟩⟩
    dsimp only [L2.tNil]
    refine door0 (gB.ext sa) (gR.ext sa) (gW.ext sa) bv0 bvR bvW sg0 (fun Hb sb => ?_)
    have sb := sa.trans sb
    refine ⟨_, rfl, iteF ⟨_, rfl, _, rfl, _, rfl, ?_⟩⟩
    dsimp only [L2.tNil]
    refine door1 (.int _) (gR.ext sb) (gE.ext sb) bG bvR bE sgT stR (fun Hc sc => ?_)
    have sc := sb.trans sc
    refine ⟨_, rfl, iteF ⟨_, rfl, _, rfl, _, rfl, ?_⟩⟩
    dsimp only [L2.tNil]
    refine door1 (.int _) (gR.ext sc) (gW.ext sc) bG bvR bvW sgT stR (fun Hd sd => ?_)
    have sd := sc.trans sd
    refine ⟨_, rfl, iteF ⟨_, rfl, _, rfl, _, rfl, ?_⟩⟩
    dsimp only [L2.tNil]
    refine door2 (.int _) (gS.ext sd) (gW.ext sd) bG bS bvW sgT stT enF (fun He se => ?_)
    have se := sd.trans se
    obtain ⟨g2, eg2, g21, g25, ng2⟩ : ∃ g2 : Nat, (1 : Int) + (((D.sg : Nat) : Int) % 5) = (g2 : Int) ∧ 1 ≤ g2 ∧ g2 ≤ 5 ∧ g2 ≠ D.sg := ⟨1 + D.sg % 5, by omega, by omega, by omega, by omega⟩
    refine ⟨_, rfl, iteF ⟨_, rfl, .inl ⟨_, rfl, _, _, rfl, rfl, (by show (0 : Int) < 5; decide), _, _, rfl, rfl, _, rfl, _, rfl, ?_⟩⟩⟩
    dsimp only [L2.tNil]
    refine door1 (d1 := .int (g2 : Nat)) (by rw [eg2]; exact .int _) (gS.ext se) (gE.ext se) (badv_sg g25) bS bE (isSg_in g21 g25) (stepsB_other ok ng2) (fun Hf sf => ?_)
    have sf := se.trans sf
    refine ⟨_, rfl, iteF ⟨_, rfl, _, rfl, xr, dr, rfl, gR.ext sf, bvR.l, fun yR Hg sg_ hyR => ⟨_, rfl, xw, dw, rfl, (gW.ext sf).ext sg_, bvW.l, fun yW Hh sh hyW => ?_⟩⟩⟩
    have sh' := (sf.trans sg_).trans sh
    dsimp only [L2.tNil]
    refine door1 (.int _) (hyR.ext sh) hyW bG (badv_tups bvR) (badv_tups bvW) sgT (by rw [stepsB_tups]; exact stR) (fun Hi si => ?_)
    have si := sh'.trans si
    refine ⟨_, rfl, iteF ⟨_, rfl, _, rfl, .ref Sa, D.stL, rfl, gS.ext si, bS.l, fun yS Hj sj hyS => ⟨_, rfl, xw, dw, rfl, (gW.ext si).ext sj, bvW.l, fun yW2 Hk sk hyW2 => ?_⟩⟩⟩
    have sk' := (si.trans sj).trans sk
    dsimp only [L2.tNil]
    refine door2 (.int _) (hyS.ext sk) hyW2 bG (badv_tups bS) (badv_tups bvW) sgT (by rw [stepsB_tups]; exact stT) (enT enF) (fun Hl sl => ?_)
    have sl := sk'.trans sl
    refine ⟨_, rfl, iteF ⟨_, rfl, _, rfl, _, rfl, .int (D.sg : Nat), .ref Sa, .ref Ea, .int (D.sg : Nat), D.stL, D.enL, true, true, true, rfl, .int _, gS.ext sl, gE.ext sl, bS.w, bE.w, fun z => ?_, fun _ z => ?_, fun _ _ z => ?_, fun D' g' r' o' Hm sm hr' er' dec' => ?_⟩⟩
    · rw [sgT] at z; cases z
    · rw [stT] at z; cases z
    · rw [(Dcd.goodL ok).ends] at z; cases z
    have eD := GoodD.uniq (Dcd.goodL ok) g'
    subst eD
    have sm' := sl.trans sm
    have km : Kp p H Hm := k04.trans (Kp.of sm')
    have bm := b4.same sm'
    refine ⟨_, rfl, r', _, _, _, rfl, rfl, SqL.of er', atI_nat (j := 0) rfl, rfl, _, rfl, ?_⟩
    rw [decide_eq_true rfl]
    refine iteT ⟨_, rfl, r', _, _, _, rfl, rfl, SqL.of er', atI_nat (j := 1) rfl, _, rfl, p, o', r, D', rfl, ⟨_, bm⟩, dec', (parts.kp km).at_, fun Hn sn => ?_⟩
    exact kQ Hn (km.trans (Kp.of sn)) ((bm.same sn).mono (by omega))
end
end My

set_option Elab.async false
set_option linter.all false
set_option maxRecDepth 100000
set_option maxHeartbeats 8000000
namespace My
open PySem PySem.Spec PyProof.Rows L2
section
variable {P : Program} {w : World} {K : PySem.W.Frag} {mg : Str → Option Value} {base : Heap}
structure RSt (K : PySem.W.Frag) (C p : Addr) (H0 : Hp) (L x1 x2 : Addr) (D : Dcd) (n : Nat) (H : Hp) : Prop where
  kp : Kp p H0 H
  d1 : DecAt K C H x1 D
  d2 : DecAt K C H x2 D
  b : BoxAt H p n
  eL : H L = some (.lst [.ref x1, .ref x2])
  Lp : L ≠ p
theorem RSt.mut {C p L x1 x2 M : Addr} {H0 H : Hp} {D : Dcd} {n : Nat} {l l' : List V} (h : RSt K C p H0 L x1 x2 D n H) (eM : H M = some (.lst l)) (f : H0 M = none) (np : M ≠ p) (nL : L ≠ M) : RSt K C p H0 L x1 x2 D n (L2.upd H M (.lst l')) :=
  ⟨h.kp.free f, h.d1.kp eM ((Kp.refl M H).upd), h.d2.kp eM ((Kp.refl M H).upd), h.b.other np.symm, by rw [upd_ne nL]; exact h.eL, h.Lp⟩
theorem RSt.same {C p L x1 x2 : Addr} {H0 H H' : Hp} {D : Dcd} {n : Nat} (h : RSt K C p H0 L x1 x2 D n H) (s : Same H H') : RSt K C p H0 L x1 x2 D n H' :=
  ⟨h.kp.trans (Kp.of s), h.d1.ext s, h.d2.ext s, h.b.same s, s _ _ h.eL, h.Lp⟩
theorem RSt.box {C p L x1 x2 : Addr} {H0 H : Hp} {D : Dcd} {n m : Nat} {o : HO} (h : RSt K C p H0 L x1 x2 D n H) (ho : BoxO m o) : RSt K C p H0 L x1 x2 D m (L2.upd H p o) :=
  ⟨h.kp.upd, h.d1.bx h.b ((Kp.refl p H).upd), h.d2.bx h.b ((Kp.refl p H).upd), ho.at, by rw [upd_ne h.Lp]; exact h.eL, h.Lp⟩
theorem RSt.kpp {C p L x1 x2 : Addr} {H0 H H' : Hp} {D : Dcd} {n m : Nat} (h : RSt K C p H0 L x1 x2 D n H) (k : Kp p H H') (b : BoxAt H' p m) : RSt K C p H0 L x1 x2 D m H' :=
  ⟨h.kp.trans k, h.d1.bx h.b k, h.d2.bx h.b k, b, k _ _ h.Lp h.eL, h.Lp⟩
theorem ok_law_right (T : Txt K mg base) : FnG P w K mg base CX0 12 T.f_law_right T.fd_law_right ["box"] (fun vs H Q _ => ∃ (p : Addr) (c : Nat), vs = [.ref p] ∧ BoxAt H p c ∧ c < 100000 ∧
    ∀ H', Kp p H H' → BoxAt H' p (c + 1000) → Q (.bl true) H') := by
  refine T.F_law_right.okG sc_law_right (fun vs H Q E h => ?_) (fun cdv A outer s0 H vs Q E hgd hr h => ?_)
  · obtain ⟨p, c, rfl, _⟩ := h; rfl
  · obtain ⟨p, c, rfl, hb, hc, kQ⟩ := h
    have hun := un64 hr
    refine ⟨_, (pss_cons (ps_set (i := 1) sc_law_right.nd rfl (Or.inl rfl) (pe_call (ok_law_parts T) (hr.mono (by decide)) rfl T.g_law_parts T.F_law_parts.kp T.b_law_parts .nil pass0 (pa_cons (pv 0) pa_nil)))
      (pss_cons (ps_asg (pv 1) (pg_lst rfl (pgs_cons (pg_name (i := 2) sc_law_right.nd rfl (Or.inl rfl)) (pgs_cons (pg_name (i := 3) sc_law_right.nd rfl (Or.inl rfl)) (pgs_cons (pg_name (i := 4) sc_law_right.nd rfl (Or.inl rfl)) pgs_nil)))))
      (pss_cons (ps_par (i := 5) (j := 6) (by rfl) sc_law_right.nd rfl rfl (by decide) rfl rfl (pa_cons (pe_lc (own := [("row", 7)]) (g := gName 7) (by rfl) sc_law_right.nd (pi_list (pv 3)) (blkOk_by (own := [("row", 7)]) (N := N_law_right) (sc := defScope s_law_right) (by decide +kernel)) (fun _ _ _ _ _ => pg_name (i := 7) sc_law_right.nd rfl (Or.inl rfl)) (fun _ _ _ _ _ => pts_nil) (fun _ _ _ _ _ => (pe_callTy (call_list_of_K (K := K) rfl) (by rfl) T.z_list (by decide +kernel) (pa_cons (pv 7) pa_nil)))) (pa_cons (pe_callTy call_list_of (by rfl) T.z_list (by decide +kernel) (pa_cons (pv 4) pa_nil)) pa_nil)) (by rfl))
      (pss_cons (ps_set (i := 8) sc_law_right.nd rfl (Or.inl rfl) (pe_lst (pa_cons (pe_make T.mk_Decoder (ok_Decoder_init T) (hr.mono (by decide)) rfl T.g_Decoder T.b_Decoder_init .nil passL (pa_cons (pv 2) (pa_cons (pv 5) (pa_cons (pv 6) pa_nil)))) (pa_cons (pe_make T.mk_Decoder (ok_Decoder_init T) (hr.mono (by decide)) rfl T.g_Decoder T.b_Decoder_init .nil passL (pa_cons (pv 2) (pa_cons (pe_call (ok_law_listed T) (hr.mono (by decide)) rfl T.g_law_listed T.F_law_listed.kp T.b_law_listed .nil pass0 (pa_cons (pv 0) (pa_cons (pv 3) pa_nil))) (pa_cons (pe_callTy call_tuple_of (by rfl) T.z_tuple (by decide +kernel) (pa_cons (pv 4) pa_nil)) pa_nil)))) pa_nil))))
      (pss_cons (ps_set (i := 7) sc_law_right.nd rfl (Or.inl rfl) (pe_ix ix_list (pv 5) (pe_call (ok_law_take T) (hr.mono (by decide)) rfl T.g_law_take T.F_law_take.kp T.b_law_take .nil pass0 (pa_cons (pv 0) (pa_cons (pe_callB call_len_seq (by rfl) T.z_len (by decide +kernel) (pa_cons (pv 5) pa_nil)) pa_nil))) (fun _ _ => rfl)))
      (pss_cons (ps_asg (pe_tup (pa_cons pe_int (pa_cons pe_str pa_nil))) (pg_sub (pv 7) (pe_call (ok_law_take T) (hr.mono (by decide)) rfl T.g_law_take T.F_law_take.kp T.b_law_take .nil pass0 (pa_cons (pv 0) (pa_cons (pv 2) pa_nil))) set_list))
      (pss_cons (ps_expr (pe_bm PySem.F.plainAttrs_list PySem.F.slot_list_append PySem.F.type_list_append mt_append (pv 7) (pa_cons pe_non pa_nil)))
      (pss_cons (ps_expr (pe_bm PySem.F.plainAttrs_list PySem.F.slot_list_append PySem.F.type_list_append mt_append (pv 5) (pa_cons (pe_lst pa_nil) pa_nil)))
      (pss_cons (ps_expr (pe_bm PySem.F.plainAttrs_list PySem.F.slot_list_append PySem.F.type_list_append mt_append (pv 6) (pa_cons pe_str pa_nil)))
      (pss_cons (ps_asg pe_str (pg_sub (pv 6) pe_int set_list))
      (pss_cons (ps_if (PW.pt (pw_or (pt_not (pt_val (pe_callG (ok_law_stands T) hgd (hr.mono (by decide)) rfl T.g_law_stands T.F_law_stands.kp T.b_law_stands .nil pass0 (pa_cons (pe_ix ix_list (pv 8) pe_int (fun _ _ => rfl)) (pa_cons (pv 1) pa_nil))))) (pw_or (pt_not (pt_val (pe_callG (ok_law_stands T) hgd (hr.mono (by decide)) rfl T.g_law_stands T.F_law_stands.kp T.b_law_stands .nil pass0 (pa_cons (pe_ix ix_list (pv 8) pe_int (fun _ _ => rfl)) (pa_cons (pv 1) pa_nil))))) (pw_or1 (pt_not (pt_cmpR (op_eqO T.oe_Decoder (ok_Decoder_eq T) T.b_Decoder_eq pass0 (hr.mono (by decide)) (un64 hr)) (pe_ix ix_list (pv 8) pe_int (fun _ _ => rfl)) (pe_ix ix_list (pv 8) pe_int (fun _ _ => rfl)) (nomark _))))))) (pss_one (ps_ret pe_bl)) pss_nil)
      (pss_cons (ps_if (PW.pt (pw_or (pt_not (pt_val (pe_callG (ok_law_equal_right T) hgd (hr.mono (by decide)) rfl T.g_law_equal_right T.F_law_equal_right.kp T.b_law_equal_right .nil pass0 (pa_cons (pv 0) (pa_cons (pe_ix ix_list (pv 8) pe_int (fun _ _ => rfl)) (pa_cons (pv 1) pa_nil)))))) (pw_or1 (pt_not (pt_val (pe_callG (ok_law_refused_right T) hgd (hr.mono (by decide)) rfl T.g_law_refused_right T.F_law_refused_right.kp T.b_law_refused_right .nil pass0 (pa_cons (pv 0) (pa_cons (pv 1) pa_nil)))))))) (pss_one (ps_ret pe_bl)) pss_nil)
      (pss_one (ps_ret (pe_and (pe_callG (ok_law_stands T) hgd (hr.mono (by decide)) rfl T.g_law_stands T.F_law_stands.kp T.b_law_stands .nil pass0 (pa_cons (pe_ix ix_list (pv 8) pe_int (fun _ _ => rfl)) (pa_cons (pv 1) pa_nil))) (pe_one (pe_callG (ok_law_stands T) hgd (hr.mono (by decide)) rfl T.g_law_stands T.F_law_stands.kp T.b_law_stands .nil pass0 (pa_cons (pe_ix ix_list (pv 8) pe_int (fun _ _ => rfl)) (pa_cons (pv 1) pa_nil))))))))))))))))))), ?_⟩
    have one : 1 ≤ sizeLine := by decide
    have two : 2 ≤ sizeLine := by decide
    refine ⟨_, rfl, p, c, rfl, hb, by omega, fun r D H0 k0 b0 parts l12 => ?_⟩
    obtain ⟨Sa, Ea, hS, hdS, hdE, ok⟩ := id parts.at_
    have hS' : SqL K H0 r _ := hS.ext (wo_same H0 p)
    have n1 := ok.n1
    have s1 := ok.s1
    have s5 := ok.s5
    have goodL := Dcd.goodL ok
    dsimp only [L2.gName]
    refine ⟨_, rfl, r, _, rfl, hS', rfl, _, _, rfl, _, _, rfl, _, _, rfl, rfl, ?_⟩
    obtain ⟨Sa', ys, e0, hqS, _, hyS⟩ := hdS.lst_of
    injection e0 with e0
    subst e0
    obtain ⟨Ea', zs, e0, hqE, _, hzE⟩ := hdE.lst_of
    injection e0 with e0
    subst e0
    have lys := hyS.len
    rw [List.length_map] at lys
    dsimp only [L2.tNext, L2.tSeq, L2.tPar, L2.tCons, L2.tAsg, L2.tTup]
    refine rows_copy (K := K) (p := p) (a := Sa) (ys := ys) (st := D.st) (i := 7) (fun a ys H R hS h => ⟨a, ys, rfl, .inl hS, h⟩) (fun R h => ⟨_, rfl, h⟩) (hqS.ext (wo_same H0 p)) hyS (by omega) b0.some (fun _ => rfl) (fun _ => rfl) (fun R qs H1 s1' hR0 hq0 hR => ?_)
    have b1 := b0.same s1'
    have hqE0 : SqL K H0 Ea zs := hqE.ext (wo_same H0 p)
    refine ⟨_, rfl, Ea, zs, rfl, .inl (hqE0.ext s1'), fun W hW0 => ⟨_, _, rfl, ?_⟩⟩
    have nW : W ≠ p := (b1.ne hW0).symm
    have hWH : H0 W = none := s1'.free hW0
    have s2 : Same H1 (upd H1 W (.lst zs)) := Same.new (Same.refl _) hW0
    have hWL : WrdL K p (upd H1 W (.lst zs)) W D.en := ⟨nW, zs, upd_same, (hzE.ext (wo_same H0 p)).ext (s1'.trans s2)⟩
    have nRW : R ≠ W := fun z => by rw [← z, hR.e] at hW0; cases hW0
    have nqW : W ∉ qs := fun z => by
      obtain ⟨i, hi⟩ := List.getElem?_of_mem z
      have li := (List.getElem?_eq_some_iff.mp hi).1
      have l2 := hR.len
      obtain ⟨xs, e, _⟩ := hR.row i W _ hi (List.getElem?_eq_getElem (by omega))
      rw [hW0] at e; cases e
    have hR2 := hR.ext s2
    have b2 := b1.same s2
    have s02 := s1'.trans s2
    generalize upd H1 W (.lst zs) = H2 at s2 hWL hR2 b2 s02 ⊢
    obtain ⟨_, zs2, eW2, hz2⟩ := id hWL
    refine ⟨_, rfl, _, rfl, _, rfl, fun x1 dx1 hx1 hdx1 ne1 => ⟨x1, dx1, _, _, _, .int (D.sg : Nat), D.stL, D.enL, false, false, false, rfl, upd_same, .int _, made_dw hx1 hdx1 hR2.dg, made_dw hx1 hdx1 (.lst (SqL.of eW2) (fun z => by cases z) hz2), goodL.w2, goodL.w3, .inr (.inr (.inr ⟨D, goodL, fun H3 k3 dec1 => ⟨rfl, ?_⟩⟩))⟩⟩
    have s3 : Same H2 H3 := made_same hx1 hdx1 k3
    have s03 := s02.trans s3
    have b3 := b2.same s3
    refine ⟨_, rfl, _, rfl, _, rfl, p, Sa, c + 500, D, rfl, b3, by omega, ok, (nd_stL D |> fun _ => (parts.at_.kp (Kp.of s03)) |> fun _ => (show Dg K (wo H3 p) false (.ref Sa) D.stL from (by exact Dg.ext (Kp.of s03).wo (.lst hqS (fun z => by cases z) hyS)))), fun xl dl H4 k4 b4 dwl stp => ?_⟩
    have dec14 := dec1.bx b3 k4
    have k04 := (Kp.of (p := p) s03).trans k4
    have hqE4 : SqL K H4 Ea zs := (hqE.ext k04.wo).ext (wo_same H4 p)
    have hzE4 : DgAll K (wo H4 p) false zs (D.en.map wdD) := hzE.ext k04.wo
    refine ⟨_, rfl, Ea, zs, rfl, .inl ⟨hqE4, fun t ht => ?_⟩⟩
    have nt : t ≠ p := (b4.ne ht).symm
    have s5' : Same H4 (upd H4 t (.tup zs)) := Same.new (Same.refl _) ht
    have dt : Dg K (upd H4 t (.tup zs)) false (.ref t) D.enD := .tup (SqT.of upd_same) ((hzE4.ext (wo_same H4 p)).ext s5')
    have dl5 : Dg K (upd H4 t (.tup zs)) false xl dl := (dwl.ext (wo_same H4 p)).ext s5'
    generalize upd H4 t (.tup zs) = H5 at s5' dt dl5 ⊢
    have good2 : GoodD D (.int (D.sg : Nat)) dl D.enD := stp.good ok rfl rfl
    refine fun x2 dx2 hx2 hdx2 ne2 => ⟨x2, dx2, _, _, _, .int (D.sg : Nat), dl, D.enD, false, false, false, rfl, upd_same, .int _, made_dw hx2 hdx2 dl5, made_dw hx2 hdx2 dt, good2.w2, good2.w3, .inr (.inr (.inr ⟨D, good2, fun H6 k6 dec2 => ⟨rfl, ?_⟩⟩))⟩
    have s6 : Same H5 H6 := made_same hx2 hdx2 k6
    have s46 := s5'.trans s6
    have b6 := b4.same s46
    have hW6 := (hWL.ext s3).box b3 k4 |>.ext s46
    have hR6 := ((hR2.ext s3).box b3 k4).ext s46
    refine ⟨two, fun L hL => ?_⟩
    have nL : L ≠ p := (b6.ne hL).symm
    have s7 : Same H6 (upd H6 L (.lst [.ref x1, .ref x2])) := Same.new (Same.refl _) hL
    have st7 : RSt K T.C_Decoder p H0 L x1 x2 D (c + 500 + 50) (upd H6 L (.lst [.ref x1, .ref x2])) := ⟨(k04.trans (Kp.of s46)).new hL, (dec14.ext s46).ext s7, dec2.ext s7, b6.new hL, upd_same, nL⟩
    have hW7 := hW6.ext s7
    have hR7 := hR6.ext s7
    have nLR : L ≠ R := fun z => by rw [z, hR6.e] at hL; cases hL
    have nLW : L ≠ W := fun z => by
      obtain ⟨_, u, e, _⟩ := hW6
      rw [z, e] at hL; cases hL
    have nLq : L ∉ qs := fun z => by
      obtain ⟨i, hi⟩ := List.getElem?_of_mem z
      have li := (List.getElem?_eq_some_iff.mp hi).1
      have l2 := hR6.len
      obtain ⟨xs, e, _⟩ := hR6.row i L _ hi (List.getElem?_eq_getElem (by omega))
      rw [hL] at e; cases e
    generalize upd H6 L (.lst [.ref x1, .ref x2]) = H7 at s7 st7 hW7 hR7 ⊢
    dsimp only [L2.gName]
    have lqs := hR7.len
    refine ⟨_, rfl, _, rfl, _, rfl, R, _, rfl, .inl (SqL.of hR7.e), p, _, ((qs.map V.ref).length : Int), rfl, st7.b, by omega, (by rw [List.length_map]; omega), (by rw [List.length_map]; omega), fun at_ o8 hat ho8 => ?_⟩
    rw [List.length_map] at hat
    have hat' : at_ < D.st.length := by omega
    have st8 := st7.box ho8
    have hW8 := hW7.box st7.b ((Kp.refl p H7).upd (o := o8))
    have hR8 := hR7.box st7.b ((Kp.refl p H7).upd (o := o8))
    generalize upd H7 p o8 = H8 at st8 hW8 hR8 ⊢
    obtain ⟨row, hrow⟩ : ∃ row, D.st[at_]? = some row := ⟨_, List.getElem?_eq_getElem hat'⟩
    obtain ⟨lrow, orow⟩ := ok.rows row (List.mem_of_getElem? hrow)
    obtain ⟨q, hq⟩ : ∃ q, qs[at_]? = some q := ⟨_, List.getElem?_eq_getElem (by omega)⟩
    have mq := List.mem_of_getElem? hq
    have hqR : (qs.map V.ref)[at_]? = some (.ref q) := by rw [List.getElem?_map, hq]; rfl
    obtain ⟨nqR, nqp⟩ := rows_at_ne hR8 hq
    have nqW' : q ≠ W := fun z => nqW (by rw [← z]; exact mq)
    have nLq' : L ≠ q := fun z => nLq (by rw [z]; exact mq)
    have hqH : H0 q = none := hq0 q mq
    refine ⟨R, _, (at_ : Int), .ref q, rfl, rfl, SqL.of hR8.e, atI_nat hqR, two, fun t9 ht9 => ?_⟩
    have s9 : Same H8 (upd H8 t9 (.tup [.int 0, .str (Str.ofString "zzz")])) := Same.new (Same.refl _) ht9
    have st9 := st8.same s9
    have hW9 := hW8.ext s9
    have hR9 := hR8.ext s9
    generalize upd H8 t9 (.tup [.int 0, .str (Str.ofString "zzz")]) = H9 at st9 hW9 hR9 ⊢
    refine ⟨_, rfl, _, rfl, _, rfl, p, _, (D.sg : Int), rfl, st9.b, by omega, by omega, by omega, fun a o10 ha ho10 => ?_⟩
    have st10 := st9.box ho10
    have hW10 := hW9.box st9.b ((Kp.refl p H9).upd (o := o10))
    have hR10 := hR9.box st9.b ((Kp.refl p H9).upd (o := o10))
    generalize upd H9 p o10 = H10 at st10 hW10 hR10 ⊢
    obtain ⟨xs, eq, hxs⟩ := hR10.row at_ q row hq hrow
    have lxs := hxs.len
    rw [List.length_map] at lxs
    obtain ⟨_, zs3, eW, hz3⟩ := hW10
    have lz3 := hz3.len
    rw [List.length_map] at lz3
    have lW := ok.ends
    have n40 := ok.n40
    have eR := hR10.e
    refine ⟨q, xs, (a : Int), a, rfl, rfl, eq, ixN_nat (by omega), ?_⟩
    have st11 := st10.mut (l' := xs.set a (.ref t9)) eq hqH nqp nLq'
    have eq11 : (upd H10 q (.lst (xs.set a (.ref t9)))) q = some (.lst (xs.set a (.ref t9))) := upd_same
    have eR11 : (upd H10 q (.lst (xs.set a (.ref t9)))) R = some (.lst (qs.map V.ref)) := by rw [upd_ne nqR.symm]; exact eR
    have eW11 : (upd H10 q (.lst (xs.set a (.ref t9)))) W = some (.lst zs3) := by rw [upd_ne nqW'.symm]; exact eW
    generalize upd H10 q (.lst (xs.set a (.ref t9))) = H11 at st11 eq11 eR11 eW11 ⊢
    have fits : ∀ n : Nat, n ≤ 100 → n < sizeLine := fun n h => Nat.lt_of_le_of_lt h (by decide)
    refine ⟨_, rfl, .inl ⟨rfl, _, SqL.of eq11⟩, q, _, _, rfl, rfl, eq11, fits _ (by rw [List.length_set]; omega), ?_⟩
    have st12 := st11.mut (l' := xs.set a (.ref t9) ++ [.non]) eq11 hqH nqp nLq'
    have eR12 : (upd H11 q (.lst (xs.set a (.ref t9) ++ [.non]))) R = some (.lst (qs.map V.ref)) := by rw [upd_ne nqR.symm]; exact eR11
    have eW12 : (upd H11 q (.lst (xs.set a (.ref t9) ++ [.non]))) W = some (.lst zs3) := by rw [upd_ne nqW'.symm]; exact eW11
    generalize upd H11 q (.lst (xs.set a (.ref t9) ++ [.non])) = H12 at st12 eR12 eW12 ⊢
    refine ⟨_, rfl, .inl ⟨rfl, _, SqL.of eR12⟩, (by show 0 ≤ sizeLine; decide), fun l hl => ?_⟩
    have s13 : Same H12 (upd H12 l (.lst [])) := Same.new (Same.refl _) hl
    have st13 := st12.same s13
    have eR13 := s13 _ _ eR12
    have eW13 := s13 _ _ eW12
    generalize upd H12 l (.lst []) = H13 at st13 eR13 eW13 ⊢
    refine ⟨R, _, _, rfl, rfl, eR13, fits _ (by rw [List.length_map]; omega), ?_⟩
    have st14 := st13.mut (l' := qs.map V.ref ++ [.ref l]) eR13 hR0 hR10.nRp nLR
    have eW14 : (upd H13 R (.lst (qs.map V.ref ++ [.ref l]))) W = some (.lst zs3) := by rw [upd_ne nRW.symm]; exact eW13
    generalize upd H13 R (.lst (qs.map V.ref ++ [.ref l])) = H14 at st14 eW14 ⊢
    refine ⟨_, rfl, .inl ⟨rfl, _, SqL.of eW14⟩, W, _, _, rfl, rfl, eW14, fits _ (by omega), ?_⟩
    have st15 := st14.mut (l' := zs3 ++ [.str (Str.ofString "zz")]) eW14 hWH nW nLW
    have eW15 : (upd H14 W (.lst (zs3 ++ [.str (Str.ofString "zz")]))) W = some (.lst (zs3 ++ [.str (Str.ofString "zz")])) := upd_same
    generalize upd H14 W (.lst (zs3 ++ [.str (Str.ofString "zz")])) = H15 at st15 eW15 ⊢
    refine ⟨_, rfl, W, _, (0 : Int), 0, rfl, rfl, eW15, ixN_nat (j := 0) (by rw [List.length_append]; show 0 < zs3.length + 1; omega), ?_⟩
    have st16 := st15.mut (l' := (zs3 ++ [V.str (Str.ofString "zz")]).set 0 (V.str (Str.ofString "z"))) eW15 hWH nW nLW
    generalize upd H15 W (.lst ((zs3 ++ [V.str (Str.ofString "zz")]).set 0 (V.str (Str.ofString "z")))) = H16 at st16 ⊢
    -- what stands
    refine ⟨_, rfl, L, _, _, _, rfl, rfl, SqL.of st16.eL, atI_nat (j := 0) rfl, _, rfl, ?_⟩
    refine ⟨p, x1, r, D, rfl, ⟨_, st16.b⟩, st16.d1, (parts.kp st16.kp).at_, fun Ha sa => ?_⟩
    have sta := st16.same sa
    refine ⟨_, rfl, iteF ⟨_, rfl, L, _, _, _, rfl, rfl, SqL.of sta.eL, atI_nat (j := 1) rfl, _, rfl, p, x2, r, D, rfl, ⟨_, sta.b⟩, sta.d2, (parts.kp sta.kp).at_, fun Hb sb => ?_⟩⟩
    have stb := sta.same sb
    refine ⟨_, rfl, iteF ⟨_, rfl, L, _, _, _, rfl, rfl, SqL.of stb.eL, atI_nat (j := 0) rfl, _, rfl, L, _, _, _, rfl, rfl, SqL.of stb.eL, atI_nat (j := 1) rfl, eqO_ T stb.d1 stb.d2 ?_⟩⟩
    rw [decide_eq_true rfl]
    refine ⟨_, rfl, iteF ⟨_, rfl, _, rfl, L, _, _, _, rfl, rfl, SqL.of stb.eL, atI_nat (j := 0) rfl, _, rfl, p, x1, r, _, D, rfl, stb.b, by omega, stb.d1, (parts.kp stb.kp).at_, by omega, fun Hc kc bc => ?_⟩⟩
    have stc := stb.kpp kc bc
    refine ⟨_, rfl, iteF ⟨_, rfl, _, rfl, p, r, _, D, rfl, stc.b, by omega, parts.kp stc.kp, fun Hd kd bd => ?_⟩⟩
    have std := stc.kpp kd bd
    refine ⟨_, rfl, iteF ⟨_, rfl, L, _, _, _, rfl, rfl, SqL.of std.eL, atI_nat (j := 0) rfl, _, rfl, p, x1, r, D, rfl, ⟨_, std.b⟩, std.d1, (parts.kp std.kp).at_, fun He se => ?_⟩⟩
    have ste := std.same se
    refine ⟨_, rfl, iteT ⟨_, rfl, L, _, _, _, rfl, rfl, SqL.of ste.eL, atI_nat (j := 1) rfl, _, rfl, p, x2, r, D, rfl, ⟨_, ste.b⟩, ste.d2, (parts.kp ste.kp).at_, fun Hf sf => ?_⟩⟩
    have stf := ste.same sf
    exact kQ Hf (k0.trans stf.kp) (stf.b.mono (by omega))
end
end My

set_option Elab.async false
set_option linter.all false
set_option maxRecDepth 100000
set_option maxHeartbeats 8000000
namespace My
open PySem PySem.Spec PyProof.Rows L2
section
variable {P : Program} {w : World} {K : PySem.W.Frag} {mg : Str → Option Value} {base : Heap}
def spLaw (K : PySem.W.Frag) : Sp := fun vs H Q _ => ∃ (a : Addr) (ns : List Int), vs = [.ref a] ∧ SqL K H a (ns.map V.int) ∧ ns.length ≤ 63 ∧ ∀ H', Q (.bl true) H'
theorem ok_law (T : Txt K mg base) : FnG P w K mg base CX0 13 T.f_law T.fd_law ["script"] (spLaw K) := by
  refine T.F_law.okG sc_law (fun vs H Q E h => ?_) (fun cdv A outer s H vs Q E hgd hr h => ?_)
  · obtain ⟨a, ns, rfl, _⟩ := h; rfl
  · obtain ⟨a, ns, rfl, hS, hlen, q⟩ := h
    refine ⟨_, (pss_cons (ps_for PassesOwn.never rfl (pi_range1 rfl T.z_range (pa_cons (pe_callB (call_max2 rfl) (by rfl) T.z_max (by decide +kernel) (pa_cons pe_int (pa_cons (pe_callB (call_min2 rfl) (by rfl) T.z_min (by decide +kernel) (pa_cons pe_int (pa_cons (pe_callB call_len_seq (by rfl) T.z_len (by decide +kernel) (pa_cons (pv 0) pa_nil)) pa_nil))) pa_nil))) pa_nil)) (pg_name (i := 1) sc_law.nd rfl (Or.inl rfl)) (pss_cons (ps_set (i := 2) sc_law.nd rfl (Or.inl rfl) (pe_call (ok_law_box T) (hr.mono (by decide)) rfl T.g_law_box T.F_law_box.kp T.b_law_box .nil pass0 (pa_cons (pe_call (ok_law_cell T) (hr.mono (by decide)) rfl T.g_law_cell T.F_law_cell.kp T.b_law_cell .nil pass0 (pa_cons (pv 0) (pa_cons (pv 1) pa_nil))) pa_nil)))
      (pss_one (ps_if (PW.pt (pw_or (pt_not (pt_val (pe_callG (ok_law_right T) hgd (hr.mono (by decide)) rfl T.g_law_right T.F_law_right.kp T.b_law_right .nil pass0 (pa_cons (pv 2) pa_nil)))) (pw_or1 (pt_not (pt_val (pe_callG (ok_law_many_right T) hgd (hr.mono (by decide)) rfl T.g_law_many_right T.F_law_many_right.kp T.b_law_many_right .nil pass0 (pa_cons (pv 2) pa_nil))))))) (pss_one (ps_ret pe_bl)) pss_nil))))
      (pss_one (ps_ret pe_bl))), ?_⟩
    refine ⟨_, rfl, a, _, rfl, .inl hS, _, _, rfl, _, _, rfl, _, rfl, ?_, ?_, ?_⟩
    · split <;> split <;> omega
    · split <;> split <;> omega
    refine for_range (lo := 0) (fun i σ H' => ∃ x1 x2, σ = [some (.ref a), x1, x2] ∧ Same H H') ⟨_, _, rfl, Same.refl _⟩ ?_ ?_
    · rintro i σ H' hi ⟨x1, x2, rfl, sH⟩
      rw [Int.zero_add]
      refine ⟨_, rfl, _, rfl, a, ns, i, rfl, hS.ext sH, fun c H1 s1 => ?_⟩
      refine ⟨c, rfl, fun p o hp ho => ?_⟩
      have sH1 := sH.trans s1
      have hpH : H p = none := sH1.free hp
      have s2 : Same H (upd H1 p o) := Same.new sH1 hp
      refine ⟨_, rfl, p, 0, rfl, ho.at, by omega, fun H2 k2 b2 => ⟨_, rfl, iteF ⟨_, rfl, p, _, rfl, b2, by omega, fun H3 k3 b3 => ⟨_, rfl, iteF ?_⟩⟩⟩⟩
      exact ⟨_, _, rfl, (k2.trans k3).toSame s2 hpH⟩
    · rintro σ H' ⟨x1, x2, rfl, sH⟩
      exact q H'
end
end My

set_option Elab.async false
set_option linter.all false
set_option maxRecDepth 100000
set_option maxHeartbeats 8000000
namespace My
open PySem PySem.Spec PyProof.Rows L2
theorem exm_of {K : PySem.W.Frag} {S T : Addr} {b : Bool} (h1 : PySem.W.subIn K (.ref T) (.type "BaseException") = some true) (h2 : PySem.W.isClsIn K T = true) (h3 : PySem.W.typeIn K (.ref T) = some (.type "type")) (h4 : PySem.W.subIn K (.ref S) (.ref T) = some b) :
    PySem.W.exmOne K (.ref S) (.ref T) = some b := by
  have e1 : (PySem.W.subIn K (.ref T) (.type "BaseException") == some true) = true := by rw [h1] <;> rfl
  have e2 : ((PySem.W.clsIn K T).isSome && PySem.W.typeIn K (.ref T) == some (.type "type")) = true := by
    have h2' : (PySem.W.clsIn K T).isSome = true := h2
    rw [h2', h3] <;> rfl
  show (if (PySem.W.subIn K (.ref T) (.type "BaseException") == some true) = true then (if ((PySem.W.clsIn K T).isSome && PySem.W.typeIn K (.ref T) == some (.type "type")) = true then PySem.W.subIn K (.ref S) (.ref T) else none) else none) = some b
  rw [if_pos e1, if_pos e2]
  exact h4
theorem all_mk {P : Program} {w : World} {K : PySem.W.Frag} {h : Heap} {mg : Str → Option Value} {fa : Addr} (X : K.In h) (G : h.Ns mainGlobals mg) (hfa : mg "law" = some (.ref fa))
    {C0 I0 B0 : Addr} {nm0 q0 : Str} {N0 : Addr} {bs0 : List Value} {sn0 : List Str} {sub0 : List Value} {ab0 : Bool} {col0 : Option Bool} {dd0 : Option Addr} {m00 m10 m20 m30 m50 : Option Value}
    {ei0 en0 : Option Addr} {es0 : Array (Option Value)} {eo0 ed0 ep0 ec0 et0 : Value} {p10 p20 q10 q20 q30 q40 : Pos}
    {C1 I1 B1 : Addr} {nm1 q1 : Str} {N1 : Addr} {bs1 : List Value} {sn1 : List Str} {sub1 : List Value} {ab1 : Bool} {col1 : Option Bool} {dd1 : Option Addr} {m01 m11 m21 m31 m51 : Option Value}
    {ei1 en1 : Option Addr} {es1 : Array (Option Value)} {eo1 ed1 ep1 ec1 et1 : Value} {p11 p21 q11 q21 q31 q41 : Pos}
    {C2 I2 B2 : Addr} {nm2 q2 : Str} {N2 : Addr} {bs2 : List Value} {sn2 : List Str} {sub2 : List Value} {ab2 : Bool} {col2 : Option Bool} {dd2 : Option Addr} {m02 m12 m22 m32 m52 : Option Value}
    {ei2 en2 : Option Addr} {es2 : Array (Option Value)} {eo2 ed2 ep2 ec2 et2 : Value} {p12 p22 q12 q22 q32 q42 : Pos}
    {OC_Decoder : Addr}
    {f0 : Addr} {od0 an0 : Option Addr} {sl0 : Array (Option Value)} {oc0 kV0 dc0 pm0 cd0 ct0 : Value}
    {f1 : Addr} {od1 an1 : Option Addr} {sl1 : Array (Option Value)} {oc1 kV1 dc1 pm1 cd1 ct1 : Value}
    {f2 : Addr} {od2 an2 : Option Addr} {sl2 : Array (Option Value)} {oc2 kV2 dc2 pm2 cd2 ct2 : Value}
    {f3 : Addr} {od3 an3 : Option Addr} {sl3 : Array (Option Value)} {oc3 kV3 dc3 pm3 cd3 ct3 : Value}
    {f4 : Addr} {od4 an4 : Option Addr} {sl4 : Array (Option Value)} {oc4 kV4 dc4 pm4 cd4 ct4 : Value}
    {f5 : Addr} {od5 an5 : Option Addr} {sl5 : Array (Option Value)} {oc5 kV5 dc5 pm5 cd5 ct5 : Value}
    {f6 : Addr} {od6 an6 : Option Addr} {sl6 : Array (Option Value)} {oc6 kV6 dc6 pm6 cd6 ct6 : Value}
    {f7 : Addr} {od7 an7 : Option Addr} {sl7 : Array (Option Value)} {oc7 kV7 dc7 pm7 cd7 ct7 : Value}
    {f8 : Addr} {od8 an8 : Option Addr} {sl8 : Array (Option Value)} {oc8 kV8 dc8 pm8 cd8 ct8 : Value}
    {f9 : Addr} {od9 an9 : Option Addr} {sl9 : Array (Option Value)} {oc9 kV9 dc9 pm9 cd9 ct9 : Value}
    {f10 : Addr} {od10 an10 : Option Addr} {sl10 : Array (Option Value)} {oc10 kV10 dc10 pm10 cd10 ct10 : Value}
    {f11 : Addr} {od11 an11 : Option Addr} {sl11 : Array (Option Value)} {oc11 kV11 dc11 pm11 cd11 ct11 : Value}
    {f12 : Addr} {od12 an12 : Option Addr} {sl12 : Array (Option Value)} {oc12 kV12 dc12 pm12 cd12 ct12 : Value}
    {f13 : Addr} {od13 an13 : Option Addr} {sl13 : Array (Option Value)} {oc13 kV13 dc13 pm13 cd13 ct13 : Value}
    {f14 : Addr} {od14 an14 : Option Addr} {sl14 : Array (Option Value)} {oc14 kV14 dc14 pm14 cd14 ct14 : Value}
    {f15 : Addr} {od15 an15 : Option Addr} {sl15 : Array (Option Value)} {oc15 kV15 dc15 pm15 cd15 ct15 : Value}
    {f16 : Addr} {od16 an16 : Option Addr} {sl16 : Array (Option Value)} {oc16 kV16 dc16 pm16 cd16 ct16 : Value}
    {f17 : Addr} {od17 an17 : Option Addr} {sl17 : Array (Option Value)} {oc17 kV17 dc17 pm17 cd17 ct17 : Value}
    {f18 : Addr} {od18 an18 : Option Addr} {sl18 : Array (Option Value)} {oc18 kV18 dc18 pm18 cd18 ct18 : Value}
    {f19 : Addr} {od19 an19 : Option Addr} {sl19 : Array (Option Value)} {oc19 kV19 dc19 pm19 cd19 ct19 : Value}
    {f20 : Addr} {od20 an20 : Option Addr} {sl20 : Array (Option Value)} {oc20 kV20 dc20 pm20 cd20 ct20 : Value}
    {f21 : Addr} {od21 an21 : Option Addr} {sl21 : Array (Option Value)} {oc21 kV21 dc21 pm21 cd21 ct21 : Value}
    {f22 : Addr} {od22 an22 : Option Addr} {sl22 : Array (Option Value)} {oc22 kV22 dc22 pm22 cd22 ct22 : Value}
    {f23 : Addr} {od23 an23 : Option Addr} {sl23 : Array (Option Value)} {oc23 kV23 dc23 pm23 cd23 ct23 : Value}
    {f24 : Addr} {od24 an24 : Option Addr} {sl24 : Array (Option Value)} {oc24 kV24 dc24 pm24 cd24 ct24 : Value}
    {f25 : Addr} {od25 an25 : Option Addr} {sl25 : Array (Option Value)} {oc25 kV25 dc25 pm25 cd25 ct25 : Value}
    {f26 : Addr} {od26 an26 : Option Addr} {sl26 : Array (Option Value)} {oc26 kV26 dc26 pm26 cd26 ct26 : Value}
    {f27 : Addr} {od27 an27 : Option Addr} {sl27 : Array (Option Value)} {oc27 kV27 dc27 pm27 cd27 ct27 : Value}
    {f28 : Addr} {od28 an28 : Option Addr} {sl28 : Array (Option Value)} {oc28 kV28 dc28 pm28 cd28 ct28 : Value}
    {f29 : Addr} {od29 an29 : Option Addr} {sl29 : Array (Option Value)} {oc29 kV29 dc29 pm29 cd29 ct29 : Value}
    {f30 : Addr} {od30 an30 : Option Addr} {sl30 : Array (Option Value)} {oc30 kV30 dc30 pm30 cd30 ct30 : Value}
    {f31 : Addr} {od31 an31 : Option Addr} {sl31 : Array (Option Value)} {oc31 kV31 dc31 pm31 cd31 ct31 : Value}
    {f32 : Addr} {od32 an32 : Option Addr} {sl32 : Array (Option Value)} {oc32 kV32 dc32 pm32 cd32 ct32 : Value}
    {f33 : Addr} {od33 an33 : Option Addr} {sl33 : Array (Option Value)} {oc33 kV33 dc33 pm33 cd33 ct33 : Value}
    {f34 : Addr} {od34 an34 : Option Addr} {sl34 : Array (Option Value)} {oc34 kV34 dc34 pm34 cd34 ct34 : Value}
    {f35 : Addr} {od35 an35 : Option Addr} {sl35 : Array (Option Value)} {oc35 kV35 dc35 pm35 cd35 ct35 : Value}
    {f36 : Addr} {od36 an36 : Option Addr} {sl36 : Array (Option Value)} {oc36 kV36 dc36 pm36 cd36 ct36 : Value}
    {t_MOST_SIGNS : Tok}
    {t_MOST_LETTERS : Tok}
    {t_MOST_STATES : Tok}
    (eC0 : PySem.W.nsIn K mainGlobals "InvalidEnds" = some (some (.ref C0)))
    (eL0 : K.lookup C0 = some (excClassObj nm0 q0 C0 N0 bs0 [.ref B0, .type "Exception", .type "BaseException", .type "object"] true sn0 sub0 ab0 col0 dd0 m00 m10 m20 m30 m50 "Exception.__new__"))
    (etk0 : PySem.W.takerIn K C0 "given" = some none)
    (esa0 : PySem.W.findIn K (.ref C0) "__setattr__" = some (some (.builtin "object.__setattr__")))
    (ega0 : PySem.W.findIn K (.ref C0) "__getattribute__" = some (some (.builtin "BaseException.__getattribute__")))
    (egg0 : PySem.W.findIn K (.ref C0) "__getattr__" = some none)
    (eno0 : PySem.W.findIn K (.ref C0) "given" = some none)
    (ein0 : PySem.W.findIn K (.ref C0) "__init__" = some (some (.ref I0)))
    (eti0 : PySem.W.typeIn K (.ref I0) = some (.type "function"))
    (ekC0 : PySem.W.keepIn K (.ref C0) = true)
    (eeC0 : PySem.W.subIn K (.ref C0) (.type "BaseException") = some true)
    (etC0 : PySem.W.typeIn K (.ref C0) = some (.type "type"))
    (ehC0 : PySem.W.hasDictIn K C0 = true)
    (eiC0 : PySem.W.isClsIn K C0 = true)
    (esC0 : PySem.W.subIn K (.ref C0) (.ref C0) = some true)
    (efn0 : K.lookup I0 = some ⟨eo0, ei0, .func (PySem.W.fnOf "__init__" "InvalidEnds.__init__" (ErrX.iA p10 p20) (ErrX.iB q10 q20 q30 q40) ErrX.iS .none .none ed0 ep0 en0 ec0 et0), es0⟩)
    (eco0 : PySem.W.codeIn K ec0 "InvalidEnds.__init__" = true)
    (eC1 : PySem.W.nsIn K mainGlobals "InvalidSigns" = some (some (.ref C1)))
    (eL1 : K.lookup C1 = some (excClassObj nm1 q1 C1 N1 bs1 [.ref B1, .type "Exception", .type "BaseException", .type "object"] true sn1 sub1 ab1 col1 dd1 m01 m11 m21 m31 m51 "Exception.__new__"))
    (etk1 : PySem.W.takerIn K C1 "given" = some none)
    (esa1 : PySem.W.findIn K (.ref C1) "__setattr__" = some (some (.builtin "object.__setattr__")))
    (ega1 : PySem.W.findIn K (.ref C1) "__getattribute__" = some (some (.builtin "BaseException.__getattribute__")))
    (egg1 : PySem.W.findIn K (.ref C1) "__getattr__" = some none)
    (eno1 : PySem.W.findIn K (.ref C1) "given" = some none)
    (ein1 : PySem.W.findIn K (.ref C1) "__init__" = some (some (.ref I1)))
    (eti1 : PySem.W.typeIn K (.ref I1) = some (.type "function"))
    (ekC1 : PySem.W.keepIn K (.ref C1) = true)
    (eeC1 : PySem.W.subIn K (.ref C1) (.type "BaseException") = some true)
    (etC1 : PySem.W.typeIn K (.ref C1) = some (.type "type"))
    (ehC1 : PySem.W.hasDictIn K C1 = true)
    (eiC1 : PySem.W.isClsIn K C1 = true)
    (esC1 : PySem.W.subIn K (.ref C1) (.ref C1) = some true)
    (efn1 : K.lookup I1 = some ⟨eo1, ei1, .func (PySem.W.fnOf "__init__" "InvalidSigns.__init__" (ErrX.iA p11 p21) (ErrX.iB q11 q21 q31 q41) ErrX.iS .none .none ed1 ep1 en1 ec1 et1), es1⟩)
    (eco1 : PySem.W.codeIn K ec1 "InvalidSigns.__init__" = true)
    (eC2 : PySem.W.nsIn K mainGlobals "InvalidSteps" = some (some (.ref C2)))
    (eL2 : K.lookup C2 = some (excClassObj nm2 q2 C2 N2 bs2 [.ref B2, .type "Exception", .type "BaseException", .type "object"] true sn2 sub2 ab2 col2 dd2 m02 m12 m22 m32 m52 "Exception.__new__"))
    (etk2 : PySem.W.takerIn K C2 "given" = some none)
    (esa2 : PySem.W.findIn K (.ref C2) "__setattr__" = some (some (.builtin "object.__setattr__")))
    (ega2 : PySem.W.findIn K (.ref C2) "__getattribute__" = some (some (.builtin "BaseException.__getattribute__")))
    (egg2 : PySem.W.findIn K (.ref C2) "__getattr__" = some none)
    (eno2 : PySem.W.findIn K (.ref C2) "given" = some none)
    (ein2 : PySem.W.findIn K (.ref C2) "__init__" = some (some (.ref I2)))
    (eti2 : PySem.W.typeIn K (.ref I2) = some (.type "function"))
    (ekC2 : PySem.W.keepIn K (.ref C2) = true)
    (eeC2 : PySem.W.subIn K (.ref C2) (.type "BaseException") = some true)
    (etC2 : PySem.W.typeIn K (.ref C2) = some (.type "type"))
    (ehC2 : PySem.W.hasDictIn K C2 = true)
    (eiC2 : PySem.W.isClsIn K C2 = true)
    (esC2 : PySem.W.subIn K (.ref C2) (.ref C2) = some true)
    (efn2 : K.lookup I2 = some ⟨eo2, ei2, .func (PySem.W.fnOf "__init__" "InvalidSteps.__init__" (ErrX.iA p12 p22) (ErrX.iB q12 q22 q32 q42) ErrX.iS .none .none ed2 ep2 en2 ec2 et2), es2⟩)
    (eco2 : PySem.W.codeIn K ec2 "InvalidSteps.__init__" = true)
    (en_0_1 : PySem.W.subIn K (.ref C0) (.ref C1) = some false)
    (en_0_2 : PySem.W.subIn K (.ref C0) (.ref C2) = some false)
    (en_1_0 : PySem.W.subIn K (.ref C1) (.ref C0) = some false)
    (en_1_2 : PySem.W.subIn K (.ref C1) (.ref C2) = some false)
    (en_2_0 : PySem.W.subIn K (.ref C2) (.ref C0) = some false)
    (en_2_1 : PySem.W.subIn K (.ref C2) (.ref C1) = some false)
    (on_Decoder : PySem.W.nsIn K mainGlobals "Decoder" = some (some (.ref OC_Decoder)))
    (opg_Decoder : PySem.W.plainGet K OC_Decoder Str.empty = true)
    (ohd_Decoder : PySem.W.hasDictIn K OC_Decoder = true)
    (opo_Decoder : PySem.W.plainOver K OC_Decoder = true)
    (osa_Decoder : PySem.W.findIn K (.ref OC_Decoder) "__setattr__" = some (some (.builtin "object.__setattr__")))
    (omk_Decoder : PySem.W.makesIn K OC_Decoder = true)
    (okp_Decoder : PySem.W.keepIn K (.ref OC_Decoder) = true)
    (one_Decoder : PySem.W.findIn K (.ref OC_Decoder) "__ne__" = some (some (.builtin "object.__ne__")))
    (omo_Decoder : PySem.W.mroIn K OC_Decoder (.type "object") = some true)
    (oha_Decoder : PySem.W.findIn K (.ref OC_Decoder) "__class__" = some (some (.builtin "object.__class__")))
    (ohn_Decoder : PySem.W.specialIn K (.builtin "object.__class__") "__get__" = some (some (.builtin "getset_descriptor.__get__")))
    (otk_Decoder : PySem.W.takesIn K (.builtin "object.__class__") = some true)
    (oii_Decoder : PySem.W.isClsIn K OC_Decoder = true)
    (oit_Decoder : PySem.W.typeIn K (.ref OC_Decoder) = some (.type "type"))
    (ois_Decoder : PySem.W.subIn K (.ref OC_Decoder) (.ref OC_Decoder) = some true)
    (ona_Decoder_signs : PySem.W.findIn K (.ref OC_Decoder) "signs" = some none)
    (ona_Decoder_states : PySem.W.findIn K (.ref OC_Decoder) "states" = some none)
    (ona_Decoder_steps : PySem.W.findIn K (.ref OC_Decoder) "steps" = some none)
    (ona_Decoder_ends : PySem.W.findIn K (.ref OC_Decoder) "ends" = some none)
    (osb_Decoder_NoneType : PySem.W.subIn K (.ref OC_Decoder) (.type "NoneType") = some false)
    (osb_Decoder_int : PySem.W.subIn K (.ref OC_Decoder) (.type "int") = some false)
    (osb_Decoder_str : PySem.W.subIn K (.ref OC_Decoder) (.type "str") = some false)
    (osb_Decoder_tuple : PySem.W.subIn K (.ref OC_Decoder) (.type "tuple") = some false)
    (osb_Decoder_list : PySem.W.subIn K (.ref OC_Decoder) (.type "list") = some false)
    (osb_Decoder_dict : PySem.W.subIn K (.ref OC_Decoder) (.type "dict") = some false)
    (a0 : PySem.W.nsIn K mainGlobals "is_integer" = some (some (.ref f0)))
    (l0 : K.lookup f0 = some ⟨oc0, od0, .func (PySem.W.fnOf "is_integer" "is_integer" (defArgs s_is_integer) (defBody s_is_integer) (defScope s_is_integer) .none kV0 dc0 pm0 an0 cd0 ct0), sl0⟩)
    (c0 : PySem.W.codeIn K cd0 "is_integer" = true)
    (k0 : PySem.W.keepIn K (.ref f0) = true)
    (a1 : PySem.W.nsIn K mainGlobals "is_count" = some (some (.ref f1)))
    (l1 : K.lookup f1 = some ⟨oc1, od1, .func (PySem.W.fnOf "is_count" "is_count" (defArgs s_is_count) (defBody s_is_count) (defScope s_is_count) .none kV1 dc1 pm1 an1 cd1 ct1), sl1⟩)
    (c1 : PySem.W.codeIn K cd1 "is_count" = true)
    (k1 : PySem.W.keepIn K (.ref f1) = true)
    (a2 : PySem.W.nsIn K mainGlobals "is_list" = some (some (.ref f2)))
    (l2 : K.lookup f2 = some ⟨oc2, od2, .func (PySem.W.fnOf "is_list" "is_list" (defArgs s_is_list) (defBody s_is_list) (defScope s_is_list) .none kV2 dc2 pm2 an2 cd2 ct2), sl2⟩)
    (c2 : PySem.W.codeIn K cd2 "is_list" = true)
    (k2 : PySem.W.keepIn K (.ref f2) = true)
    (a3 : PySem.W.nsIn K mainGlobals "is_text" = some (some (.ref f3)))
    (l3 : K.lookup f3 = some ⟨oc3, od3, .func (PySem.W.fnOf "is_text" "is_text" (defArgs s_is_text) (defBody s_is_text) (defScope s_is_text) .none kV3 dc3 pm3 an3 cd3 ct3), sl3⟩)
    (c3 : PySem.W.codeIn K cd3 "is_text" = true)
    (k3 : PySem.W.keepIn K (.ref f3) = true)
    (a4 : PySem.W.nsIn K mainGlobals "is_word" = some (some (.ref f4)))
    (l4 : K.lookup f4 = some ⟨oc4, od4, .func (PySem.W.fnOf "is_word" "is_word" (defArgs s_is_word) (defBody s_is_word) (defScope s_is_word) .none kV4 dc4 pm4 an4 cd4 ct4), sl4⟩)
    (c4 : PySem.W.codeIn K cd4 "is_word" = true)
    (k4 : PySem.W.keepIn K (.ref f4) = true)
    (a5 : PySem.W.nsIn K mainGlobals "is_number_of_signs" = some (some (.ref f5)))
    (l5 : K.lookup f5 = some ⟨oc5, od5, .func (PySem.W.fnOf "is_number_of_signs" "is_number_of_signs" (defArgs s_is_number_of_signs) (defBody s_is_number_of_signs) (defScope s_is_number_of_signs) .none kV5 dc5 pm5 an5 cd5 ct5), sl5⟩)
    (c5 : PySem.W.codeIn K cd5 "is_number_of_signs" = true)
    (k5 : PySem.W.keepIn K (.ref f5) = true)
    (a6 : PySem.W.nsIn K mainGlobals "is_below" = some (some (.ref f6)))
    (l6 : K.lookup f6 = some ⟨oc6, od6, .func (PySem.W.fnOf "is_below" "is_below" (defArgs s_is_below) (defBody s_is_below) (defScope s_is_below) .none kV6 dc6 pm6 an6 cd6 ct6), sl6⟩)
    (c6 : PySem.W.codeIn K cd6 "is_below" = true)
    (k6 : PySem.W.keepIn K (.ref f6) = true)
    (a7 : PySem.W.nsIn K mainGlobals "are_steps" = some (some (.ref f7)))
    (l7 : K.lookup f7 = some ⟨oc7, od7, .func (PySem.W.fnOf "are_steps" "are_steps" (defArgs s_are_steps) (defBody s_are_steps) (defScope s_are_steps) .none kV7 dc7 pm7 an7 cd7 ct7), sl7⟩)
    (c7 : PySem.W.codeIn K cd7 "are_steps" = true)
    (k7 : PySem.W.keepIn K (.ref f7) = true)
    (a8 : PySem.W.nsIn K mainGlobals "are_entries" = some (some (.ref f8)))
    (l8 : K.lookup f8 = some ⟨oc8, od8, .func (PySem.W.fnOf "are_entries" "are_entries" (defArgs s_are_entries) (defBody s_are_entries) (defScope s_are_entries) .none kV8 dc8 pm8 an8 cd8 ct8), sl8⟩)
    (c8 : PySem.W.codeIn K cd8 "are_entries" = true)
    (k8 : PySem.W.keepIn K (.ref f8) = true)
    (a9 : PySem.W.nsIn K mainGlobals "is_step" = some (some (.ref f9)))
    (l9 : K.lookup f9 = some ⟨oc9, od9, .func (PySem.W.fnOf "is_step" "is_step" (defArgs s_is_step) (defBody s_is_step) (defScope s_is_step) .none kV9 dc9 pm9 an9 cd9 ct9), sl9⟩)
    (c9 : PySem.W.codeIn K cd9 "is_step" = true)
    (k9 : PySem.W.keepIn K (.ref f9) = true)
    (a10 : PySem.W.nsIn K mainGlobals "are_ends" = some (some (.ref f10)))
    (l10 : K.lookup f10 = some ⟨oc10, od10, .func (PySem.W.fnOf "are_ends" "are_ends" (defArgs s_are_ends) (defBody s_are_ends) (defScope s_are_ends) .none kV10 dc10 pm10 an10 cd10 ct10), sl10⟩)
    (c10 : PySem.W.codeIn K cd10 "are_ends" = true)
    (k10 : PySem.W.keepIn K (.ref f10) = true)
    (a11 : PySem.W.nsIn K mainGlobals "_law_cell" = some (some (.ref f11)))
    (l11 : K.lookup f11 = some ⟨oc11, od11, .func (PySem.W.fnOf "_law_cell" "_law_cell" (defArgs s_law_cell) (defBody s_law_cell) (defScope s_law_cell) .none kV11 dc11 pm11 an11 cd11 ct11), sl11⟩)
    (c11 : PySem.W.codeIn K cd11 "_law_cell" = true)
    (k11 : PySem.W.keepIn K (.ref f11) = true)
    (a12 : PySem.W.nsIn K mainGlobals "_law_box" = some (some (.ref f12)))
    (l12 : K.lookup f12 = some ⟨oc12, od12, .func (PySem.W.fnOf "_law_box" "_law_box" (defArgs s_law_box) (defBody s_law_box) (defScope s_law_box) .none kV12 dc12 pm12 an12 cd12 ct12), sl12⟩)
    (c12 : PySem.W.codeIn K cd12 "_law_box" = true)
    (k12 : PySem.W.keepIn K (.ref f12) = true)
    (a13 : PySem.W.nsIn K mainGlobals "_law_take" = some (some (.ref f13)))
    (l13 : K.lookup f13 = some ⟨oc13, od13, .func (PySem.W.fnOf "_law_take" "_law_take" (defArgs s_law_take) (defBody s_law_take) (defScope s_law_take) .none kV13 dc13 pm13 an13 cd13 ct13), sl13⟩)
    (c13 : PySem.W.codeIn K cd13 "_law_take" = true)
    (k13 : PySem.W.keepIn K (.ref f13) = true)
    (a14 : PySem.W.nsIn K mainGlobals "_law_word" = some (some (.ref f14)))
    (l14 : K.lookup f14 = some ⟨oc14, od14, .func (PySem.W.fnOf "_law_word" "_law_word" (defArgs s_law_word) (defBody s_law_word) (defScope s_law_word) .none kV14 dc14 pm14 an14 cd14 ct14), sl14⟩)
    (c14 : PySem.W.codeIn K cd14 "_law_word" = true)
    (k14 : PySem.W.keepIn K (.ref f14) = true)
    (a15 : PySem.W.nsIn K mainGlobals "_law_entry" = some (some (.ref f15)))
    (l15 : K.lookup f15 = some ⟨oc15, od15, .func (PySem.W.fnOf "_law_entry" "_law_entry" (defArgs s_law_entry) (defBody s_law_entry) (defScope s_law_entry) .none kV15 dc15 pm15 an15 cd15 ct15), sl15⟩)
    (c15 : PySem.W.codeIn K cd15 "_law_entry" = true)
    (k15 : PySem.W.keepIn K (.ref f15) = true)
    (a16 : PySem.W.nsIn K mainGlobals "_law_row" = some (some (.ref f16)))
    (l16 : K.lookup f16 = some ⟨oc16, od16, .func (PySem.W.fnOf "_law_row" "_law_row" (defArgs s_law_row) (defBody s_law_row) (defScope s_law_row) .none kV16 dc16 pm16 an16 cd16 ct16), sl16⟩)
    (c16 : PySem.W.codeIn K cd16 "_law_row" = true)
    (k16 : PySem.W.keepIn K (.ref f16) = true)
    (a17 : PySem.W.nsIn K mainGlobals "_law_end" = some (some (.ref f17)))
    (l17 : K.lookup f17 = some ⟨oc17, od17, .func (PySem.W.fnOf "_law_end" "_law_end" (defArgs s_law_end) (defBody s_law_end) (defScope s_law_end) .none kV17 dc17 pm17 an17 cd17 ct17), sl17⟩)
    (c17 : PySem.W.codeIn K cd17 "_law_end" = true)
    (k17 : PySem.W.keepIn K (.ref f17) = true)
    (a18 : PySem.W.nsIn K mainGlobals "_law_parts" = some (some (.ref f18)))
    (l18 : K.lookup f18 = some ⟨oc18, od18, .func (PySem.W.fnOf "_law_parts" "_law_parts" (defArgs s_law_parts) (defBody s_law_parts) (defScope s_law_parts) .none kV18 dc18 pm18 an18 cd18 ct18), sl18⟩)
    (c18 : PySem.W.codeIn K cd18 "_law_parts" = true)
    (k18 : PySem.W.keepIn K (.ref f18) = true)
    (a19 : PySem.W.nsIn K mainGlobals "_law_listed" = some (some (.ref f19)))
    (l19 : K.lookup f19 = some ⟨oc19, od19, .func (PySem.W.fnOf "_law_listed" "_law_listed" (defArgs s_law_listed) (defBody s_law_listed) (defScope s_law_listed) .none kV19 dc19 pm19 an19 cd19 ct19), sl19⟩)
    (c19 : PySem.W.codeIn K cd19 "_law_listed" = true)
    (k19 : PySem.W.keepIn K (.ref f19) = true)
    (a20 : PySem.W.nsIn K mainGlobals "_law_plain_rows" = some (some (.ref f20)))
    (l20 : K.lookup f20 = some ⟨oc20, od20, .func (PySem.W.fnOf "_law_plain_rows" "_law_plain_rows" (defArgs s_law_plain_rows) (defBody s_law_plain_rows) (defScope s_law_plain_rows) .none kV20 dc20 pm20 an20 cd20 ct20), sl20⟩)
    (c20 : PySem.W.codeIn K cd20 "_law_plain_rows" = true)
    (k20 : PySem.W.keepIn K (.ref f20) = true)
    (a21 : PySem.W.nsIn K mainGlobals "_law_stands" = some (some (.ref f21)))
    (l21 : K.lookup f21 = some ⟨oc21, od21, .func (PySem.W.fnOf "_law_stands" "_law_stands" (defArgs s_law_stands) (defBody s_law_stands) (defScope s_law_stands) .none kV21 dc21 pm21 an21 cd21 ct21), sl21⟩)
    (c21 : PySem.W.codeIn K cd21 "_law_stands" = true)
    (k21 : PySem.W.keepIn K (.ref f21) = true)
    (a22 : PySem.W.nsIn K mainGlobals "_law_met" = some (some (.ref f22)))
    (l22 : K.lookup f22 = some ⟨oc22, od22, .func (PySem.W.fnOf "_law_met" "_law_met" (defArgs s_law_met) (defBody s_law_met) (defScope s_law_met) .none kV22 dc22 pm22 an22 cd22 ct22), sl22⟩)
    (c22 : PySem.W.codeIn K cd22 "_law_met" = true)
    (k22 : PySem.W.keepIn K (.ref f22) = true)
    (a23 : PySem.W.nsIn K mainGlobals "_law_other_word" = some (some (.ref f23)))
    (l23 : K.lookup f23 = some ⟨oc23, od23, .func (PySem.W.fnOf "_law_other_word" "_law_other_word" (defArgs s_law_other_word) (defBody s_law_other_word) (defScope s_law_other_word) .none kV23 dc23 pm23 an23 cd23 ct23), sl23⟩)
    (c23 : PySem.W.codeIn K cd23 "_law_other_word" = true)
    (k23 : PySem.W.keepIn K (.ref f23) = true)
    (a24 : PySem.W.nsIn K mainGlobals "_law_changed" = some (some (.ref f24)))
    (l24 : K.lookup f24 = some ⟨oc24, od24, .func (PySem.W.fnOf "_law_changed" "_law_changed" (defArgs s_law_changed) (defBody s_law_changed) (defScope s_law_changed) .none kV24 dc24 pm24 an24 cd24 ct24), sl24⟩)
    (c24 : PySem.W.codeIn K cd24 "_law_changed" = true)
    (k24 : PySem.W.keepIn K (.ref f24) = true)
    (a25 : PySem.W.nsIn K mainGlobals "_law_equal_right" = some (some (.ref f25)))
    (l25 : K.lookup f25 = some ⟨oc25, od25, .func (PySem.W.fnOf "_law_equal_right" "_law_equal_right" (defArgs s_law_equal_right) (defBody s_law_equal_right) (defScope s_law_equal_right) .none kV25 dc25 pm25 an25 cd25 ct25), sl25⟩)
    (c25 : PySem.W.codeIn K cd25 "_law_equal_right" = true)
    (k25 : PySem.W.keepIn K (.ref f25) = true)
    (a26 : PySem.W.nsIn K mainGlobals "_law_spoilt_steps" = some (some (.ref f26)))
    (l26 : K.lookup f26 = some ⟨oc26, od26, .func (PySem.W.fnOf "_law_spoilt_steps" "_law_spoilt_steps" (defArgs s_law_spoilt_steps) (defBody s_law_spoilt_steps) (defScope s_law_spoilt_steps) .none kV26 dc26 pm26 an26 cd26 ct26), sl26⟩)
    (c26 : PySem.W.codeIn K cd26 "_law_spoilt_steps" = true)
    (k26 : PySem.W.keepIn K (.ref f26) = true)
    (a27 : PySem.W.nsIn K mainGlobals "_law_spoilt_ends" = some (some (.ref f27)))
    (l27 : K.lookup f27 = some ⟨oc27, od27, .func (PySem.W.fnOf "_law_spoilt_ends" "_law_spoilt_ends" (defArgs s_law_spoilt_ends) (defBody s_law_spoilt_ends) (defScope s_law_spoilt_ends) .none kV27 dc27 pm27 an27 cd27 ct27), sl27⟩)
    (c27 : PySem.W.codeIn K cd27 "_law_spoilt_ends" = true)
    (k27 : PySem.W.keepIn K (.ref f27) = true)
    (a28 : PySem.W.nsIn K mainGlobals "_law_copy" = some (some (.ref f28)))
    (l28 : K.lookup f28 = some ⟨oc28, od28, .func (PySem.W.fnOf "_law_copy" "_law_copy" (defArgs s_law_copy) (defBody s_law_copy) (defScope s_law_copy) .none kV28 dc28 pm28 an28 cd28 ct28), sl28⟩)
    (c28 : PySem.W.codeIn K cd28 "_law_copy" = true)
    (k28 : PySem.W.keepIn K (.ref f28) = true)
    (a29 : PySem.W.nsIn K mainGlobals "_law_tuples" = some (some (.ref f29)))
    (l29 : K.lookup f29 = some ⟨oc29, od29, .func (PySem.W.fnOf "_law_tuples" "_law_tuples" (defArgs s_law_tuples) (defBody s_law_tuples) (defScope s_law_tuples) .none kV29 dc29 pm29 an29 cd29 ct29), sl29⟩)
    (c29 : PySem.W.codeIn K cd29 "_law_tuples" = true)
    (k29 : PySem.W.keepIn K (.ref f29) = true)
    (a30 : PySem.W.nsIn K mainGlobals "_law_door" = some (some (.ref f30)))
    (l30 : K.lookup f30 = some ⟨oc30, od30, .func (PySem.W.fnOf "_law_door" "_law_door" (defArgs s_law_door) (defBody s_law_door) (defScope s_law_door) .none kV30 dc30 pm30 an30 cd30 ct30), sl30⟩)
    (c30 : PySem.W.codeIn K cd30 "_law_door" = true)
    (k30 : PySem.W.keepIn K (.ref f30) = true)
    (a31 : PySem.W.nsIn K mainGlobals "_law_refused_right" = some (some (.ref f31)))
    (l31 : K.lookup f31 = some ⟨oc31, od31, .func (PySem.W.fnOf "_law_refused_right" "_law_refused_right" (defArgs s_law_refused_right) (defBody s_law_refused_right) (defScope s_law_refused_right) .none kV31 dc31 pm31 an31 cd31 ct31), sl31⟩)
    (c31 : PySem.W.codeIn K cd31 "_law_refused_right" = true)
    (k31 : PySem.W.keepIn K (.ref f31) = true)
    (a32 : PySem.W.nsIn K mainGlobals "_law_many_right" = some (some (.ref f32)))
    (l32 : K.lookup f32 = some ⟨oc32, od32, .func (PySem.W.fnOf "_law_many_right" "_law_many_right" (defArgs s_law_many_right) (defBody s_law_many_right) (defScope s_law_many_right) .none kV32 dc32 pm32 an32 cd32 ct32), sl32⟩)
    (c32 : PySem.W.codeIn K cd32 "_law_many_right" = true)
    (k32 : PySem.W.keepIn K (.ref f32) = true)
    (a33 : PySem.W.nsIn K mainGlobals "_law_right" = some (some (.ref f33)))
    (l33 : K.lookup f33 = some ⟨oc33, od33, .func (PySem.W.fnOf "_law_right" "_law_right" (defArgs s_law_right) (defBody s_law_right) (defScope s_law_right) .none kV33 dc33 pm33 an33 cd33 ct33), sl33⟩)
    (c33 : PySem.W.codeIn K cd33 "_law_right" = true)
    (k33 : PySem.W.keepIn K (.ref f33) = true)
    (a34 : PySem.W.nsIn K mainGlobals "law" = some (some (.ref f34)))
    (l34 : K.lookup f34 = some ⟨oc34, od34, .func (PySem.W.fnOf "law" "law" (defArgs s_law) (defBody s_law) (defScope s_law) .none kV34 dc34 pm34 an34 cd34 ct34), sl34⟩)
    (c34 : PySem.W.codeIn K cd34 "law" = true)
    (k34 : PySem.W.keepIn K (.ref f34) = true)
    (a35 : PySem.W.findIn K (.ref OC_Decoder) "__init__" = some (some (.ref f35)))
    (i35 : PySem.W.isFn K (.ref f35) = true)
    (l35 : K.lookup f35 = some ⟨oc35, od35, .func (PySem.W.fnOf "__init__" "Decoder.__init__" (defArgs s_Decoder_init) (defBody s_Decoder_init) (defScope s_Decoder_init) .none kV35 dc35 pm35 an35 cd35 ct35), sl35⟩)
    (c35 : PySem.W.codeIn K cd35 "Decoder.__init__" = true)
    (k35 : PySem.W.keepIn K (.ref f35) = true)
    (a36 : PySem.W.findIn K (.ref OC_Decoder) "__eq__" = some (some (.ref f36)))
    (i36 : PySem.W.isFn K (.ref f36) = true)
    (l36 : K.lookup f36 = some ⟨oc36, od36, .func (PySem.W.fnOf "__eq__" "Decoder.__eq__" (defArgs s_Decoder_eq) (defBody s_Decoder_eq) (defScope s_Decoder_eq) .none kV36 dc36 pm36 an36 cd36 ct36), sl36⟩)
    (c36 : PySem.W.codeIn K cd36 "Decoder.__eq__" = true)
    (k36 : PySem.W.keepIn K (.ref f36) = true)
    (z_abs : PySem.W.nsIn K mainGlobals "abs" = some none)
    (z_all : PySem.W.nsIn K mainGlobals "all" = some none)
    (z_bool : PySem.W.nsIn K mainGlobals "bool" = some none)
    (z_int : PySem.W.nsIn K mainGlobals "int" = some none)
    (z_isinstance : PySem.W.nsIn K mainGlobals "isinstance" = some none)
    (z_len : PySem.W.nsIn K mainGlobals "len" = some none)
    (z_list : PySem.W.nsIn K mainGlobals "list" = some none)
    (z_max : PySem.W.nsIn K mainGlobals "max" = some none)
    (z_min : PySem.W.nsIn K mainGlobals "min" = some none)
    (z_range : PySem.W.nsIn K mainGlobals "range" = some none)
    (z_repr : PySem.W.nsIn K mainGlobals "repr" = some none)
    (z_str : PySem.W.nsIn K mainGlobals "str" = some none)
    (z_sum : PySem.W.nsIn K mainGlobals "sum" = some none)
    (z_tuple : PySem.W.nsIn K mainGlobals "tuple" = some none)
    (n_MOST_SIGNS : PySem.W.nsIn K mainGlobals "MOST_SIGNS" = some (some (.int (5) t_MOST_SIGNS)))
    (n_MOST_LETTERS : PySem.W.nsIn K mainGlobals "MOST_LETTERS" = some (some (.int (3) t_MOST_LETTERS)))
    (n_MOST_STATES : PySem.W.nsIn K mainGlobals "MOST_STATES" = some (some (.int (40) t_MOST_STATES))) :
    ∃ fd : FuncData, (∀ (s : Shared) (v : Value), BindsTo s fd ⟨[v], []⟩ [("script", v)]) ∧ ∀ base : Heap, K.In base → base.Ns mainGlobals mg → (∃ o, base.get? sysModules = some o) → FnG P w K mg base CX0 13 fa fd ["script"] (spLaw K) := by
  have e := hfa.symm.trans (PySem.W.mg_of X G a34)
  cases e
  have F0 := fun_mk (st := s_is_integer) l0 c0 k0
  have b0 := F0.binds (ps := ["value"]) fun _ _ _ _ _ _ us hl => match us, hl with | [_], _ => rfl
  have F1 := fun_mk (st := s_is_count) l1 c1 k1
  have b1 := F1.binds (ps := ["value"]) fun _ _ _ _ _ _ us hl => match us, hl with | [_], _ => rfl
  have F2 := fun_mk (st := s_is_list) l2 c2 k2
  have b2 := F2.binds (ps := ["value"]) fun _ _ _ _ _ _ us hl => match us, hl with | [_], _ => rfl
  have F3 := fun_mk (st := s_is_text) l3 c3 k3
  have b3 := F3.binds (ps := ["value"]) fun _ _ _ _ _ _ us hl => match us, hl with | [_], _ => rfl
  have F4 := fun_mk (st := s_is_word) l4 c4 k4
  have b4 := F4.binds (ps := ["value"]) fun _ _ _ _ _ _ us hl => match us, hl with | [_], _ => rfl
  have F5 := fun_mk (st := s_is_number_of_signs) l5 c5 k5
  have b5 := F5.binds (ps := ["value"]) fun _ _ _ _ _ _ us hl => match us, hl with | [_], _ => rfl
  have F6 := fun_mk (st := s_is_below) l6 c6 k6
  have b6 := F6.binds (ps := ["value", "limit"]) fun _ _ _ _ _ _ us hl => match us, hl with | [_, _], _ => rfl
  have F7 := fun_mk (st := s_are_steps) l7 c7 k7
  have b7 := F7.binds (ps := ["value", "signs"]) fun _ _ _ _ _ _ us hl => match us, hl with | [_, _], _ => rfl
  have F8 := fun_mk (st := s_are_entries) l8 c8 k8
  have b8 := F8.binds (ps := ["value", "signs", "states"]) fun _ _ _ _ _ _ us hl => match us, hl with | [_, _, _], _ => rfl
  have F9 := fun_mk (st := s_is_step) l9 c9 k9
  have b9 := F9.binds (ps := ["value", "states"]) fun _ _ _ _ _ _ us hl => match us, hl with | [_, _], _ => rfl
  have F10 := fun_mk (st := s_are_ends) l10 c10 k10
  have b10 := F10.binds (ps := ["value", "states"]) fun _ _ _ _ _ _ us hl => match us, hl with | [_, _], _ => rfl
  have F11 := fun_mk (st := s_law_cell) l11 c11 k11
  have b11 := F11.binds (ps := ["script", "k"]) fun _ _ _ _ _ _ us hl => match us, hl with | [_, _], _ => rfl
  have F12 := fun_mk (st := s_law_box) l12 c12 k12
  have b12 := F12.binds (ps := ["great"]) fun _ _ _ _ _ _ us hl => match us, hl with | [_], _ => rfl
  have F13 := fun_mk (st := s_law_take) l13 c13 k13
  have b13 := F13.binds (ps := ["box", "many"]) fun _ _ _ _ _ _ us hl => match us, hl with | [_, _], _ => rfl
  have F14 := fun_mk (st := s_law_word) l14 c14 k14
  have b14 := F14.binds (ps := ["box"]) fun _ _ _ _ _ _ us hl => match us, hl with | [_], _ => rfl
  have F15 := fun_mk (st := s_law_entry) l15 c15 k15
  have b15 := F15.binds (ps := ["box", "states"]) fun _ _ _ _ _ _ us hl => match us, hl with | [_, _], _ => rfl
  have F16 := fun_mk (st := s_law_row) l16 c16 k16
  have b16 := F16.binds (ps := ["box", "signs", "states"]) fun _ _ _ _ _ _ us hl => match us, hl with | [_, _, _], _ => rfl
  have F17 := fun_mk (st := s_law_end) l17 c17 k17
  have b17 := F17.binds (ps := ["box"]) fun _ _ _ _ _ _ us hl => match us, hl with | [_], _ => rfl
  have F18 := fun_mk (st := s_law_parts) l18 c18 k18
  have b18 := F18.binds (ps := ["box"]) fun _ _ _ _ _ _ us hl => match us, hl with | [_], _ => rfl
  have F19 := fun_mk (st := s_law_listed) l19 c19 k19
  have b19 := F19.binds (ps := ["box", "rows"]) fun _ _ _ _ _ _ us hl => match us, hl with | [_, _], _ => rfl
  have F20 := fun_mk (st := s_law_plain_rows) l20 c20 k20
  have b20 := F20.binds (ps := ["rows"]) fun _ _ _ _ _ _ us hl => match us, hl with | [_], _ => rfl
  have F21 := fun_mk (st := s_law_stands) l21 c21 k21
  have b21 := F21.binds (ps := ["made", "parts"]) fun _ _ _ _ _ _ us hl => match us, hl with | [_, _], _ => rfl
  have F22 := fun_mk (st := s_law_met) l22 c22 k22
  have b22 := F22.binds (ps := ["signs", "steps", "ends"]) fun _ _ _ _ _ _ us hl => match us, hl with | [_, _, _], _ => rfl
  have F23 := fun_mk (st := s_law_other_word) l23 c23 k23
  have b23 := F23.binds (ps := ["box", "word"]) fun _ _ _ _ _ _ us hl => match us, hl with | [_, _], _ => rfl
  have F24 := fun_mk (st := s_law_changed) l24 c24 k24
  have b24 := F24.binds (ps := ["box", "parts"]) fun _ _ _ _ _ _ us hl => match us, hl with | [_, _], _ => rfl
  have F25 := fun_mk (st := s_law_equal_right) l25 c25 k25
  have b25 := F25.binds (ps := ["box", "made", "parts"]) fun _ _ _ _ _ _ us hl => match us, hl with | [_, _, _], _ => rfl
  have F26 := fun_mk (st := s_law_spoilt_steps) l26 c26 k26
  have b26 := F26.binds (ps := ["box", "signs", "steps"]) fun _ _ _ _ _ _ us hl => match us, hl with | [_, _, _], _ => rfl
  have F27 := fun_mk (st := s_law_spoilt_ends) l27 c27 k27
  have b27 := F27.binds (ps := ["box", "ends"]) fun _ _ _ _ _ _ us hl => match us, hl with | [_, _], _ => rfl
  have F28 := fun_mk (st := s_law_copy) l28 c28 k28
  have b28 := F28.binds (ps := ["value"]) fun _ _ _ _ _ _ us hl => match us, hl with | [_], _ => rfl
  have F29 := fun_mk (st := s_law_tuples) l29 c29 k29
  have b29 := F29.binds (ps := ["value"]) fun _ _ _ _ _ _ us hl => match us, hl with | [_], _ => rfl
  have F30 := fun_mk (st := s_law_door) l30 c30 k30
  have b30 := F30.binds (ps := ["word", "signs", "steps", "ends"]) fun _ _ _ _ _ _ us hl => match us, hl with | [_, _, _, _], _ => rfl
  have F31 := fun_mk (st := s_law_refused_right) l31 c31 k31
  have b31 := F31.binds (ps := ["box", "parts"]) fun _ _ _ _ _ _ us hl => match us, hl with | [_, _], _ => rfl
  have F32 := fun_mk (st := s_law_many_right) l32 c32 k32
  have b32 := F32.binds (ps := ["box"]) fun _ _ _ _ _ _ us hl => match us, hl with | [_], _ => rfl
  have F33 := fun_mk (st := s_law_right) l33 c33 k33
  have b33 := F33.binds (ps := ["box"]) fun _ _ _ _ _ _ us hl => match us, hl with | [_], _ => rfl
  have F34 := fun_mk (st := s_law) l34 c34 k34
  have b34 := F34.binds (ps := ["script"]) fun _ _ _ _ _ _ us hl => match us, hl with | [_], _ => rfl
  have F35 := fun_mk (st := s_Decoder_init) l35 c35 k35
  have b35 := F35.binds (ps := ["self", "signs", "steps", "ends"]) fun _ _ _ _ _ _ us hl => match us, hl with | [_, _, _, _], _ => rfl
  have F36 := fun_mk (st := s_Decoder_eq) l36 c36 k36
  have b36 := F36.binds (ps := ["self", "other"]) fun _ _ _ _ _ _ us hl => match us, hl with | [_, _], _ => rfl
  have ov0 : PySem.W.excOver K C0 ErrX.tailE = true := by
    unfold PySem.W.excOver PySem.W.clsIn
    rw [eL0]
    show (C0 == C0 && true) = true
    rw [beq_self_eq_true]; rfl
  have E0 : ErrX.ETxt K mg "InvalidEnds" "InvalidEnds.__init__" C0 I0 := { gC := PySem.W.mg_of X G eC0, cls := ⟨nm0, q0, N0, bs0, _, sn0, sub0, ab0, col0, dd0, m00, m10, m20, m30, m50, eL0, rfl⟩, ov := ov0, tk := etk0, sa := esa0, ga := ega0, gg := egg0, noN := eno0, iC := ein0, tC := eti0, kC := ekC0, exC := eeC0, tyC := etC0, hdC := ehC0, fn := ⟨_, _, _, _, _, _, _, _, _, _, _, _, _, _, efn0, eco0⟩ }
  have ov1 : PySem.W.excOver K C1 ErrX.tailE = true := by
    unfold PySem.W.excOver PySem.W.clsIn
    rw [eL1]
    show (C1 == C1 && true) = true
    rw [beq_self_eq_true]; rfl
  have E1 : ErrX.ETxt K mg "InvalidSigns" "InvalidSigns.__init__" C1 I1 := { gC := PySem.W.mg_of X G eC1, cls := ⟨nm1, q1, N1, bs1, _, sn1, sub1, ab1, col1, dd1, m01, m11, m21, m31, m51, eL1, rfl⟩, ov := ov1, tk := etk1, sa := esa1, ga := ega1, gg := egg1, noN := eno1, iC := ein1, tC := eti1, kC := ekC1, exC := eeC1, tyC := etC1, hdC := ehC1, fn := ⟨_, _, _, _, _, _, _, _, _, _, _, _, _, _, efn1, eco1⟩ }
  have ov2 : PySem.W.excOver K C2 ErrX.tailE = true := by
    unfold PySem.W.excOver PySem.W.clsIn
    rw [eL2]
    show (C2 == C2 && true) = true
    rw [beq_self_eq_true]; rfl
  have E2 : ErrX.ETxt K mg "InvalidSteps" "InvalidSteps.__init__" C2 I2 := { gC := PySem.W.mg_of X G eC2, cls := ⟨nm2, q2, N2, bs2, _, sn2, sub2, ab2, col2, dd2, m02, m12, m22, m32, m52, eL2, rfl⟩, ov := ov2, tk := etk2, sa := esa2, ga := ega2, gg := egg2, noN := eno2, iC := ein2, tC := eti2, kC := ekC2, exC := eeC2, tyC := etC2, hdC := ehC2, fn := ⟨_, _, _, _, _, _, _, _, _, _, _, _, _, _, efn2, eco2⟩ }
  exact ⟨PySem.W.fnOf "law" "law" (defArgs s_law) (defBody s_law) (defScope s_law) .none kV34 dc34 pm34 an34 cd34 ct34, fun s v => .of_eq rfl, fun base _ _ hsy => ok_law ({ f_is_integer := f0, fd_is_integer := _, F_is_integer := F0, b_is_integer := b0, g_is_integer := PySem.W.mg_of X G a0, f_is_count := f1, fd_is_count := _, F_is_count := F1, b_is_count := b1, g_is_count := PySem.W.mg_of X G a1, f_is_list := f2, fd_is_list := _, F_is_list := F2, b_is_list := b2, g_is_list := PySem.W.mg_of X G a2, f_is_text := f3, fd_is_text := _, F_is_text := F3, b_is_text := b3, g_is_text := PySem.W.mg_of X G a3, f_is_word := f4, fd_is_word := _, F_is_word := F4, b_is_word := b4, g_is_word := PySem.W.mg_of X G a4, f_is_number_of_signs := f5, fd_is_number_of_signs := _, F_is_number_of_signs := F5, b_is_number_of_signs := b5, g_is_number_of_signs := PySem.W.mg_of X G a5, f_is_below := f6, fd_is_below := _, F_is_below := F6, b_is_below := b6, g_is_below := PySem.W.mg_of X G a6, f_are_steps := f7, fd_are_steps := _, F_are_steps := F7, b_are_steps := b7, g_are_steps := PySem.W.mg_of X G a7, f_are_entries := f8, fd_are_entries := _, F_are_entries := F8, b_are_entries := b8, g_are_entries := PySem.W.mg_of X G a8, f_is_step := f9, fd_is_step := _, F_is_step := F9, b_is_step := b9, g_is_step := PySem.W.mg_of X G a9, f_are_ends := f10, fd_are_ends := _, F_are_ends := F10, b_are_ends := b10, g_are_ends := PySem.W.mg_of X G a10, f_law_cell := f11, fd_law_cell := _, F_law_cell := F11, b_law_cell := b11, g_law_cell := PySem.W.mg_of X G a11, f_law_box := f12, fd_law_box := _, F_law_box := F12, b_law_box := b12, g_law_box := PySem.W.mg_of X G a12, f_law_take := f13, fd_law_take := _, F_law_take := F13, b_law_take := b13, g_law_take := PySem.W.mg_of X G a13, f_law_word := f14, fd_law_word := _, F_law_word := F14, b_law_word := b14, g_law_word := PySem.W.mg_of X G a14, f_law_entry := f15, fd_law_entry := _, F_law_entry := F15, b_law_entry := b15, g_law_entry := PySem.W.mg_of X G a15, f_law_row := f16, fd_law_row := _, F_law_row := F16, b_law_row := b16, g_law_row := PySem.W.mg_of X G a16, f_law_end := f17, fd_law_end := _, F_law_end := F17, b_law_end := b17, g_law_end := PySem.W.mg_of X G a17, f_law_parts := f18, fd_law_parts := _, F_law_parts := F18, b_law_parts := b18, g_law_parts := PySem.W.mg_of X G a18, f_law_listed := f19, fd_law_listed := _, F_law_listed := F19, b_law_listed := b19, g_law_listed := PySem.W.mg_of X G a19, f_law_plain_rows := f20, fd_law_plain_rows := _, F_law_plain_rows := F20, b_law_plain_rows := b20, g_law_plain_rows := PySem.W.mg_of X G a20, f_law_stands := f21, fd_law_stands := _, F_law_stands := F21, b_law_stands := b21, g_law_stands := PySem.W.mg_of X G a21, f_law_met := f22, fd_law_met := _, F_law_met := F22, b_law_met := b22, g_law_met := PySem.W.mg_of X G a22, f_law_other_word := f23, fd_law_other_word := _, F_law_other_word := F23, b_law_other_word := b23, g_law_other_word := PySem.W.mg_of X G a23, f_law_changed := f24, fd_law_changed := _, F_law_changed := F24, b_law_changed := b24, g_law_changed := PySem.W.mg_of X G a24, f_law_equal_right := f25, fd_law_equal_right := _, F_law_equal_right := F25, b_law_equal_right := b25, g_law_equal_right := PySem.W.mg_of X G a25, f_law_spoilt_steps := f26, fd_law_spoilt_steps := _, F_law_spoilt_steps := F26, b_law_spoilt_steps := b26, g_law_spoilt_steps := PySem.W.mg_of X G a26, f_law_spoilt_ends := f27, fd_law_spoilt_ends := _, F_law_spoilt_ends := F27, b_law_spoilt_ends := b27, g_law_spoilt_ends := PySem.W.mg_of X G a27, f_law_copy := f28, fd_law_copy := _, F_law_copy := F28, b_law_copy := b28, g_law_copy := PySem.W.mg_of X G a28, f_law_tuples := f29, fd_law_tuples := _, F_law_tuples := F29, b_law_tuples := b29, g_law_tuples := PySem.W.mg_of X G a29, f_law_door := f30, fd_law_door := _, F_law_door := F30, b_law_door := b30, g_law_door := PySem.W.mg_of X G a30, f_law_refused_right := f31, fd_law_refused_right := _, F_law_refused_right := F31, b_law_refused_right := b31, g_law_refused_right := PySem.W.mg_of X G a31, f_law_many_right := f32, fd_law_many_right := _, F_law_many_right := F32, b_law_many_right := b32, g_law_many_right := PySem.W.mg_of X G a32, f_law_right := f33, fd_law_right := _, F_law_right := F33, b_law_right := b33, g_law_right := PySem.W.mg_of X G a33, f_law := fa, fd_law := _, F_law := F34, b_law := b34, g_law := PySem.W.mg_of X G a34, f_Decoder_init := f35, fd_Decoder_init := _, F_Decoder_init := F35, b_Decoder_init := b35, f_Decoder_eq := f36, fd_Decoder_eq := _, F_Decoder_eq := F36, b_Decoder_eq := b36, C_Decoder := OC_Decoder, g_Decoder := PySem.W.mg_of X G on_Decoder, cl_Decoder := ⟨opg_Decoder, ohd_Decoder, opo_Decoder, osa_Decoder⟩, mk_Decoder := ⟨omk_Decoder, a35, i35, okp_Decoder⟩, oe_Decoder := ⟨⟨opg_Decoder, ohd_Decoder, opo_Decoder, osa_Decoder⟩, a36, i36, one_Decoder, omo_Decoder, oha_Decoder, ohn_Decoder, otk_Decoder⟩, ii_Decoder := oii_Decoder, it_Decoder := oit_Decoder, is_Decoder := ois_Decoder, na_Decoder_signs := ona_Decoder_signs, na_Decoder_states := ona_Decoder_states, na_Decoder_steps := ona_Decoder_steps, na_Decoder_ends := ona_Decoder_ends, sb_Decoder_NoneType := osb_Decoder_NoneType, sb_Decoder_int := osb_Decoder_int, sb_Decoder_str := osb_Decoder_str, sb_Decoder_tuple := osb_Decoder_tuple, sb_Decoder_list := osb_Decoder_list, sb_Decoder_dict := osb_Decoder_dict, sysd := hsy, z_abs := PySem.W.mg_none_of X G z_abs, z_all := PySem.W.mg_none_of X G z_all, z_bool := PySem.W.mg_none_of X G z_bool, z_int := PySem.W.mg_none_of X G z_int, z_isinstance := PySem.W.mg_none_of X G z_isinstance, z_len := PySem.W.mg_none_of X G z_len, z_list := PySem.W.mg_none_of X G z_list, z_max := PySem.W.mg_none_of X G z_max, z_min := PySem.W.mg_none_of X G z_min, z_range := PySem.W.mg_none_of X G z_range, z_repr := PySem.W.mg_none_of X G z_repr, z_str := PySem.W.mg_none_of X G z_str, z_sum := PySem.W.mg_none_of X G z_sum, z_tuple := PySem.W.mg_none_of X G z_tuple, t_MOST_SIGNS := t_MOST_SIGNS, c_MOST_SIGNS := PySem.W.mg_of X G n_MOST_SIGNS, t_MOST_LETTERS := t_MOST_LETTERS, c_MOST_LETTERS := PySem.W.mg_of X G n_MOST_LETTERS, t_MOST_STATES := t_MOST_STATES, c_MOST_STATES := PySem.W.mg_of X G n_MOST_STATES, C_InvalidEnds := C0, i_InvalidEnds := I0, e_InvalidEnds := E0, x_InvalidEnds := exm_of eeC0 eiC0 etC0 esC0, C_InvalidSigns := C1, i_InvalidSigns := I1, e_InvalidSigns := E1, x_InvalidSigns := exm_of eeC1 eiC1 etC1 esC1, C_InvalidSteps := C2, i_InvalidSteps := I2, e_InvalidSteps := E2, x_InvalidSteps := exm_of eeC2 eiC2 etC2 esC2, no_InvalidEnds_InvalidSigns := exm_of eeC1 eiC1 etC1 en_0_1, no_InvalidEnds_InvalidSteps := exm_of eeC2 eiC2 etC2 en_0_2, no_InvalidSigns_InvalidEnds := exm_of eeC0 eiC0 etC0 en_1_0, no_InvalidSigns_InvalidSteps := exm_of eeC2 eiC2 etC2 en_1_2, no_InvalidSteps_InvalidEnds := exm_of eeC0 eiC0 etC0 en_2_0, no_InvalidSteps_InvalidSigns := exm_of eeC1 eiC1 etC1 en_2_1 } : Txt K mg base)⟩
end My
open PySem PySem.W PyProof.Rows
set_option maxRecDepth 100000 in
set_option maxHeartbeats 0 in
theorem PySem.Challenge.cw_spoiltline_k01_decoders_and_their_parts_holds : PySem.Challenge.rw_spoiltline_k01_decoders_and_their_parts.Holds := by
  w_on; o_law; k_head; (case hw => w_witness2)
  k_fill
  refine L2.walk_S (l := PySem.Challenge.rw_spoiltline_k01_decoders_and_their_parts) (n := 63) (k := 13) (x := "script") (sp := My.spLaw) ?him rfl (by decide) rfl ⟨rfl, by decide, by decide⟩ (fun w h Y => PySem.W.kIn_of Y) ?F (fun _ _ a ns hl _ hS => ⟨a, ns, rfl, hS, hl, fun _ => rfl⟩)
  case him => first | rfl | decide +kernel | kernel_rfl
  case F =>
    intro w mg fa h KX G hmg
    refine' My.all_mk KX G hmg ?eC0 ?eL0 ?etk0 ?esa0 ?ega0 ?egg0 ?eno0 ?ein0 ?eti0 ?ekC0 ?eeC0 ?etC0 ?ehC0 ?eiC0 ?esC0 ?efn0 ?eco0 ?eC1 ?eL1 ?etk1 ?esa1 ?ega1 ?egg1 ?eno1 ?ein1 ?eti1 ?ekC1 ?eeC1 ?etC1 ?ehC1 ?eiC1 ?esC1 ?efn1 ?eco1 ?eC2 ?eL2 ?etk2 ?esa2 ?ega2 ?egg2 ?eno2 ?ein2 ?eti2 ?ekC2 ?eeC2 ?etC2 ?ehC2 ?eiC2 ?esC2 ?efn2 ?eco2 ?en_0_1 ?en_0_2 ?en_1_0 ?en_1_2 ?en_2_0 ?en_2_1 ?on_Decoder ?opg_Decoder ?ohd_Decoder ?opo_Decoder ?osa_Decoder ?omk_Decoder ?okp_Decoder ?one_Decoder ?omo_Decoder ?oha_Decoder ?ohn_Decoder ?otk_Decoder ?oii_Decoder ?oit_Decoder ?ois_Decoder ?ona_Decoder_signs ?ona_Decoder_states ?ona_Decoder_steps ?ona_Decoder_ends ?osb_Decoder_NoneType ?osb_Decoder_int ?osb_Decoder_str ?osb_Decoder_tuple ?osb_Decoder_list ?osb_Decoder_dict ?a0 ?l0 ?c0 ?k0 ?a1 ?l1 ?c1 ?k1 ?a2 ?l2 ?c2 ?k2 ?a3 ?l3 ?c3 ?k3 ?a4 ?l4 ?c4 ?k4 ?a5 ?l5 ?c5 ?k5 ?a6 ?l6 ?c6 ?k6 ?a7 ?l7 ?c7 ?k7 ?a8 ?l8 ?c8 ?k8 ?a9 ?l9 ?c9 ?k9 ?a10 ?l10 ?c10 ?k10 ?a11 ?l11 ?c11 ?k11 ?a12 ?l12 ?c12 ?k12 ?a13 ?l13 ?c13 ?k13 ?a14 ?l14 ?c14 ?k14 ?a15 ?l15 ?c15 ?k15 ?a16 ?l16 ?c16 ?k16 ?a17 ?l17 ?c17 ?k17 ?a18 ?l18 ?c18 ?k18 ?a19 ?l19 ?c19 ?k19 ?a20 ?l20 ?c20 ?k20 ?a21 ?l21 ?c21 ?k21 ?a22 ?l22 ?c22 ?k22 ?a23 ?l23 ?c23 ?k23 ?a24 ?l24 ?c24 ?k24 ?a25 ?l25 ?c25 ?k25 ?a26 ?l26 ?c26 ?k26 ?a27 ?l27 ?c27 ?k27 ?a28 ?l28 ?c28 ?k28 ?a29 ?l29 ?c29 ?k29 ?a30 ?l30 ?c30 ?k30 ?a31 ?l31 ?c31 ?k31 ?a32 ?l32 ?c32 ?k32 ?a33 ?l33 ?c33 ?k33 ?a34 ?l34 ?c34 ?k34 ?a35 ?i35 ?l35 ?c35 ?k35 ?a36 ?i36 ?l36 ?c36 ?k36 ?z_abs ?z_all ?z_bool ?z_int ?z_isinstance ?z_len ?z_list ?z_max ?z_min ?z_range ?z_repr ?z_str ?z_sum ?z_tuple ?n_MOST_SIGNS ?n_MOST_LETTERS ?n_MOST_STATES
    (case eC0 => k_is)
    (case eL0 => k_is)
    (case etk0 => k_is)
    (case esa0 => k_is)
    (case ega0 => k_is)
    (case egg0 => k_is)
    (case eno0 => k_is)
    (case ein0 => k_is)
    (case eti0 => k_is)
    (case ekC0 => k_is)
    (case eeC0 => k_is)
    (case etC0 => k_is)
    (case ehC0 => k_is)
    (case eiC0 => k_is)
    (case esC0 => k_is)
    (case efn0 => k_is)
    (case eco0 => k_is)
    (case eC1 => k_is)
    (case eL1 => k_is)
    (case etk1 => k_is)
    (case esa1 => k_is)
    (case ega1 => k_is)
    (case egg1 => k_is)
    (case eno1 => k_is)
    (case ein1 => k_is)
    (case eti1 => k_is)
    (case ekC1 => k_is)
    (case eeC1 => k_is)
    (case etC1 => k_is)
    (case ehC1 => k_is)
    (case eiC1 => k_is)
    (case esC1 => k_is)
    (case efn1 => k_is)
    (case eco1 => k_is)
    (case eC2 => k_is)
    (case eL2 => k_is)
    (case etk2 => k_is)
    (case esa2 => k_is)
    (case ega2 => k_is)
    (case egg2 => k_is)
    (case eno2 => k_is)
    (case ein2 => k_is)
    (case eti2 => k_is)
    (case ekC2 => k_is)
    (case eeC2 => k_is)
    (case etC2 => k_is)
    (case ehC2 => k_is)
    (case eiC2 => k_is)
    (case esC2 => k_is)
    (case efn2 => k_is)
    (case eco2 => k_is)
    (case en_0_1 => k_is)
    (case en_0_2 => k_is)
    (case en_1_0 => k_is)
    (case en_1_2 => k_is)
    (case en_2_0 => k_is)
    (case en_2_1 => k_is)
    (case on_Decoder => k_is)
    (case opg_Decoder => k_is)
    (case ohd_Decoder => k_is)
    (case opo_Decoder => k_is)
    (case osa_Decoder => k_is)
    (case omk_Decoder => k_is)
    (case okp_Decoder => k_is)
    (case one_Decoder => k_is)
    (case omo_Decoder => k_is)
    (case oha_Decoder => k_is)
    (case ohn_Decoder => k_is)
    (case otk_Decoder => k_is)
    (case oii_Decoder => k_is)
    (case oit_Decoder => k_is)
    (case ois_Decoder => k_is)
    (case ona_Decoder_signs => k_is)
    (case ona_Decoder_states => k_is)
    (case ona_Decoder_steps => k_is)
    (case ona_Decoder_ends => k_is)
    (case osb_Decoder_NoneType => k_is)
    (case osb_Decoder_int => k_is)
    (case osb_Decoder_str => k_is)
    (case osb_Decoder_tuple => k_is)
    (case osb_Decoder_list => k_is)
    (case osb_Decoder_dict => k_is)
    (case a0 => k_is)
    (case l0 => k_is)
    (case c0 => k_is)
    (case k0 => k_is)
    (case a1 => k_is)
    (case l1 => k_is)
    (case c1 => k_is)
    (case k1 => k_is)
    (case a2 => k_is)
    (case l2 => k_is)
    (case c2 => k_is)
    (case k2 => k_is)
    (case a3 => k_is)
    (case l3 => k_is)
    (case c3 => k_is)
    (case k3 => k_is)
    (case a4 => k_is)
    (case l4 => k_is)
    (case c4 => k_is)
    (case k4 => k_is)
    (case a5 => k_is)
    (case l5 => k_is)
    (case c5 => k_is)
    (case k5 => k_is)
    (case a6 => k_is)
    (case l6 => k_is)
    (case c6 => k_is)
    (case k6 => k_is)
    (case a7 => k_is)
    (case l7 => k_is)
    (case c7 => k_is)
    (case k7 => k_is)
    (case a8 => k_is)
    (case l8 => k_is)
    (case c8 => k_is)
    (case k8 => k_is)
    (case a9 => k_is)
    (case l9 => k_is)
    (case c9 => k_is)
    (case k9 => k_is)
    (case a10 => k_is)
    (case l10 => k_is)
    (case c10 => k_is)
    (case k10 => k_is)
    (case a11 => k_is)
    (case l11 => k_is)
    (case c11 => k_is)
    (case k11 => k_is)
    (case a12 => k_is)
    (case l12 => k_is)
    (case c12 => k_is)
    (case k12 => k_is)
    (case a13 => k_is)
    (case l13 => k_is)
    (case c13 => k_is)
    (case k13 => k_is)
    (case a14 => k_is)
    (case l14 => k_is)
    (case c14 => k_is)
    (case k14 => k_is)
    (case a15 => k_is)
    (case l15 => k_is)
    (case c15 => k_is)
    (case k15 => k_is)
    (case a16 => k_is)
    (case l16 => k_is)
    (case c16 => k_is)
    (case k16 => k_is)
    (case a17 => k_is)
    (case l17 => k_is)
    (case c17 => k_is)
    (case k17 => k_is)
    (case a18 => k_is)
    (case l18 => k_is)
    (case c18 => k_is)
    (case k18 => k_is)
    (case a19 => k_is)
    (case l19 => k_is)
    (case c19 => k_is)
    (case k19 => k_is)
    (case a20 => k_is)
    (case l20 => k_is)
    (case c20 => k_is)
    (case k20 => k_is)
    (case a21 => k_is)
    (case l21 => k_is)
    (case c21 => k_is)
    (case k21 => k_is)
    (case a22 => k_is)
    (case l22 => k_is)
    (case c22 => k_is)
    (case k22 => k_is)
    (case a23 => k_is)
    (case l23 => k_is)
    (case c23 => k_is)
    (case k23 => k_is)
    (case a24 => k_is)
    (case l24 => k_is)
    (case c24 => k_is)
    (case k24 => k_is)
    (case a25 => k_is)
    (case l25 => k_is)
    (case c25 => k_is)
    (case k25 => k_is)
    (case a26 => k_is)
    (case l26 => k_is)
    (case c26 => k_is)
    (case k26 => k_is)
    (case a27 => k_is)
    (case l27 => k_is)
    (case c27 => k_is)
    (case k27 => k_is)
    (case a28 => k_is)
    (case l28 => k_is)
    (case c28 => k_is)
    (case k28 => k_is)
    (case a29 => k_is)
    (case l29 => k_is)
    (case c29 => k_is)
    (case k29 => k_is)
    (case a30 => k_is)
    (case l30 => k_is)
    (case c30 => k_is)
    (case k30 => k_is)
    (case a31 => k_is)
    (case l31 => k_is)
    (case c31 => k_is)
    (case k31 => k_is)
    (case a32 => k_is)
    (case l32 => k_is)
    (case c32 => k_is)
    (case k32 => k_is)
    (case a33 => k_is)
    (case l33 => k_is)
    (case c33 => k_is)
    (case k33 => k_is)
    (case a34 => k_is)
    (case l34 => k_is)
    (case c34 => k_is)
    (case k34 => k_is)
    (case a35 => k_is)
    (case i35 => k_is)
    (case l35 => k_is)
    (case c35 => k_is)
    (case k35 => k_is)
    (case a36 => k_is)
    (case i36 => k_is)
    (case l36 => k_is)
    (case c36 => k_is)
    (case k36 => k_is)
    (case z_abs => k_is)
    (case z_all => k_is)
    (case z_bool => k_is)
    (case z_int => k_is)
    (case z_isinstance => k_is)
    (case z_len => k_is)
    (case z_list => k_is)
    (case z_max => k_is)
    (case z_min => k_is)
    (case z_range => k_is)
    (case z_repr => k_is)
    (case z_str => k_is)
    (case z_sum => k_is)
    (case z_tuple => k_is)
    (case n_MOST_SIGNS => k_is)
    (case n_MOST_LETTERS => k_is)
    (case n_MOST_STATES => k_is)


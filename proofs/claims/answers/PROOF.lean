import PyProof.Rows.All
import Wide.All
import OpenK.AllK
import Wide.FinOn
import Open.SpecLaws
import KE.OsGo
import HandS.ForSpec
import HandS.Comp
import HandS.Dict
import HandS.Iter
import HandS.Text
import HandS.Walk
import HandS.Conv
import HandS.Codes
import HandS.FStr
import HandS.SortInts
import HandS.TupSets
import HandS.Deep
import HandS.More
import HandS.SortKw
import KE.GoesEnumKw
import KE.DataMinMax
import PySem.Challenge.RW_trackedtextdesk_s01_answers
set_option Elab.async false
set_option linter.all false
set_option maxRecDepth 100000 in
set_option maxHeartbeats 0 in
theorem Hd.said : PySem.Challenge.rw_trackedtextdesk_s01_answers.wellSaid = true := by decide +kernel
section
open PySem PySem.W PyProof.Rows
local macro_rules | `(tactic| o_law) => `(tactic| have said := Hd.said)
local macro_rules | `(tactic| k_head) => `(tactic| k_headS)
local macro_rules | `(tactic| w_witness2) => `(tactic| exact ⟨[.list [.int 2]], by decide +kernel, by decide +kernel⟩)
set_option maxRecDepth 100000 in
set_option maxHeartbeats 0 in
open_top Hd.hd for PySem.Challenge.rw_trackedtextdesk_s01_answers
end
namespace Tm
open Vatrkd
/-! ### numerals -/
theorem isDigit_iff {c : Nat} : isDigit c = true ↔ 48 ≤ c ∧ c ≤ 57 := by
  unfold isDigit
  rw [Bool.and_eq_true, decide_eq_true_eq, decide_eq_true_eq]
theorem numeral_none {l : Text} : numeral l = none ↔ (l.isEmpty || (!l.all isDigit || (decide (1 < l.length) && l.head? == some 48))) = true := by
  unfold numeral
  by_cases h : (l.isEmpty || (!l.all isDigit || (decide (1 < l.length) && l.head? == some 48))) = true
  · rw [if_pos h]; exact ⟨fun _ => h, fun _ => rfl⟩
  · rw [if_neg h]; exact ⟨fun z => (nomatch z), fun z => absurd z h⟩
theorem numeral_is (l : Text) : (numeral l).isSome = !(l.isEmpty || (!l.all isDigit || (decide (1 < l.length) && l.head? == some 48))) := by
  unfold numeral
  by_cases h : (l.isEmpty || (!l.all isDigit || (decide (1 < l.length) && l.head? == some 48))) = true
  · rw [if_pos h, h]; rfl
  · rw [if_neg h, Bool.not_eq_true _ |>.mp h]; rfl
def decN (l : Text) : Nat := l.foldl (fun n c => 10 * n + (c - 48)) 0
theorem numeral_val {l : Text} {n : Nat} (h : numeral l = some n) : n = decN l ∧ l ≠ [] ∧ (∀ c ∈ l, 48 ≤ c ∧ c ≤ 57) ∧ (1 < l.length → l.head? ≠ some 48) := by
  unfold numeral at h
  by_cases c : (l.isEmpty || (!l.all isDigit || (decide (1 < l.length) && l.head? == some 48))) = true
  · rw [if_pos c] at h; cases h
  · rw [if_neg c] at h
    have h1 := Option.some.inj h
    simp only [Bool.or_eq_true, Bool.not_eq_true', Bool.and_eq_true, decide_eq_true_eq, not_or, not_and, beq_iff_eq] at c
    refine ⟨h1.symm, ?_, ?_, c.2.2⟩
    · intro e
      rw [e] at c
      exact c.1 rfl
    · intro x hx
      have := c.2.1
      rw [Bool.not_eq_false] at this
      exact isDigit_iff.mp (List.all_eq_true.mp this x hx)
theorem dec_from (l : Text) : ∀ n, l.foldl (fun n c => 10 * n + (c - 48)) n = n * 10 ^ l.length + decN l := by
  unfold decN
  induction l with
  | nil => intro n; simp
  | cons c r ih =>
    intro n
    rw [List.foldl_cons, List.foldl_cons, ih (10 * n + (c - 48)), ih (10 * 0 + (c - 48)), List.length_cons, Nat.pow_succ]
    have e1 : (10 * n + (c - 48)) * 10 ^ r.length = n * (10 ^ r.length * 10) + (c - 48) * 10 ^ r.length := by
      rw [Nat.add_mul, Nat.mul_comm 10 n, Nat.mul_assoc, Nat.mul_comm 10 (10 ^ r.length)]
    rw [e1]
    have e2 : 10 * 0 + (c - 48) = c - 48 := by omega
    rw [e2]
    omega
theorem dec_lt : ∀ (l : Text), (∀ c ∈ l, 48 ≤ c ∧ c ≤ 57) → decN l < 10 ^ l.length
  | [], _ => by decide
  | c :: r, h => by
    have ih := dec_lt r fun x hx => h x (List.mem_cons_of_mem _ hx)
    have hc := h c List.mem_cons_self
    have e : decN (c :: r) = (c - 48) * 10 ^ r.length + decN r := by
      show r.foldl (fun n c => 10 * n + (c - 48)) (10 * 0 + (c - 48)) = _
      rw [dec_from]
      have e2 : 10 * 0 + (c - 48) = c - 48 := by omega
      rw [e2]
    rw [e, List.length_cons, Nat.pow_succ]
    have h9 : (c - 48) * 10 ^ r.length ≤ 9 * 10 ^ r.length := Nat.mul_le_mul_right _ (by omega)
    omega
theorem dec_ge {c : Nat} {r : Text} (h : 49 ≤ c) : 10 ^ r.length ≤ decN (c :: r) := by
  have e : decN (c :: r) = (c - 48) * 10 ^ r.length + decN r := by
    show r.foldl (fun n c => 10 * n + (c - 48)) (10 * 0 + (c - 48)) = _
    rw [dec_from]
    have e2 : 10 * 0 + (c - 48) = c - 48 := by omega
    rw [e2]
  rw [e]
  have h1 : 1 * 10 ^ r.length ≤ (c - 48) * 10 ^ r.length := Nat.mul_le_mul_right _ (by omega)
  omega
/-- a numeral's number -/
def capN (l : Text) : Nat := decN l
theorem cap_eq {l : Text} {n : Nat} (h : numeral l = some n) : capN l = n := (numeral_val h).1.symm
theorem dec_app (l m : Text) : decN (l ++ m) = decN l * 10 ^ m.length + decN m := by
  show (l ++ m).foldl (fun n c => 10 * n + (c - 48)) 0 = _
  rw [List.foldl_append, dec_from]
  rfl
/-! ### cut at a number -/
def cutStep (sep : Nat) (a : List Text × Text) (c : Nat) : List Text × Text := if c = sep then (a.1 ++ [a.2], []) else (a.1, a.2 ++ [c])
def cutF (sep : Nat) (l : Text) : List Text × Text := l.foldl (cutStep sep) ([], [])
theorem cutAt_ne (sep : Nat) : ∀ l : Text, cutAt sep l ≠ []
  | [] => fun z => nomatch z
  | c :: r => by
    unfold cutAt
    split
    · exact fun z => nomatch z
    · split <;> exact fun z => nomatch z
theorem cut_cons (sep c : Nat) (r : Text) (h : c ≠ sep) : ∃ w ws, cutAt sep r = w :: ws ∧ cutAt sep (c :: r) = (c :: w) :: ws := by
  cases e : cutAt sep r with
  | nil => exact absurd e (cutAt_ne sep r)
  | cons w ws =>
    refine ⟨w, ws, rfl, ?_⟩
    conv => lhs; unfold cutAt
    rw [if_neg h, e]
theorem cut_from (sep : Nat) : ∀ (l : Text) (d : List Text) (cur : Text), ∃ w ws, cutAt sep l = w :: ws ∧ (l.foldl (cutStep sep) (d, cur)).1 ++ [(l.foldl (cutStep sep) (d, cur)).2] = d ++ (cur ++ w) :: ws
  | [], d, cur => ⟨[], [], rfl, by simp⟩
  | c :: r, d, cur => by
    by_cases h : c = sep
    · subst h
      obtain ⟨w, ws, e1, e2⟩ := cut_from c r (d ++ [cur]) []
      refine ⟨[], cutAt c r, by simp [cutAt], ?_⟩
      rw [List.foldl_cons, show cutStep c (d, cur) c = (d ++ [cur], []) from if_pos rfl, e2, e1]
      simp
    · obtain ⟨w, ws, e1, e2⟩ := cut_cons sep c r h
      obtain ⟨w', ws', e3, e4⟩ := cut_from sep r d (cur ++ [c])
      rw [e1] at e3
      obtain ⟨rfl, rfl⟩ := List.cons.inj e3
      refine ⟨c :: w, ws, e2, ?_⟩
      rw [List.foldl_cons, show cutStep sep (d, cur) c = (d, cur ++ [c]) from if_neg h, e4]
      simp
theorem cut_eq (sep : Nat) (l : Text) : cutAt sep l = (cutF sep l).1 ++ [(cutF sep l).2] := by
  obtain ⟨w, ws, e1, e2⟩ := cut_from sep l [] []
  unfold cutF
  rw [e2, e1]
  rfl
theorem cutF_more {sep : Nat} {l : Text} {i c : Nat} (h : l[i]? = some c) : cutF sep (l.take (i + 1)) = cutStep sep (cutF sep (l.take i)) c := by
  unfold cutF
  rw [List.take_add_one, h, List.foldl_append]
  rfl
end Tm
namespace Tm
open Vatrkd
/-! ### a paragraph's line by spans -/
def signRun : Text → Option (Text × Text)
  | [] => some ([], [])
  | c :: r =>
    if c = 91 ∨ c = 93 then some ([], c :: r)
    else if c = 92 then (match r with
      | [] => none
      | d :: r' => (signRun r').map fun x => (d :: x.1, x.2))
    else (signRun r).map fun x => (c :: x.1, x.2)
def markRun : Text → Text × Text
  | [] => ([], [])
  | c :: r => if c = 91 ∨ c = 93 ∨ c = 124 ∨ c = 92 then ([], c :: r) else (c :: (markRun r).1, (markRun r).2)
def clSpan (m r : Text) : Option ((Text × Text) × Text) := match signRun r with
  | none => none
  | some (_, []) => none
  | some (s, c :: rest) => if c = 91 then none else some ((m, s), rest)
def brSpan (l : Text) : Option ((Text × Text) × Text) := match (markRun l).2 with
  | [] => none
  | c :: r => if c = 124 then clSpan (markRun l).1 r else if c = 93 ∧ r = [] then some (((markRun l).1, [10]), []) else none
def spanAt : Text → Option ((Text × Text) × Text)
  | [] => none
  | c :: r => if c = 93 then none else if c = 91 then brSpan r else (signRun (c :: r)).map fun x => (([], x.1), x.2)
def spansF : Nat → Text → Option (List (Text × Text))
  | _, [] => some []
  | 0, _ :: _ => none
  | f + 1, c :: r => match spanAt (c :: r) with
    | none => none
    | some (sp, rest) => (spansF f rest).map (sp :: ·)
/-- the end's own span, where the line has none -/
def finish (ss : List (Text × Text)) : List (Text × Text) := if ss = [] ∨ (ss.getLast?.map fun x => x.2) ≠ some [10] then ss ++ [([], [10])] else ss

theorem signRun_cons {c : Nat} {r : Text} (h1 : c ≠ 91) (h2 : c ≠ 93) (h3 : c ≠ 92) : signRun (c :: r) = (signRun r).map fun x => (c :: x.1, x.2) := by
  rw [signRun.eq_def]
  dsimp only
  rw [if_neg (by omega), if_neg h3]
theorem signRun_esc {d : Nat} {r : Text} : signRun (92 :: d :: r) = (signRun r).map fun x => (d :: x.1, x.2) := by
  rw [signRun.eq_def]
  dsimp only
  rw [if_neg (by omega), if_pos rfl]
theorem signRun_last : signRun [92] = none := rfl
theorem signRun_stop {c : Nat} {r : Text} (h : c = 91 ∨ c = 93) : signRun (c :: r) = some ([], c :: r) := by
  rw [signRun.eq_def]
  dsimp only
  rw [if_pos h]
/-- what stands behind a run of signs -/
theorem signRun_rest : ∀ (n : Nat) (l s rest : Text), l.length ≤ n → signRun l = some (s, rest) → rest.length ≤ l.length ∧ (∀ x ∈ rest, x ∈ l) ∧ (∀ x ∈ s, x ∈ l) ∧ (rest = [] ∨ ∃ c r, rest = c :: r ∧ (c = 91 ∨ c = 93)) ∧ s.length ≤ l.length ∧
    (∀ c r, l = c :: r → c ≠ 91 → c ≠ 93 → rest.length < l.length)
  | _, [], s, rest, _, h => by
    obtain ⟨rfl, rfl⟩ := Prod.mk.inj (Option.some.inj (show some (([] : Text), ([] : Text)) = some (s, rest) from h))
    exact ⟨Nat.le_refl _, fun _ z => z, fun _ z => z, .inl rfl, Nat.le_refl _, fun c r z => nomatch z⟩
  | 0, c :: r, _, _, hn, _ => absurd hn (by simp)
  | n + 1, c :: r, s, rest, hn, h => by
    have hn' : r.length ≤ n := by rw [List.length_cons] at hn; omega
    by_cases h1 : c = 91 ∨ c = 93
    · rw [signRun_stop h1] at h
      obtain ⟨rfl, rfl⟩ := Prod.mk.inj (Option.some.inj h)
      refine ⟨Nat.le_refl _, fun _ z => z, fun _ z => ?_, .inr ⟨c, r, rfl, h1⟩, Nat.zero_le _, fun c' r' z a b => ?_⟩
      · cases z
      · have e := (List.cons.inj z).1
        omega
    · by_cases h2 : c = 92
      · subst h2
        cases r with
        | nil =>
          rw [signRun_last] at h
          cases h
        | cons d r' =>
          rw [signRun_esc] at h
          obtain ⟨⟨s', rest'⟩, e, e2⟩ := Option.map_eq_some_iff.mp h
          obtain ⟨rfl, rfl⟩ := Prod.mk.inj e2
          rw [List.length_cons] at hn'
          obtain ⟨a1, a2, a3, a4, a5, _⟩ := signRun_rest n r' s' rest' (by omega) e
          refine ⟨by simp only [List.length_cons]; omega, fun x hx => List.mem_cons_of_mem _ (List.mem_cons_of_mem _ (a2 x hx)), fun x hx => ?_, a4, by simp only [List.length_cons]; omega, fun _ _ _ _ _ => by simp only [List.length_cons]; omega⟩
          rcases List.mem_cons.mp hx with z | z
          · rw [z]; exact List.mem_cons_of_mem _ List.mem_cons_self
          · exact List.mem_cons_of_mem _ (List.mem_cons_of_mem _ (a3 x z))
      · rw [signRun_cons (by omega) (by omega) h2] at h
        obtain ⟨⟨s', rest'⟩, e, e2⟩ := Option.map_eq_some_iff.mp h
        obtain ⟨rfl, rfl⟩ := Prod.mk.inj e2
        obtain ⟨a1, a2, a3, a4, a5, _⟩ := signRun_rest n r s' rest' hn' e
        refine ⟨by simp only [List.length_cons]; omega, fun x hx => List.mem_cons_of_mem _ (a2 x hx), fun x hx => ?_, a4, by simp only [List.length_cons]; omega, fun _ _ _ _ _ => by simp only [List.length_cons]; omega⟩
        rcases List.mem_cons.mp hx with z | z
        · rw [z]; exact List.mem_cons_self
        · exact List.mem_cons_of_mem _ (a3 x z)
theorem markRun_rest : ∀ l : Text, l = (markRun l).1 ++ (markRun l).2 ∧ ((markRun l).2 = [] ∨ ∃ c r, (markRun l).2 = c :: r ∧ (c = 91 ∨ c = 93 ∨ c = 124 ∨ c = 92))
  | [] => ⟨rfl, .inl rfl⟩
  | c :: r => by
    obtain ⟨a1, a2⟩ := markRun_rest r
    unfold markRun
    by_cases h : c = 91 ∨ c = 93 ∨ c = 124 ∨ c = 92
    · rw [if_pos h]; exact ⟨rfl, .inr ⟨c, r, rfl, h⟩⟩
    · rw [if_neg h]
      refine ⟨?_, a2⟩
      show c :: r = c :: ((markRun r).1 ++ (markRun r).2)
      rw [← a1]
/-- the runs of signs that bear no marks, one by one -/
def singles (s : Text) : List (Text × Text) := s.map fun c => ([], [c])
theorem shape_plain : ∀ (n : Nat) (l : Text), l.length ≤ n → shape .plain l = (match signRun l with
    | none => none
    | some (s, rest) => (shape .plain rest).map fun x => (singles s ++ x.1, x.2))
  | _, [], _ => rfl
  | 0, c :: r, hn => absurd hn (by simp)
  | n + 1, c :: r, hn => by
    have hn' : r.length ≤ n := by rw [List.length_cons] at hn; omega
    by_cases h1 : c = 91 ∨ c = 93
    · rw [signRun_stop h1]
      show shape .plain (c :: r) = (shape .plain (c :: r)).map fun x => (singles [] ++ x.1, x.2)
      cases shape .plain (c :: r) <;> rfl
    · by_cases h2 : c = 92
      · subst h2
        cases r with
        | nil =>
          rw [signRun_last]
          rfl
        | cons d r' =>
          rw [signRun_esc, shape, if_pos rfl, shape]
          rw [List.length_cons] at hn'
          rw [shape_plain n r' (by omega)]
          cases signRun r' with
          | none => rfl
          | some x =>
            show ((shape .plain x.2).map _).map _ = (shape .plain x.2).map _
            cases shape .plain x.2 <;> rfl
      · rw [signRun_cons (by omega) (by omega) h2, shape, if_neg h2, if_neg (by omega), if_neg (by omega), shape_plain n r hn']
        cases signRun r with
        | none => rfl
        | some x =>
          show ((shape .plain x.2).map _).map _ = (shape .plain x.2).map _
          cases shape .plain x.2 <;> rfl
theorem shape_marks : ∀ (l m : Text), shape (.marks m) l = (match (markRun l).2 with
    | [] => none
    | c :: r => if c = 124 then shape (.inside (m ++ (markRun l).1) []) r else if c = 93 then shape (.closed (m ++ (markRun l).1)) r else none)
  | [], m => by
    rfl
  | c :: r, m => by
    rw [shape]
    by_cases h : c = 91 ∨ c = 93 ∨ c = 124 ∨ c = 92
    · have e : markRun (c :: r) = ([], c :: r) := by rw [markRun, if_pos h]
      rw [e]
      show _ = if c = 124 then shape (.inside (m ++ []) []) r else if c = 93 then shape (.closed (m ++ [])) r else none
      rw [List.append_nil]
      by_cases h1 : c = 124
      · rw [if_pos h1, if_pos h1]
      · rw [if_neg h1, if_neg h1]
        by_cases h2 : c = 93
        · rw [if_pos h2, if_pos h2]
        · rw [if_neg h2, if_neg h2, if_pos (by omega)]
    · have e : markRun (c :: r) = (c :: (markRun r).1, (markRun r).2) := by rw [markRun, if_neg h]
      rw [e, if_neg (by omega), if_neg (by omega), if_neg (by omega), shape_marks r (m ++ [c])]
      show _ = (match (markRun r).2 with
        | [] => none
        | c' :: r' => if c' = 124 then shape (.inside (m ++ c :: (markRun r).1) []) r' else if c' = 93 then shape (.closed (m ++ c :: (markRun r).1)) r' else none)
      rw [show m ++ [c] ++ (markRun r).1 = m ++ c :: (markRun r).1 by simp]
theorem shape_inside : ∀ (n : Nat) (l m s : Text), l.length ≤ n → shape (.inside m s) l = (match signRun l with
    | none => none
    | some (_, []) => none
    | some (s', c :: r) => if c = 93 then (shape .plain r).map fun x => ((m, s ++ s') :: x.1, x.2) else none)
  | _, [], m, s, _ => by
    rfl
  | 0, c :: r, _, _, hn => absurd hn (by simp)
  | n + 1, c :: r, m, s, hn => by
    have hn' : r.length ≤ n := by rw [List.length_cons] at hn; omega
    by_cases h1 : c = 91 ∨ c = 93
    · rw [signRun_stop h1, shape]
      show _ = if c = 93 then (shape .plain r).map (fun x => ((m, s ++ []) :: x.1, x.2)) else none
      rw [List.append_nil]
      by_cases h2 : c = 93
      · rw [if_pos h2, if_pos h2]
      · rw [if_neg h2, if_neg h2, if_pos (by omega)]
    · by_cases h2 : c = 92
      · subst h2
        rw [shape, if_neg (by omega), if_neg (by omega), if_pos rfl]
        cases r with
        | nil =>
          rw [signRun_last]
          rfl
        | cons d r' =>
          rw [signRun_esc, shape]
          rw [List.length_cons] at hn'
          rw [shape_inside n r' m (s ++ [d]) (by omega)]
          cases signRun r' with
          | none => rfl
          | some x =>
            obtain ⟨s', rest⟩ := x
            cases rest with
            | nil => rfl
            | cons c' r2 =>
              show (if c' = 93 then (shape .plain r2).map (fun x => ((m, s ++ [d] ++ s') :: x.1, x.2)) else none) = if c' = 93 then (shape .plain r2).map (fun x => ((m, s ++ d :: s') :: x.1, x.2)) else none
              rw [show s ++ [d] ++ s' = s ++ d :: s' by simp]
      · rw [shape, if_neg (by omega), if_neg (by omega), if_neg h2, signRun_cons (by omega) (by omega) h2, shape_inside n r m (s ++ [c]) hn']
        cases signRun r with
        | none => rfl
        | some x =>
          obtain ⟨s', rest⟩ := x
          cases rest with
          | nil => rfl
          | cons c' r2 =>
            show (if c' = 93 then (shape .plain r2).map (fun x => ((m, s ++ [c] ++ s') :: x.1, x.2)) else none) = if c' = 93 then (shape .plain r2).map (fun x => ((m, s ++ c :: s') :: x.1, x.2)) else none
            rw [show s ++ [c] ++ s' = s ++ c :: s' by simp]
end Tm
namespace Tm
open Vatrkd
def flat (rs : List (Text × Text)) : List (Text × Nat) := rs.flatMap fun r => r.2.map fun c => (r.1, c)
def markeds (rs : List (Text × Text)) : List Text := (rs.map fun r => r.1).filter fun m => !m.isEmpty
structure Rr (rs ss : List (Text × Text)) : Prop where
  fl : flat rs = flat ss
  ms : markeds rs = markeds ss
theorem Rr.refl (rs : List (Text × Text)) : Rr rs rs := ⟨rfl, rfl⟩
theorem flat_app (a b : List (Text × Text)) : flat (a ++ b) = flat a ++ flat b := by
  unfold flat
  rw [List.flatMap_append]
theorem markeds_app (a b : List (Text × Text)) : markeds (a ++ b) = markeds a ++ markeds b := by
  unfold markeds
  rw [List.map_append, List.filter_append]
theorem Rr.app {a b c d : List (Text × Text)} (h : Rr a b) (k : Rr c d) : Rr (a ++ c) (b ++ d) :=
  ⟨by rw [flat_app, flat_app, h.fl, k.fl], by rw [markeds_app, markeds_app, h.ms, k.ms]⟩
theorem Rr.singles (s : Text) : Rr (singles s) [([], s)] := by
  refine ⟨?_, ?_⟩
  · unfold flat Tm.singles
    induction s with
    | nil => rfl
    | cons c r ih =>
      simp only [List.map_cons, List.flatMap_cons, List.map_nil, List.flatMap_nil, List.append_nil] at ih ⊢
      rw [ih]
      rfl
  · unfold markeds Tm.singles
    induction s with
    | nil => rfl
    | cons c r ih =>
      simp only [List.map_cons, List.map_nil] at ih ⊢
      rw [List.filter_cons]
      exact ih
theorem spans_ok : ∀ (f : Nat) (l : Text), l.length ≤ f → 10 ∉ l →
    (spansF f l = none → shape .plain l = none) ∧ (∀ ss, spansF f l = some ss → ∃ rs e ss0, shape .plain l = some (rs, e) ∧ Rr rs ss0 ∧ (∀ x ∈ ss0, 10 ∉ x.2) ∧ (ss = ss0 ++ [(e, [10])] ∨ (ss = ss0 ∧ e = [])))
  | f, [], _, _ => by
    have e : spansF f [] = some [] := by cases f <;> rfl
    rw [e]
    refine ⟨fun z => (by cases z), fun ss h => ?_⟩
    have := Option.some.inj h
    subst this
    exact ⟨[], [], [], rfl, Rr.refl _, fun x hx => (by cases hx), .inr ⟨rfl, rfl⟩⟩
  | 0, c :: r, hn, _ => absurd hn (by simp)
  | f + 1, c :: r, hn, h10 => by
    have hn' : r.length ≤ f := by rw [List.length_cons] at hn; omega
    -- a span and what is behind it
    have step : ∀ (sp : Text × Text) (rest : Text) (pre : List (Text × Text)), spanAt (c :: r) = some (sp, rest) → rest.length ≤ f → 10 ∉ rest → Rr pre [sp] → 10 ∉ sp.2 →
        shape .plain (c :: r) = (shape .plain rest).map (fun x => (pre ++ x.1, x.2)) →
        (spansF (f + 1) (c :: r) = none → shape .plain (c :: r) = none) ∧ (∀ ss, spansF (f + 1) (c :: r) = some ss → ∃ rs e ss0, shape .plain (c :: r) = some (rs, e) ∧ Rr rs ss0 ∧ (∀ x ∈ ss0, 10 ∉ x.2) ∧ (ss = ss0 ++ [(e, [10])] ∨ (ss = ss0 ∧ e = []))) := by
      intro sp rest pre e hl hr hp hs hsh
      obtain ⟨i1, i2⟩ := spans_ok f rest hl hr
      rw [spansF, e, hsh]
      dsimp only
      refine ⟨fun z => ?_, fun ss z => ?_⟩
      · rw [i1 (Option.map_eq_none_iff.mp z)]
        rfl
      · obtain ⟨ss', e1, rfl⟩ := Option.map_eq_some_iff.mp z
        obtain ⟨rs, en, ss0, a1, a2, a3, a4⟩ := i2 ss' e1
        refine ⟨pre ++ rs, en, sp :: ss0, by rw [a1]; rfl, hp.app a2, fun x hx => ?_, ?_⟩
        · rcases List.mem_cons.mp hx with z | z
          · rw [z]; exact hs
          · exact a3 x z
        · rcases a4 with a4 | ⟨a4, a5⟩
          · exact .inl (by rw [a4]; rfl)
          · exact .inr ⟨by rw [a4], a5⟩
    have bad : spanAt (c :: r) = none → shape .plain (c :: r) = none →
        (spansF (f + 1) (c :: r) = none → shape .plain (c :: r) = none) ∧ (∀ ss, spansF (f + 1) (c :: r) = some ss → ∃ rs e ss0, shape .plain (c :: r) = some (rs, e) ∧ Rr rs ss0 ∧ (∀ x ∈ ss0, 10 ∉ x.2) ∧ (ss = ss0 ++ [(e, [10])] ∨ (ss = ss0 ∧ e = []))) := by
      intro e e2
      refine ⟨fun _ => e2, fun ss z => ?_⟩
      rw [spansF, e] at z
      cases z
    by_cases h1 : c = 93
    · subst h1
      refine bad ?_ ?_
      · rw [spanAt, if_pos rfl]
      · rw [shape, if_neg (by omega), if_neg (by omega), if_pos rfl]
    · by_cases h2 : c = 91
      · subst h2
        have hsp : spanAt (91 :: r) = brSpan r := by rw [spanAt, if_neg (by omega), if_pos rfl]
        have hsh : shape .plain (91 :: r) = shape (.marks []) r := by rw [shape, if_neg (by omega), if_pos rfl]
        obtain ⟨m1, m2⟩ := markRun_rest r
        have hml : (markRun r).2.length ≤ r.length := by
          have := congrArg List.length m1
          rw [List.length_append] at this
          omega
        have hsub : ∀ x ∈ (markRun r).2, x ∈ r := fun x hx => by rw [m1]; exact List.mem_append_right _ hx
        rw [shape_marks] at hsh
        unfold brSpan at hsp
        generalize (markRun r).2 = tl at *
        generalize (markRun r).1 = m at *
        rcases m2 with m2 | ⟨c', r', m2, m3⟩
        · subst m2
          exact bad hsp hsh
        · subst m2
          dsimp only at hsp hsh
          rw [List.nil_append] at hsh
          by_cases k1 : c' = 124
          · rw [if_pos k1] at hsp hsh
            rw [shape_inside r'.length r' m [] (Nat.le_refl _)] at hsh
            unfold clSpan at hsp
            cases hq : signRun r' with
            | none =>
              rw [hq] at hsp hsh
              exact bad hsp hsh
            | some x =>
              obtain ⟨s, rest⟩ := x
              rw [hq] at hsp hsh
              obtain ⟨b1, b2, b3, b4, b5, b6⟩ := signRun_rest r'.length r' s rest (Nat.le_refl _) hq
              rcases b4 with b4 | ⟨d, rest', b4, b7⟩
              · subst b4
                exact bad hsp hsh
              · subst b4
                dsimp only at hsp hsh
                by_cases k2 : d = 91
                · rw [if_pos k2] at hsp
                  rw [if_neg (by omega)] at hsh
                  exact bad hsp hsh
                · rw [if_neg k2] at hsp
                  rw [if_pos (by omega), List.nil_append] at hsh
                  have c1 : rest'.length ≤ f := by
                    rw [List.length_cons] at b1 hml
                    omega
                  have c2 : ∀ x, x ∈ rest' → x ∈ (91 : Nat) :: r := fun x hx => List.mem_cons_of_mem _ (hsub x (List.mem_cons_of_mem _ (b2 x (List.mem_cons_of_mem _ hx))))
                  have c3 : ∀ x, x ∈ s → x ∈ (91 : Nat) :: r := fun x hx => List.mem_cons_of_mem _ (hsub x (List.mem_cons_of_mem _ (b3 x hx)))
                  exact step (m, s) rest' [(m, s)] hsp c1 (fun z => h10 (c2 _ z)) (Rr.refl _) (fun z => h10 (c3 _ z)) (by rw [hsh]; rfl)
          · rw [if_neg k1] at hsp hsh
            by_cases k2 : c' = 93
            · rw [if_pos k2] at hsh
              by_cases k3 : r' = []
              · subst k3
                rw [if_pos ⟨k2, rfl⟩] at hsp
                refine ⟨fun z => ?_, fun ss z => ?_⟩
                · rw [spansF, hsp] at z
                  cases f <;> cases z
                · rw [spansF, hsp] at z
                  have e0 : spansF f [] = some [] := by cases f <;> rfl
                  dsimp only at z
                  rw [e0] at z
                  have e1 := Option.some.inj (show some [(m, ([10] : Text))] = some ss from z)
                  subst e1
                  exact ⟨[], m, [], hsh, Rr.refl _, fun x hx => (by cases hx), .inl rfl⟩
              · rw [if_neg (fun z => k3 z.2)] at hsp
                refine bad hsp ?_
                rw [hsh]
                cases r' with
                | nil => exact absurd rfl k3
                | cons x y => rfl
            · rw [if_neg k2] at hsh
              rw [if_neg (fun z => k2 z.1)] at hsp
              exact bad hsp hsh
      · have hsp : spanAt (c :: r) = (signRun (c :: r)).map fun x => (([], x.1), x.2) := by rw [spanAt, if_neg h1, if_neg h2]
        have hsh := shape_plain (c :: r).length (c :: r) (Nat.le_refl _)
        cases hq : signRun (c :: r) with
        | none =>
          rw [hq] at hsp hsh
          exact bad hsp hsh
        | some x =>
          obtain ⟨s, rest⟩ := x
          rw [hq] at hsp hsh
          obtain ⟨b1, b2, b3, b4, b5, b6⟩ := signRun_rest (c :: r).length (c :: r) s rest (Nat.le_refl _) hq
          have b7 := b6 c r rfl h2 h1
          rw [List.length_cons] at b7
          exact step ([], s) rest (singles s) hsp (by omega) (fun z => h10 (b2 _ z)) (Rr.singles s) (fun z => h10 (b3 _ z)) hsh
/-- the spans of a line, its end among them -/
def spansOf (l : Text) : Option (List (Text × Text)) := (spansF l.length l).map finish
theorem all_marked {p : Text → Bool} (h0 : p [] = true) : ∀ rs : List (Text × Text), (rs.all fun r => p r.1) = (markeds rs).all p
  | [] => rfl
  | r :: rs => by
    have ih := all_marked h0 rs
    unfold markeds at ih ⊢
    rw [List.all_cons, ih, List.map_cons, List.filter_cons]
    by_cases e : r.1 = []
    · rw [e, h0]
      rfl
    · have e2 : (!r.1.isEmpty) = true := by
        cases z : r.1 with
        | nil => exact absurd z e
        | cons _ _ => rfl
      rw [if_pos e2, List.all_cons]
theorem flat_map {β : Type} (f : Text → Nat → β) : ∀ rs : List (Text × Text), (rs.flatMap fun r => r.2.map (f r.1)) = (flat rs).map fun x => f x.1 x.2
  | [] => rfl
  | r :: rs => by
    have ih := flat_map f rs
    unfold flat at ih ⊢
    rw [List.flatMap_cons, List.flatMap_cons, List.map_append, ih, List.map_map]
    rfl
theorem finish_ok {ss ss0 : List (Text × Text)} {e : Text} (h : ∀ x ∈ ss0, 10 ∉ x.2) (k : ss = ss0 ++ [(e, [10])] ∨ (ss = ss0 ∧ e = [])) : finish ss = ss0 ++ [(e, [10])] := by
  unfold finish
  rcases k with k | ⟨k, k2⟩
  · subst k
    rw [if_neg]
    rw [List.getLast?_append]
    simp
  · subst k k2
    rw [if_pos]
    rcases List.eq_nil_or_concat ss with z | ⟨l, x, z⟩
    · exact .inl z
    · refine .inr fun y => ?_
      subst z
      rw [List.concat_eq_append, List.getLast?_append] at y
      have y2 : x.2 = [10] := Option.some.inj (by simpa using y)
      exact h x (by simp) (by rw [y2]; exact List.mem_cons_self)
/-- a paragraph's line by its spans -/
theorem paragraph_spans (table : List Vatrka.Change) (l : Text) (hs : sound (l, true) = true) : paragraph table (l, true) = (match spansOf l with
    | none => .error 2
    | some fs => if (fs.all fun r => (itemsOf r.1).all fun i => i.isSome) = false then .error 3
      else if (fs.all fun r => (told r.1).all (inRange table.length)) = false then .error 4
      else if (fs.all fun r => fits table (told r.1)) = false then .error 5
      else .ok (fs.flatMap fun r => r.2.map (dressed r.1))) := by
  have h10 : 10 ∉ l := fun z => by
    unfold sound at hs
    rw [Bool.and_eq_true] at hs
    have := List.all_eq_true.mp hs.2 10 z
    exact absurd this (by decide)
  unfold paragraph spansOf
  rw [if_neg (by rw [hs]; decide)]
  obtain ⟨i1, i2⟩ := spans_ok l.length l (Nat.le_refl _) h10
  cases hq : spansF l.length l with
  | none => rw [i1 hq]; rfl
  | some ss =>
    obtain ⟨rs, e, ss0, a1, a2, a3, a4⟩ := i2 ss hq
    have hf := finish_ok a3 a4
    rw [a1]
    show (let all := rs.map (fun r => r.1) ++ [e]
      if (all.any fun m => (itemsOf m).any fun i => i.isNone) = true then Except.error 3
      else if (all.all fun m => (told m).all (inRange table.length)) = false then Except.error 4
      else if (all.all fun m => fits table (told m)) = false then Except.error 5
      else Except.ok (rs.flatMap (fun r => r.2.map (dressed r.1)) ++ [dressed e Vatrka.END])) = if ((finish ss).all fun r => (itemsOf r.1).all fun i => i.isSome) = false then Except.error 3
      else if ((finish ss).all fun r => (told r.1).all (inRange table.length)) = false then Except.error 4
      else if ((finish ss).all fun r => fits table (told r.1)) = false then Except.error 5
      else Except.ok ((finish ss).flatMap fun r => r.2.map (dressed r.1))
    rw [hf]
    dsimp only
    have key : ∀ p : Text → Bool, p [] = true → ((rs.map (fun r => r.1) ++ [e]).all p) = ((ss0 ++ [(e, [10])]).all fun r => p r.1) := by
      intro p h0
      rw [List.all_append, List.all_append, all_marked h0 ss0, ← a2.ms, ← all_marked h0 rs, List.all_map]
      rfl
    have k1 : ((rs.map (fun r => r.1) ++ [e]).any fun m => (itemsOf m).any fun i => i.isNone) = !((ss0 ++ [(e, [10])]).all fun r => (itemsOf r.1).all fun i => i.isSome) := by
      rw [← key (fun m => (itemsOf m).all fun i => i.isSome) rfl, List.not_all_eq_any_not]
      congr 1
      funext m
      rw [List.not_all_eq_any_not]
      congr 1
      funext i
      cases i <;> rfl
    rw [k1, key (fun m => (told m).all (inRange table.length)) rfl, key (fun m => fits table (told m)) rfl]
    have k2 : rs.flatMap (fun r => r.2.map (dressed r.1)) ++ [dressed e Vatrka.END] = (ss0 ++ [(e, [10])]).flatMap fun (r : Text × Text) => r.2.map (dressed r.1) := by
      rw [List.flatMap_append, flat_map, flat_map, a2.fl]
      rfl
    rw [k2]
    cases ((ss0 ++ [(e, [10])]).all fun r => (itemsOf r.1).all fun i => i.isSome) <;> rfl
end Tm
namespace Tm
open Vatrkd
/-! ### items -/
def tellsP : Text → Bool
  | [] => false
  | c :: r => isLetter c && (numeral r).isSome
theorem isLetter_iff {c : Nat} : isLetter c = true ↔ 97 ≤ c ∧ c ≤ 100 := by
  unfold isLetter
  rw [Bool.and_eq_true, decide_eq_true_eq, decide_eq_true_eq]
theorem cut_none {sep : Nat} : ∀ {l : Text}, sep ∉ l → cutAt sep l = [l]
  | [], _ => rfl
  | c :: r, h => by
    have h1 : c ≠ sep := fun z => h (by rw [z]; exact List.mem_cons_self)
    have ih := cut_none (sep := sep) (l := r) fun z => h (List.mem_cons_of_mem _ z)
    unfold cutAt
    rw [if_neg h1, ih]
theorem cut_first {sep : Nat} : ∀ {a b : Text}, sep ∉ a → cutAt sep (a ++ sep :: b) = a :: cutAt sep b
  | [], b, _ => by
    show cutAt sep (sep :: b) = _
    conv => lhs; unfold cutAt
    rw [if_pos rfl]
  | c :: a, b, h => by
    have h1 : c ≠ sep := fun z => h (by rw [z]; exact List.mem_cons_self)
    have ih := cut_first (sep := sep) (a := a) (b := b) fun z => h (List.mem_cons_of_mem _ z)
    show cutAt sep (c :: (a ++ sep :: b)) = _
    conv => lhs; unfold cutAt
    rw [if_neg h1, ih]
theorem cut_two {sep : Nat} {l : Text} (h : sep ∈ l) : ∃ x y r, cutAt sep l = x :: y :: r := by
  induction l with
  | nil => cases h
  | cons c r ih =>
    by_cases e : c = sep
    · subst e
      cases z : cutAt c r with
      | nil => exact absurd z (cutAt_ne c r)
      | cons w ws =>
        refine ⟨[], w, ws, ?_⟩
        conv => lhs; unfold cutAt
        rw [if_pos rfl, z]
    · have hm : sep ∈ r := by
        rcases List.mem_cons.mp h with z | z
        · exact absurd z.symm e
        · exact z
      obtain ⟨x, y, r', e2⟩ := ih hm
      refine ⟨c :: x, y, r', ?_⟩
      conv => lhs; unfold cutAt
      rw [if_neg e, e2]
theorem pend_none {l : Text} (h : 58 ∉ l) : pendOf l = none := by
  unfold pendOf
  rw [cut_none h]
/-- by the first colon -/
theorem pend_split {a b : Text} (h : 58 ∉ a) : pendOf (a ++ 58 :: b) = (match b with
    | [] => none
    | k :: r => if isLetter k = true then (match numeral a, numeral r with
      | some c, some v => some (.pend c (k - 97) v)
      | _, _ => none) else none) := by
  unfold pendOf
  rw [cut_first h]
  by_cases h2 : 58 ∈ b
  · obtain ⟨x, y, r', e⟩ := cut_two h2
    rw [e]
    cases b with
    | nil => cases h2
    | cons k r =>
      have lhs : pendOf (a ++ 58 :: k :: r) = none := by
        unfold pendOf
        rw [cut_first h, e]
        cases x <;> rfl
      have lhs2 := lhs
      unfold pendOf at lhs2
      rw [cut_first h, e] at lhs2
      rw [lhs2]
      dsimp only
      by_cases h3 : isLetter k = true
      · rw [if_pos h3]
        have hk := isLetter_iff.mp h3
        have hr : 58 ∈ r := by
          rcases List.mem_cons.mp h2 with z | z
          · omega
          · exact z
        have hn : numeral r = none := by
          cases z : numeral r with
          | none => rfl
          | some n =>
            have := (numeral_val z).2.2.1 58 hr
            omega
        rw [hn]
        cases numeral a <;> rfl
      · rw [if_neg h3]
  · rw [cut_none h2]
    cases b with
    | nil => rfl
    | cons k r => rfl
theorem pend_some {a b : Text} (h : 58 ∉ a) {it : Item} (e : pendOf (a ++ 58 :: b) = some it) : ∃ c k r v, numeral a = some c ∧ b = k :: r ∧ isLetter k = true ∧ numeral r = some v ∧ it = .pend c (k - 97) v := by
  rw [pend_split h] at e
  cases b with
  | nil => cases e
  | cons k r =>
    dsimp only at e
    by_cases h3 : isLetter k = true
    · rw [if_pos h3] at e
      cases z1 : numeral a with
      | none => rw [z1] at e; cases e
      | some c =>
        cases z2 : numeral r with
        | none => rw [z1, z2] at e; cases e
        | some v =>
          rw [z1, z2] at e
          exact ⟨c, k, r, v, rfl, rfl, h3, z2, (Option.some.inj e).symm⟩
    · rw [if_neg h3] at e; cases e
theorem pend_bad {a b : Text} (h : 58 ∉ a) (k : ¬ ((numeral a).isSome = true ∧ tellsP b = true)) : pendOf (a ++ 58 :: b) = none := by
  cases e : pendOf (a ++ 58 :: b) with
  | none => rfl
  | some it =>
    obtain ⟨c, x, r, v, h1, h2, h3, h4, _⟩ := pend_some h e
    refine absurd ⟨by rw [h1]; rfl, ?_⟩ k
    rw [h2]
    show (isLetter x && (numeral r).isSome) = true
    rw [h3, h4]
    rfl
/-- the four numbers of an item -/
def cap (n : Nat) : Nat := n
def it4 : Item → Nat × Nat × Nat × Nat
  | .look k v => (0, 0, k, cap v)
  | .ins c => (43, cap c, 0, 0)
  | .del c => (45, cap c, 0, 0)
  | .tag t => (35, cap t, 0, 0)
  | .pend c k v => (42, cap c, k, cap v)
theorem cap_le {n b : Nat} (h : b < 10 ^ 18) : cap n ≤ b ↔ n ≤ b := by
  unfold cap
  omega
theorem cap_of {n b : Nat} (h : b < 10 ^ 18) (k : n ≤ b) : cap n = n := by
  unfold cap
  omega
theorem cap_pos {n : Nat} : 1 ≤ cap n ↔ 1 ≤ n := by
  unfold cap
  omega
end Tm
namespace Tm
open Vatrkd Vatrka
/-! ### what items put on a piece -/
def insN (its : List Item) : List Nat := its.filterMap fun | .ins c => some c | _ => none
def delN (its : List Item) : List Nat := its.filterMap fun | .del c => some c | _ => none
def tagN (its : List Item) : List Nat := its.filterMap fun | .tag c => some c | _ => none
def pendN (its : List Item) : List Pending := its.filterMap fun | .pend c k v => some { change := c, prop := k, value := v } | _ => none
def lookS (l : List Nat) : Item → List Nat
  | .look k v => l.set k v
  | _ => l
theorem wear_all : ∀ (its : List Item) (x : Piece), (its.foldl wear x).sign = x.sign ∧ (its.foldl wear x).look = its.foldl lookS x.look ∧ (its.foldl wear x).ins = x.ins ++ insN its ∧ (its.foldl wear x).del = x.del ++ delN its ∧
    (its.foldl wear x).pend = x.pend ++ pendN its ∧ (its.foldl wear x).tags = (tagN its).foldl (fun ts t => withTag t ts) x.tags
  | [], x => by simp [insN, delN, pendN, tagN]
  | it :: r, x => by
    have ih := wear_all r (wear x it)
    rw [List.foldl_cons, List.foldl_cons]
    obtain ⟨h1, h2, h3, h4, h5, h6⟩ := ih
    rw [h1, h2, h3, h4, h5, h6]
    cases it with
    | look k v => exact ⟨rfl, rfl, rfl, rfl, rfl, rfl⟩
    | ins c => exact ⟨rfl, rfl, by simp [wear, insN], rfl, rfl, rfl⟩
    | del c => exact ⟨rfl, rfl, rfl, by simp [wear, delN], rfl, rfl⟩
    | pend c k v => exact ⟨rfl, rfl, rfl, rfl, by simp [wear, pendN], rfl⟩
    | tag t => exact ⟨rfl, rfl, rfl, rfl, rfl, by simp [wear, tagN]⟩
theorem withTag_perm {t : Nat} : ∀ {l : List Nat}, t ∉ l → (withTag t l).Perm (t :: l)
  | [], _ => List.Perm.refl _
  | u :: r, h => by
    unfold withTag
    by_cases h1 : t < u
    · rw [if_pos h1]
    · rw [if_neg h1]
      have h2 : t ≠ u := fun z => h (by rw [z]; exact List.mem_cons_self)
      rw [if_neg h2]
      exact ((withTag_perm fun z => h (List.mem_cons_of_mem _ z)).cons u).trans (List.Perm.swap t u r)
theorem withTag_mem {t x : Nat} : ∀ {l : List Nat}, x ∈ withTag t l → x = t ∨ x ∈ l
  | [], h => .inl (List.mem_singleton.mp h)
  | u :: r, h => by
    unfold withTag at h
    by_cases h1 : t < u
    · rw [if_pos h1] at h
      rcases List.mem_cons.mp h with z | z
      · exact .inl z
      · exact .inr z
    · rw [if_neg h1] at h
      by_cases h2 : t = u
      · rw [if_pos h2] at h; exact .inr h
      · rw [if_neg h2] at h
        rcases List.mem_cons.mp h with z | z
        · exact .inr (by rw [z]; exact List.mem_cons_self)
        · rcases withTag_mem z with y | y
          · exact .inl y
          · exact .inr (List.mem_cons_of_mem _ y)
theorem withTag_sorted {t : Nat} : ∀ {l : List Nat}, l.Pairwise (· < ·) → (withTag t l).Pairwise (· < ·)
  | [], _ => List.pairwise_singleton _ _
  | u :: r, h => by
    have h0 := List.pairwise_cons.mp h
    unfold withTag
    by_cases h1 : t < u
    · rw [if_pos h1]
      refine List.pairwise_cons.mpr ⟨fun x hx => ?_, h⟩
      rcases List.mem_cons.mp hx with z | z
      · rw [z]; exact h1
      · exact Nat.lt_trans h1 (h0.1 x z)
    · rw [if_neg h1]
      by_cases h2 : t = u
      · rw [if_pos h2]; exact h
      · rw [if_neg h2]
        refine List.pairwise_cons.mpr ⟨fun x hx => ?_, withTag_sorted h0.2⟩
        rcases withTag_mem hx with z | z
        · omega
        · exact h0.1 x z
theorem tags_perm : ∀ (ts acc : List Nat), (acc ++ ts).Nodup → acc.Pairwise (· < ·) → (ts.foldl (fun a t => withTag t a) acc).Perm (acc ++ ts) ∧ (ts.foldl (fun a t => withTag t a) acc).Pairwise (· < ·)
  | [], acc, _, hs => by rw [List.append_nil]; exact ⟨List.Perm.refl _, hs⟩
  | t :: ts, acc, hn, hs => by
    have ht : t ∉ acc := fun z => by
      rw [List.nodup_append] at hn
      exact hn.2.2 t z t List.mem_cons_self rfl
    have p1 := withTag_perm ht
    have hn2 : (withTag t acc ++ ts).Nodup := by
      have : (withTag t acc ++ ts).Perm (acc ++ t :: ts) := (p1.append_right ts).trans List.perm_middle.symm
      exact this.nodup_iff.mpr hn
    obtain ⟨a1, a2⟩ := tags_perm ts (withTag t acc) hn2 (withTag_sorted hs)
    exact ⟨a1.trans ((p1.append_right ts).trans List.perm_middle.symm), a2⟩
/-- rising lists of the same numbers are one -/
theorem sorted_same : ∀ {l m : List Nat}, l.Perm m → l.Pairwise (· ≤ ·) → m.Pairwise (· < ·) → l = m
  | [], m, h, _, _ => (List.nil_perm.mp h).symm ▸ rfl
  | x :: l, [], h, _, _ => absurd h.length_eq (by simp)
  | x :: l, y :: m, h, hl, hm => by
    have hl' := List.pairwise_cons.mp hl
    have hm' := List.pairwise_cons.mp hm
    have e : x = y := by
      have hy : y ∈ x :: l := h.mem_iff.mpr List.mem_cons_self
      have hx : x ∈ y :: m := h.mem_iff.mp List.mem_cons_self
      rcases List.mem_cons.mp hy with z | z
      · exact z.symm
      · rcases List.mem_cons.mp hx with u | u
        · exact u
        · have a1 := hl'.1 y z
          have a2 := hm'.1 x u
          omega
    subst e
    rw [sorted_same h.cons_inv hl'.2 hm'.2]
/-- items that stand together: no tag twice -/
theorem noClash_tags : ∀ {its : List Item}, noClash its = true → (tagN its).Nodup
  | [], _ => List.nodup_nil
  | it :: r, h => by
    have h' : ((r.all fun y => !clash it y) && noClash r) = true := h
    rw [Bool.and_eq_true] at h'
    have ih := noClash_tags h'.2
    cases it with
    | tag t =>
      show (t :: tagN r).Nodup
      refine List.nodup_cons.mpr ⟨fun z => ?_, ih⟩
      obtain ⟨y, hy, e⟩ := List.mem_filterMap.mp z
      cases y with
      | tag u =>
        have e2 : u = t := Option.some.inj e
        have := List.all_eq_true.mp h'.1 (.tag u) hy
        rw [e2] at this
        simp [clash] at this
      | look _ _ => cases e
      | ins _ => cases e
      | del _ => cases e
      | pend _ _ _ => cases e
    | look _ _ => exact ih
    | ins _ => exact ih
    | del _ => exact ih
    | pend _ _ _ => exact ih
/-- a property's place -/
def placeOk : Item → Bool
  | .look k _ => decide (k < 4)
  | .pend _ k _ => decide (k < 4)
  | _ => true
theorem item_place {l : Text} {it : Item} (h : itemOf l = some it) : placeOk it = true := by
  cases l with
  | nil => cases h
  | cons c r =>
    rw [itemOf] at h
    by_cases h1 : isLetter c = true
    · rw [if_pos h1] at h
      obtain ⟨v, _, e⟩ := Option.map_eq_some_iff.mp h
      have := isLetter_iff.mp h1
      subst e
      exact decide_eq_true (by omega)
    · rw [if_neg h1] at h
      by_cases h2 : c = 43
      · rw [if_pos h2] at h
        obtain ⟨v, _, e⟩ := Option.map_eq_some_iff.mp h
        subst e; rfl
      · rw [if_neg h2] at h
        by_cases h3 : c = 45
        · rw [if_pos h3] at h
          obtain ⟨v, _, e⟩ := Option.map_eq_some_iff.mp h
          subst e; rfl
        · rw [if_neg h3] at h
          by_cases h4 : c = 35
          · rw [if_pos h4] at h
            obtain ⟨v, _, e⟩ := Option.map_eq_some_iff.mp h
            subst e; rfl
          · rw [if_neg h4] at h
            by_cases h5 : c = 42
            · rw [if_pos h5] at h
              by_cases h6 : 58 ∈ r
              · have key : ∃ a b, r = a ++ 58 :: b ∧ 58 ∉ a := by
                  clear h
                  induction r with
                  | nil => cases h6
                  | cons d r ih =>
                    by_cases e : d = 58
                    · subst e; exact ⟨[], r, rfl, fun z => by cases z⟩
                    · obtain ⟨a, b, e1, e2⟩ := ih (by rcases List.mem_cons.mp h6 with z | z; exact absurd z.symm e; exact z)
                      refine ⟨d :: a, b, by rw [e1]; rfl, fun z => ?_⟩
                      rcases List.mem_cons.mp z with z | z
                      · exact e z.symm
                      · exact e2 z
                obtain ⟨a, b, e1, e2⟩ := key
                subst e1
                obtain ⟨c', k, r', v, _, _, hk, _, e⟩ := pend_some e2 h
                have := isLetter_iff.mp hk
                subst e
                exact decide_eq_true (by omega)
              · rw [pend_none h6] at h; cases h
            · rw [if_neg h5] at h; cases h
theorem told_place (l : Text) : ∀ it ∈ told l, placeOk it = true := by
  intro it h
  unfold told itemsOf at h
  by_cases e : l.isEmpty = true
  · rw [if_pos e] at h; cases h
  · rw [if_neg e] at h
    obtain ⟨o, ho, e2⟩ := List.mem_filterMap.mp h
    obtain ⟨wd, _, e3⟩ := List.mem_map.mp ho
    have e4 : o = some it := e2
    rw [e4] at e3
    exact item_place e3
end Tm
namespace Tm
open Vatrkd
theorem digitsIn_fuel : ∀ (f g n : Nat), n < f → n < g → digitsIn f n = digitsIn g n
  | 0, _, n, h, _ => absurd h (Nat.not_lt_zero _)
  | _, 0, n, _, h => absurd h (Nat.not_lt_zero _)
  | f + 1, g + 1, n, hf, hg => by
    rw [digitsIn, digitsIn]
    by_cases h : n < 10
    · rw [if_pos h, if_pos h]
    · rw [if_neg h, if_neg h, digitsIn_fuel f g (n / 10) (by omega) (by omega)]
theorem digits_lt {n : Nat} (h : n < 10) : digits n = [48 + n] := by
  unfold digits
  rw [digitsIn, if_pos h]
theorem digits_ge {n : Nat} (h : 10 ≤ n) : digits n = digits (n / 10) ++ [48 + n % 10] := by
  unfold digits
  rw [digitsIn, if_neg (by omega), digitsIn_fuel n (n / 10 + 1) (n / 10) (by omega) (by omega)]
theorem dec_snoc (l : Text) (c : Nat) : decN (l ++ [c]) = 10 * decN l + (c - 48) := by
  unfold decN
  rw [List.foldl_append]
  rfl
theorem dec_digits : ∀ (k : Nat) (l : Text), l.length ≤ k → l ≠ [] → (∀ c ∈ l, 48 ≤ c ∧ c ≤ 57) → (1 < l.length → l.head? ≠ some 48) → digits (decN l) = l
  | 0, l, h, hne, _, _ => absurd (List.eq_nil_of_length_eq_zero (by omega)) hne
  | k + 1, l, h, hne, hd, hh => by
    obtain ⟨i, c, e⟩ : ∃ i c, l = i ++ [c] := ⟨l.dropLast, l.getLast hne, (List.dropLast_concat_getLast hne).symm⟩
    subst e
    have hc2 := hd c (by simp)
    rw [dec_snoc]
    cases i with
    | nil =>
      have e0 : decN [] = 0 := rfl
      rw [e0, digits_lt (by omega)]
      simp
      omega
    | cons x r =>
      have hx := hd x (by simp)
      have h48 : x ≠ 48 := fun z => hh (by simp) (by rw [z]; rfl)
      have hge := dec_ge (c := x) (r := r) (by omega)
      have hp : 1 ≤ 10 ^ r.length := Nat.one_le_pow _ _ (by decide)
      have ih := dec_digits k (x :: r) (by simp at h ⊢; omega) (by simp) (fun d hd' => hd d (List.mem_append_left _ hd')) (fun _ z => h48 (Option.some.inj z))
      rw [digits_ge (by omega), show (10 * decN (x :: r) + (c - 48)) / 10 = decN (x :: r) by omega, show (10 * decN (x :: r) + (c - 48)) % 10 = c - 48 by omega, ih, show 48 + (c - 48) = c by omega]
theorem numeral_digits {l : Text} {n : Nat} (h : numeral l = some n) : digits n = l := by
  obtain ⟨e, h1, h2, h3⟩ := numeral_val h
  rw [e]
  exact dec_digits _ l (Nat.le_refl _) h1 h2 h3
theorem digits_all : ∀ (k n : Nat), n ≤ k → ∀ c ∈ digits n, 48 ≤ c ∧ c ≤ 57
  | k, n, h, c, hc => by
    by_cases e : n < 10
    · rw [digits_lt e] at hc
      have := List.mem_singleton.mp hc
      omega
    · match k with
      | 0 => omega
      | k + 1 =>
        rw [digits_ge (by omega)] at hc
        rcases List.mem_append.mp hc with hc | hc
        · exact digits_all k (n / 10) (by omega) c hc
        · have := List.mem_singleton.mp hc
          omega
theorem digits_ne (n : Nat) : digits n ≠ [] := by
  by_cases e : n < 10
  · rw [digits_lt e]; exact fun z => by cases z
  · rw [digits_ge (by omega)]
    exact fun z => by have := congrArg List.length z; simp at this
theorem dec_digits_eq : ∀ (k n : Nat), n ≤ k → decN (digits n) = n
  | k, n, h => by
    by_cases e : n < 10
    · rw [digits_lt e]
      show 10 * 0 + (48 + n - 48) = n
      omega
    · match k with
      | 0 => omega
      | k + 1 =>
        rw [digits_ge (by omega), dec_snoc, dec_digits_eq k (n / 10) (by omega)]
        omega
theorem digits_inj {n m : Nat} (h : digits n = digits m) : n = m := by
  rw [← dec_digits_eq n n (Nat.le_refl _), h, dec_digits_eq m m (Nat.le_refl _)]
end Tm
namespace Tm
open Vatrkd
theorem signRun_sum : ∀ (n : Nat) (l s rest : Text), l.length ≤ n → signRun l = some (s, rest) → s.length + rest.length ≤ l.length := by
  intro n
  induction n with
  | zero =>
    intro t u v ht hs
    have : t = [] := List.eq_nil_of_length_eq_zero (by omega)
    subst this
    obtain ⟨rfl, rfl⟩ := Prod.mk.inj (Option.some.inj (show some (([] : List Nat), ([] : List Nat)) = some (u, v) from hs))
    exact Nat.le_refl _
  | succ n ih =>
    intro t u v ht hs
    cases t with
    | nil =>
      obtain ⟨rfl, rfl⟩ := Prod.mk.inj (Option.some.inj (show some (([] : List Nat), ([] : List Nat)) = some (u, v) from hs))
      exact Nat.le_refl _
    | cons x t =>
      rw [List.length_cons] at ht
      by_cases h1 : x = 91 ∨ x = 93
      · rw [signRun_stop h1] at hs
        obtain ⟨rfl, rfl⟩ := Prod.mk.inj (Option.some.inj hs)
        simp
      · by_cases h2 : x = 92
        · subst h2
          cases t with
          | nil => rw [signRun_last] at hs; cases hs
          | cons y t =>
            rw [signRun_esc] at hs
            obtain ⟨⟨u', v'⟩, e1, e2⟩ := Option.map_eq_some_iff.mp hs
            obtain ⟨rfl, rfl⟩ := Prod.mk.inj e2
            rw [List.length_cons] at ht
            have := ih t u' v' (by omega) e1
            simp
            omega
        · rw [signRun_cons (by omega) (by omega) h2] at hs
          obtain ⟨⟨u', v'⟩, e1, e2⟩ := Option.map_eq_some_iff.mp hs
          obtain ⟨rfl, rfl⟩ := Prod.mk.inj e2
          have := ih t u' v' (by omega) e1
          simp
          omega
theorem spanAt_sum {t : Text} {m s rest : Text} (h : spanAt t = some ((m, s), rest)) : m.length + s.length + rest.length ≤ t.length := by
  cases t with
  | nil => cases h
  | cons c r =>
    rw [spanAt] at h
    by_cases h1 : c = 93
    · rw [if_pos h1] at h; cases h
    · rw [if_neg h1] at h
      by_cases h2 : c = 91
      · rw [if_pos h2] at h
        unfold brSpan at h
        obtain ⟨m1, _⟩ := markRun_rest r
        generalize (markRun r).2 = tl at *
        generalize (markRun r).1 = mm at *
        cases tl with
        | nil => cases h
        | cons d tl =>
          dsimp only at h
          by_cases h3 : d = 124
          · rw [if_pos h3] at h
            unfold clSpan at h
            cases hq : signRun tl with
            | none => rw [hq] at h; cases h
            | some x =>
              obtain ⟨ss, rs⟩ := x
              rw [hq] at h
              have hsum := signRun_sum _ _ _ _ (Nat.le_refl _) hq
              cases rs with
              | nil => cases h
              | cons e rs =>
                dsimp only at h
                by_cases h4 : e = 91
                · rw [if_pos h4] at h; cases h
                · rw [if_neg h4] at h
                  obtain ⟨e1, rfl⟩ := Prod.mk.inj (Option.some.inj h)
                  obtain ⟨rfl, rfl⟩ := Prod.mk.inj e1
                  rw [m1]
                  simp at hsum ⊢
                  omega
          · rw [if_neg h3] at h
            by_cases h4 : d = 93 ∧ tl = []
            · rw [if_pos h4] at h
              obtain ⟨e1, rfl⟩ := Prod.mk.inj (Option.some.inj h)
              obtain ⟨rfl, rfl⟩ := Prod.mk.inj e1
              rw [m1]
              simp
            · rw [if_neg h4] at h; cases h
      · rw [if_neg h2] at h
        obtain ⟨⟨s', rs⟩, e1, e2⟩ := Option.map_eq_some_iff.mp h
        obtain ⟨e3, rfl⟩ := Prod.mk.inj e2
        obtain ⟨rfl, rfl⟩ := Prod.mk.inj e3
        have := signRun_sum _ _ _ _ (Nat.le_refl _) e1
        simp at this ⊢
        omega
def sumS (ss : List (Text × Text)) : Nat := (ss.map fun s => s.1.length + s.2.length).sum
theorem spansF_sum : ∀ (f : Nat) (l : Text) (ss : List (Text × Text)), spansF f l = some ss → sumS ss ≤ l.length
  | f, [], ss, h => by
    have : ss = [] := by cases f <;> exact (Option.some.inj h).symm
    subst this
    exact Nat.zero_le _
  | 0, c :: r, ss, h => by cases h
  | f + 1, c :: r, ss, h => by
    rw [spansF] at h
    cases e : spanAt (c :: r) with
    | none => rw [e] at h; cases h
    | some x =>
      obtain ⟨⟨m, s⟩, rest⟩ := x
      rw [e] at h
      dsimp only at h
      obtain ⟨ss', e1, rfl⟩ := Option.map_eq_some_iff.mp h
      have h1 := spansF_sum f rest ss' e1
      have h2 := spanAt_sum e
      unfold sumS at h1 ⊢
      rw [List.map_cons, List.sum_cons]
      dsimp only
      omega
theorem spansOf_sum {l : Text} {ss : List (Text × Text)} (h : spansOf l = some ss) : sumS ss ≤ l.length + 1 := by
  unfold spansOf at h
  obtain ⟨s0, e, rfl⟩ := Option.map_eq_some_iff.mp h
  have := spansF_sum _ _ _ e
  unfold finish
  split
  · unfold sumS at this ⊢
    rw [List.map_append, List.sum_append]
    show _ + (0 + 1 + 0) ≤ _
    omega
  · omega
theorem sumS_mem : ∀ {ss : List (Text × Text)} {s : Text × Text}, s ∈ ss → s.1.length + s.2.length ≤ sumS ss
  | x :: r, s, h => by
    unfold sumS
    rw [List.map_cons, List.sum_cons]
    rcases List.mem_cons.mp h with rfl | h
    · exact Nat.le_add_right _ _
    · have := sumS_mem h
      unfold sumS at this
      omega
theorem sumS_flat : ∀ (ss : List (Text × Text)), (ss.flatMap fun s => s.2).length ≤ sumS ss
  | [] => Nat.zero_le _
  | x :: r => by
    have := sumS_flat r
    unfold sumS at this ⊢
    rw [List.map_cons, List.sum_cons, List.flatMap_cons, List.length_append]
    omega
theorem told_len (m : Text) : (told m).length ≤ m.length + 1 := by
  unfold told itemsOf
  by_cases h : m.isEmpty = true
  · rw [if_pos h]
    exact Nat.zero_le _
  · rw [if_neg h]
    refine Nat.le_trans (List.length_filterMap_le _ _) ?_
    rw [List.length_map]
    have : ∀ l : Text, (cutAt 32 l).length ≤ l.length + 1 := by
      intro l
      induction l with
      | nil => exact Nat.le_refl _
      | cons c r ih =>
        rw [cutAt]
        by_cases h : c = 32
        · rw [if_pos h, List.length_cons, List.length_cons]
          omega
        · rw [if_neg h]
          cases hq : cutAt 32 r with
          | nil => simp
          | cons w ws =>
            rw [hq] at ih
            simp at ih ⊢
            omega
    exact this m
theorem spansOf_last {l : Text} {ss : List (Text × Text)} (h : spansOf l = some ss) : ∃ m i, ss = i ++ [(m, [10])] := by
  unfold spansOf at h
  obtain ⟨s0, e, rfl⟩ := Option.map_eq_some_iff.mp h
  unfold finish
  split
  · exact ⟨[], s0, rfl⟩
  · rename_i hn
    have h1 : s0 ≠ [] := fun z => hn (.inl z)
    have h2 : (s0.getLast?.map fun x => x.2) = some [10] := Classical.byContradiction fun z => hn (.inr z)
    have e0 := List.dropLast_concat_getLast h1
    rw [List.getLast?_eq_some_getLast h1] at h2
    have h3 : (s0.getLast h1).2 = [10] := Option.some.inj h2
    refine ⟨(s0.getLast h1).1, s0.dropLast, ?_⟩
    conv => lhs; rw [← e0]
    rw [← h3]
end Tm
namespace Tm
open Vatrka (Piece Pending)
/-! ### the look as shown -/
def svL (pend : List Pending) (look : List Nat) (k : Nat) : Nat := match (pend.filter fun y => y.prop == k).getLast? with
  | some y => y.value
  | none => look.getD k 0
theorem sv_cons (y : Pending) (r : List Pending) (look : List Nat) (k : Nat) (h : y.prop < look.length) : svL (y :: r) look k = svL r (look.set y.prop y.value) k := by
  unfold svL
  rw [List.filter_cons]
  by_cases hk : y.prop = k
  · rw [if_pos (beq_iff_eq.mpr hk)]
    cases e : (r.filter fun y => y.prop == k).getLast? with
    | none =>
      rw [List.getLast?_eq_none_iff.mp e]
      show y.value = (look.set y.prop y.value).getD k 0
      rw [← hk, List.getD_eq_getElem?_getD, List.getElem?_set_self h]
      rfl
    | some z =>
      cases e2 : r.filter fun y => y.prop == k with
      | nil => rw [e2] at e; cases e
      | cons a t =>
        rw [e2] at e
        rw [List.getLast?_cons_cons, e]
  · rw [if_neg (fun z => hk (beq_iff_eq.mp z))]
    cases e : (r.filter fun y => y.prop == k).getLast? with
    | none =>
      show look.getD k 0 = (look.set y.prop y.value).getD k 0
      rw [List.getD_eq_getElem?_getD, List.getD_eq_getElem?_getD, List.getElem?_set_ne hk]
    | some z => rfl
theorem sv_nil {look : List Nat} (h : look.length = 4) : Vatrka.props.map (svL [] look) = look := by
  match look, h with
  | [a, b, c, d], _ => rfl
theorem sv_all : ∀ (pend : List Pending) (look : List Nat), look.length = 4 → (∀ y ∈ pend, y.prop < 4) → pend.foldl (fun l y => l.set y.prop y.value) look = Vatrka.props.map (svL pend look)
  | [], look, h, _ => (sv_nil h).symm
  | y :: r, look, h, hp => by
    rw [List.foldl_cons, sv_all r _ (by rw [List.length_set]; exact h) fun z hz => hp z (List.mem_cons_of_mem _ hz)]
    refine List.map_congr_left fun k _ => ?_
    exact (sv_cons y r look k (by rw [h]; exact hp y List.mem_cons_self)).symm
theorem shown_fold {x : Piece} (h : x.look.length = 4) (hp : ∀ y ∈ x.pend, y.prop < 4) : x.pend.foldl (fun l y => l.set y.prop y.value) x.look = Vatrka.shownLook x := sv_all x.pend x.look h hp
end Tm
namespace Tm
open Vatrka (Piece Pending Change bears)
open Vatrkd (Doc)
/-- the changes that a piece bears -/
def chIn (x : Piece) : List Nat := x.ins ++ x.del ++ x.pend.map fun y => y.change
theorem has_iff {l : List Nat} {c : Nat} : Vatrka.has l c = true ↔ c ∈ l := by
  unfold Vatrka.has
  rw [List.any_eq_true]
  exact ⟨fun ⟨u, h, e⟩ => by rw [← beq_iff_eq.mp e]; exact h, fun h => ⟨c, h, beq_iff_eq.mpr rfl⟩⟩
theorem bears_iff {c : Nat} {x : Piece} : bears c x = true ↔ c ∈ chIn x := by
  unfold bears chIn
  rw [Bool.or_eq_true, Bool.or_eq_true, has_iff, has_iff, List.any_eq_true, List.mem_append, List.mem_append, List.mem_map]
  refine ⟨fun h => ?_, fun h => ?_⟩
  · rcases h with h | h | ⟨y, h, e⟩
    · exact .inl (.inl h)
    · exact .inl (.inr h)
    · exact .inr ⟨y, h, beq_iff_eq.mp e⟩
  · rcases h with (h | h) | ⟨y, h, e⟩
    · exact .inl h
    · exact .inr (.inl h)
    · exact .inr (.inr ⟨y, h, beq_iff_eq.mpr e⟩)
theorem any_bears {row : List Piece} {c : Nat} : row.any (bears c) = true ↔ ∃ x ∈ row, c ∈ chIn x := by
  rw [List.any_eq_true]
  exact ⟨fun ⟨x, h, e⟩ => ⟨x, h, bears_iff.mp e⟩, fun ⟨x, h, e⟩ => ⟨x, h, bears_iff.mpr e⟩⟩
theorem chIn_alike {x y : Piece} (h1 : x.ins = y.ins) (h2 : x.del = y.del) (h3 : x.pend = y.pend) : chIn x = chIn y := by
  unfold chIn
  rw [h1, h2, h3]
/-- those borne of the first changes -/
def bU (B : Nat → Bool) (i : Nat) : List Nat := ((List.range i).map fun i => i + 1).filter B
theorem bU_succ (B : Nat → Bool) (i : Nat) : bU B (i + 1) = bU B i ++ (if B (i + 1) = true then [i + 1] else []) := by
  unfold bU
  rw [List.range_succ, List.map_append, List.filter_append]
  show _ ++ [i + 1].filter B = _
  rw [List.filter_cons, List.filter_nil]
theorem bU_mem {B : Nat → Bool} {i c : Nat} (h : c ∈ bU B i) : 1 ≤ c ∧ c ≤ i := by
  obtain ⟨h1, _⟩ := List.mem_filter.mp h
  obtain ⟨j, hj, rfl⟩ := List.mem_map.mp h1
  have := List.mem_range.mp hj
  omega
theorem bU_le (B : Nat → Bool) (j : Nat) : ∀ n, j ≤ n → (bU B n).filter (fun e => decide (e ≤ j)) = bU B j := by
  intro n
  induction n with
  | zero =>
    intro h
    have : j = 0 := by omega
    subst this
    rfl
  | succ n ih =>
    intro h
    by_cases e : j = n + 1
    · subst e
      rw [List.filter_eq_self]
      intro c hc
      exact decide_eq_true (bU_mem hc).2
    · rw [bU_succ, List.filter_append, ih (by omega)]
      have : (if B (n + 1) = true then [n + 1] else []).filter (fun e => decide (e ≤ j)) = [] := by
        split
        · rw [List.filter_cons, if_neg (by intro z; have := of_decide_eq_true z; omega)]
          rfl
        · rfl
      rw [this, List.append_nil]
theorem bU_len (B : Nat → Bool) (i : Nat) : (bU B i).length ≤ i := by
  unfold bU
  refine Nat.le_trans (List.length_filter_le _ _) ?_
  rw [List.length_map, List.length_range]
  exact Nat.le_refl _
/-- the table of those borne of the first changes -/
def tU (tb : List Change) (B : Nat → Bool) (i : Nat) : List Change := (bU B i).filterMap fun c => tb[c - 1]?
theorem tU_succ {tb : List Change} {B : Nat → Bool} {i : Nat} {c : Change} (h : tb[i]? = some c) : tU tb B (i + 1) = tU tb B i ++ (if B (i + 1) = true then [c] else []) := by
  unfold tU
  rw [bU_succ, List.filterMap_append]
  congr 1
  split
  · rw [List.filterMap_cons, Nat.add_sub_cancel, h]
    rfl
  · rfl
theorem tU_len {tb : List Change} {B : Nat → Bool} {i : Nat} (h : i ≤ tb.length) : (tU tb B i).length = (bU B i).length := by
  unfold tU
  have key : ∀ l : List Nat, (∀ c ∈ l, 1 ≤ c ∧ c ≤ tb.length) → (l.filterMap fun c => tb[c - 1]?).length = l.length := by
    intro l
    induction l with
    | nil => intro _; rfl
    | cons c r ih =>
      intro h
      have hc := h c List.mem_cons_self
      rw [List.filterMap_cons, List.getElem?_eq_getElem (by omega)]
      dsimp only
      rw [List.length_cons, List.length_cons, ih fun e he => h e (List.mem_cons_of_mem _ he)]
  exact key _ fun c hc => by have := bU_mem hc; omega
theorem nodup_le : ∀ (n : Nat) (l : List Nat), l.Nodup → (∀ c ∈ l, c < n) → l.length ≤ n
  | 0, l, _, h => by
    cases l with
    | nil => exact Nat.le_refl _
    | cons c r => exact absurd (h c List.mem_cons_self) (Nat.not_lt_zero _)
  | n + 1, l, hd, h => by
    have h1 := nodup_le n (l.erase n) (hd.erase n) fun c hc => by
      have := (hd.mem_erase_iff).mp hc
      have := h c this.2
      omega
    have h2 : l.length ≤ (l.erase n).length + 1 := by
      rw [List.length_erase]
      split <;> omega
    omega
end Tm
namespace Tm
/-! ### calls in one list -/
def isT (c : Int) : Bool := decide (c = 0 ∨ c = 1 ∨ c = 3 ∨ c = 4)
def wb (c : Int) : Nat := if isT c = true then 2 else 1
/-- a call by its number and what it is about -/
def callV (c : Int) (ns : List Int) : Option Vatrkd.Call :=
  if c = 0 then some (.read (VatrkdNeutral.text ns))
  else if c = 1 then some (.strict (VatrkdNeutral.text ns))
  else if c = 2 then some .form
  else if c = 3 then some (.same (VatrkdNeutral.text ns))
  else if c = 4 then some (.join (VatrkdNeutral.text ns))
  else if c = 5 then (match ns with
    | [i, j] => some (.part i j)
    | _ => none)
  else if c = 6 then some .tidy
  else if c = 7 then (match ns with
    | [v] => some (.settle v)
    | _ => none)
  else if c = 8 then (match ns with
    | [v] => some (.plain v)
    | _ => none)
  else if c = 9 then some .pieces
  else if c = 10 then some .table
  else if c = 11 then some .paragraphs
  else none
/-- the place behind a call -/
def behL (c m n : Int) : Int := if isT c = true then n + 2 + m else if c = 5 then n + 3 else if c = 7 ∨ c = 8 then n + 2 else n + 1
theorem cut_text {p : Int} {r : List Int} {c : List (List Int)} {t : List Int} (hs : PyVatrkd.shape p = some (0, 1)) (h : PyFlat.call PyVatrkd.shape (p :: r) = some (c, t)) : ∃ (m : Nat) (r' : List Int), r = (m : Int) :: r' ∧ m ≤ r'.length ∧ c = [[p], r'.take m] ∧ t = r'.drop m := by
  rw [PyFlat.call] at h
  rw [hs] at h
  dsimp only at h
  rw [if_neg (Nat.not_lt_zero _), List.drop_zero, List.take_zero, PyFlat.rows] at h
  cases r with
  | nil => cases h
  | cons m r' =>
    rw [PyFlat.row] at h
    by_cases hc : 0 ≤ m ∧ m.toNat ≤ r'.length
    · rw [if_pos hc] at h
      dsimp only [PyFlat.rows] at h
      obtain ⟨e1, e2⟩ := Prod.mk.inj (Option.some.inj h)
      refine ⟨m.toNat, r', ?_, hc.2, e1.symm, e2.symm⟩
      congr 1
      omega
    · rw [if_neg hc] at h
      cases h
theorem cut_plain {p : Int} {k : Nat} {r : List Int} {c : List (List Int)} {t : List Int} (hs : PyVatrkd.shape p = some (k, 0)) (h : PyFlat.call PyVatrkd.shape (p :: r) = some (c, t)) : k ≤ r.length ∧ c = [p :: r.take k] ∧ t = r.drop k := by
  rw [PyFlat.call] at h
  rw [hs] at h
  dsimp only at h
  by_cases hc : r.length < k
  · rw [if_pos hc] at h; cases h
  · rw [if_neg hc, PyFlat.rows] at h
    obtain ⟨e1, e2⟩ := Prod.mk.inj (Option.some.inj h)
    exact ⟨by omega, e1.symm, e2.symm⟩
structure Cut (p : Int) (r : List Int) (c : List (List Int)) (t : List Int) (b : Nat) (ns : List Int) (k : Vatrkd.Call) : Prop where
  call : callV p ns = some k
  of : VatrkdNeutral.callOf (PyVatrkd.whole c) = some k
  wbb : wb p ≤ b
  len : b ≤ (p :: r).length
  rest : t = (p :: r).drop b
  nums : ns = ((p :: r).drop (wb p)).take (b - wb p)
  second : isT p = true → ∃ m : Int, r[0]? = some m
  beh : ∀ m n : Int, (isT p = true → r[0]? = some m) → behL p m n = n + b
theorem cut_t {p : Int} {r : List Int} {c : List (List Int)} {t : List Int} {f : List Nat → Vatrkd.Call} (hs : PyVatrkd.shape p = some (0, 1)) (hT : isT p = true) (h1 : ∀ ns, callV p ns = some (f (VatrkdNeutral.text ns))) (h2 : ∀ x, VatrkdNeutral.callOf (PyVatrkd.whole [[p], x]) = some (f (VatrkdNeutral.text x)))
    (h : PyFlat.call PyVatrkd.shape (p :: r) = some (c, t)) : ∃ b ns k, Cut p r c t b ns k := by
  obtain ⟨m, r', rfl, hm, rfl, rfl⟩ := cut_text hs h
  have hw : wb p = 2 := by unfold wb; rw [if_pos hT]
  refine ⟨m + 2, r'.take m, _, h1 _, h2 _, by omega, ?_, ?_, ?_, fun _ => ⟨_, rfl⟩, fun m' n hm' => ?_⟩
  · rw [List.length_cons, List.length_cons]; omega
  · rfl
  · rw [hw]
    rfl
  · have := Option.some.inj (hm' hT)
    unfold behL
    rw [if_pos hT, ← this]
    omega
theorem cut_0 {p : Int} {r : List Int} {c : List (List Int)} {t : List Int} {k : Vatrkd.Call} (hs : PyVatrkd.shape p = some (0, 0)) (hT : isT p = false) (h5 : p ≠ 5) (h78 : ¬ (p = 7 ∨ p = 8)) (h1 : callV p [] = some k) (h2 : VatrkdNeutral.callOf (PyVatrkd.whole [[p]]) = some k)
    (h : PyFlat.call PyVatrkd.shape (p :: r) = some (c, t)) : ∃ b ns k, Cut p r c t b ns k := by
  obtain ⟨hm, rfl, rfl⟩ := cut_plain hs h
  have hw : wb p = 1 := by unfold wb; rw [hT]; rfl
  refine ⟨1, [], _, h1, h2, by omega, ?_, rfl, ?_, fun z => (by rw [hT] at z; cases z), fun m' n hm' => ?_⟩
  · rw [List.length_cons]; omega
  · rw [hw]
    rfl
  · unfold behL
    rw [hT, if_neg (by decide), if_neg h5, if_neg h78]
    rfl
theorem call_cut {p : Int} {r : List Int} {c : List (List Int)} {t : List Int} (h : PyFlat.call PyVatrkd.shape (p :: r) = some (c, t)) : ∃ b ns k, Cut p r c t b ns k := by
  by_cases h0 : p = 0
  · subst h0; exact cut_t (f := .read) rfl rfl (fun _ => rfl) (fun _ => rfl) h
  by_cases h1 : p = 1
  · subst h1; exact cut_t (f := .strict) rfl rfl (fun _ => rfl) (fun _ => rfl) h
  by_cases h2 : p = 2
  · subst h2; exact cut_0 rfl rfl (by decide) (by decide) rfl rfl h
  by_cases h3 : p = 3
  · subst h3; exact cut_t (f := .same) rfl rfl (fun _ => rfl) (fun _ => rfl) h
  by_cases h4 : p = 4
  · subst h4; exact cut_t (f := .join) rfl rfl (fun _ => rfl) (fun _ => rfl) h
  by_cases h5 : p = 5
  · subst h5
    obtain ⟨hm, rfl, rfl⟩ := cut_plain (p := 5) (k := 2) rfl h
    match r, hm with
    | x :: y :: r', _ =>
      exact ⟨3, [x, y], _, rfl, rfl, by decide, by rw [List.length_cons, List.length_cons, List.length_cons]; omega, rfl, rfl, fun z => (by cases z), fun m' n _ => rfl⟩
  by_cases h6 : p = 6
  · subst h6; exact cut_0 rfl rfl (by decide) (by decide) rfl rfl h
  by_cases h7 : p = 7
  · subst h7
    obtain ⟨hm, rfl, rfl⟩ := cut_plain (p := 7) (k := 1) rfl h
    match r, hm with
    | x :: r', _ =>
      exact ⟨2, [x], _, rfl, rfl, by decide, by rw [List.length_cons, List.length_cons]; omega, rfl, rfl, fun z => (by cases z), fun m' n _ => rfl⟩
  by_cases h8 : p = 8
  · subst h8
    obtain ⟨hm, rfl, rfl⟩ := cut_plain (p := 8) (k := 1) rfl h
    match r, hm with
    | x :: r', _ =>
      exact ⟨2, [x], _, rfl, rfl, by decide, by rw [List.length_cons, List.length_cons]; omega, rfl, rfl, fun z => (by cases z), fun m' n _ => rfl⟩
  by_cases h9 : p = 9
  · subst h9; exact cut_0 rfl rfl (by decide) (by decide) rfl rfl h
  by_cases h10 : p = 10
  · subst h10; exact cut_0 rfl rfl (by decide) (by decide) rfl rfl h
  by_cases h11 : p = 11
  · subst h11; exact cut_0 rfl rfl (by decide) (by decide) rfl rfl h
  exfalso
  rw [PyFlat.call] at h
  have : PyVatrkd.shape p = none := by
    unfold PyVatrkd.shape
    rw [if_neg h0, if_neg h1, if_neg h2, if_neg h3, if_neg h4, if_neg h5, if_neg h6, if_neg h7, if_neg h8, if_neg h9, if_neg h10, if_neg h11]
  rw [this] at h
  cases h
/-- the answers to the calls that are left -/
def ansR (doc : Vatrkd.Doc) (cs : List (List (List Int))) : List Int := PyFlat.told (PyFlat.played VatrkdNeutral.step (⟨doc⟩ : Vatrkd.State) (cs.map PyVatrkd.whole))
theorem ansR_nil (doc : Vatrkd.Doc) : ansR doc [] = [] := rfl
def ansK (doc : Vatrkd.Doc) (k : Vatrkd.Call) : List Int := VatrkdNeutral.encode (Vatrkd.step ⟨doc⟩ k).2
theorem ansR_cons {doc : Vatrkd.Doc} {c : List (List Int)} {cs : List (List (List Int))} {k : Vatrkd.Call} (h : VatrkdNeutral.callOf (PyVatrkd.whole c) = some k) : ansR doc (c :: cs) = ((ansK doc k).length : Int) :: (ansK doc k ++ ansR (Vatrkd.step ⟨doc⟩ k).1.doc cs) := by
  unfold ansR ansK
  rw [List.map_cons, PyFlat.played]
  unfold VatrkdNeutral.step
  rw [h]
  rfl
theorem answers_is {l : List Int} {cs : List (List (List Int))} (h : PyFlat.calls PyVatrkd.shape l.length l = some cs) : PyVatrkd.answers l = ansR Vatrkd.emptyDoc cs := by
  unfold PyVatrkd.answers PyVatrkd.calls
  rw [h]
  rfl
theorem asked_is {l : List Int} (h : PyVatrkd.answers_asked l = true) : ∃ cs, PyFlat.calls PyVatrkd.shape l.length l = some cs ∧ (PyVatrkd.answers l).length ≤ 10000000 := by
  unfold PyVatrkd.answers_asked at h
  cases e : PyFlat.calls PyVatrkd.shape l.length l with
  | none => rw [e] at h; cases h
  | some cs =>
    rw [e] at h
    simp only [Bool.and_eq_true] at h
    exact ⟨cs, rfl, of_decide_eq_true h.2⟩
end Tm
set_option maxRecDepth 100000
set_option maxHeartbeats 4000000
namespace Td
open PySem PySem.Spec PyProof.Rows L2
def top (i : Nat) : Stmt := PySem.Challenge.pw_trackedtextdesk_s01_answers.main.body.getD i (.Pass ⟨0, 0, 0, 0⟩)
/-- a name of the top holds this value -/
def GV (mg : Str → Option Value) (x : Str) (v : V) : Prop := ∃ u, mg x = some u ∧ RelV v u
theorem pe_gv {X : Cx} {x : Str} {v : V} {pos : Pos} (h : GV X.mg x v) (hg : Gl X x := by rfl) (hd : (x == ("__debug__" : Str)) = false := by decide) : PE X (.Name x pos) (tC v) := by
  obtain ⟨u, e, r⟩ := h
  exact pe_glob hg e r hd
/-- what the names of the top hold, and which names of Python's own stand as they are -/
structure Glob (mg : Str → Option Value) : Prop where
  b_len : mg "len" = none
  b_ord : mg "ord" = none
  b_min : mg "min" = none
  b_max : mg "max" = none
  b_sorted : mg "sorted" = none
  b_any : mg "any" = none
  b_all : mg "all" = none
  b_tuple : mg "tuple" = none
  b_list : mg "list" = none
  b_set : mg "set" = none
  b_enumerate : mg "enumerate" = none
  b_zip : mg "zip" = none
  b_sum : mg "sum" = none
  b_range : mg "range" = none
  b_dict : mg "dict" = none
  b_abs : mg "abs" = none
  c_LINE_END : GV mg "LINE_END" (.int 10)
  c_BLANK : GV mg "BLANK" (.int 32)
  c_LAST_SIGN : GV mg "LAST_SIGN" (.int 126)
  c_TAG : GV mg "TAG" (.int 35)
  c_PENDING_LOOK : GV mg "PENDING_LOOK" (.int 42)
  c_INSERTION : GV mg "INSERTION" (.int 43)
  c_DELETION : GV mg "DELETION" (.int 45)
  c_COLON : GV mg "COLON" (.int 58)
  c_LEFT : GV mg "LEFT" (.int 91)
  c_BACKSLASH : GV mg "BACKSLASH" (.int 92)
  c_RIGHT : GV mg "RIGHT" (.int 93)
  c_BAR : GV mg "BAR" (.int 124)
  c_FIRST_DIGIT : GV mg "FIRST_DIGIT" (.int 48)
  c_LAST_DIGIT : GV mg "LAST_DIGIT" (.int 57)
  c_PROPERTIES : GV mg "PROPERTIES" (.str "abcd")
  c_FIRST_PROPERTY : GV mg "FIRST_PROPERTY" (.int 97)
  c_LAST_PROPERTY : GV mg "LAST_PROPERTY" (.int 100)
  c_STRIDE : GV mg "STRIDE" (.int 18)
  c_STRIDE_RANGE : GV mg "STRIDE_RANGE" (.int 1000000000000000000)
  c_AUTHOR : GV mg "AUTHOR" (.int 0)
  c_TIME : GV mg "TIME" (.int 1)
  c_KIND : GV mg "KIND" (.int 2)
  c_NUMERAL : GV mg "NUMERAL" (.int 3)
  c_PUT : GV mg "PUT" (.int 1)
  c_CUT : GV mg "CUT" (.int 2)
  c_PAINT : GV mg "PAINT" (.int 3)
  c_MOVE : GV mg "MOVE" (.int 4)
  c_SIGN : GV mg "SIGN" (.int 0)
  c_DRESS : GV mg "DRESS" (.int 1)
  c_LOOK : GV mg "LOOK" (.int 0)
  c_INSERTIONS : GV mg "INSERTIONS" (.int 1)
  c_DELETIONS : GV mg "DELETIONS" (.int 2)
  c_PENDING : GV mg "PENDING" (.int 3)
  c_TAGS : GV mg "TAGS" (.int 4)
  c_OWN_LOOK : GV mg "OWN_LOOK" (.int 0)
  c_GREATEST_VALUE : GV mg "GREATEST_VALUE" (.int 99)
  c_GREATEST_TAG : GV mg "GREATEST_TAG" (.int 999)
  c_FINE : GV mg "FINE" (.int 0)
  c_NOT_A_LINE : GV mg "NOT_A_LINE" (.int 1)
  c_NOT_THE_SHAPE : GV mg "NOT_THE_SHAPE" (.int 2)
  c_NOT_THE_WORDS : GV mg "NOT_THE_WORDS" (.int 3)
  c_OUT_OF_RANGE : GV mg "OUT_OF_RANGE" (.int 4)
  c_AT_ODDS : GV mg "AT_ODDS" (.int 5)
  c_END_NOT_PLAIN : GV mg "END_NOT_PLAIN" (.int 6)
  c_LINE_MISSING : GV mg "LINE_MISSING" (.int 7)
  c_AT_FIRST_LINE : GV mg "AT_FIRST_LINE" (.int 0)
  c_AT_CHANGES : GV mg "AT_CHANGES" (.int 1)
  c_AT_PARAGRAPHS : GV mg "AT_PARAGRAPHS" (.int 2)
  c_GREATEST_AUTHOR : GV mg "GREATEST_AUTHOR" (.int 99)
  c_WHOLE : GV mg "WHOLE" (.int 0)
  c_SHOWN : GV mg "SHOWN" (.int 1)
  c_BEFORE : GV mg "BEFORE" (.int 2)
  c_NOT_THE_ONE_FORM : GV mg "NOT_THE_ONE_FORM" (.int 8)
  c_READ : GV mg "READ" (.int 0)
  c_STRICT : GV mg "STRICT" (.int 1)
  c_FORM : GV mg "FORM" (.int 2)
  c_SAME : GV mg "SAME" (.int 3)
  c_JOIN : GV mg "JOIN" (.int 4)
  c_PART : GV mg "PART" (.int 5)
  c_TIDY : GV mg "TIDY" (.int 6)
  c_SETTLE : GV mg "SETTLE" (.int 7)
  c_PLAIN : GV mg "PLAIN" (.int 8)
  c_PIECES : GV mg "PIECES" (.int 9)
  c_TABLE : GV mg "TABLE" (.int 10)
  c_PARAGRAPHS : GV mg "PARAGRAPHS" (.int 11)
/-- a def of the text stands under its name -/
def Stands (K : PySem.W.Frag) (mg : Str → Option Value) (x : Str) (st : Stmt) : Prop := ∃ f fd, Fun K x x st f fd ∧ mg x = some (.ref f)
section
variable {P : Program} {w : World} {K : PySem.W.Frag} {mg : Str → Option Value} {base : Heap}
theorem cal_of {x : Str} {st : Stmt} {N ps : List Str} {k : Nat} {sp : Sp} (D : Stands K mg x st) (S : FnScope N ps (defScope st)) (len : ∀ vs H Q E, sp vs H Q E → vs.length = ps.length)
    (hb : ∀ (kV doc pm : Value) (an : Option Addr) (cdv ct : Value) (us : List Value), us.length = ps.length → bindArgs (PySem.W.fnOf x x (defArgs st) (defBody st) (defScope st) .none kV doc pm an cdv ct) ⟨us, []⟩ = pure (ps.zip us))
    (body : ∀ (f : Addr) (cdv : Value) (A : Around) (outer : List Env) (s : Shared) (H : Hp) (vs : List V) (Q : VK) (E : XK), Room k (A.deeper (envOfC x (defScope st) s.heap.objs.size f cdv)) → sp vs H Q E →
      ∃ t, PSs (cxOf CX0 P w K mg base N x (defScope st) f cdv A outer s H E).nox (defBody st) t ∧ t { nx := fun _ H' => Q .non H', rt := Q } (L2.start N vs) H) : C8.Cal P w K mg base (k + 1) x sp [] := by
  obtain ⟨f, fd, F, hm⟩ := D
  exact ⟨f, fd, ps, [], F.ok S len (body f), hm, F.kp, F.binds hb, .nil⟩
end
section
variable {X : Cx} {k j : Nat} {x : Str} {sp : Sp} {p pos : Pos}
/-- f() -/
theorem pe_c0 (c : C8.Cal X.prog X.w X.K X.mg X.base k x sp []) (hr : Room j X.A) (hk : k ≤ j) (hg : Gl X x) (hd : (x == ("__debug__" : Str)) = false := by decide) : PE X (.Call (.Name x p) [] [] pos) (tCall sp [] E0 tNil) := by
  obtain ⟨f, fd, ps, ds, F, hm, kp, hb, hv⟩ := c.ex
  exact pe_call0 F (hr.mono hk) hg hm kp hb hv pass0 hd
theorem pe_mk0 {C : Addr} (c : C8.Mak X.prog X.w X.K X.mg X.base k x C sp []) (hr : Room j X.A) (hk : k + 1 ≤ j) (hg : Gl X x) (hd : (x == ("__debug__" : Str)) = false := by decide) : PE X (.Call (.Name x p) [] [] pos) (tMake C sp [] E0 tNil) := by
  obtain ⟨f, fd, ps, ds, M, F, hm, hb, hv⟩ := c.ex
  exact pe_make0 M F (hr.mono hk) hg hm hb hv pass0 hd
end
/-! ### values and heaps -/
/-- whole numbers as values -/
def vN (l : List Nat) : List V := l.map fun (n : Nat) => V.int (n : Int)
theorem vN_ints (l : List Nat) : vN l = (l.map fun (n : Nat) => (n : Int)).map V.int := by
  unfold vN
  rw [List.map_map]
  rfl
theorem vN_len (l : List Nat) : (vN l).length = l.length := by
  unfold vN
  rw [List.length_map]
theorem vN_app (l m : List Nat) : vN (l ++ m) = vN l ++ vN m := by
  unfold vN
  rw [List.map_append]
theorem vN_get (l : List Nat) (i : Nat) : (vN l)[i]? = l[i]?.map fun (n : Nat) => V.int (n : Int) := by
  unfold vN
  rw [List.getElem?_map]
theorem vN_drop (l : List Nat) (i : Nat) : (vN l).drop i = vN (l.drop i) := by
  unfold vN
  rw [List.map_drop]
theorem vN_take (l : List Nat) (i : Nat) : (vN l).take i = vN (l.take i) := by
  unfold vN
  rw [List.map_take]
theorem vN_snoc {l : List Nat} {i c : Nat} (h : l[i]? = some c) : vN (l.take (i + 1)) = vN (l.take i) ++ [.int (c : Int)] := by
  rw [List.take_add_one, h, vN_app]
  rfl
theorem vN_int {l : List Nat} {i : Nat} {x : V} (h : (vN l)[i]? = some x) : ∃ c, l[i]? = some c ∧ x = .int (c : Int) := by
  rw [vN_get] at h
  cases e : l[i]? with
  | none => rw [e] at h; cases h
  | some c =>
    rw [e] at h
    exact ⟨c, rfl, (Option.some.inj h).symm⟩
theorem same_upd {H : Hp} {p : Addr} {o : HO} (h : H p = none) : Same H (upd H p o) := fun b x e => by
  rw [upd_ne (ne_of_none e h)]
  exact e
/-- what was free stays so by a store to what was free -/
theorem same_write {H H1 : Hp} {p : Addr} {o : HO} (h : H p = none) (s : Same H H1) : Same H (upd H1 p o) := fun b x e => by
  rw [upd_ne (ne_of_none e h)]
  exact s b x e
theorem int_eq {i j : Int} : (V.int i = V.int j) ↔ i = j := ⟨fun h => V.int.inj h, fun h => by rw [h]⟩
/-- a list's part by two places of it -/
theorem cut_nat {xs : List V} {i j : Nat} (hi : i ≤ xs.length) (hj : j ≤ xs.length) : cutV xs (some (i : Int)) (some (j : Int)) = (xs.drop i).take (j - i) := by
  unfold cutV
  rw [HT.sIx_nat, HT.sIx_nat, Nat.min_eq_left hi, Nat.min_eq_left hj]
theorem cut_from {xs : List V} {i : Nat} (hi : i ≤ xs.length) : cutV xs (some (i : Int)) none = xs.drop i := by
  unfold cutV
  rw [HT.sIx_nat, HT.sIx_none, Nat.min_eq_left hi]
  exact List.take_of_length_le (by rw [List.length_drop]; exact Nat.le_refl _)
theorem cut_to {xs : List V} {j : Nat} (hj : j ≤ xs.length) : cutV xs none (some (j : Int)) = xs.take j := by
  unfold cutV
  rw [HT.sIx_nat, HT.sIx_none, Nat.min_eq_left hj]
  rfl

/-! ### pairs of lists -/
theorem paired_snoc {α β : Type} {F : α → β → Prop} : ∀ {as : List α} {bs : List β} {a : α} {b : β}, Paired F as bs → F a b → Paired F (as ++ [a]) (bs ++ [b])
  | _, _, _, _, .nil, h => .cons h .nil
  | _, _, _, _, .cons r t, h => .cons r (paired_snoc t h)
theorem paired_app {α β : Type} {F : α → β → Prop} : ∀ {as : List α} {bs : List β} {cs : List α} {ds : List β}, Paired F as bs → Paired F cs ds → Paired F (as ++ cs) (bs ++ ds)
  | _, _, _, _, .nil, h => h
  | _, _, _, _, .cons r t, h => .cons r (paired_app t h)
theorem paired_get {α β : Type} {F : α → β → Prop} : ∀ {as : List α} {bs : List β} {i : Nat} {a : α}, Paired F as bs → as[i]? = some a → ∃ b, bs[i]? = some b ∧ F a b
  | _, _, _, _, .nil, h => by simp at h
  | _, _, 0, _, .cons r _, h => by simp at h; subst h; exact ⟨_, rfl, r⟩
  | _, _, i + 1, a, .cons _ t, h => by
    obtain ⟨b, h1, h2⟩ := paired_get (i := i) (a := a) t (by simpa using h)
    exact ⟨b, by simpa using h1, h2⟩
theorem paired_get2 {α β : Type} {F : α → β → Prop} : ∀ {as : List α} {bs : List β} {i : Nat} {b : β}, Paired F as bs → bs[i]? = some b → ∃ a, as[i]? = some a ∧ F a b
  | _, _, _, _, .nil, h => by simp at h
  | _, _, 0, _, .cons r _, h => by simp at h; subst h; exact ⟨_, rfl, r⟩
  | _, _, i + 1, b, .cons _ t, h => by
    obtain ⟨a, h1, h2⟩ := paired_get2 (i := i) (b := b) t (by simpa using h)
    exact ⟨a, by simpa using h1, h2⟩
theorem paired_mem {α β : Type} {F : α → β → Prop} {as : List α} {bs : List β} {a : α} (h : Paired F as bs) (m : a ∈ as) : ∃ b, b ∈ bs ∧ F a b := by
  obtain ⟨i, hi, e⟩ := List.getElem_of_mem m
  obtain ⟨b, h1, h2⟩ := paired_get h (i := i) (a := a) (by rw [List.getElem?_eq_getElem hi, e])
  exact ⟨b, List.mem_of_getElem? h1, h2⟩
end Td
set_option maxRecDepth 100000
set_option maxHeartbeats 4000000
namespace Td
open PySem PySem.Spec PyProof.Rows L2
/-! ### signs -/
abbrev s_numbers_of : Stmt := top 20
abbrev n_numbers_of : List Str := ["words", "letter"]
abbrev p_numbers_of : List Str := ["words"]
theorem sc_numbers_of : FnScope n_numbers_of p_numbers_of (defScope s_numbers_of) := ⟨rfl, rfl, rfl, by decide +kernel, rfl, by decide +kernel, by decide +kernel⟩
abbrev s_is_numeral : Stmt := top 21
abbrev n_is_numeral : List Str := ["numbers"]
abbrev p_is_numeral : List Str := ["numbers"]
theorem sc_is_numeral : FnScope n_is_numeral p_is_numeral (defScope s_is_numeral) := ⟨rfl, rfl, rfl, by decide +kernel, rfl, by decide +kernel, by decide +kernel⟩
abbrev s_value_of_digits : Stmt := top 23
abbrev n_value_of_digits : List Str := ["digits", "value", "digit"]
abbrev p_value_of_digits : List Str := ["digits"]
theorem sc_value_of_digits : FnScope n_value_of_digits p_value_of_digits (defScope s_value_of_digits) := ⟨rfl, rfl, rfl, by decide +kernel, rfl, by decide +kernel, by decide +kernel⟩
abbrev s_value_of : Stmt := top 22
abbrev n_value_of : List Str := ["numeral", "start", "value", "behind"]
abbrev p_value_of : List Str := ["numeral"]
theorem sc_value_of : FnScope n_value_of p_value_of (defScope s_value_of) := ⟨rfl, rfl, rfl, by decide +kernel, rfl, by decide +kernel, by decide +kernel⟩
abbrev s_cut_at_blanks : Stmt := top 24
abbrev n_cut_at_blanks : List Str := ["numbers", "parts", "part", "number"]
abbrev p_cut_at_blanks : List Str := ["numbers"]
theorem sc_cut_at_blanks : FnScope n_cut_at_blanks p_cut_at_blanks (defScope s_cut_at_blanks) := ⟨rfl, rfl, rfl, by decide +kernel, rfl, by decide +kernel, by decide +kernel⟩
section
variable {P : Program} {w : World} {K : PySem.W.Frag} {mg : Str → Option Value} {base : Heap}
/-- the signs of a text, as numbers -/
def codes (z : Str) : List Nat := z.cps.toList
def sp_numbers_of : Sp := fun vs H Q _ => ∃ z : Str, vs = [.str z] ∧ (codes z).length ≤ sizeLine ∧
  ∀ H' p, Same H H' → H p = none → H' p = some (.lst (vN (codes z))) → Q (.ref p) H'
theorem ok_numbers_of {k : Nat} (G : Glob mg) (D : Stands K mg "numbers_of" s_numbers_of) : C8.Cal P w K mg base (k + 1) "numbers_of" sp_numbers_of [] := by
  refine cal_of D sc_numbers_of (fun vs H Q E h => ?_) (fun _ _ _ _ _ _ us hl => match us, hl with | [_], _ => rfl) (fun f cdv A outer s H vs Q E hr h => ?_)
  · obtain ⟨z, rfl, _⟩ := h
    rfl
  · obtain ⟨z, rfl, hz, q⟩ := h
    refine ⟨_, (pss_one (ps_ret (pe_lc (own := [("letter", 1)]) (g := (gName 1)) (tt := tYes) (te := _) rfl sc_numbers_of.nd (pi_str (pv 0)) (blkOk_by (N := ["words", "letter"]) (sc := defScope s_numbers_of) (by decide +kernel)) (fun _ _ _ _ _ => (pg_name (i := 1) sc_numbers_of.nd rfl (Or.inl rfl))) (fun _ _ _ _ _ => pts_nil) (fun _ _ _ _ _ => (pe_callB call_ord (by rfl) G.b_ord (by decide +kernel) (pa_cons (pv 1) pa_nil)))))), ?_⟩
    refine ⟨.str z, rfl, z, rfl, fun D nD => ?_⟩
    refine lc_it walk_str (fun i H1 => Same H H1 ∧ H1 D = some (.lst (vN ((codes z).take i)))) ⟨same_upd nD, upd_same⟩ (fun _ _ _ _ => trivial) (fun i x H1 H2 hi hP hY => ?_) (fun H1 hP => ?_)
    · obtain ⟨rfl, c, hc, rfl⟩ := hY
      have hc' : (codes z)[i]? = some c := by
        show z.cps.toList[i]? = some c
        rw [Array.getElem?_toList]
        exact hc
      refine ⟨rfl, _, rfl, _, rfl, rfl, _, hP.2, ?_, same_write nD hP.1, ?_⟩
      · rw [vN_len, List.length_take]
        have h1 : i < (codes z).length := (List.getElem?_eq_some_iff.mp hc').1
        have h2 := Nat.min_le_left i (codes z).length
        omega
      · rw [upd_same, vN_snoc hc']
        rfl
    · refine q H1 D hP.1 nD ?_
      have e : (codes z).take z.cps.size = codes z := List.take_of_length_le (Nat.le_of_eq (Array.length_toList))
      rw [hP.2, e]
def sp_is_numeral (K : PySem.W.Frag) : Sp := fun vs H Q _ => ∃ (a : Addr) (l : List Nat), vs = [.ref a] ∧ SqL K H a (vN l) ∧ Q (.bl (Vatrkd.numeral l).isSome) H
theorem ok_is_numeral {k : Nat} (G : Glob mg) (D : Stands K mg "is_numeral" s_is_numeral) : C8.Cal P w K mg base (k + 1) "is_numeral" (sp_is_numeral K) [] := by
  refine cal_of D sc_is_numeral (fun vs H Q E h => ?_) (fun _ _ _ _ _ _ us hl => match us, hl with | [_], _ => rfl) (fun f cdv A outer s H vs Q E hr h => ?_)
  · obtain ⟨a, l, rfl, _⟩ := h
    rfl
  · obtain ⟨a, l, rfl, hA, q⟩ := h
    refine ⟨_, (pss_cons (ps_if (PW.pt (pw_or (pt_cmpR op_eq (pe_callB call_len_seq (by rfl) G.b_len (by decide +kernel) (pa_cons (pv 0) pa_nil)) pe_int (nomark _)) (pw_or (pt_cmpR op_lt (pe_callB (cr_min rfl) (by rfl) G.b_min (by decide +kernel) (pa_cons (pv 0) pa_nil)) (pe_gv G.c_FIRST_DIGIT) (nomark _)) (pw_or1 (pt_cmpR op_gt (pe_callB (cr_max rfl) (by rfl) G.b_max (by decide +kernel) (pa_cons (pv 0) pa_nil)) (pe_gv G.c_LAST_DIGIT) (nomark _))))))
      (pss_one (ps_ret pe_bl))
      pss_nil)
      (pss_one (ps_ret (pe_or (pe_cmpR op_eq (pe_callB call_len_seq (by rfl) G.b_len (by decide +kernel) (pa_cons (pv 0) pa_nil)) pe_int (nomark _)) (pe_one (pe_cmpR op_ne (pe_ix ix_list (pv 0) pe_int (fun _ _ => rfl)) (pe_gv G.c_FIRST_DIGIT) (nomark _))))))), ?_⟩
    rw [Tm.numeral_is] at q
    have hI : SqL K H a ((l.map fun (n : Nat) => (n : Int)).map V.int) := by rw [← vN_ints]; exact hA
    refine ⟨.ref a, rfl, a, _, rfl, .inl hA, rfl, _, rfl, ite2 (fun e => ?_) (fun e => ?_)⟩
    · have e0 : ((vN l).length : Int) = 0 := V.int.inj (of_decide_eq_true e)
      rw [vN_len] at e0
      have e1 : l = [] := List.eq_nil_of_length_eq_zero (by omega)
      subst e1
      exact q
    · have e1 : ¬ ((vN l).length : Int) = 0 := fun z => e (decide_eq_true (by rw [z]))
      rw [vN_len] at e1
      have hlen : 0 < (l.map fun (n : Nat) => (n : Int)).length := by rw [List.length_map]; omega
      have hE : l.isEmpty = false := by
        cases l with
        | nil => exact absurd rfl e1
        | cons x r => rfl
      rw [hE, Bool.false_or] at q
      refine ⟨.ref a, rfl, a, _, rfl, hI, hlen, fun m hm hmin => ⟨m, 48, rfl, rfl, _, rfl, ite2 (fun c => ?_) (fun c => ?_)⟩⟩
      · have c' : m < 48 := of_decide_eq_true c
        obtain ⟨n, hn, rfl⟩ := List.mem_map.mp hm
        have hd : l.all Vatrkd.isDigit = false := by
          cases z : l.all Vatrkd.isDigit with
          | false => rfl
          | true =>
            have := (Tm.isDigit_iff.mp (List.all_eq_true.mp z n hn)).1
            omega
        rw [hd] at q
        exact q
      · have c' : ¬ m < 48 := fun z => c (decide_eq_true z)
        refine ⟨.ref a, rfl, a, _, rfl, hI, hlen, fun m2 hm2 hmax => ⟨m2, 57, rfl, rfl, _, rfl, ite2 (fun d => ?_) (fun d => ?_)⟩⟩
        · have d' : 57 < m2 := of_decide_eq_true d
          obtain ⟨n, hn, rfl⟩ := List.mem_map.mp hm2
          have hd : l.all Vatrkd.isDigit = false := by
            cases z : l.all Vatrkd.isDigit with
            | false => rfl
            | true =>
              have := (Tm.isDigit_iff.mp (List.all_eq_true.mp z n hn)).2
              omega
          rw [hd] at q
          exact q
        · have d' : ¬ 57 < m2 := fun z => d (decide_eq_true z)
          have hd : l.all Vatrkd.isDigit = true := by
            refine List.all_eq_true.mpr fun n hn => Tm.isDigit_iff.mpr ?_
            have h1 := hmin (n : Int) (List.mem_map.mpr ⟨n, hn, rfl⟩)
            have h2 := hmax (n : Int) (List.mem_map.mpr ⟨n, hn, rfl⟩)
            omega
          rw [hd, Bool.not_true, Bool.false_or] at q
          refine ⟨.ref a, rfl, a, _, rfl, .inl hA, rfl, _, rfl, ite2 (fun g => ?_) (fun g => ?_)⟩
          · have g0 : ((vN l).length : Int) = 1 := V.int.inj (of_decide_eq_true g)
            rw [vN_len] at g0
            have g1 : decide (1 < l.length) = false := decide_eq_false (by omega)
            rw [g1] at q
            exact q
          · have g0 : ¬ ((vN l).length : Int) = 1 := fun z => g (decide_eq_true (by rw [z]))
            rw [vN_len] at g0
            have g1 : decide (1 < l.length) = true := decide_eq_true (by omega)
            cases l with
            | nil => exact absurd rfl e1
            | cons x r =>
              rw [g1, Bool.true_and] at q
              refine ⟨.ref a, rfl, a, _, 0, .int (x : Int), rfl, rfl, hA, at_of (j := 0) rfl rfl, rfl, ?_⟩
              have e2 : (!decide (V.int (x : Int) = V.int 48)) = !((x :: r).head? == some 48) := by
                by_cases z : x = 48
                · subst z; rfl
                · have z1 : ¬ (V.int (x : Int) = V.int 48) := fun y => z (by have := V.int.inj y; omega)
                  have z2 : ((x :: r).head? == some 48) = false := beq_eq_false_iff_ne.mpr fun y => z (Option.some.inj y)
                  rw [decide_eq_false z1, z2]
              rw [e2]
              exact q
def sp_value_of_digits (K : PySem.W.Frag) : Sp := fun vs H Q _ => ∃ (a : Addr) (l : List Nat), vs = [.ref a] ∧ SqL K H a (vN l) ∧ (∀ c ∈ l, 48 ≤ c ∧ c ≤ 57) ∧ Q (.int (Tm.decN l : Nat)) H
theorem ok_value_of_digits {k : Nat} (G : Glob mg) (D : Stands K mg "value_of_digits" s_value_of_digits) : C8.Cal P w K mg base (k + 1) "value_of_digits" (sp_value_of_digits K) [] := by
  refine cal_of D sc_value_of_digits (fun vs H Q E h => ?_) (fun _ _ _ _ _ _ us hl => match us, hl with | [_], _ => rfl) (fun f cdv A outer s H vs Q E hr h => ?_)
  · obtain ⟨a, l, rfl, _⟩ := h
    rfl
  · obtain ⟨a, l, rfl, hA, hd, q⟩ := h
    refine ⟨_, (pss_cons (ps_set (i := 1) sc_value_of_digits.nd rfl (Or.inl rfl) pe_int)
      (pss_cons (ps_for PassesOwn.never rfl (pi_list (pv 0)) (pg_name (i := 2) sc_value_of_digits.nd rfl (Or.inl rfl))
      (pss_one (ps_set (i := 1) sc_value_of_digits.nd rfl (Or.inl rfl) (pe_op op_sub (pe_op op_add (pe_op op_mul (pv 1) pe_int) (pv 2)) (pe_gv G.c_FIRST_DIGIT)))))
      (pss_one (ps_ret (pv 1))))), ?_⟩
    refine ⟨.ref a, rfl, a, rfl, ⟨_, hA⟩, for_list (xs := vN l) (fun i σ H1 => ∃ y, σ = [some (.ref a), some (.int (Tm.decN (l.take i) : Nat)), y] ∧ H1 = H) ⟨none, rfl, rfl⟩ (fun i σ H1 _ h1 => ?_) (fun i x σ H1 hx hP => ?_) (fun σ H1 hP => ?_)⟩
    · obtain ⟨_, _, rfl⟩ := h1
      exact hA
    · obtain ⟨y, rfl, rfl⟩ := hP
      obtain ⟨c, hc, rfl⟩ := vN_int hx
      have hc2 := hd c (List.mem_of_getElem? hc)
      refine ⟨_, rfl, _, _, rfl, rfl, .inr ⟨by decide, by decide⟩, _, rfl, _, _, rfl, rfl, _, _, rfl, rfl, some (.int (c : Int)), ?_, rfl⟩
      have e2 : Tm.decN (l.take (i + 1)) = 10 * Tm.decN (l.take i) + (c - 48) := by
        unfold Tm.decN
        rw [List.take_add_one, hc, List.foldl_append]
        rfl
      have e3 : ((Tm.decN (l.take i) : Nat) : Int) * 10 + (c : Int) - 48 = ((Tm.decN (l.take (i + 1)) : Nat) : Int) := by
        rw [e2]
        omega
      show [some (V.ref a), some (V.int (((Tm.decN (l.take i) : Nat) : Int) * 10 + (c : Int) - 48)), some (V.int (c : Int))] = _
      rw [e3]
    · obtain ⟨y, rfl, rfl⟩ := hP
      rw [vN_len, List.take_length]
      exact ⟨_, rfl, q⟩
def sp_value_of (K : PySem.W.Frag) : Sp := fun vs H Q _ => ∃ (a : Addr) (l : List Nat), vs = [.ref a] ∧ SqL K H a (vN l) ∧ (∀ c ∈ l, 48 ≤ c ∧ c ≤ 57) ∧ ∀ H', Same H H' → Q (.int (Tm.capN l : Nat)) H'
theorem ok_value_of {k : Nat} (G : Glob mg) (c_value_of_digits : C8.Cal P w K mg base 1 "value_of_digits" (sp_value_of_digits K) []) (D : Stands K mg "value_of" s_value_of) : C8.Cal P w K mg base (k + 2) "value_of" (sp_value_of K) [] := by
  refine cal_of D sc_value_of (fun vs H Q E h => ?_) (fun _ _ _ _ _ _ us hl => match us, hl with | [_], _ => rfl) (fun f cdv A outer s H vs Q E hr h => ?_)
  · obtain ⟨a, l, rfl, _⟩ := h
    rfl
  · obtain ⟨a, l, rfl, hA, hd, q⟩ := h
    refine ⟨_, (pss_cons (ps_set (i := 1) sc_value_of.nd rfl (Or.inl rfl) (pe_op op_mod (pe_callB call_len_seq (by rfl) G.b_len (by decide +kernel) (pa_cons (pv 0) pa_nil)) (pe_gv G.c_STRIDE)))
      (pss_cons (ps_set (i := 2) sc_value_of.nd rfl (Or.inl rfl) (C8.pe_c c_value_of_digits hr (by omega) (by rfl) (pa_cons (pe_slice sl_list (pv 0) po_none (po_some (pv 1))) pa_nil)))
      (pss_cons (ps_while PassesOwn.never (pt_cmpR op_lt (pv 1) (pe_callB call_len_seq (by rfl) G.b_len (by decide +kernel) (pa_cons (pv 0) pa_nil)) (nomark _))
      (pss_cons (ps_set (i := 3) sc_value_of.nd rfl (Or.inl rfl) (pe_op op_add (pv 1) (pe_gv G.c_STRIDE)))
      (pss_cons (ps_set (i := 2) sc_value_of.nd rfl (Or.inl rfl) (pe_op op_add (pe_op op_mul (pv 2) (pe_gv G.c_STRIDE_RANGE)) (C8.pe_c c_value_of_digits hr (by omega) (by rfl) (pa_cons (pe_slice sl_list (pv 0) (po_some (pv 1)) (po_some (pv 3))) pa_nil))))
      (pss_one (ps_set (i := 1) sc_value_of.nd rfl (Or.inl rfl) (pv 3))))))
      (pss_one (ps_ret (pv 2)))))), ?_⟩
    have hm : ((vN l).length : Int) % 18 = ((l.length % 18 : Nat) : Int) := by rw [vN_len]; omega
    have hr18 : l.length % 18 ≤ l.length := Nat.mod_le _ _
    refine ⟨.ref a, rfl, a, _, rfl, .inl hA, _, _, rfl, rfl, show (0 : Int) < 18 by decide, ?_⟩
    show gName 1 (.int (((vN l).length : Int) % 18)) _ _ _
    rw [hm]
    refine ⟨_, rfl, _, rfl, _, rfl, a, _, rfl, hA, fun p np => ?_⟩
    rw [cut_to (by rw [vN_len]; exact hr18), vN_take]
    have s1 : Same H (upd H p (.lst (vN (l.take (l.length % 18))))) := same_upd np
    refine ⟨p, _, rfl, SqL.of upd_same, fun c hc => hd c (List.mem_of_mem_take hc), ?_⟩
    refine ⟨fun m σ H1 => ∃ (n : Nat) (y : Option V), σ = [some (.ref a), some (.int (n : Int)), some (.int (Tm.decN (l.take n) : Nat)), y] ∧ n ≤ l.length ∧ (l.length - n) % 18 = 0 ∧ m = l.length - n ∧ Same H H1,
      ⟨_, l.length % 18, none, rfl, hr18, by omega, rfl, s1⟩, fun m σ H1 hW => ?_⟩
    obtain ⟨n, y, rfl, hn, hn18, hmm, sx⟩ := hW
    have hA1 := sx.seq hA
    refine ⟨_, rfl, _, rfl, a, _, rfl, .inl hA1, _, _, rfl, rfl, _, rfl, ite2 (fun e => ?_) (fun e => ?_)⟩
    · have e1 : n < l.length := by
        have := of_decide_eq_true e
        rw [vN_len] at this
        omega
      refine ⟨fun σ' H' => ∃ m', m' < m ∧ ∃ (n : Nat) (y : Option V), σ' = [some (.ref a), some (.int (n : Int)), some (.int (Tm.decN (l.take n) : Nat)), y] ∧ n ≤ l.length ∧ (l.length - n) % 18 = 0 ∧ m' = l.length - n ∧ Same H H', fun σ' H' h => h, ?_⟩
      refine ⟨_, rfl, _, _, rfl, rfl, ?_⟩
      refine ⟨_, rfl, _, _, rfl, rfl, .inr ⟨by decide, by decide⟩, _, rfl, _, rfl, _, rfl, _, rfl, _, rfl, a, _, rfl, hA1, fun p2 np2 => ?_⟩
      rw [show (n : Int) + 18 = ((n + 18 : Nat) : Int) from rfl, cut_nat (by rw [vN_len]; omega) (by rw [vN_len]; omega), vN_drop, vN_take, show n + 18 - n = 18 by omega]
      refine ⟨p2, _, rfl, SqL.of upd_same, fun c hc => hd c (List.mem_of_mem_drop (List.mem_of_mem_take hc)), _, _, rfl, rfl, ?_⟩
      refine ⟨_, rfl, l.length - (n + 18), by omega, n + 18, some (.int ((n : Int) + 18)), ?_, by omega, by omega, rfl, sx.trans (same_upd np2)⟩
      have e2 : l.take (n + 18) = l.take n ++ (l.drop n).take 18 := by
        rw [List.take_add]
      have e3 : Tm.decN (l.take (n + 18)) = Tm.decN (l.take n) * 1000000000000000000 + Tm.decN ((l.drop n).take 18) := by
        rw [e2, Tm.dec_app, List.length_take, List.length_drop, Nat.min_eq_left (by omega)]
      rw [e3]
      rfl
    · have e1 : n = l.length := by
        have : ¬ ((n : Int) < ((vN l).length : Int)) := fun z => e (decide_eq_true z)
        rw [vN_len] at this
        omega
      subst e1
      rw [List.take_length]
      exact ⟨_, rfl, q _ sx⟩
/-- at p a list of lists of whole numbers, all of them new since H0 -/
def LL (H0 H : Hp) (p : Addr) (ls : List (List Nat)) : Prop := ∃ as : List Addr, H p = some (.lst (as.map V.ref)) ∧ Paired (fun a l => H a = some (.lst (vN l)) ∧ H0 a = none) as ls
theorem LL.same {H0 H H' : Hp} {p : Addr} {ls : List (List Nat)} (s : Same H H') (h : LL H0 H p ls) : LL H0 H' p ls := by
  obtain ⟨as, h1, h2⟩ := h
  exact ⟨as, s _ _ h1, Paired.mapP h2 fun a l e => ⟨s _ _ e.1, e.2⟩⟩
def sp_cut_at_blanks (K : PySem.W.Frag) : Sp := fun vs H Q _ => ∃ (a : Addr) (l : List Nat), vs = [.ref a] ∧ SqL K H a (vN l) ∧ l.length < sizeLine ∧
  ∀ H' p, Same H H' → H p = none → LL H H' p (Vatrkd.cutAt 32 l) → Q (.ref p) H'
theorem cutF_len (sep : Nat) (l : List Nat) : (Tm.cutF sep l).1.length ≤ l.length ∧ (Tm.cutF sep l).2.length ≤ l.length := by
  have key : ∀ (l : List Nat) (d : List (List Nat)) (c : List Nat), (l.foldl (Tm.cutStep sep) (d, c)).1.length ≤ d.length + l.length ∧ (l.foldl (Tm.cutStep sep) (d, c)).2.length ≤ c.length + l.length := by
    intro l
    induction l with
    | nil => intro d c; exact ⟨Nat.le_refl _, Nat.le_refl _⟩
    | cons x r ih =>
      intro d c
      rw [List.foldl_cons, List.length_cons]
      by_cases h : x = sep
      · rw [show Tm.cutStep sep (d, c) x = (d ++ [c], []) from if_pos h]
        have := ih (d ++ [c]) []
        rw [List.length_append, List.length_singleton, List.length_nil] at this
        omega
      · rw [show Tm.cutStep sep (d, c) x = (d, c ++ [x]) from if_neg h]
        have := ih d (c ++ [x])
        rw [List.length_append, List.length_singleton] at this
        omega
  have := key l [] []
  simp only [List.length_nil, Nat.zero_add] at this
  exact this
theorem ok_cut_at_blanks {k : Nat} (G : Glob mg) (D : Stands K mg "cut_at_blanks" s_cut_at_blanks) : C8.Cal P w K mg base (k + 1) "cut_at_blanks" (sp_cut_at_blanks K) [] := by
  refine cal_of D sc_cut_at_blanks (fun vs H Q E h => ?_) (fun _ _ _ _ _ _ us hl => match us, hl with | [_], _ => rfl) (fun f cdv A outer s H vs Q E hr h => ?_)
  · obtain ⟨a, l, rfl, _⟩ := h
    rfl
  · obtain ⟨a, l, rfl, hA, hlen, q⟩ := h
    refine ⟨_, (pss_cons (ps_set (i := 1) sc_cut_at_blanks.nd rfl (Or.inl rfl) (pe_lst pa_nil))
      (pss_cons (ps_set (i := 2) sc_cut_at_blanks.nd rfl (Or.inl rfl) (pe_lst pa_nil))
      (pss_cons (ps_for PassesOwn.never rfl (pi_list (pv 0)) (pg_name (i := 3) sc_cut_at_blanks.nd rfl (Or.inl rfl))
      (pss_one (ps_if (pt_cmpR op_eq (pv 3) (pe_gv G.c_BLANK) (nomark _))
      (pss_cons (ps_expr (pe_bm PySem.F.plainAttrs_list PySem.F.slot_list_append PySem.F.type_list_append mt_append (pv 1) (pa_cons (pv 2) pa_nil)))
      (pss_one (ps_set (i := 2) sc_cut_at_blanks.nd rfl (Or.inl rfl) (pe_lst pa_nil))))
      (pss_one (ps_expr (pe_bm PySem.F.plainAttrs_list PySem.F.slot_list_append PySem.F.type_list_append mt_append (pv 2) (pa_cons (pv 3) pa_nil)))))))
      (pss_cons (ps_expr (pe_bm PySem.F.plainAttrs_list PySem.F.slot_list_append PySem.F.type_list_append mt_append (pv 1) (pa_cons (pv 2) pa_nil)))
      (pss_one (ps_ret (pv 1))))))), ?_⟩
    refine ⟨Nat.zero_le _, fun p np => ?_⟩
    refine ⟨Nat.zero_le _, fun c nc => ?_⟩
    have nc' : H c = none := (same_upd np).free nc
    have hcp : c ≠ p := fun z => by rw [z, upd_same] at nc; cases nc
    have s0 : Same H (upd (upd H p (.lst [])) c (.lst [])) := (same_upd np).trans (same_upd nc)
    refine ⟨.ref a, rfl, a, rfl, ⟨_, s0.seq hA⟩, for_list (xs := vN l) (fun i σ H1 => ∃ (c : Addr) (y : Option V) (as : List Addr), σ = [some (.ref a), some (.ref p), some (.ref c), y] ∧ Same H H1 ∧ H c = none ∧ c ≠ p ∧
        H1 p = some (.lst (as.map V.ref)) ∧ Paired (fun b l => H1 b = some (.lst (vN l)) ∧ b ≠ c ∧ b ≠ p ∧ H b = none) as (Tm.cutF 32 (l.take i)).1 ∧ H1 c = some (.lst (vN (Tm.cutF 32 (l.take i)).2)))
      ⟨c, none, [], rfl, s0, nc', hcp, ?_, .nil, upd_same⟩ (fun i σ H1 _ h1 => ?_) (fun i x σ H1 hx hP => ?_) (fun σ H1 hP => ?_)⟩
    · rw [upd_ne hcp.symm, upd_same]
      rfl
    · obtain ⟨_, _, _, _, s1, _⟩ := h1
      exact s1.seq hA
    · obtain ⟨c, y, as, rfl, s1, nc, hcp, h1, h2, h3⟩ := hP
      obtain ⟨n, hn, rfl⟩ := vN_int hx
      have more := Tm.cutF_more (sep := 32) hn
      have hb := cutF_len 32 (l.take i)
      rw [List.length_take] at hb
      have hil : i < l.length := (List.getElem?_eq_some_iff.mp hn).1
      refine ⟨_, rfl, rfl, _, rfl, ite2 (fun e => ?_) (fun e => ?_)⟩
      · have e1 : n = 32 := by have := V.int.inj (of_decide_eq_true e); omega
        subst e1
        have e2 : Tm.cutF 32 (l.take (i + 1)) = ((Tm.cutF 32 (l.take i)).1 ++ [(Tm.cutF 32 (l.take i)).2], []) := by rw [more]; exact if_pos rfl
        refine ⟨_, rfl, .inl ⟨rfl, _, SqL.of h1⟩, _, rfl, p, _, _, rfl, rfl, h1, ?_, Nat.zero_le _, fun c2 nc2 => ?_⟩
        · rw [List.length_map, Paired.length h2]
          omega
        have s2 : Same H1 (upd (upd H1 p (.lst (as.map V.ref ++ [.ref c]))) c2 (.lst [])) → True := fun _ => trivial
        have hc2p : c2 ≠ p := fun z => by rw [z, upd_same] at nc2; cases nc2
        have nc2' : H1 c2 = none := by rw [upd_ne hc2p] at nc2; exact nc2
        have hcc2 : c ≠ c2 := ne_of_none h3 nc2'
        refine ⟨c2, some (.int (32 : Nat)), as ++ [c], rfl, ?_, s1.free nc2', hc2p, ?_, ?_, ?_⟩
        · exact same_write (s1.free nc2') (same_write np s1)
        · rw [upd_ne hc2p.symm, upd_same, List.map_append]
          rfl
        · rw [e2]
          refine paired_snoc (Paired.mapP h2 fun b l z => ?_) ⟨?_, hcc2, hcp, nc⟩
          · have : b ≠ c2 := ne_of_none z.1 nc2'
            exact ⟨by rw [upd_ne this, upd_ne z.2.2.1]; exact z.1, this, z.2.2⟩
          · rw [upd_ne hcc2, upd_ne hcp]
            exact h3
        · rw [e2, upd_same]
          rfl
      · have e1 : n ≠ 32 := fun z => e (decide_eq_true (by rw [z]; rfl))
        have e2 : Tm.cutF 32 (l.take (i + 1)) = ((Tm.cutF 32 (l.take i)).1, (Tm.cutF 32 (l.take i)).2 ++ [n]) := by rw [more]; exact if_neg e1
        refine ⟨_, rfl, .inl ⟨rfl, _, SqL.of h3⟩, _, rfl, c, _, _, rfl, rfl, h3, ?_, ?_⟩
        · rw [vN_len]
          omega
        refine ⟨c, some (.int (n : Int)), as, rfl, same_write nc s1, nc, hcp, ?_, ?_, ?_⟩
        · rw [upd_ne hcp.symm]
          exact h1
        · rw [e2]
          exact Paired.mapP h2 fun b l z => ⟨by rw [upd_ne z.2.1]; exact z.1, z.2⟩
        · rw [e2, upd_same, vN_app]
          rfl
    · obtain ⟨c, y, as, rfl, s1, nc, hcp, h1, h2, h3⟩ := hP
      rw [vN_len, List.take_length] at h2 h3
      have hb := cutF_len 32 l
      refine ⟨_, rfl, .inl ⟨rfl, _, SqL.of h1⟩, _, rfl, p, _, _, rfl, rfl, h1, ?_, ?_⟩
      · rw [List.length_map, Paired.length h2]
        omega
      refine ⟨_, rfl, q _ p (same_write np s1) np ⟨as ++ [c], ?_, ?_⟩⟩
      · rw [upd_same, List.map_append]
        rfl
      · rw [Tm.cut_eq]
        refine paired_snoc (Paired.mapP h2 fun b l z => ⟨by rw [upd_ne z.2.2.1]; exact z.1, z.2.2.2⟩) ⟨?_, nc⟩
        rw [upd_ne hcp]
        exact h3
end
end Td
set_option maxRecDepth 100000
set_option maxHeartbeats 4000000
namespace Td
open PySem PySem.Spec PyProof.Rows L2
/-! ### classes whose __init__ stores its arguments -/
theorem lk_here {k : Str} {v : V} {r : List (Str × V)} : List.lookup k ((k, v) :: r) = some v := by
  have e : (k == k) = true := beq_self_eq_true k
  simp only [List.lookup, e]
theorem lk_past {k g : Str} {v : V} {r : List (Str × V)} (h : (k == g) = false) : List.lookup k ((g, v) :: r) = List.lookup k r := by
  simp only [List.lookup, h]
theorem put_here {f : Str} {v x : V} {r : List (Str × V)} : putF f v ((f, x) :: r) = (f, v) :: r := if_pos rfl
theorem put_past {f g : Str} {v x : V} {r : List (Str × V)} (h : ¬ g = f) : putF f v ((g, x) :: r) = (g, x) :: putF f v r := if_neg h
/-- the class at C: none of these names is an attribute of the class itself -/
structure CT (K : PySem.W.Frag) (C : Addr) (fs : List Str) : Prop where
  cl : Cls K C
  no : ∀ f ∈ fs, NoAttr K C f
/-- a new instance with its dict -/
def made (H : Hp) (x dx C : Addr) (fs : List (Str × V)) : Hp := upd (upd H dx (.own x)) x (.ins C dx fs)
theorem made_at {H : Hp} {x dx C : Addr} {fs : List (Str × V)} : made H x dx C fs x = some (.ins C dx fs) := upd_same
theorem made_same {H : Hp} {x dx C : Addr} {fs : List (Str × V)} (nx : H x = none) (nd : H dx = none) : Same H (made H x dx C fs) := fun b o e => by
  unfold made
  rw [upd_ne (ne_of_none e nx), upd_ne (ne_of_none e nd)]
  exact e
theorem made_upd {H : Hp} {x dx C : Addr} {fs gs : List (Str × V)} : upd (made H x dx C fs) x (.ins C dx gs) = made H x dx C gs := upd_upd
/-- what such an __init__ promises: the fields in their order -/
def spInit (C : Addr) (ns : List Str) : Sp := fun vs H Q _ => ∃ (p dx : Addr) (us : List V), vs = .ref p :: us ∧ us.length = ns.length ∧ H p = some (.ins C dx []) ∧ Q .non (upd H p (.ins C dx (ns.zip us)))
section
variable {P : Program} {w : World} {K : PySem.W.Frag} {mg : Str → Option Value} {base : Heap}
/-- a class of the text stands under its name, its __init__ is st -/
def StandsC (K : PySem.W.Frag) (mg : Str → Option Value) (x qual : Str) (st : Stmt) (C : Addr) : Prop := ∃ f fd, Mk K C f ∧ Fun K "__init__" qual st f fd ∧ mg x = some (.ref C)
theorem mak_of {x qual : Str} {C : Addr} {st : Stmt} {N ps : List Str} {k : Nat} {sp : Sp} (D : StandsC K mg x qual st C) (S : FnScope N ps (defScope st)) (len : ∀ vs H Q E, sp vs H Q E → vs.length = ps.length)
    (hb : ∀ (kV doc pm : Value) (an : Option Addr) (cdv ct : Value) (us : List Value), us.length = ps.length → bindArgs (PySem.W.fnOf "__init__" qual (defArgs st) (defBody st) (defScope st) .none kV doc pm an cdv ct) ⟨us, []⟩ = pure (ps.zip us))
    (body : ∀ (f : Addr) (cdv : Value) (A : Around) (outer : List Env) (s : Shared) (H : Hp) (vs : List V) (Q : VK) (E : XK), Room k (A.deeper (envOfC qual (defScope st) s.heap.objs.size f cdv)) → sp vs H Q E →
      ∃ t, PSs (cxOf CX0 P w K mg base N qual (defScope st) f cdv A outer s H E).nox (defBody st) t ∧ t { nx := fun _ H' => Q .non H', rt := Q } (L2.start N vs) H) : C8.Mak P w K mg base (k + 1) x C sp [] := by
  obtain ⟨f, fd, M, F, hm⟩ := D
  exact ⟨f, fd, ps, [], M, F.ok S len (body f), hm, F.binds hb, .nil⟩
abbrev s_Document_init : Stmt := inClass (top 42) 0
abbrev n_Document_init : List Str := ["self", "table", "row"]
abbrev p_Document_init : List Str := ["self", "table", "row"]
theorem sc_Document_init : FnScope n_Document_init p_Document_init (defScope s_Document_init) := ⟨rfl, rfl, rfl, by decide +kernel, rfl, by decide +kernel, by decide +kernel⟩
abbrev s_Item_init : Stmt := inClass (top 64) 0
abbrev n_Item_init : List Str := ["self", "mark", "number", "place", "value"]
abbrev p_Item_init : List Str := ["self", "mark", "number", "place", "value"]
theorem sc_Item_init : FnScope n_Item_init p_Item_init (defScope s_Item_init) := ⟨rfl, rfl, rfl, by decide +kernel, rfl, by decide +kernel, by decide +kernel⟩
abbrev s_Span_init : Stmt := inClass (top 77) 0
abbrev n_Span_init : List Str := ["self", "marks", "signs", "behind"]
abbrev p_Span_init : List Str := ["self", "marks", "signs", "behind"]
theorem sc_Span_init : FnScope n_Span_init p_Span_init (defScope s_Span_init) := ⟨rfl, rfl, rfl, by decide +kernel, rfl, by decide +kernel, by decide +kernel⟩
abbrev s_Line_init : Stmt := inClass (top 96) 0
abbrev n_Line_init : List Str := ["self", "numbers", "ended", "last"]
abbrev p_Line_init : List Str := ["self", "numbers", "ended", "last"]
theorem sc_Line_init : FnScope n_Line_init p_Line_init (defScope s_Line_init) := ⟨rfl, rfl, rfl, by decide +kernel, rfl, by decide +kernel, by decide +kernel⟩
abbrev fDoc : List Str := ["table", "row"]
abbrev fItem : List Str := ["mark", "number", "place", "value"]
abbrev fSpan : List Str := ["marks", "signs", "behind"]
abbrev fLine : List Str := ["numbers", "ended", "last"]
theorem mk_Document {C : Addr} {k : Nat} (T : CT K C fDoc) (D : StandsC K mg "Document" "Document.__init__" s_Document_init C) : C8.Mak P w K mg base (k + 1) "Document" C (spInit C fDoc) [] := by
  refine mak_of D sc_Document_init (fun vs H Q E h => ?_) (fun _ _ _ _ _ _ us hl => match us, hl with | [_, _, _], _ => rfl) (fun f cdv A outer s H vs Q E hr h => ?_)
  · obtain ⟨p, dx, us, rfl, hl, _⟩ := h
    rw [List.length_cons, hl]
    rfl
  · obtain ⟨p, dx, us, rfl, hl, hp, q⟩ := h
    match us, hl with
    | [a, b], _ =>
      refine ⟨_, (pss_cons (ps_fld (pv 0) (pv 1) rfl)
      (pss_one (ps_fld (pv 0) (pv 2) rfl))), ?_⟩
      refine ⟨_, rfl, _, rfl, p, C, dx, [], rfl, hp, T.cl, T.no _ (by simp), (by show 0 < 1000; decide), ?_⟩
      refine ⟨_, rfl, _, rfl, p, C, dx, _, rfl, upd_same, T.cl, T.no _ (by simp), (by show 1 < 1000; decide), ?_⟩
      rw [upd_upd, show putF "row" b (putF "table" a []) = fDoc.zip [a, b] from put_past (by decide +kernel)]
      exact q
theorem mk_Span {C : Addr} {k : Nat} (T : CT K C fSpan) (D : StandsC K mg "Span" "Span.__init__" s_Span_init C) : C8.Mak P w K mg base (k + 1) "Span" C (spInit C fSpan) [] := by
  refine mak_of D sc_Span_init (fun vs H Q E h => ?_) (fun _ _ _ _ _ _ us hl => match us, hl with | [_, _, _, _], _ => rfl) (fun f cdv A outer s H vs Q E hr h => ?_)
  · obtain ⟨p, dx, us, rfl, hl, _⟩ := h
    rw [List.length_cons, hl]
    rfl
  · obtain ⟨p, dx, us, rfl, hl, hp, q⟩ := h
    match us, hl with
    | [a, b, c], _ =>
      refine ⟨_, (pss_cons (ps_fld (pv 0) (pv 1) rfl)
      (pss_cons (ps_fld (pv 0) (pv 2) rfl)
      (pss_one (ps_fld (pv 0) (pv 3) rfl)))), ?_⟩
      refine ⟨_, rfl, _, rfl, p, C, dx, [], rfl, hp, T.cl, T.no _ (by simp), (by show 0 < 1000; decide), ?_⟩
      refine ⟨_, rfl, _, rfl, p, C, dx, _, rfl, upd_same, T.cl, T.no _ (by simp), (by show 1 < 1000; decide), ?_⟩
      rw [upd_upd, show putF "signs" b (putF "marks" a []) = (List.zip (["marks", "signs"] : List Str) [a, b]) from put_past (by decide +kernel)]
      refine ⟨_, rfl, _, rfl, p, C, dx, _, rfl, upd_same, T.cl, T.no _ (by simp), (by show 2 < 1000; decide), ?_⟩
      rw [upd_upd, show putF "behind" c (List.zip (["marks", "signs"] : List Str) [a, b]) = fSpan.zip [a, b, c] from (put_past (by decide +kernel)).trans (congrArg _ (put_past (by decide +kernel)))]
      exact q
theorem mk_Line {C : Addr} {k : Nat} (T : CT K C fLine) (D : StandsC K mg "Line" "Line.__init__" s_Line_init C) : C8.Mak P w K mg base (k + 1) "Line" C (spInit C fLine) [] := by
  refine mak_of D sc_Line_init (fun vs H Q E h => ?_) (fun _ _ _ _ _ _ us hl => match us, hl with | [_, _, _, _], _ => rfl) (fun f cdv A outer s H vs Q E hr h => ?_)
  · obtain ⟨p, dx, us, rfl, hl, _⟩ := h
    rw [List.length_cons, hl]
    rfl
  · obtain ⟨p, dx, us, rfl, hl, hp, q⟩ := h
    match us, hl with
    | [a, b, c], _ =>
      refine ⟨_, (pss_cons (ps_fld (pv 0) (pv 1) rfl)
      (pss_cons (ps_fld (pv 0) (pv 2) rfl)
      (pss_one (ps_fld (pv 0) (pv 3) rfl)))), ?_⟩
      refine ⟨_, rfl, _, rfl, p, C, dx, [], rfl, hp, T.cl, T.no _ (by simp), (by show 0 < 1000; decide), ?_⟩
      refine ⟨_, rfl, _, rfl, p, C, dx, _, rfl, upd_same, T.cl, T.no _ (by simp), (by show 1 < 1000; decide), ?_⟩
      rw [upd_upd, show putF "ended" b (putF "numbers" a []) = (List.zip (["numbers", "ended"] : List Str) [a, b]) from put_past (by decide +kernel)]
      refine ⟨_, rfl, _, rfl, p, C, dx, _, rfl, upd_same, T.cl, T.no _ (by simp), (by show 2 < 1000; decide), ?_⟩
      rw [upd_upd, show putF "last" c (List.zip (["numbers", "ended"] : List Str) [a, b]) = fLine.zip [a, b, c] from (put_past (by decide +kernel)).trans (congrArg _ (put_past (by decide +kernel)))]
      exact q
theorem mk_Item {C : Addr} {k : Nat} (T : CT K C fItem) (D : StandsC K mg "Item" "Item.__init__" s_Item_init C) : C8.Mak P w K mg base (k + 1) "Item" C (spInit C fItem) [] := by
  refine mak_of D sc_Item_init (fun vs H Q E h => ?_) (fun _ _ _ _ _ _ us hl => match us, hl with | [_, _, _, _, _], _ => rfl) (fun f cdv A outer s H vs Q E hr h => ?_)
  · obtain ⟨p, dx, us, rfl, hl, _⟩ := h
    rw [List.length_cons, hl]
    rfl
  · obtain ⟨p, dx, us, rfl, hl, hp, q⟩ := h
    match us, hl with
    | [a, b, c, d], _ =>
      refine ⟨_, (pss_cons (ps_fld (pv 0) (pv 1) rfl)
      (pss_cons (ps_fld (pv 0) (pv 2) rfl)
      (pss_cons (ps_fld (pv 0) (pv 3) rfl)
      (pss_one (ps_fld (pv 0) (pv 4) rfl))))), ?_⟩
      refine ⟨_, rfl, _, rfl, p, C, dx, [], rfl, hp, T.cl, T.no _ (by simp), (by show 0 < 1000; decide), ?_⟩
      refine ⟨_, rfl, _, rfl, p, C, dx, _, rfl, upd_same, T.cl, T.no _ (by simp), (by show 1 < 1000; decide), ?_⟩
      rw [upd_upd, show putF "number" b (putF "mark" a []) = (List.zip (["mark", "number"] : List Str) [a, b]) from put_past (by decide +kernel)]
      refine ⟨_, rfl, _, rfl, p, C, dx, _, rfl, upd_same, T.cl, T.no _ (by simp), (by show 2 < 1000; decide), ?_⟩
      rw [upd_upd, show putF "place" c (List.zip (["mark", "number"] : List Str) [a, b]) = (List.zip (["mark", "number", "place"] : List Str) [a, b, c]) from (put_past (by decide +kernel)).trans (congrArg _ (put_past (by decide +kernel)))]
      refine ⟨_, rfl, _, rfl, p, C, dx, _, rfl, upd_same, T.cl, T.no _ (by simp), (by show 3 < 1000; decide), ?_⟩
      rw [upd_upd, show putF "value" d (List.zip (["mark", "number", "place"] : List Str) [a, b, c]) = fItem.zip [a, b, c, d] from (put_past (by decide +kernel)).trans (congrArg _ ((put_past (by decide +kernel)).trans (congrArg _ (put_past (by decide +kernel)))))]
      exact q
end
end Td
set_option maxRecDepth 100000
set_option maxHeartbeats 4000000
namespace Td
open PySem PySem.Spec PyProof.Rows L2
theorem in2 {n a b : Int} : inV (.int n) [.int a, .int b] = decide (n = a ∨ n = b) := by
  show ((a == n) || ((b == n) || false)) = decide (n = a ∨ n = b)
  rw [Bool.or_false, Bool.eq_iff_iff, Bool.or_eq_true, beq_iff_eq, beq_iff_eq, decide_eq_true_eq]
  omega
theorem in3 {n a b c : Int} : inV (.int n) [.int a, .int b, .int c] = decide (n = a ∨ n = b ∨ n = c) := by
  show ((a == n) || ((b == n) || ((c == n) || false))) = decide (n = a ∨ n = b ∨ n = c)
  rw [Bool.or_false, Bool.eq_iff_iff, Bool.or_eq_true, Bool.or_eq_true, beq_iff_eq, beq_iff_eq, beq_iff_eq, decide_eq_true_eq]
  omega
theorem in4 {n a b c d : Int} : inV (.int n) [.int a, .int b, .int c, .int d] = decide (n = a ∨ n = b ∨ n = c ∨ n = d) := by
  show ((a == n) || ((b == n) || ((c == n) || ((d == n) || false)))) = decide (n = a ∨ n = b ∨ n = c ∨ n = d)
  rw [Bool.or_false, Bool.eq_iff_iff, Bool.or_eq_true, Bool.or_eq_true, Bool.or_eq_true, beq_iff_eq, beq_iff_eq, beq_iff_eq, beq_iff_eq, decide_eq_true_eq]
  omega
/-- a span: its marks as a value, its signs, the place behind it -/
def SpanAt (C : Addr) (H0 H : Hp) (a : Addr) (mv : V) (s : List Nat) (b : Nat) : Prop := ∃ dx sg, H a = some (.ins C dx (fSpan.zip [mv, .ref sg, .int (b : Int)])) ∧ H sg = some (.lst (vN s)) ∧ H0 sg = none
theorem SpanAt.back {C : Addr} {H0 H1 H : Hp} {a : Addr} {mv : V} {s : List Nat} {b : Nat} (e : Same H0 H1) (h : SpanAt C H1 H a mv s b) : SpanAt C H0 H a mv s b := by
  obtain ⟨dx, sg, h1, h2, h3⟩ := h
  exact ⟨dx, sg, h1, h2, e.free h3⟩
theorem lkS0 {a b c : V} : (fSpan.zip [a, b, c]).lookup ("marks" : Str) = some a := lk_here
theorem lkS1 {a b c : V} : (fSpan.zip [a, b, c]).lookup ("signs" : Str) = some b := (lk_past (by decide +kernel)).trans lk_here
theorem lkS2 {a b c : V} : (fSpan.zip [a, b, c]).lookup ("behind" : Str) = some c := (lk_past (by decide +kernel)).trans ((lk_past (by decide +kernel)).trans lk_here)
theorem drop_cons {l : List Nat} {n c : Nat} (h : l[n]? = some c) : l.drop n = c :: l.drop (n + 1) := by
  obtain ⟨hn, e⟩ := List.getElem?_eq_some_iff.mp h
  rw [← e]
  exact List.drop_eq_getElem_cons hn
abbrev s_sign_span : Stmt := top 82
abbrev n_sign_span : List Str := ["line", "start", "marks", "signs", "at"]
abbrev p_sign_span : List Str := ["line", "start", "marks"]
theorem sc_sign_span : FnScope n_sign_span p_sign_span (defScope s_sign_span) := ⟨rfl, rfl, rfl, by decide +kernel, rfl, by decide +kernel, by decide +kernel⟩
abbrev s_closed_span : Stmt := top 81
abbrev n_closed_span : List Str := ["line", "start", "marks", "span"]
abbrev p_closed_span : List Str := ["line", "start", "marks"]
theorem sc_closed_span : FnScope n_closed_span p_closed_span (defScope s_closed_span) := ⟨rfl, rfl, rfl, by decide +kernel, rfl, by decide +kernel, by decide +kernel⟩
abbrev s_bracketed_span : Stmt := top 80
abbrev n_bracketed_span : List Str := ["line", "start", "behind", "marks"]
abbrev p_bracketed_span : List Str := ["line", "start"]
theorem sc_bracketed_span : FnScope n_bracketed_span p_bracketed_span (defScope s_bracketed_span) := ⟨rfl, rfl, rfl, by decide +kernel, rfl, by decide +kernel, by decide +kernel⟩
abbrev s_span_at : Stmt := top 79
abbrev n_span_at : List Str := ["line", "at"]
abbrev p_span_at : List Str := ["line", "at"]
theorem sc_span_at : FnScope n_span_at p_span_at (defScope s_span_at) := ⟨rfl, rfl, rfl, by decide +kernel, rfl, by decide +kernel, by decide +kernel⟩
abbrev s_spans_of : Stmt := top 78
abbrev n_spans_of : List Str := ["line", "spans", "at", "span"]
abbrev p_spans_of : List Str := ["line"]
theorem sc_spans_of : FnScope n_spans_of p_spans_of (defScope s_spans_of) := ⟨rfl, rfl, rfl, by decide +kernel, rfl, by decide +kernel, by decide +kernel⟩
section
variable {P : Program} {w : World} {K : PySem.W.Frag} {mg : Str → Option Value} {base : Heap} {C : Addr}
def sp_sign_span (K : PySem.W.Frag) (C : Addr) : Sp := fun vs H Q _ => ∃ (a : Addr) (l : List Nat) (st : Nat) (mv : V), vs = [.ref a, .int (st : Int), mv] ∧ SqL K H a (vN l) ∧ st ≤ l.length ∧ l.length < sizeLine ∧
  (Tm.signRun (l.drop st) = none → ∀ H', Same H H' → Q .non H') ∧
  (∀ s rest, Tm.signRun (l.drop st) = some (s, rest) → ∀ H' x, Same H H' → SpanAt C H H' x mv s (l.length - rest.length) → Q (.ref x) H')
theorem ok_sign_span {k : Nat} (G : Glob mg) (T : CT K C fSpan) (m_Span : C8.Mak P w K mg base 1 "Span" C (spInit C fSpan) []) (D : Stands K mg "sign_span" s_sign_span) : C8.Cal P w K mg base (k + 3) "sign_span" (sp_sign_span K C) [] := by
  refine cal_of D sc_sign_span (fun vs H Q E h => ?_) (fun _ _ _ _ _ _ us hl => match us, hl with | [_, _, _], _ => rfl) (fun f cdv A outer s H vs Q E hr h => ?_)
  · obtain ⟨a, l, st, mv, rfl, _⟩ := h
    rfl
  · obtain ⟨a, l, st, mv, rfl, hA, hst, hlen, q1, q2⟩ := h
    refine ⟨_, (pss_cons (ps_set (i := 3) sc_sign_span.nd rfl (Or.inl rfl) (pe_lst pa_nil))
      (pss_cons (ps_set (i := 4) sc_sign_span.nd rfl (Or.inl rfl) (pv 1))
      (pss_cons (ps_while PassesOwn.never (PW.pt (pw_and (pt_cmpR op_lt (pv 4) (pe_callB call_len_seq (by rfl) G.b_len (by decide +kernel) (pa_cons (pv 0) pa_nil)) (nomark _)) (pw_and1 (pt_cmpR op_notIn_seq (pe_ix ix_list (pv 0) (pv 4) (fun _ _ => rfl)) (pe_tup (pa_cons (pe_gv G.c_LEFT) (pa_cons (pe_gv G.c_RIGHT) pa_nil))) rfl))))
      (pss_cons (ps_if (pt_cmpR op_eq (pe_ix ix_list (pv 0) (pv 4) (fun _ _ => rfl)) (pe_gv G.c_BACKSLASH) (nomark _))
      (pss_cons (ps_aug (i := 4) sc_sign_span.nd rfl (Or.inl rfl) pe_int ip_add)
      (pss_one (ps_if (pt_cmpR op_eq (pv 4) (pe_callB call_len_seq (by rfl) G.b_len (by decide +kernel) (pa_cons (pv 0) pa_nil)) (nomark _))
      (pss_one (ps_ret pe_non))
      pss_nil)))
      pss_nil)
      (pss_cons (ps_expr (pe_bm PySem.F.plainAttrs_list PySem.F.slot_list_append PySem.F.type_list_append mt_append (pv 3) (pa_cons (pe_ix ix_list (pv 0) (pv 4) (fun _ _ => rfl)) pa_nil)))
      (pss_one (ps_aug (i := 4) sc_sign_span.nd rfl (Or.inl rfl) pe_int ip_add)))))
      (pss_one (ps_ret (C8.pe_mk m_Span hr (by omega) (by rfl) (pa_cons (pv 2) (pa_cons (pv 3) (pa_cons (pv 4) pa_nil))))))))), ?_⟩
    refine ⟨Nat.zero_le _, fun g ng => ?_⟩
    refine ⟨_, rfl, fun m σ H1 => ∃ (n : Nat) (acc : List Nat), σ = [some (.ref a), some (.int (st : Int)), some mv, some (.ref g), some (.int (n : Int))] ∧ n ≤ l.length ∧ m = l.length - n ∧ Same H H1 ∧ H1 g = some (.lst (vN acc)) ∧ acc.length ≤ n ∧
        Tm.signRun (l.drop st) = (Tm.signRun (l.drop n)).map (fun x => (acc ++ x.1, x.2)), ⟨l.length - st, st, [], rfl, hst, rfl, same_upd ng, upd_same, Nat.zero_le _, ?_⟩, fun m σ H1 hW => ?_⟩
    · cases Tm.signRun (l.drop st) <;> rfl
    · obtain ⟨n, acc, rfl, hn, hm, s1, h1, hacc, hrun⟩ := hW
      have hA1 := s1.seq hA
      refine ⟨_, rfl, _, rfl, a, _, rfl, .inl hA1, _, _, rfl, rfl, _, rfl, ite2 (fun e => ?_) (fun e => ?_)⟩
      · have e1 : n < l.length := by
          have := of_decide_eq_true e
          rw [vN_len] at this
          omega
        obtain ⟨c, hc⟩ : ∃ c, l[n]? = some c := ⟨l[n], List.getElem?_eq_getElem e1⟩
        have hc' : (vN l)[n]? = some (.int (c : Int)) := by rw [vN_get, hc]; rfl
        have hd := drop_cons hc
        refine ⟨_, rfl, _, rfl, a, _, _, _, rfl, rfl, hA1, at_of rfl hc', (by show 2 ≤ sizeLine; decide), fun tp ntp => ⟨tp, _, rfl, .inr (SqT.of upd_same), rfl, rfl, _, rfl, ite2 (fun e2 => ?_) (fun e2 => ?_)⟩⟩
        · have e3 : (!inV (.int (c : Int)) [.int 91, .int 93]) = true := e2
          rw [in2] at e3
          have e4 : ¬ (c = 91 ∨ c = 93) := by
            intro z
            have : decide ((c : Int) = 91 ∨ (c : Int) = 93) = true := decide_eq_true (by omega)
            rw [this] at e3
            cases e3
          have s2 : Same H1 (upd H1 tp (.tup [.int 91, .int 93])) := same_upd ntp
          have s3 := s1.trans s2
          have h2 := s2 _ _ h1
          have hA2 := s3.seq hA
          -- the turn's end
          have fin : ∀ (σ' : L2.St) (H' : Hp) (n' d : Nat) (acc' : List Nat), n < n' → n' ≤ l.length → Same H H' → H' g = some (.lst (vN acc')) → acc'.length ≤ n' → Tm.signRun (l.drop st) = (Tm.signRun (l.drop n')).map (fun x => (acc' ++ x.1, x.2)) →
              σ' = [some (.ref a), some (.int (st : Int)), some mv, some (.ref g), some (.int (n' : Int))] → ∃ m', m' < m ∧ ∃ (n : Nat) (acc : List Nat), σ' = [some (.ref a), some (.int (st : Int)), some mv, some (.ref g), some (.int (n : Int))] ∧ n ≤ l.length ∧ m' = l.length - n ∧ Same H H' ∧ H' g = some (.lst (vN acc)) ∧ acc.length ≤ n ∧
              Tm.signRun (l.drop st) = (Tm.signRun (l.drop n)).map (fun x => (acc ++ x.1, x.2)) := fun σ' H' n' d acc' g1 g2 g3 g4 g5 g6 g7 => ⟨l.length - n', by omega, n', acc', g7, g2, rfl, g3, g4, g5, g6⟩
          refine ⟨fun σ' H' => ∃ m', m' < m ∧ ∃ (n : Nat) (acc : List Nat), σ' = [some (.ref a), some (.int (st : Int)), some mv, some (.ref g), some (.int (n : Int))] ∧ n ≤ l.length ∧ m' = l.length - n ∧ Same H H' ∧ H' g = some (.lst (vN acc)) ∧ acc.length ≤ n ∧
              Tm.signRun (l.drop st) = (Tm.signRun (l.drop n)).map (fun x => (acc ++ x.1, x.2)), fun σ' H' h => h, ?_⟩
          refine ⟨_, rfl, _, rfl, a, _, _, _, rfl, rfl, hA2, at_of rfl hc', rfl, _, rfl, ite2 (fun e5 => ?_) (fun e5 => ?_)⟩
          · have e6 : c = 92 := by have := V.int.inj (of_decide_eq_true e5); omega
            subst e6
            refine ⟨_, rfl, _, _, rfl, rfl, _, rfl, _, rfl, a, _, rfl, .inl hA2, rfl, _, rfl, ite2 (fun e7 => ?_) (fun e7 => ?_)⟩
            · have e8 : n + 1 = l.length := by
                have : (n : Int) + 1 = ((vN l).length : Int) := V.int.inj (of_decide_eq_true e7)
                rw [vN_len] at this
                omega
              refine q1 ?_ _ s3
              rw [hrun, hd, e8, List.drop_length, Tm.signRun_last]
              rfl
            · have e8 : n + 1 < l.length := by
                have : ¬ (((n : Int) + 1) = ((vN l).length : Int)) := fun z => e7 (decide_eq_true (show V.int ((n : Int) + 1) = V.int ((vN l).length : Int) by rw [z]))
                rw [vN_len] at this
                omega
              obtain ⟨d, hdd⟩ : ∃ d, l[n + 1]? = some d := ⟨l[n + 1], List.getElem?_eq_getElem e8⟩
              have hdd' : (vN l)[n + 1]? = some (.int (d : Int)) := by rw [vN_get, hdd]; rfl
              have hd2 := drop_cons hdd
              refine ⟨_, rfl, .inl ⟨rfl, _, SqL.of h2⟩, _, rfl, _, rfl, a, _, _, _, rfl, rfl, hA2, at_of (j := n + 1) rfl hdd', g, _, _, rfl, rfl, h2, ?_, _, rfl, _, _, rfl, rfl, ?_⟩
              · rw [vN_len]; omega
              · refine fin _ _ (n + 2) d (acc ++ [d]) (by omega) (by omega) (same_write ng s3) ?_ ?_ ?_ ?_
                · rw [upd_same, vN_app]; rfl
                · rw [List.length_append, List.length_singleton]; omega
                · rw [hrun, hd, hd2, Tm.signRun_esc]
                  cases Tm.signRun (l.drop (n + 1 + 1)) with
                  | none => rfl
                  | some x =>
                    show some (acc ++ (d :: x.1), x.2) = some (acc ++ [d] ++ x.1, x.2)
                    rw [List.append_assoc]
                    rfl
                · show [some (V.ref a), some (.int (st : Int)), some mv, some (.ref g), some (.int (((n : Int) + 1) + 1))] = _
                  rw [show ((n : Int) + 1) + 1 = ((n + 2 : Nat) : Int) by omega]
          · have e6 : c ≠ 92 := fun z => e5 (decide_eq_true (by rw [z]; rfl))
            refine ⟨_, rfl, .inl ⟨rfl, _, SqL.of h2⟩, _, rfl, _, rfl, a, _, _, _, rfl, rfl, hA2, at_of rfl hc', g, _, _, rfl, rfl, h2, ?_, _, rfl, _, _, rfl, rfl, ?_⟩
            · rw [vN_len]; omega
            · refine fin _ _ (n + 1) c (acc ++ [c]) (by omega) (by omega) (same_write ng s3) ?_ ?_ ?_ ?_
              · rw [upd_same, vN_app]; rfl
              · rw [List.length_append, List.length_singleton]; omega
              · rw [hrun, hd, Tm.signRun_cons (by omega) (by omega) e6]
                cases Tm.signRun (l.drop (n + 1)) with
                | none => rfl
                | some x =>
                  show some (acc ++ (c :: x.1), x.2) = some (acc ++ [c] ++ x.1, x.2)
                  rw [List.append_assoc]
                  rfl
              · rfl
        · -- a bracket
          have e3 : ¬ (!inV (.int (c : Int)) [.int 91, .int 93]) = true := e2
          rw [in2] at e3
          have e4 : c = 91 ∨ c = 93 := by
            by_cases z : (c : Int) = 91 ∨ (c : Int) = 93
            · omega
            · rw [decide_eq_false z] at e3
              exact absurd rfl e3
          have s3 : Same H (upd H1 tp (.tup [.int 91, .int 93])) := s1.trans (same_upd ntp)
          have h2 := (same_upd (o := .tup [.int 91, .int 93]) ntp) _ _ h1
          refine ⟨_, rfl, _, rfl, _, rfl, fun x dx nx nd ne => ⟨x, dx, [mv, .ref g, .int (n : Int)], rfl, rfl, upd_same, rfl, ?_⟩⟩
          rw [upd_upd]
          refine q2 acc (c :: l.drop (n + 1)) ?_ _ x (s3.trans (made_same nx nd)) ⟨dx, g, ?_, made_same nx nd _ _ h2, ng⟩
          · rw [hrun, hd, Tm.signRun_stop e4]
            show some (acc ++ [], c :: l.drop (n + 1)) = _
            rw [List.append_nil]
          · rw [← hd, List.length_drop, show l.length - (l.length - n) = n by omega]
            exact made_at
      · -- the line's end
        have e1 : n = l.length := by
          have : ¬ ((n : Int) < ((vN l).length : Int)) := fun z => e (decide_eq_true z)
          rw [vN_len] at this
          omega
        refine ⟨_, rfl, _, rfl, _, rfl, fun x dx nx nd ne => ⟨x, dx, [mv, .ref g, .int (n : Int)], rfl, rfl, upd_same, rfl, ?_⟩⟩
        rw [upd_upd]
        refine q2 acc [] ?_ _ x (s1.trans (made_same nx nd)) ⟨dx, g, ?_, made_same nx nd _ _ h1, ng⟩
        · rw [hrun, e1, List.drop_length]
          show some (acc ++ [], []) = _
          rw [List.append_nil]
        · rw [List.length_nil, Nat.sub_zero, ← e1]
          exact made_at
end
end Td
set_option maxRecDepth 100000
set_option maxHeartbeats 4000000
namespace Td
open PySem PySem.Spec PyProof.Rows L2
theorem lt_dec {i j : Int} (e : decide (i < j) = true) : i < j := of_decide_eq_true e
theorem ge_dec {i j : Int} (e : ¬ decide (i < j) = true) : j ≤ i := by
  have : ¬ i < j := fun z => e (decide_eq_true z)
  omega
theorem eq_dec {i j : Int} (e : decide (V.int i = V.int j) = true) : i = j := V.int.inj (of_decide_eq_true e)
theorem ne_dec {i j : Int} (e : ¬ decide (V.int i = V.int j) = true) : i ≠ j := fun z => e (decide_eq_true (by rw [z]))
section
variable {P : Program} {w : World} {K : PySem.W.Frag} {mg : Str → Option Value} {base : Heap} {C : Addr}
def sp_closed_span (K : PySem.W.Frag) (C : Addr) : Sp := fun vs H Q _ => ∃ (a : Addr) (l : List Nat) (st : Nat) (mv : V) (m : List Nat), vs = [.ref a, .int (st : Int), mv] ∧ SqL K H a (vN l) ∧ st ≤ l.length ∧ l.length < sizeLine ∧
  (Tm.clSpan m (l.drop st) = none → ∀ H', Same H H' → Q .non H') ∧
  (∀ s rest, Tm.clSpan m (l.drop st) = some ((m, s), rest) → ∀ H' x, Same H H' → SpanAt C H H' x mv s (l.length - rest.length) → Q (.ref x) H')
theorem ok_closed_span {k : Nat} (G : Glob mg) (T : CT K C fSpan) (m_Span : C8.Mak P w K mg base 1 "Span" C (spInit C fSpan) []) (c_sign_span : C8.Cal P w K mg base 3 "sign_span" (sp_sign_span K C) []) (D : Stands K mg "closed_span" s_closed_span) : C8.Cal P w K mg base (k + 4) "closed_span" (sp_closed_span K C) [] := by
  refine cal_of D sc_closed_span (fun vs H Q E h => ?_) (fun _ _ _ _ _ _ us hl => match us, hl with | [_, _, _], _ => rfl) (fun f cdv A outer s H vs Q E hr h => ?_)
  · obtain ⟨a, l, st, mv, m, rfl, _⟩ := h
    rfl
  · obtain ⟨a, l, st, mv, m, rfl, hA, hst, hlen, q1, q2⟩ := h
    refine ⟨_, (pss_cons (ps_set (i := 3) sc_closed_span.nd rfl (Or.inl rfl) (C8.pe_c c_sign_span hr (by omega) (by rfl) (pa_cons (pv 0) (pa_cons (pv 1) (pa_cons (pv 2) pa_nil)))))
      (pss_cons (ps_if (PW.pt (pw_or (pt_cmpR op_isN (pv 3) pe_non (nomark _)) (pw_or (pt_cmpR op_eq (pe_fld (pv 3) rfl) (pe_callB call_len_seq (by rfl) G.b_len (by decide +kernel) (pa_cons (pv 0) pa_nil)) (nomark _)) (pw_or1 (pt_cmpR op_eq (pe_ix ix_list (pv 0) (pe_fld (pv 3) rfl) (fun _ _ => rfl)) (pe_gv G.c_LEFT) (nomark _))))))
      (pss_one (ps_ret pe_non))
      pss_nil)
      (pss_one (ps_ret (C8.pe_mk m_Span hr (by omega) (by rfl) (pa_cons (pv 2) (pa_cons (pe_fld (pv 3) rfl) (pa_cons (pe_op op_add (pe_fld (pv 3) rfl) pe_int) pa_nil)))))))), ?_⟩
    unfold Tm.clSpan at q1 q2
    refine ⟨_, rfl, _, rfl, _, rfl, a, l, st, mv, rfl, hA, hst, hlen, fun hq H1 s1 => ?_, fun sg rest hq H1 x s1 hx => ?_⟩
    · rw [hq] at q1
      exact ⟨_, rfl, rfl, _, rfl, q1 rfl H1 s1⟩
    · rw [hq] at q1 q2
      obtain ⟨b1, b2, b3, b4, b5, b6⟩ := Tm.signRun_rest (l.drop st).length (l.drop st) sg rest (Nat.le_refl _) hq
      have hrl : rest.length ≤ l.length := by rw [List.length_drop] at b1; omega
      obtain ⟨dx, ga, x1, x2, x3⟩ := hx
      have hA1 := s1.seq hA
      refine ⟨_, rfl, rfl, _, rfl, ?_⟩
      refine ⟨_, rfl, x, C, dx, _, _, rfl, x1, T.cl, T.no _ (by simp), lkS2, _, rfl, a, _, rfl, .inl hA1, rfl, _, rfl, ite2 (fun e => ?_) (fun e => ?_)⟩
      · have e1 := eq_dec e
        rw [vN_len] at e1
        have e2 : rest = [] := by
          rcases b4 with b4 | ⟨c, r, b4, _⟩
          · exact b4
          · rw [b4, List.length_cons] at e1 hrl
            omega
        subst e2
        exact q1 rfl H1 s1
      · have e1 := ne_dec e
        rw [vN_len] at e1
        rcases b4 with b4 | ⟨c, r, b4, b7⟩
        · rw [b4, List.length_nil] at e1
          exact absurd rfl e1
        · subst b4
          rw [List.length_cons] at hrl
          have hsuf : l[l.length - (c :: r).length]? = some c := by
            have key : ∀ (n : Nat) (t u v : List Nat), t.length ≤ n → Tm.signRun t = some (u, v) → ∃ p, t = p ++ v := by
              intro n
              induction n with
              | zero =>
                intro t u v ht hs
                have : t = [] := List.eq_nil_of_length_eq_zero (by omega)
                subst this
                obtain ⟨rfl, rfl⟩ := Prod.mk.inj (Option.some.inj (show some (([] : List Nat), ([] : List Nat)) = some (u, v) from hs))
                exact ⟨[], rfl⟩
              | succ n ih =>
                intro t u v ht hs
                cases t with
                | nil =>
                  obtain ⟨rfl, rfl⟩ := Prod.mk.inj (Option.some.inj (show some (([] : List Nat), ([] : List Nat)) = some (u, v) from hs))
                  exact ⟨[], rfl⟩
                | cons x t =>
                  rw [List.length_cons] at ht
                  by_cases h1 : x = 91 ∨ x = 93
                  · rw [Tm.signRun_stop h1] at hs
                    obtain ⟨rfl, rfl⟩ := Prod.mk.inj (Option.some.inj hs)
                    exact ⟨[], rfl⟩
                  · by_cases h2 : x = 92
                    · subst h2
                      cases t with
                      | nil => rw [Tm.signRun_last] at hs; cases hs
                      | cons y t =>
                        rw [Tm.signRun_esc] at hs
                        obtain ⟨⟨u', v'⟩, e1, e2⟩ := Option.map_eq_some_iff.mp hs
                        obtain ⟨rfl, rfl⟩ := Prod.mk.inj e2
                        rw [List.length_cons] at ht
                        obtain ⟨p, hp⟩ := ih t u' v' (by omega) e1
                        exact ⟨92 :: y :: p, by rw [hp]; rfl⟩
                    · rw [Tm.signRun_cons (by omega) (by omega) h2] at hs
                      obtain ⟨⟨u', v'⟩, e1, e2⟩ := Option.map_eq_some_iff.mp hs
                      obtain ⟨rfl, rfl⟩ := Prod.mk.inj e2
                      obtain ⟨p, hp⟩ := ih t u' v' (by omega) e1
                      exact ⟨x :: p, by rw [hp]; rfl⟩
            obtain ⟨p, hp⟩ := key _ _ _ _ (Nat.le_refl _) hq
            have e2 : l = l.take st ++ (p ++ c :: r) := by rw [← hp, List.take_append_drop]
            have e3 : l.length - (c :: r).length = (l.take st ++ p).length := by
              have := congrArg List.length e2
              rw [List.length_append, List.length_append] at this
              rw [List.length_append]
              omega
            rw [e3]
            have e4 : l[(l.take st ++ p).length]? = ((l.take st ++ p) ++ c :: r)[(l.take st ++ p).length]? := by rw [List.append_assoc, ← e2]
            rw [e4, List.getElem?_append_right (Nat.le_refl _), Nat.sub_self]
            rfl
          have hsuf' : (vN l)[l.length - (c :: r).length]? = some (.int (c : Int)) := by rw [vN_get, hsuf]; rfl
          refine ⟨_, rfl, _, rfl, x, C, dx, _, _, rfl, x1, T.cl, T.no _ (by simp), lkS2, a, _, _, _, rfl, rfl, hA1, at_of rfl hsuf', rfl, _, rfl, ite2 (fun g => ?_) (fun g => ?_)⟩
          · have g1 := eq_dec g
            have g2 : c = 91 := by omega
            subst g2
            exact q1 (if_pos rfl) H1 s1
          · have g1 := ne_dec g
            have g2 : c ≠ 91 := by omega
            refine ⟨_, rfl, _, rfl, x, C, dx, _, _, rfl, x1, T.cl, T.no _ (by simp), lkS1, _, rfl, x, C, dx, _, _, rfl, x1, T.cl, T.no _ (by simp), lkS2, _, _, rfl, rfl, fun y dy ny nd ne => ⟨y, dy, [mv, .ref ga, .int _], rfl, rfl, upd_same, rfl, ?_⟩⟩
            rw [upd_upd]
            refine q2 sg r (if_neg g2) _ y (s1.trans (made_same ny nd)) ⟨dy, ga, ?_, made_same ny nd _ _ x2, x3⟩
            rw [show ((l.length - (c :: r).length : Nat) : Int) + 1 = ((l.length - r.length : Nat) : Int) by rw [List.length_cons]; omega]
            exact made_at
/-- a span whose marks are a list of numbers; its lists are new -/
def SpanM (C : Addr) (H0 H : Hp) (x : Addr) (m s : List Nat) (b : Nat) : Prop := ∃ mk, SpanAt C H0 H x (.ref mk) s b ∧ H mk = some (.lst (vN m)) ∧ H0 mk = none
theorem SpanM.back {C : Addr} {H0 H1 H : Hp} {x : Addr} {m s : List Nat} {b : Nat} (e : Same H0 H1) (h : SpanM C H1 H x m s b) : SpanM C H0 H x m s b := by
  obtain ⟨mk, h1, h2, h3⟩ := h
  exact ⟨mk, h1.back e, h2, e.free h3⟩
def sp_bracketed_span (K : PySem.W.Frag) (C : Addr) : Sp := fun vs H Q _ => ∃ (a : Addr) (l : List Nat) (st : Nat), vs = [.ref a, .int (st : Int)] ∧ SqL K H a (vN l) ∧ st ≤ l.length ∧ l.length < sizeLine ∧
  (Tm.brSpan (l.drop st) = none → ∀ H', Same H H' → Q .non H') ∧
  (∀ m s rest, Tm.brSpan (l.drop st) = some ((m, s), rest) → ∀ H' x, Same H H' → SpanM C H H' x m s (l.length - rest.length) → Q (.ref x) H')
theorem ok_bracketed_span {k : Nat} (G : Glob mg) (T : CT K C fSpan) (m_Span : C8.Mak P w K mg base 1 "Span" C (spInit C fSpan) []) (c_closed_span : C8.Cal P w K mg base 4 "closed_span" (sp_closed_span K C) []) (D : Stands K mg "bracketed_span" s_bracketed_span) : C8.Cal P w K mg base (k + 5) "bracketed_span" (sp_bracketed_span K C) [] := by
  refine cal_of D sc_bracketed_span (fun vs H Q E h => ?_) (fun _ _ _ _ _ _ us hl => match us, hl with | [_, _], _ => rfl) (fun f cdv A outer s H vs Q E hr h => ?_)
  · obtain ⟨a, l, st, rfl, _⟩ := h
    rfl
  · obtain ⟨a, l, st, rfl, hA, hst, hlen, q1, q2⟩ := h
    refine ⟨_, (pss_cons (ps_set (i := 2) sc_bracketed_span.nd rfl (Or.inl rfl) (pv 1))
      (pss_cons (ps_while PassesOwn.never (PW.pt (pw_and (pt_cmpR op_lt (pv 2) (pe_callB call_len_seq (by rfl) G.b_len (by decide +kernel) (pa_cons (pv 0) pa_nil)) (nomark _)) (pw_and1 (pt_cmpR op_notIn_seq (pe_ix ix_list (pv 0) (pv 2) (fun _ _ => rfl)) (pe_tup (pa_cons (pe_gv G.c_LEFT) (pa_cons (pe_gv G.c_RIGHT) (pa_cons (pe_gv G.c_BAR) (pa_cons (pe_gv G.c_BACKSLASH) pa_nil))))) rfl))))
      (pss_one (ps_aug (i := 2) sc_bracketed_span.nd rfl (Or.inl rfl) pe_int ip_add)))
      (pss_cons (ps_if (pt_cmpR op_eq (pv 2) (pe_callB call_len_seq (by rfl) G.b_len (by decide +kernel) (pa_cons (pv 0) pa_nil)) (nomark _))
      (pss_one (ps_ret pe_non))
      pss_nil)
      (pss_cons (ps_set (i := 3) sc_bracketed_span.nd rfl (Or.inl rfl) (pe_slice sl_list (pv 0) (po_some (pv 1)) (po_some (pv 2))))
      (pss_cons (ps_if (pt_cmpR op_eq (pe_ix ix_list (pv 0) (pv 2) (fun _ _ => rfl)) (pe_gv G.c_BAR) (nomark _))
      (pss_one (ps_ret (C8.pe_c c_closed_span hr (by omega) (by rfl) (pa_cons (pv 0) (pa_cons (pe_op op_add (pv 2) pe_int) (pa_cons (pv 3) pa_nil))))))
      pss_nil)
      (pss_cons (ps_if (PW.pt (pw_and (pt_cmpR op_eq (pe_ix ix_list (pv 0) (pv 2) (fun _ _ => rfl)) (pe_gv G.c_RIGHT) (nomark _)) (pw_and1 (pt_cmpR op_eq (pe_op op_add (pv 2) pe_int) (pe_callB call_len_seq (by rfl) G.b_len (by decide +kernel) (pa_cons (pv 0) pa_nil)) (nomark _)))))
      (pss_one (ps_ret (C8.pe_mk m_Span hr (by omega) (by rfl) (pa_cons (pv 3) (pa_cons (pe_lst (pa_cons (pe_gv G.c_LINE_END) pa_nil)) (pa_cons (pe_op op_add (pv 2) pe_int) pa_nil))))))
      pss_nil)
      (pss_one (ps_ret pe_non)))))))), ?_⟩
    unfold Tm.brSpan at q1 q2
    refine ⟨_, rfl, fun m σ H1 => ∃ n : Nat, σ = [some (.ref a), some (.int (st : Int)), some (.int (n : Int)), none] ∧ st ≤ n ∧ n ≤ l.length ∧ m = l.length - n ∧ Same H H1 ∧
        Tm.markRun (l.drop st) = ((l.drop st).take (n - st) ++ (Tm.markRun (l.drop n)).1, (Tm.markRun (l.drop n)).2), ⟨l.length - st, st, rfl, Nat.le_refl _, hst, rfl, Same.refl _, ?_⟩, fun m σ H1 hW => ?_⟩
    · rw [Nat.sub_self]
      rfl
    · obtain ⟨n, rfl, hsn, hn, hm, s1, hrun⟩ := hW
      have hA1 := s1.seq hA
      refine ⟨_, rfl, _, rfl, a, _, rfl, .inl hA1, _, _, rfl, rfl, _, rfl, ite2 (fun e => ?_) (fun e => ?_)⟩
      · have e1 : n < l.length := by
          have := lt_dec e
          rw [vN_len] at this
          omega
        obtain ⟨c, hc⟩ : ∃ c, l[n]? = some c := ⟨l[n], List.getElem?_eq_getElem e1⟩
        have hc' : (vN l)[n]? = some (.int (c : Int)) := by rw [vN_get, hc]; rfl
        have hd := drop_cons hc
        refine ⟨_, rfl, _, rfl, a, _, _, _, rfl, rfl, hA1, at_of rfl hc', (by show 4 ≤ sizeLine; decide), fun tp ntp => ⟨tp, _, rfl, .inr (SqT.of upd_same), rfl, rfl, _, rfl, ite2 (fun e2 => ?_) (fun e2 => ?_)⟩⟩
        · have e3 : (!inV (.int (c : Int)) [.int 91, .int 93, .int 124, .int 92]) = true := e2
          rw [in4] at e3
          have e4 : ¬ (c = 91 ∨ c = 93 ∨ c = 124 ∨ c = 92) := by
            intro z
            rw [decide_eq_true (p := (c : Int) = 91 ∨ (c : Int) = 93 ∨ (c : Int) = 124 ∨ (c : Int) = 92) (by omega)] at e3
            cases e3
          refine ⟨fun σ' H' => ∃ n : Nat, σ' = [some (.ref a), some (.int (st : Int)), some (.int (n : Int)), none] ∧ st ≤ n ∧ n ≤ l.length ∧ l.length - n < m ∧ Same H H' ∧
            Tm.markRun (l.drop st) = ((l.drop st).take (n - st) ++ (Tm.markRun (l.drop n)).1, (Tm.markRun (l.drop n)).2), fun σ' H' ⟨n', g1, g2, g3, g4, g5, g6⟩ => ⟨_, g4, n', g1, g2, g3, rfl, g5, g6⟩, ?_⟩
          refine ⟨_, rfl, _, _, rfl, rfl, n + 1, rfl, by omega, by omega, by omega, s1.trans (same_upd ntp), ?_⟩
          rw [hrun, hd]
          have e5 : Tm.markRun (c :: l.drop (n + 1)) = (c :: (Tm.markRun (l.drop (n + 1))).1, (Tm.markRun (l.drop (n + 1))).2) := by rw [Tm.markRun, if_neg e4]
          rw [e5]
          have e6 : (l.drop st).take (n + 1 - st) = (l.drop st).take (n - st) ++ [c] := by
            rw [show n + 1 - st = (n - st) + 1 by omega, List.take_add_one, List.getElem?_drop, show st + (n - st) = n by omega, hc]
            rfl
          rw [e6, List.append_assoc]
          rfl
        · have e3 : ¬ (!inV (.int (c : Int)) [.int 91, .int 93, .int 124, .int 92]) = true := e2
          rw [in4] at e3
          have e4 : c = 91 ∨ c = 93 ∨ c = 124 ∨ c = 92 := by
            by_cases z : (c : Int) = 91 ∨ (c : Int) = 93 ∨ (c : Int) = 124 ∨ (c : Int) = 92
            · omega
            · rw [decide_eq_false z] at e3
              exact absurd rfl e3
          have e5 : Tm.markRun (c :: l.drop (n + 1)) = ([], c :: l.drop (n + 1)) := by rw [Tm.markRun, if_pos e4]
          rw [hd, e5, List.append_nil] at hrun
          rw [hrun] at q1 q2
          have s2 : Same H (upd H1 tp (.tup [.int 91, .int 93, .int 124, .int 92])) := s1.trans (same_upd ntp)
          have hA2 := s2.seq hA
          generalize upd H1 tp (.tup [.int 91, .int 93, .int 124, .int 92]) = H2 at s2 hA2
          refine ⟨_, rfl, _, rfl, a, _, rfl, .inl hA2, rfl, _, rfl, ite2 (fun g => ?_) (fun g => ?_)⟩
          · have g1 := eq_dec g
            rw [vN_len] at g1
            omega
          · refine ⟨_, rfl, _, rfl, _, rfl, _, rfl, _, rfl, a, _, rfl, hA2, fun mk nm => ?_⟩
            rw [cut_nat (by rw [vN_len]; exact hst) (by rw [vN_len]; exact hn), vN_drop, vN_take]
            have s3 := s2.trans (same_upd (o := .lst (vN ((l.drop st).take (n - st)))) nm)
            have hA3 := s3.seq hA
            refine ⟨_, rfl, _, rfl, a, _, _, _, rfl, rfl, hA3, at_of rfl hc', rfl, _, rfl, ite2 (fun g2 => ?_) (fun g2 => ?_)⟩
            · have g3 : c = 124 := by have := eq_dec g2; omega
              subst g3
              dsimp only at q1 q2
              rw [if_pos rfl] at q1 q2
              refine ⟨_, rfl, _, rfl, _, _, rfl, rfl, _, rfl, a, l, n + 1, .ref mk, (l.drop st).take (n - st), rfl, hA3, by omega, hlen, fun h H' s4 => q1 h H' (s3.trans s4), fun sg rest h H' x s4 hx => q2 _ sg rest h H' x (s3.trans s4) ⟨mk, hx.back s3, s4 _ _ upd_same, s2.free nm⟩⟩
            · have g3 : c ≠ 124 := by have := ne_dec g2; omega
              dsimp only at q1 q2
              rw [if_neg g3] at q1 q2
              refine ⟨_, rfl, _, rfl, a, _, _, _, rfl, rfl, hA3, at_of rfl hc', rfl, _, rfl, ite2 (fun g4 => ?_) (fun g4 => ?_)⟩
              · have g5 : c = 93 := by have := eq_dec g4; omega
                refine ⟨_, rfl, _, _, rfl, rfl, _, rfl, a, _, rfl, .inl hA3, rfl, _, rfl, ite2 (fun g6 => ?_) (fun g6 => ?_)⟩
                · have g7 : (n : Int) + 1 = ((vN l).length : Int) := eq_dec g6
                  rw [vN_len] at g7
                  have g8 : l.drop (n + 1) = [] := by rw [show n + 1 = l.length by omega]; exact List.drop_length
                  rw [if_pos ⟨g5, g8⟩] at q2
                  refine ⟨_, rfl, (by show 1 ≤ sizeLine; decide), fun sg ns => ?_⟩
                  refine ⟨_, rfl, _, _, rfl, rfl, fun y dy ny nd ne => ⟨y, dy, [.ref mk, .ref sg, .int _], rfl, rfl, upd_same, rfl, ?_⟩⟩
                  rw [upd_upd]
                  refine q2 _ [10] [] rfl _ y ((s3.trans (same_upd ns)).trans (made_same ny nd)) ⟨mk, ⟨dy, sg, ?_, made_same ny nd _ _ upd_same, s3.free ns⟩, made_same ny nd _ _ (same_upd ns _ _ upd_same), s2.free nm⟩
                  rw [List.length_nil, Nat.sub_zero, show (n : Int) + 1 = ((l.length : Nat) : Int) by omega]
                  exact made_at
                · have g7 : (n : Int) + 1 ≠ ((vN l).length : Int) := ne_dec g6
                  rw [vN_len] at g7
                  rw [if_neg] at q1
                  · exact q1 rfl _ s3
                  · intro z
                    have := congrArg List.length z.2
                    rw [List.length_drop, List.length_nil] at this
                    omega
              · have g5 : c ≠ 93 := by have := ne_dec g4; omega
                rw [if_neg (fun z => g5 z.1)] at q1
                exact q1 rfl _ s3
      · have e1 : n = l.length := by
          have := ge_dec e
          rw [vN_len] at this
          omega
        rw [e1, List.drop_length] at hrun
        rw [hrun] at q1
        refine ⟨_, rfl, _, rfl, a, _, rfl, .inl hA1, rfl, _, rfl, ite2 (fun g => ?_) (fun g => ?_)⟩
        · exact q1 rfl _ s1
        · have g1 := ne_dec g
          rw [vN_len] at g1
          omega
def sp_span_at (K : PySem.W.Frag) (C : Addr) : Sp := fun vs H Q _ => ∃ (a : Addr) (l : List Nat) (st : Nat), vs = [.ref a, .int (st : Int)] ∧ SqL K H a (vN l) ∧ st < l.length ∧ l.length < sizeLine ∧
  (Tm.spanAt (l.drop st) = none → ∀ H', Same H H' → Q .non H') ∧
  (∀ m s rest, Tm.spanAt (l.drop st) = some ((m, s), rest) → ∀ H' x, Same H H' → SpanM C H H' x m s (l.length - rest.length) → Q (.ref x) H')
theorem ok_span_at {k : Nat} (G : Glob mg) (c_sign_span : C8.Cal P w K mg base 3 "sign_span" (sp_sign_span K C) []) (c_bracketed_span : C8.Cal P w K mg base 5 "bracketed_span" (sp_bracketed_span K C) []) (D : Stands K mg "span_at" s_span_at) : C8.Cal P w K mg base (k + 6) "span_at" (sp_span_at K C) [] := by
  refine cal_of D sc_span_at (fun vs H Q E h => ?_) (fun _ _ _ _ _ _ us hl => match us, hl with | [_, _], _ => rfl) (fun f cdv A outer s H vs Q E hr h => ?_)
  · obtain ⟨a, l, st, rfl, _⟩ := h
    rfl
  · obtain ⟨a, l, st, rfl, hA, hst, hlen, q1, q2⟩ := h
    refine ⟨_, (pss_cons (ps_if (pt_cmpR op_eq (pe_ix ix_list (pv 0) (pv 1) (fun _ _ => rfl)) (pe_gv G.c_RIGHT) (nomark _))
      (pss_one (ps_ret pe_non))
      pss_nil)
      (pss_cons (ps_if (pt_cmpR op_eq (pe_ix ix_list (pv 0) (pv 1) (fun _ _ => rfl)) (pe_gv G.c_LEFT) (nomark _))
      (pss_one (ps_ret (C8.pe_c c_bracketed_span hr (by omega) (by rfl) (pa_cons (pv 0) (pa_cons (pe_op op_add (pv 1) pe_int) pa_nil)))))
      pss_nil)
      (pss_one (ps_ret (C8.pe_c c_sign_span hr (by omega) (by rfl) (pa_cons (pv 0) (pa_cons (pv 1) (pa_cons (pe_lst pa_nil) pa_nil)))))))), ?_⟩
    obtain ⟨c, hc⟩ : ∃ c, l[st]? = some c := ⟨l[st], List.getElem?_eq_getElem hst⟩
    have hc' : (vN l)[st]? = some (.int (c : Int)) := by rw [vN_get, hc]; rfl
    have hd := drop_cons hc
    rw [hd, Tm.spanAt] at q1 q2
    refine ⟨_, rfl, _, rfl, a, _, _, _, rfl, rfl, hA, at_of rfl hc', rfl, _, rfl, ite2 (fun g => ?_) (fun g => ?_)⟩
    · have g1 : c = 93 := by have := eq_dec g; omega
      rw [if_pos g1] at q1
      exact q1 rfl H (Same.refl _)
    · have g1 : c ≠ 93 := by have := ne_dec g; omega
      rw [if_neg g1] at q1 q2
      refine ⟨_, rfl, _, rfl, a, _, _, _, rfl, rfl, hA, at_of rfl hc', rfl, _, rfl, ite2 (fun g2 => ?_) (fun g2 => ?_)⟩
      · have g3 : c = 91 := by have := eq_dec g2; omega
        rw [if_pos g3] at q1 q2
        exact ⟨_, rfl, _, rfl, _, _, rfl, rfl, a, l, st + 1, rfl, hA, by omega, hlen, q1, q2⟩
      · have g3 : c ≠ 91 := by have := ne_dec g2; omega
        rw [if_neg g3] at q1 q2
        refine ⟨_, rfl, _, rfl, Nat.zero_le _, fun mk nm => ?_⟩
        have s1 : Same H (upd H mk (.lst [])) := same_upd nm
        refine ⟨a, l, st, .ref mk, rfl, s1.seq hA, by omega, hlen, fun h H' s2 => ?_, fun sg rest h H' x s2 hx => ?_⟩
        · rw [hd] at h
          rw [h] at q1
          exact q1 rfl H' (s1.trans s2)
        · rw [hd] at h
          rw [h] at q2
          exact q2 [] sg rest rfl H' x (s1.trans s2) ⟨mk, hx.back s1, s2 _ _ upd_same, nm⟩
end
end Td
set_option maxRecDepth 100000
set_option maxHeartbeats 4000000
namespace Td
open PySem PySem.Spec PyProof.Rows L2
/-! ### data of numbers, tuples and lists -/
mutual
def pureI : PyData → Bool
  | .none => true
  | .int _ => true
  | .list xs => pureIs xs
  | .tuple xs => pureIs xs
  | _ => false
def pureIs : List PyData → Bool
  | [] => true
  | x :: xs => pureI x && pureIs xs
end
mutual
theorem pure_eqv : ∀ (d e : PyData), pureI d = true → pureI e = true → (PyData.eqv d e = true ↔ d = e)
  | .none, .none, _, _ => ⟨fun _ => rfl, fun _ => by rw [PyData.eqv]⟩
  | .int i, .int j, _, _ => by
    rw [PyData.eqv, beq_iff_eq]
    exact ⟨fun h => by rw [h], fun h => PyData.int.inj h⟩
  | .list xs, .list ys, h1, h2 => by
    rw [PyData.eqv, pures_eqv xs ys (by simpa [pureI] using h1) (by simpa [pureI] using h2)]
    exact ⟨fun h => by rw [h], fun h => PyData.list.inj h⟩
  | .tuple xs, .tuple ys, h1, h2 => by
    rw [PyData.eqv, pures_eqv xs ys (by simpa [pureI] using h1) (by simpa [pureI] using h2)]
    exact ⟨fun h => by rw [h], fun h => PyData.tuple.inj h⟩
  | .none, .int _, _, _ => ⟨fun h => (by rw [PyData.eqv] at h; cases h), fun h => nomatch h⟩
  | .none, .list _, _, _ => ⟨fun h => (by rw [PyData.eqv] at h; cases h), fun h => nomatch h⟩
  | .none, .tuple _, _, _ => ⟨fun h => (by rw [PyData.eqv] at h; cases h), fun h => nomatch h⟩
  | .int _, .none, _, _ => ⟨fun h => (by rw [PyData.eqv] at h; cases h), fun h => nomatch h⟩
  | .int _, .list _, _, _ => ⟨fun h => (by rw [PyData.eqv] at h; cases h), fun h => nomatch h⟩
  | .int _, .tuple _, _, _ => ⟨fun h => (by rw [PyData.eqv] at h; cases h), fun h => nomatch h⟩
  | .list _, .none, _, _ => ⟨fun h => (by rw [PyData.eqv] at h; cases h), fun h => nomatch h⟩
  | .list _, .int _, _, _ => ⟨fun h => (by rw [PyData.eqv] at h; cases h), fun h => nomatch h⟩
  | .list _, .tuple _, _, _ => ⟨fun h => (by rw [PyData.eqv] at h; cases h), fun h => nomatch h⟩
  | .tuple _, .none, _, _ => ⟨fun h => (by rw [PyData.eqv] at h; cases h), fun h => nomatch h⟩
  | .tuple _, .int _, _, _ => ⟨fun h => (by rw [PyData.eqv] at h; cases h), fun h => nomatch h⟩
  | .tuple _, .list _, _, _ => ⟨fun h => (by rw [PyData.eqv] at h; cases h), fun h => nomatch h⟩
  | .bool _, _, h, _ => by simp [pureI] at h
  | .str _, _, h, _ => by simp [pureI] at h
  | .dict _, _, h, _ => by simp [pureI] at h
  | _, .bool _, _, h => by simp [pureI] at h
  | _, .str _, _, h => by simp [pureI] at h
  | _, .dict _, _, h => by simp [pureI] at h
theorem pures_eqv : ∀ (xs ys : List PyData), pureIs xs = true → pureIs ys = true → (PyData.eqvAll xs ys = true ↔ xs = ys)
  | [], [], _, _ => ⟨fun _ => rfl, fun _ => by rw [PyData.eqvAll]⟩
  | [], _ :: _, _, _ => ⟨fun h => (by rw [PyData.eqvAll] at h; cases h), fun h => nomatch h⟩
  | _ :: _, [], _, _ => ⟨fun h => (by rw [PyData.eqvAll] at h; cases h), fun h => nomatch h⟩
  | x :: xs, y :: ys, h1, h2 => by
    simp only [pureIs, Bool.and_eq_true] at h1 h2
    rw [PyData.eqvAll, Bool.and_eq_true, pure_eqv x y h1.1 h2.1, pures_eqv xs ys h1.2 h2.2]
    exact ⟨fun h => by rw [h.1, h.2], fun h => List.cons.inj h⟩
end
mutual
theorem pure_lay : ∀ d : PyData, pureI d = true → d.canLay0 = true
  | .none, _ => by rw [PyData.canLay0]
  | .int _, _ => by rw [PyData.canLay0]
  | .list xs, h => by rw [PyData.canLay0]; exact pures_lay xs (by simpa [pureI] using h)
  | .tuple xs, h => by rw [PyData.canLay0]; exact pures_lay xs (by simpa [pureI] using h)
  | .bool _, h => by simp [pureI] at h
  | .str _, h => by simp [pureI] at h
  | .dict _, h => by simp [pureI] at h
theorem pures_lay : ∀ xs : List PyData, pureIs xs = true → PyData.canLayAll0 xs = true
  | [], _ => by rw [PyData.canLayAll0]
  | x :: xs, h => by
    simp only [pureIs, Bool.and_eq_true] at h
    rw [PyData.canLayAll0, pure_lay x h.1, pures_lay xs h.2]
    rfl
end
/-- data of numbers, so deep at most -/
def flatD (n : Nat) (d : PyData) : Prop := pureI d = true ∧ d.depth ≤ n
theorem flatD.shaped {n : Nat} {d : PyData} (h : flatD n d) (hn : n ≤ 64) : SeqAt.shaped d = true := by
  show (d.canLay0 && decide (d.depth ≤ 64)) = true
  rw [pure_lay d h.1, decide_eq_true (Nat.le_trans h.2 hn)]
  rfl
theorem flatD_int (i : Int) (n : Nat) : flatD n (.int i) := ⟨by rw [pureI], by rw [PyData.depth]; exact Nat.zero_le _⟩
theorem flatD_none (n : Nat) : flatD n .none := ⟨by rw [pureI], by rw [PyData.depth]; exact Nat.zero_le _⟩
theorem pureIs_of {xs : List PyData} (h : ∀ x ∈ xs, pureI x = true) : pureIs xs = true := by
  induction xs with
  | nil => rw [pureIs]
  | cons x xs ih =>
    rw [pureIs, h x List.mem_cons_self, ih fun y hy => h y (List.mem_cons_of_mem _ hy)]
    rfl
theorem depthAll_of {n : Nat} {xs : List PyData} (h : ∀ x ∈ xs, x.depth ≤ n) : PyData.depthAll xs ≤ n := by
  induction xs with
  | nil => rw [PyData.depthAll]; exact Nat.zero_le _
  | cons x xs ih =>
    rw [PyData.depthAll]
    exact Nat.max_le.mpr ⟨h x List.mem_cons_self, ih fun y hy => h y (List.mem_cons_of_mem _ hy)⟩
theorem flatD_tup {n : Nat} {xs : List PyData} (h : ∀ x ∈ xs, flatD n x) : flatD (n + 1) (.tuple xs) :=
  ⟨by rw [pureI]; exact pureIs_of fun x hx => (h x hx).1, by rw [PyData.depth]; exact Nat.succ_le_succ (depthAll_of fun x hx => (h x hx).2)⟩
theorem flatD_lst {n : Nat} {xs : List PyData} (h : ∀ x ∈ xs, flatD n x) : flatD (n + 1) (.list xs) :=
  ⟨by rw [pureI]; exact pureIs_of fun x hx => (h x hx).1, by rw [PyData.depth]; exact Nat.succ_le_succ (depthAll_of fun x hx => (h x hx).2)⟩
theorem flatD.mono {n m : Nat} {d : PyData} (h : flatD n d) (hm : n ≤ m) : flatD m d := ⟨h.1, Nat.le_trans h.2 hm⟩
theorem flatD.eq {n m : Nat} {d e : PyData} (h : flatD n d) (k : flatD m e) : PyData.eqv d e = true ↔ d = e := pure_eqv d e h.1 k.1
/-- numbers as data -/
def dN (l : List Nat) : List PyData := l.map fun (n : Nat) => PyData.int (n : Int)
theorem dN_inj {l m : List Nat} : dN l = dN m ↔ l = m := by
  refine ⟨fun h => ?_, fun h => by rw [h]⟩
  unfold dN at h
  refine List.map_inj_right (fun a b e => ?_) |>.mp h
  have := PyData.int.inj e
  omega
theorem dN_flat (l : List Nat) : ∀ x ∈ dN l, flatD 0 x := fun x hx => by
  obtain ⟨n, _, rfl⟩ := List.mem_map.mp hx
  exact flatD_int _ _
theorem dpAll_nums {K : PySem.W.Frag} {H : Hp} : ∀ l : List Nat, DpAll K H (vN l) (dN l)
  | [] => .nil
  | n :: r => .cons (.int _) (dpAll_nums r)
theorem dp_list {K : PySem.W.Frag} {H : Hp} {a : Addr} {l : List Nat} (h : SqL K H a (vN l)) : Dp K H (.ref a) (.list (dN l)) := .lst h (dpAll_nums l)
theorem dp_tup {K : PySem.W.Frag} {H : Hp} {a : Addr} {l : List Nat} (h : SqT K H a (vN l)) : Dp K H (.ref a) (.tuple (dN l)) := .tup h (dpAll_nums l)
theorem nums_shaped (l : List Nat) : SeqAt.shaped (.list (dN l)) = true := (flatD_lst (dN_flat l)).shaped (by decide)
theorem nums_eqv (l m : List Nat) : PyData.eqv (.list (dN l)) (.list (dN m)) = decide (l = m) := by
  rw [Bool.eq_iff_iff, (flatD_lst (dN_flat l)).eq (flatD_lst (dN_flat m)), decide_eq_true_eq]
  exact ⟨fun h => dN_inj.mp (PyData.list.inj h), fun h => by rw [h]⟩
/-! ### the spans of a line -/
theorem spansF_fuel : ∀ (f g : Nat) (l : List Nat), l.length ≤ f → l.length ≤ g → (∀ t sp rest, Tm.spanAt t = some (sp, rest) → rest.length < t.length) → Tm.spansF f l = Tm.spansF g l
  | f, g, [], _, _, _ => by cases f <;> cases g <;> rfl
  | 0, _, c :: r, h, _, _ => absurd h (by simp)
  | _, 0, c :: r, _, h, _ => absurd h (by simp)
  | f + 1, g + 1, c :: r, h1, h2, hs => by
    rw [Tm.spansF, Tm.spansF]
    cases e : Tm.spanAt (c :: r) with
    | none => rfl
    | some x =>
      obtain ⟨sp, rest⟩ := x
      have := hs _ _ _ e
      rw [List.length_cons] at h1 h2 this
      dsimp only
      rw [spansF_fuel f g rest (by omega) (by omega) hs]
theorem signRun_suffix : ∀ (n : Nat) (t u v : List Nat), t.length ≤ n → Tm.signRun t = some (u, v) → ∃ p, t = p ++ v := by
  intro n
  induction n with
  | zero =>
    intro t u v ht hs
    have : t = [] := List.eq_nil_of_length_eq_zero (by omega)
    subst this
    obtain ⟨rfl, rfl⟩ := Prod.mk.inj (Option.some.inj (show some (([] : List Nat), ([] : List Nat)) = some (u, v) from hs))
    exact ⟨[], rfl⟩
  | succ n ih =>
    intro t u v ht hs
    cases t with
    | nil =>
      obtain ⟨rfl, rfl⟩ := Prod.mk.inj (Option.some.inj (show some (([] : List Nat), ([] : List Nat)) = some (u, v) from hs))
      exact ⟨[], rfl⟩
    | cons x t =>
      rw [List.length_cons] at ht
      by_cases h1 : x = 91 ∨ x = 93
      · rw [Tm.signRun_stop h1] at hs
        obtain ⟨rfl, rfl⟩ := Prod.mk.inj (Option.some.inj hs)
        exact ⟨[], rfl⟩
      · by_cases h2 : x = 92
        · subst h2
          cases t with
          | nil => rw [Tm.signRun_last] at hs; cases hs
          | cons y t =>
            rw [Tm.signRun_esc] at hs
            obtain ⟨⟨u', v'⟩, e1, e2⟩ := Option.map_eq_some_iff.mp hs
            obtain ⟨rfl, rfl⟩ := Prod.mk.inj e2
            rw [List.length_cons] at ht
            obtain ⟨p, hp⟩ := ih t u' v' (by omega) e1
            exact ⟨92 :: y :: p, by rw [hp]; rfl⟩
        · rw [Tm.signRun_cons (by omega) (by omega) h2] at hs
          obtain ⟨⟨u', v'⟩, e1, e2⟩ := Option.map_eq_some_iff.mp hs
          obtain ⟨rfl, rfl⟩ := Prod.mk.inj e2
          obtain ⟨p, hp⟩ := ih t u' v' (by omega) e1
          exact ⟨x :: p, by rw [hp]; rfl⟩
theorem spanAt_suffix {t : List Nat} {sp : List Nat × List Nat} {rest : List Nat} (h : Tm.spanAt t = some (sp, rest)) : ∃ p, p ≠ [] ∧ t = p ++ rest := by
  cases t with
  | nil => cases h
  | cons c r =>
    rw [Tm.spanAt] at h
    by_cases h1 : c = 93
    · rw [if_pos h1] at h; cases h
    · rw [if_neg h1] at h
      by_cases h2 : c = 91
      · rw [if_pos h2] at h
        unfold Tm.brSpan at h
        obtain ⟨m1, _⟩ := Tm.markRun_rest r
        generalize (Tm.markRun r).2 = tl at *
        generalize (Tm.markRun r).1 = m at *
        cases tl with
        | nil => cases h
        | cons d tl =>
          dsimp only at h
          by_cases h3 : d = 124
          · rw [if_pos h3] at h
            unfold Tm.clSpan at h
            cases hq : Tm.signRun tl with
            | none => rw [hq] at h; cases h
            | some x =>
              obtain ⟨s, rs⟩ := x
              rw [hq] at h
              cases rs with
              | nil => cases h
              | cons e rs =>
                dsimp only at h
                by_cases h4 : e = 91
                · rw [if_pos h4] at h; cases h
                · rw [if_neg h4] at h
                  obtain ⟨_, rfl⟩ := Prod.mk.inj (Option.some.inj h)
                  obtain ⟨p, hp⟩ := signRun_suffix _ _ _ _ (Nat.le_refl _) hq
                  exact ⟨c :: (m ++ d :: (p ++ [e])), fun z => (by cases z), by rw [m1, hp]; simp⟩
          · rw [if_neg h3] at h
            by_cases h4 : d = 93 ∧ tl = []
            · rw [if_pos h4] at h
              obtain ⟨_, rfl⟩ := Prod.mk.inj (Option.some.inj h)
              exact ⟨c :: r, fun z => (by cases z), by simp⟩
            · rw [if_neg h4] at h; cases h
      · rw [if_neg h2] at h
        obtain ⟨⟨s, rs⟩, e1, e2⟩ := Option.map_eq_some_iff.mp h
        obtain ⟨_, rfl⟩ := Prod.mk.inj e2
        obtain ⟨p, hp⟩ := signRun_suffix _ _ _ _ (Nat.le_refl _) e1
        have hl := (Tm.signRun_rest _ _ _ _ (Nat.le_refl _) e1).2.2.2.2.2 c r rfl h2 h1
        refine ⟨p, fun z => ?_, hp⟩
        subst z
        rw [hp] at hl
        exact absurd hl (Nat.lt_irrefl _)
theorem spanAt_less {t : List Nat} {sp : List Nat × List Nat} {rest : List Nat} (h : Tm.spanAt t = some (sp, rest)) : rest.length < t.length := by
  obtain ⟨p, h1, h2⟩ := spanAt_suffix h
  have := congrArg List.length h2
  rw [List.length_append] at this
  have h3 : 0 < p.length := List.length_pos_iff.mpr h1
  omega
theorem drop_suffix {l p r : List Nat} {n : Nat} (h : l.drop n = p ++ r) : l.drop (l.length - r.length) = r := by
  have e : l = (l.take n ++ p) ++ r := by rw [List.append_assoc, ← h, List.take_append_drop]
  have e2 : l.length - r.length = (l.take n ++ p).length := by
    have := congrArg List.length e
    rw [List.length_append] at this
    omega
  rw [e2]
  conv => lhs; rw [e]
  have e3 : (List.take n (l.take n ++ p ++ r) ++ p).length = (l.take n ++ p).length := by rw [← e]
  rw [e3]
  exact List.drop_left
/-- a span, wherever its lists lie -/
def SpX (C : Addr) (H : Hp) (x : Addr) (r : List Nat × List Nat) : Prop := ∃ (b : Nat) (mk dx sg : Addr), H x = some (.ins C dx (fSpan.zip [.ref mk, .ref sg, .int (b : Int)])) ∧ H sg = some (.lst (vN r.2)) ∧ H mk = some (.lst (vN r.1))
theorem SpX.same {C : Addr} {H H' : Hp} {x : Addr} {r : List Nat × List Nat} (e : Same H H') (h : SpX C H x r) : SpX C H' x r := by
  obtain ⟨b, mk, dx, sg, h1, h2, h3⟩ := h
  exact ⟨b, mk, dx, sg, e _ _ h1, e _ _ h2, e _ _ h3⟩
/-- .. and apart from p -/
def SpY (C p : Addr) (H : Hp) (x : Addr) (r : List Nat × List Nat) : Prop := x ≠ p ∧ ∃ (b : Nat) (mk dx sg : Addr), H x = some (.ins C dx (fSpan.zip [.ref mk, .ref sg, .int (b : Int)])) ∧ H sg = some (.lst (vN r.2)) ∧ H mk = some (.lst (vN r.1)) ∧ sg ≠ p ∧ mk ≠ p
theorem SpY.same {C p : Addr} {H H' : Hp} {x : Addr} {r : List Nat × List Nat} (e : Same H H') (h : SpY C p H x r) : SpY C p H' x r := by
  obtain ⟨h0, b, mk, dx, sg, h1, h2, h3, h4⟩ := h
  exact ⟨h0, b, mk, dx, sg, e _ _ h1, e _ _ h2, e _ _ h3, h4⟩
theorem SpY.upd {C p : Addr} {H : Hp} {x : Addr} {r : List Nat × List Nat} {o : HO} (h : SpY C p H x r) : SpY C p (L2.upd H p o) x r := by
  obtain ⟨h0, b, mk, dx, sg, h1, h2, h3, h4, h5⟩ := h
  exact ⟨h0, b, mk, dx, sg, by rw [upd_ne h0]; exact h1, by rw [upd_ne h4]; exact h2, by rw [upd_ne h5]; exact h3, h4, h5⟩
theorem SpY.x {C p : Addr} {H : Hp} {x : Addr} {r : List Nat × List Nat} (h : SpY C p H x r) : SpX C H x r := by
  obtain ⟨h0, b, mk, dx, sg, h1, h2, h3, h4, h5⟩ := h
  exact ⟨b, mk, dx, sg, h1, h2, h3⟩
/-- at p a list of spans -/
def SpansAt (C : Addr) (H : Hp) (p : Addr) (ss : List (List Nat × List Nat)) : Prop := ∃ as : List Addr, H p = some (.lst (as.map V.ref)) ∧ Paired (SpX C H) as ss
theorem atI_last {α : Type} {xs : List α} {x : α} (h : xs[xs.length - 1]? = some x) : atI xs (-1) = some x := by
  have hl : xs.length - 1 < xs.length := (List.getElem?_eq_some_iff.mp h).1
  unfold atI ixN
  rw [if_neg (by omega), if_pos (by omega)]
  show xs[((-1 : Int) + (xs.length : Int)).toNat]? = some x
  rw [show ((-1 : Int) + (xs.length : Int)).toNat = xs.length - 1 by omega]
  exact h
section
variable {P : Program} {w : World} {K : PySem.W.Frag} {mg : Str → Option Value} {base : Heap} {C : Addr}
def sp_spans_of (K : PySem.W.Frag) (C : Addr) : Sp := fun vs H Q _ => ∃ (a : Addr) (l : List Nat), vs = [.ref a] ∧ SqL K H a (vN l) ∧ l.length < 1000000 ∧
  (Tm.spansOf l = none → ∀ H', Same H H' → Q .non H') ∧ (∀ ss, Tm.spansOf l = some ss → ∀ H' p, Same H H' → SpansAt C H' p ss → Q (.ref p) H')
theorem ok_spans_of {k : Nat} (G : Glob mg) (T : CT K C fSpan) (m_Span : C8.Mak P w K mg base 1 "Span" C (spInit C fSpan) []) (c_span_at : C8.Cal P w K mg base 6 "span_at" (sp_span_at K C) []) (D : Stands K mg "spans_of" s_spans_of) : C8.Cal P w K mg base (k + 7) "spans_of" (sp_spans_of K C) [] := by
  refine cal_of D sc_spans_of (fun vs H Q E h => ?_) (fun _ _ _ _ _ _ us hl => match us, hl with | [_], _ => rfl) (fun f cdv A outer s H vs Q E hr h => ?_)
  · obtain ⟨a, l, rfl, _⟩ := h
    rfl
  · obtain ⟨a, l, rfl, hA, hlen, q1, q2⟩ := h
    have hlenS : l.length < sizeLine := Nat.lt_trans hlen (by decide)
    refine ⟨_, (pss_cons (ps_set (i := 1) sc_spans_of.nd rfl (Or.inl rfl) (pe_lst pa_nil))
      (pss_cons (ps_set (i := 2) sc_spans_of.nd rfl (Or.inl rfl) pe_int)
      (pss_cons (ps_while PassesOwn.never (pt_cmpR op_lt (pv 2) (pe_callB call_len_seq (by rfl) G.b_len (by decide +kernel) (pa_cons (pv 0) pa_nil)) (nomark _))
      (pss_cons (ps_set (i := 3) sc_spans_of.nd rfl (Or.inl rfl) (C8.pe_c c_span_at hr (by omega) (by rfl) (pa_cons (pv 0) (pa_cons (pv 2) pa_nil))))
      (pss_cons (ps_if (pt_cmpR op_isN (pv 3) pe_non (nomark _))
      (pss_one (ps_ret pe_non))
      pss_nil)
      (pss_cons (ps_expr (pe_bm PySem.F.plainAttrs_list PySem.F.slot_list_append PySem.F.type_list_append mt_append (pv 1) (pa_cons (pv 3) pa_nil)))
      (pss_one (ps_set (i := 2) sc_spans_of.nd rfl (Or.inl rfl) (pe_fld (pv 3) rfl)))))))
      (pss_cons (ps_if (PW.pt (pw_or (pt_cmpR op_eq (pe_callB call_len_seq (by rfl) G.b_len (by decide +kernel) (pa_cons (pv 1) pa_nil)) pe_int (nomark _)) (pw_or1 (pt_cmpR (op_neD hr.units) (pe_fld (pe_ix ix_list (pv 1) (pe_un un_neg pe_int) (fun _ _ => rfl)) rfl) (pe_lst (pa_cons (pe_gv G.c_LINE_END) pa_nil)) (nomark _)))))
      (pss_one (ps_expr (pe_bm PySem.F.plainAttrs_list PySem.F.slot_list_append PySem.F.type_list_append mt_append (pv 1) (pa_cons (C8.pe_mk m_Span hr (by omega) (by rfl) (pa_cons (pe_lst pa_nil) (pa_cons (pe_lst (pa_cons (pe_gv G.c_LINE_END) pa_nil)) (pa_cons (pv 2) pa_nil)))) pa_nil))))
      pss_nil)
      (pss_one (ps_ret (pv 1))))))), ?_⟩
    unfold Tm.spansOf at q1 q2
    refine ⟨Nat.zero_le _, fun p np => ?_⟩
    refine ⟨fun m σ H1 => ∃ (n : Nat) (acc : List (List Nat × List Nat)) (as : List Addr) (y : Option V), σ = [some (.ref a), some (.ref p), some (.int (n : Int)), y] ∧ n ≤ l.length ∧ m = l.length - n ∧ Same H H1 ∧
        H1 p = some (.lst (as.map V.ref)) ∧ Paired (SpY C p H1) as acc ∧ acc.length ≤ n ∧ Tm.spansF l.length l = (Tm.spansF (l.drop n).length (l.drop n)).map (acc ++ ·),
      ⟨l.length, 0, [], [], none, rfl, Nat.zero_le _, rfl, same_upd np, upd_same, .nil, Nat.le_refl _, ?_⟩, fun m σ H1 hW => ?_⟩
    · rw [List.drop_zero]
      cases Tm.spansF l.length l <;> rfl
    · obtain ⟨n, acc, as, y, rfl, hn, hm, s1, h1, h2, hacc, hrun⟩ := hW
      have hA1 := s1.seq hA
      refine ⟨_, rfl, _, rfl, a, _, rfl, .inl hA1, _, _, rfl, rfl, _, rfl, ite2 (fun e => ?_) (fun e => ?_)⟩
      · have e1 : n < l.length := by
          have := lt_dec e
          rw [vN_len] at this
          omega
        obtain ⟨c, hc⟩ : ∃ c, l[n]? = some c := ⟨l[n], List.getElem?_eq_getElem e1⟩
        have hd := drop_cons hc
        refine ⟨fun σ' H' => ∃ (n : Nat) (acc : List (List Nat × List Nat)) (as : List Addr) (y : Option V), σ' = [some (.ref a), some (.ref p), some (.int (n : Int)), y] ∧ n ≤ l.length ∧ l.length - n < m ∧ Same H H' ∧
          H' p = some (.lst (as.map V.ref)) ∧ Paired (SpY C p H') as acc ∧ acc.length ≤ n ∧ Tm.spansF l.length l = (Tm.spansF (l.drop n).length (l.drop n)).map (acc ++ ·),
          fun σ' H' ⟨n', acc', as', y', g1, g2, g3, g4⟩ => ⟨_, g3, n', acc', as', y', g1, g2, rfl, g4⟩, ?_⟩
        refine ⟨_, rfl, _, rfl, a, l, n, rfl, hA1, e1, hlenS, fun hq H2 s2 => ?_, fun mks sgs rest hq H2 x s2 hx => ?_⟩
        · refine ⟨_, rfl, rfl, _, rfl, ?_⟩
          refine q1 ?_ H2 (s1.trans s2)
          have e2 : Tm.spansF (l.drop n).length (l.drop n) = none := by
            rw [hd] at hq ⊢
            rw [List.length_cons, Tm.spansF, hq]
          rw [hrun, e2]
          rfl
        · obtain ⟨pp, hp1, hp2⟩ := spanAt_suffix hq
          have hless := spanAt_less hq
          have hdr := drop_suffix hp2
          rw [List.length_drop] at hless
          have h1' := s2 _ _ h1
          obtain ⟨mka, ⟨dx, sga, x1, x2, x4⟩, x3, x5⟩ := hx
          have npS : sga ≠ p := fun z => by rw [z, h1] at x4; cases x4
          have npM : mka ≠ p := fun z => by rw [z, h1] at x5; cases x5
          have npX : x ≠ p := fun z => by rw [z, h1'] at x1; cases x1
          refine ⟨_, rfl, rfl, _, rfl, ?_⟩
          refine ⟨_, rfl, .inl ⟨rfl, _, SqL.of h1'⟩, _, rfl, p, _, _, rfl, rfl, h1', ?_, ?_⟩
          · rw [List.length_map, Paired.length h2]
            exact Nat.lt_of_le_of_lt (Nat.le_trans hacc hn) hlenS
          · refine ⟨_, rfl, x, C, dx, _, _, rfl, by rw [upd_ne npX]; exact x1, T.cl, T.no _ (by simp), lkS2, l.length - rest.length, acc ++ [(mks, sgs)], as ++ [x], some (.ref x), rfl, by omega, by omega, same_write np (s1.trans s2), ?_, ?_, ?_, ?_⟩
            · rw [upd_same, List.map_append]
              rfl
            · exact paired_snoc (Paired.mapP h2 fun b r z => (z.same s2).upd) (SpY.upd ⟨npX, _, mka, dx, sga, x1, x2, x3, npS, npM⟩)
            · rw [List.length_append, List.length_singleton]
              omega
            · have e2 : Tm.spansF (l.drop n).length (l.drop n) = (Tm.spansF rest.length rest).map ((mks, sgs) :: ·) := by
                rw [hd] at hq ⊢
                rw [List.length_cons, Tm.spansF, hq]
                dsimp only
                rw [spansF_fuel (l.drop (n + 1)).length rest.length rest (by rw [List.length_drop]; omega) (Nat.le_refl _) (fun _ _ _ => spanAt_less)]
              rw [hrun, e2, hdr]
              cases Tm.spansF rest.length rest with
              | none => rfl
              | some z =>
                show some (acc ++ ((mks, sgs) :: z)) = some (acc ++ [(mks, sgs)] ++ z)
                rw [List.append_assoc]
                rfl
      · have e1 : n = l.length := by
          have := ge_dec e
          rw [vN_len] at this
          omega
        have hrun2 : Tm.spansF l.length l = some acc := by
          rw [hrun, e1, List.drop_length]
          show some (acc ++ []) = _
          rw [List.append_nil]
        rw [hrun2] at q2
        have q3 := q2 (Tm.finish acc) rfl
        have hnp : ∀ {q : Addr}, H1 q = none → H q = none := fun z => s1.free z
        -- the end's own span is put behind
        have add : Tm.finish acc = acc ++ [([], [10])] → ∀ H2, Same H1 H2 → ∀ (D : Ends), (D.nx = fun σ H' => ∃ v, σ[1]? = some (some v) ∧ Q v H') →
            (tDrop (tBM K "list" rAppend (tVar 1) (tCons (tMake C (spInit C fSpan) [] E0 (tCons (tLst tNil) (tCons (tLst (tCons (tC (.int 10)) tNil)) (tCons (tVar 2) tNil)))) tNil))) D [some (.ref a), some (.ref p), some (.int (n : Int)), y] H2 := by
          intro hf H2 s2 D hD
          have h1' := s2 _ _ h1
          refine ⟨_, rfl, .inl ⟨rfl, _, SqL.of h1'⟩, Nat.zero_le _, fun mk nm => ⟨(by show 1 ≤ sizeLine; decide), fun sg ns => ⟨_, rfl, fun x dx nx nd ne => ⟨x, dx, [.ref mk, .ref sg, .int (n : Int)], rfl, rfl, upd_same, rfl, ?_⟩⟩⟩⟩
          rw [upd_upd]
          have s3 : Same H2 (L2.upd H2 mk (.lst [])) := same_upd nm
          have s4 : Same (L2.upd H2 mk (.lst [])) (L2.upd (L2.upd H2 mk (.lst [])) sg (.lst [.int 10])) := same_upd ns
          have s5 := made_same (C := C) (fs := fSpan.zip [.ref mk, .ref sg, .int (n : Int)]) nx nd
          have hp5 := s5 _ _ (s4 _ _ (s3 _ _ h1'))
          have npM : mk ≠ p := fun z => by rw [z, h1'] at nm; cases nm
          have npS : sg ≠ p := fun z => by rw [z, s3 _ _ h1'] at ns; cases ns
          have npX : x ≠ p := fun z => by rw [z, s4 _ _ (s3 _ _ h1')] at nx; cases nx
          refine ⟨p, _, _, rfl, rfl, hp5, ?_, ?_⟩
          · rw [List.length_map, Paired.length h2]
            omega
          · rw [hD]
            refine ⟨_, rfl, q3 _ p (same_write np (s1.trans (s2.trans (s3.trans (s4.trans s5))))) ⟨as ++ [x], ?_, ?_⟩⟩
            · rw [upd_same, List.map_append]
              rfl
            · rw [hf]
              refine paired_snoc (Paired.mapP h2 fun b r z => ((z.same (s2.trans (s3.trans (s4.trans s5)))).upd).x) ?_
              exact SpY.x (p := p) (SpY.upd ⟨npX, n, mk, dx, sg, made_at, s5 _ _ upd_same, s5 _ _ (s4 _ _ upd_same), npS, npM⟩)
        refine ⟨_, rfl, p, _, rfl, .inl (SqL.of h1), rfl, _, rfl, ite2 (fun g => ?_) (fun g => ?_)⟩
        · have g1 := eq_dec g
          rw [List.length_map, Paired.length h2] at g1
          have g2 : acc = [] := List.eq_nil_of_length_eq_zero (by omega)
          exact add (by subst g2; rfl) H1 (Same.refl _) _ rfl
        · have g1 := ne_dec g
          rw [List.length_map] at g1
          have hlas : as.length - 1 < as.length := by omega
          have hx : as[as.length - 1]? = some as[as.length - 1] := List.getElem?_eq_getElem hlas
          obtain ⟨r, hr1, hr2⟩ := paired_get h2 hx
          obtain ⟨g3, b, mk, dx, sg, x1, x2, x3, x4, x5⟩ := hr2
          have hx' : (as.map V.ref)[(as.map V.ref).length - 1]? = some (.ref as[as.length - 1]) := by
            rw [List.length_map, List.getElem?_map, hx]
            rfl
          have hlast : acc.getLast? = some r := by
            rw [List.getLast?_eq_getElem?, ← Paired.length h2]
            exact hr1
          refine ⟨_, rfl, _, rfl, p, _, _, _, rfl, rfl, SqL.of h1, atI_last hx', as[as.length - 1], C, dx, _, _, rfl, x1, T.cl, T.no _ (by simp), lkS1, (by show 1 ≤ sizeLine; decide), fun t nt => ?_⟩
          have st : Same H1 (L2.upd H1 t (.lst [.int 10])) := same_upd nt
          refine ⟨.list (dN r.2), .list (dN [10]), dp_list (SqL.of (st _ _ x2)), dp_list (l := [10]) (SqL.of upd_same), nums_shaped _, nums_shaped _, _, rfl, ?_⟩
          rw [nums_eqv]
          by_cases z : r.2 = [10]
          · rw [decide_eq_true z]
            refine ⟨_, rfl, q3 _ p (s1.trans st) ⟨as, st _ _ h1, ?_⟩⟩
            have hf : Tm.finish acc = acc := by
              unfold Tm.finish
              rw [if_neg]
              rw [hlast]
              intro y
              rcases y with y | y
              · rw [y] at hlast; cases hlast
              · exact y (by rw [← z]; rfl)
            rw [hf]
            exact Paired.mapP h2 fun b r z => (z.same st).x
          · rw [decide_eq_false z]
            refine add ?_ _ st _ rfl
            unfold Tm.finish
            rw [if_pos]
            rw [hlast]
            exact .inr fun y => z (Option.some.inj y)
end
end Td
set_option maxRecDepth 100000
set_option maxHeartbeats 4000000
namespace Td
open PySem PySem.Spec PyProof.Rows L2
theorem vN_flat (l : List Nat) : (vN l).all flatV = true := by
  unfold vN
  rw [List.all_map]
  exact List.all_eq_true.mpr fun _ _ => rfl
theorem in_nums (n : Nat) (l : List Nat) : inV (.int (n : Int)) (vN l) = decide (n ∈ l) := by
  unfold inV vN
  rw [List.any_map, Bool.eq_iff_iff, List.any_eq_true, decide_eq_true_eq]
  constructor
  · rintro ⟨x, hx, e⟩
    have : ((x : Int) == (n : Int)) = true := e
    rw [beq_iff_eq] at this
    have e2 : x = n := by omega
    rw [← e2]
    exact hx
  · intro h
    exact ⟨n, h, beq_self_eq_true (n : Int)⟩
theorem first_split {l : List Nat} {n : Nat} (h : n ∈ l) : ∃ a b, l = a ++ n :: b ∧ n ∉ a := by
  induction l with
  | nil => cases h
  | cons c r ih =>
    by_cases e : c = n
    · subst e; exact ⟨[], r, rfl, fun z => by cases z⟩
    · obtain ⟨a, b, e1, e2⟩ := ih (by rcases List.mem_cons.mp h with z | z; exact absurd z.symm e; exact z)
      refine ⟨c :: a, b, by rw [e1]; rfl, fun z => ?_⟩
      rcases List.mem_cons.mp z with z | z
      · exact e z.symm
      · exact e2 z
/-- an item -/
def ItemAt (C : Addr) (H : Hp) (a : Addr) (it : Vatrkd.Item) : Prop := ∃ dx, H a = some (.ins C dx (fItem.zip [.int ((Tm.it4 it).1 : Nat), .int ((Tm.it4 it).2.1 : Nat), .int ((Tm.it4 it).2.2.1 : Nat), .int ((Tm.it4 it).2.2.2 : Nat)]))
theorem ItemAt.same {C : Addr} {H H' : Hp} {a : Addr} {it : Vatrkd.Item} (e : Same H H') (h : ItemAt C H a it) : ItemAt C H' a it := by
  obtain ⟨dx, h⟩ := h
  exact ⟨dx, e _ _ h⟩
theorem lkI0 {a b c d : V} : (fItem.zip [a, b, c, d]).lookup ("mark" : Str) = some a := lk_here
theorem lkI1 {a b c d : V} : (fItem.zip [a, b, c, d]).lookup ("number" : Str) = some b := (lk_past (by decide +kernel)).trans lk_here
theorem lkI2 {a b c d : V} : (fItem.zip [a, b, c, d]).lookup ("place" : Str) = some c := (lk_past (by decide +kernel)).trans ((lk_past (by decide +kernel)).trans lk_here)
theorem lkI3 {a b c d : V} : (fItem.zip [a, b, c, d]).lookup ("value" : Str) = some d := (lk_past (by decide +kernel)).trans ((lk_past (by decide +kernel)).trans ((lk_past (by decide +kernel)).trans lk_here))
/-- at p a list of items -/
def ItemsAt (C : Addr) (H : Hp) (p : Addr) (its : List Vatrkd.Item) : Prop := ∃ as : List Addr, H p = some (.lst (as.map V.ref)) ∧ Paired (ItemAt C H) as its
theorem ItemsAt.same {C : Addr} {H H' : Hp} {p : Addr} {its : List Vatrkd.Item} (e : Same H H') (h : ItemsAt C H p its) : ItemsAt C H' p its := by
  obtain ⟨as, h1, h2⟩ := h
  exact ⟨as, e _ _ h1, Paired.mapP h2 fun a it z => z.same e⟩
theorem cut_tail {l : List Nat} {c : Nat} {r : List Nat} (h : l = c :: r) : cutV (vN l) (some 1) none = vN r := by
  subst h
  have := cut_from (xs := vN (c :: r)) (i := 1) (by rw [vN_len]; simp)
  rw [show ((1 : Nat) : Int) = (1 : Int) from rfl] at this
  rw [this, vN_drop]
  rfl
abbrev s_tells_property : Stmt := top 68
abbrev n_tells_property : List Str := ["part"]
abbrev p_tells_property : List Str := ["part"]
theorem sc_tells_property : FnScope n_tells_property p_tells_property (defScope s_tells_property) := ⟨rfl, rfl, rfl, by decide +kernel, rfl, by decide +kernel, by decide +kernel⟩
abbrev s_pending_item : Stmt := top 67
abbrev n_pending_item : List Str := ["part", "at", "change", "told"]
abbrev p_pending_item : List Str := ["part"]
theorem sc_pending_item : FnScope n_pending_item p_pending_item (defScope s_pending_item) := ⟨rfl, rfl, rfl, by decide +kernel, rfl, by decide +kernel, by decide +kernel⟩
abbrev s_item_of : Stmt := top 66
abbrev n_item_of : List Str := ["part", "mark"]
abbrev p_item_of : List Str := ["part"]
theorem sc_item_of : FnScope n_item_of p_item_of (defScope s_item_of) := ⟨rfl, rfl, rfl, by decide +kernel, rfl, by decide +kernel, by decide +kernel⟩
abbrev s_items_of : Stmt := top 65
abbrev n_items_of : List Str := ["marks", "items", "part", "item"]
abbrev p_items_of : List Str := ["marks"]
theorem sc_items_of : FnScope n_items_of p_items_of (defScope s_items_of) := ⟨rfl, rfl, rfl, by decide +kernel, rfl, by decide +kernel, by decide +kernel⟩
section
variable {P : Program} {w : World} {K : PySem.W.Frag} {mg : Str → Option Value} {base : Heap} {C : Addr}
def sp_tells_property (K : PySem.W.Frag) : Sp := fun vs H Q _ => ∃ (a : Addr) (l : List Nat), vs = [.ref a] ∧ SqL K H a (vN l) ∧ ∀ H', Same H H' → Q (.bl (Tm.tellsP l)) H'
theorem ok_tells_property {k : Nat} (G : Glob mg) (c_is_numeral : C8.Cal P w K mg base 1 "is_numeral" (sp_is_numeral K) []) (D : Stands K mg "tells_property" s_tells_property) : C8.Cal P w K mg base (k + 2) "tells_property" (sp_tells_property K) [] := by
  refine cal_of D sc_tells_property (fun vs H Q E h => ?_) (fun _ _ _ _ _ _ us hl => match us, hl with | [_], _ => rfl) (fun f cdv A outer s H vs Q E hr h => ?_)
  · obtain ⟨a, l, rfl, _⟩ := h
    rfl
  · obtain ⟨a, l, rfl, hA, q⟩ := h
    refine ⟨_, (pss_one (ps_ret (pe_and (pe_cmpR op_gt (pe_callB call_len_seq (by rfl) G.b_len (by decide +kernel) (pa_cons (pv 0) pa_nil)) pe_int (nomark _)) (pe_and (pe_chain op_le op_le (pe_gv G.c_FIRST_PROPERTY) (pe_ix ix_list (pv 0) pe_int (fun _ _ => rfl)) (pe_gv G.c_LAST_PROPERTY)) (pe_one (C8.pe_c c_is_numeral hr (by omega) (by rfl) (pa_cons (pe_slice sl_list (pv 0) (po_some pe_int) po_none) pa_nil))))))), ?_⟩
    refine ⟨_, rfl, a, _, rfl, .inl hA, _, _, rfl, rfl, _, rfl, ite2 (fun g => ?_) (fun g => ?_)⟩
    · have g1 := lt_dec g
      rw [vN_len] at g1
      cases l with
      | nil => exact absurd g1 (by simp)
      | cons c r =>
        have e1 : Tm.tellsP (c :: r) = (Vatrkd.isLetter c && (Vatrkd.numeral r).isSome) := rfl
        rw [e1] at q
        refine ⟨_, rfl, a, _, _, _, rfl, rfl, hA, at_of (j := 0) rfl rfl, _, _, rfl, rfl, _, rfl, ite2 (fun g2 => ?_) (fun g2 => ?_)⟩
        · have g3 : (97 : Int) ≤ (c : Int) := of_decide_eq_true g2
          refine ⟨_, _, rfl, rfl, _, rfl, ite2 (fun g4 => ?_) (fun g4 => ?_)⟩
          · have g5 : (c : Int) ≤ 100 := of_decide_eq_true g4
            refine ⟨_, rfl, _, rfl, a, _, rfl, hA, fun t nt => ?_⟩
            rw [cut_tail rfl]
            refine ⟨t, r, rfl, SqL.of upd_same, ?_⟩
            rw [Tm.isLetter_iff.mpr ⟨by omega, by omega⟩, Bool.true_and] at q
            exact q _ (same_upd nt)
          · have g5 : ¬ (c : Int) ≤ 100 := fun z => g4 (decide_eq_true z)
            have e2 : Vatrkd.isLetter c = false := Bool.eq_false_iff.mpr fun z => by have := Tm.isLetter_iff.mp z; omega
            rw [e2] at q
            exact q _ (Same.refl _)
        · have g3 : ¬ (97 : Int) ≤ (c : Int) := fun z => g2 (decide_eq_true z)
          have e2 : Vatrkd.isLetter c = false := Bool.eq_false_iff.mpr fun z => by have := Tm.isLetter_iff.mp z; omega
          rw [e2] at q
          exact ⟨_, rfl, q _ (Same.refl _)⟩
    · have g1 := ge_dec g
      rw [vN_len] at g1
      have e1 : l = [] := List.eq_nil_of_length_eq_zero (by omega)
      subst e1
      exact q _ (Same.refl _)
def sp_pending_item (K : PySem.W.Frag) (C : Addr) : Sp := fun vs H Q _ => ∃ (a : Addr) (l : List Nat), vs = [.ref a] ∧ SqL K H a (vN l) ∧
  (Vatrkd.pendOf l = none → ∀ H', Same H H' → Q .non H') ∧ (∀ it, Vatrkd.pendOf l = some it → ∀ H' x, Same H H' → ItemAt C H' x it → Q (.ref x) H')
theorem ok_pending_item {k : Nat} (G : Glob mg) (m_Item : C8.Mak P w K mg base 1 "Item" C (spInit C fItem) []) (c_is_numeral : C8.Cal P w K mg base 1 "is_numeral" (sp_is_numeral K) [])
    (c_tells_property : C8.Cal P w K mg base 2 "tells_property" (sp_tells_property K) []) (c_value_of : C8.Cal P w K mg base 2 "value_of" (sp_value_of K) []) (D : Stands K mg "pending_item" s_pending_item) : C8.Cal P w K mg base (k + 3) "pending_item" (sp_pending_item K C) [] := by
  refine cal_of D sc_pending_item (fun vs H Q E h => ?_) (fun _ _ _ _ _ _ us hl => match us, hl with | [_], _ => rfl) (fun f cdv A outer s H vs Q E hr h => ?_)
  · obtain ⟨a, l, rfl, _⟩ := h
    rfl
  · obtain ⟨a, l, rfl, hA, q1, q2⟩ := h
    refine ⟨_, (pss_cons (ps_if (pt_cmpR op_notIn_seq (pe_gv G.c_COLON) (pv 0) rfl)
      (pss_one (ps_ret pe_non))
      pss_nil)
      (pss_cons (ps_set (i := 1) sc_pending_item.nd rfl (Or.inl rfl) (pe_bm PySem.F.plainAttrs_list PySem.F.slot_list_index PySem.F.type_list_index mt_index (pv 0) (pa_cons (pe_gv G.c_COLON) pa_nil)))
      (pss_cons (ps_set (i := 2) sc_pending_item.nd rfl (Or.inl rfl) (pe_slice sl_list (pv 0) po_none (po_some (pv 1))))
      (pss_cons (ps_set (i := 3) sc_pending_item.nd rfl (Or.inl rfl) (pe_slice sl_list (pv 0) (po_some (pe_op op_add (pv 1) pe_int)) po_none))
      (pss_cons (ps_if (PW.pt (pw_or (pt_not (pt_val (C8.pe_c c_is_numeral hr (by omega) (by rfl) (pa_cons (pv 2) pa_nil)))) (pw_or1 (pt_not (pt_val (C8.pe_c c_tells_property hr (by omega) (by rfl) (pa_cons (pv 3) pa_nil)))))))
      (pss_one (ps_ret pe_non))
      pss_nil)
      (pss_one (ps_ret (C8.pe_mk m_Item hr (by omega) (by rfl) (pa_cons (pe_gv G.c_PENDING_LOOK) (pa_cons (C8.pe_c c_value_of hr (by omega) (by rfl) (pa_cons (pv 2) pa_nil)) (pa_cons (pe_op op_sub (pe_ix ix_list (pv 3) pe_int (fun _ _ => rfl)) (pe_gv G.c_FIRST_PROPERTY)) (pa_cons (C8.pe_c c_value_of hr (by omega) (by rfl) (pa_cons (pe_slice sl_list (pv 3) (po_some pe_int) po_none) pa_nil)) pa_nil)))))))))))), ?_⟩
    refine ⟨_, rfl, a, _, rfl, .inl hA, rfl, vN_flat l, _, rfl, ite2 (fun g => ?_) (fun g => ?_)⟩
    · have g1 : (!inV (.int ((58 : Nat) : Int)) (vN l)) = true := g
      rw [in_nums] at g1
      have g2 : 58 ∉ l := fun z => by rw [decide_eq_true z] at g1; cases g1
      exact q1 (Tm.pend_none g2) H (Same.refl _)
    · have g1 : ¬ (!inV (.int ((58 : Nat) : Int)) (vN l)) = true := g
      rw [in_nums] at g1
      have g2 : 58 ∈ l := by
        by_cases z : 58 ∈ l
        · exact z
        · rw [decide_eq_false z] at g1; exact absurd rfl g1
      obtain ⟨x, b, hl, hx⟩ := first_split g2
      subst hl
      have hj : (vN (x ++ 58 :: b))[x.length]? = some (.int (58 : Int)) := by
        rw [vN_get, List.getElem?_append_right (Nat.le_refl _), Nat.sub_self]
        rfl
      refine ⟨_, rfl, .inl ⟨rfl, _, hA⟩, a, _, _, x.length, .int 58, rfl, rfl, hA, rfl, vN_flat _, hj, rfl, fun m z hm hz => ?_, ?_⟩
      · rw [vN_get, List.getElem?_append_left hm, List.getElem?_eq_getElem hm] at hz
        have e := Option.some.inj hz
        subst e
        refine beq_eq_false_iff_ne.mpr fun y => hx ?_
        have e2 : x[m] = 58 := by omega
        rw [← e2]
        exact List.getElem_mem hm
      · -- change = part[:at]; told = part[at + 1:]
        refine ⟨_, rfl, _, rfl, _, rfl, a, _, rfl, hA, fun ca nca => ?_⟩
        rw [cut_to (by rw [vN_len]; simp), vN_take, List.take_left]
        have s1 : Same H (upd H ca (.lst (vN x))) := same_upd nca
        have hA1 := s1.seq hA
        refine ⟨_, rfl, _, rfl, _, _, rfl, rfl, _, rfl, a, _, rfl, hA1, fun ta nta => ?_⟩
        have ecut : cutV (vN (x ++ 58 :: b)) (some ((x.length : Int) + 1)) none = vN b := by
          have := cut_from (xs := vN (x ++ 58 :: b)) (i := x.length + 1) (by rw [vN_len]; simp)
          rw [show ((x.length + 1 : Nat) : Int) = (x.length : Int) + 1 from rfl] at this
          rw [this, vN_drop, List.drop_append, List.drop_of_length_le (by omega), Nat.add_sub_cancel_left]
          rfl
        rw [ecut]
        have s2 : Same (upd H ca (.lst (vN x))) (upd (upd H ca (.lst (vN x))) ta (.lst (vN b))) := same_upd nta
        have hca := s2 _ _ (upd_same (H := H) (a := ca) (o := .lst (vN x)))
        have hta : (upd (upd H ca (.lst (vN x))) ta (.lst (vN b))) ta = some (.lst (vN b)) := upd_same
        have s3 := s1.trans s2
        generalize upd (upd H ca (.lst (vN x))) ta (.lst (vN b)) = H2 at s2 hca hta s3
        refine ⟨_, rfl, ca, x, rfl, SqL.of hca, _, rfl, ?_⟩
        cases hn : Vatrkd.numeral x with
        | none =>
          show Q .non H2
          exact q1 (Tm.pend_bad hx fun z => by rw [hn] at z; exact absurd z.1 (by decide)) H2 s3
        | some n =>
          refine ⟨_, rfl, ta, b, rfl, SqL.of hta, fun H3 s4 => ?_⟩
          refine ⟨_, rfl, ?_⟩
          cases hp : Tm.tellsP b with
          | false =>
            show Q .non H3
            exact q1 (Tm.pend_bad hx fun z => by rw [hp] at z; exact absurd z.2 (by decide)) H3 (s3.trans s4)
          | true =>
            cases b with
            | nil => cases hp
            | cons kk r =>
              have hp' : (Vatrkd.isLetter kk && (Vatrkd.numeral r).isSome) = true := hp
              rw [Bool.and_eq_true] at hp'
              obtain ⟨v, hv⟩ := Option.isSome_iff_exists.mp hp'.2
              have hit : Vatrkd.pendOf (x ++ 58 :: kk :: r) = some (.pend n (kk - 97) v) := by
                rw [Tm.pend_split hx]
                dsimp only
                rw [if_pos hp'.1, hn, hv]
              have hk := Tm.isLetter_iff.mp hp'.1
              have hca3 := s4 _ _ hca
              have hta3 := s4 _ _ hta
              refine ⟨_, rfl, ca, x, rfl, SqL.of hca3, (Tm.numeral_val hn).2.2.1, fun H4 s5 => ?_⟩
              have hta3 := s5 _ _ hta3
              refine ⟨_, rfl, ta, _, _, _, rfl, rfl, SqL.of hta3, at_of (j := 0) rfl rfl, _, _, rfl, rfl, ?_⟩
              refine ⟨_, rfl, _, rfl, ta, _, rfl, SqL.of hta3, fun ra nra => ?_⟩
              rw [cut_tail rfl]
              refine ⟨ra, r, rfl, SqL.of upd_same, (Tm.numeral_val hv).2.2.1, fun H5 s6 => fun y dy ny nd ne => ⟨y, dy, [_, _, _, _], rfl, rfl, upd_same, rfl, ?_⟩⟩
              rw [upd_upd]
              refine q2 _ hit _ y (((s3.trans s4).trans (s5.trans (same_upd nra))).trans (s6.trans (made_same ny nd))) ⟨dy, ?_⟩
              rw [Tm.cap_eq hn, Tm.cap_eq hv]
              have e1 : (kk : Int) - 97 = ((kk - 97 : Nat) : Int) := by omega
              show made _ y dy C (fItem.zip [.int 42, .int ((Tm.cap n : Nat) : Int), .int ((kk : Int) - 97), .int ((Tm.cap v : Nat) : Int)]) y = _
              rw [e1]
              exact made_at

def sp_item_of (K : PySem.W.Frag) (C : Addr) : Sp := fun vs H Q _ => ∃ (a : Addr) (l : List Nat), vs = [.ref a] ∧ SqL K H a (vN l) ∧
  (Vatrkd.itemOf l = none → ∀ H', Same H H' → Q .non H') ∧ (∀ it, Vatrkd.itemOf l = some it → ∀ H' x, Same H H' → ItemAt C H' x it → Q (.ref x) H')
theorem ok_item_of {k : Nat} (G : Glob mg) (m_Item : C8.Mak P w K mg base 1 "Item" C (spInit C fItem) []) (c_is_numeral : C8.Cal P w K mg base 1 "is_numeral" (sp_is_numeral K) [])
    (c_tells_property : C8.Cal P w K mg base 2 "tells_property" (sp_tells_property K) []) (c_value_of : C8.Cal P w K mg base 2 "value_of" (sp_value_of K) []) (c_pending_item : C8.Cal P w K mg base 3 "pending_item" (sp_pending_item K C) [])
    (D : Stands K mg "item_of" s_item_of) : C8.Cal P w K mg base (k + 4) "item_of" (sp_item_of K C) [] := by
  refine cal_of D sc_item_of (fun vs H Q E h => ?_) (fun _ _ _ _ _ _ us hl => match us, hl with | [_], _ => rfl) (fun f cdv A outer s H vs Q E hr h => ?_)
  · obtain ⟨a, l, rfl, _⟩ := h
    rfl
  · obtain ⟨a, l, rfl, hA, q1, q2⟩ := h
    refine ⟨_, (pss_cons (ps_if (pt_cmpR op_eq (pe_callB call_len_seq (by rfl) G.b_len (by decide +kernel) (pa_cons (pv 0) pa_nil)) pe_int (nomark _))
      (pss_one (ps_ret pe_non))
      pss_nil)
      (pss_cons (ps_set (i := 1) sc_item_of.nd rfl (Or.inl rfl) (pe_ix ix_list (pv 0) pe_int (fun _ _ => rfl)))
      (pss_cons (ps_if (pt_cmpR op_eq (pv 1) (pe_gv G.c_PENDING_LOOK) (nomark _))
      (pss_one (ps_ret (C8.pe_c c_pending_item hr (by omega) (by rfl) (pa_cons (pe_slice sl_list (pv 0) (po_some pe_int) po_none) pa_nil))))
      pss_nil)
      (pss_cons (ps_if (PW.pt (pw_and (pt_cmpR op_in_seq (pv 1) (pe_tup (pa_cons (pe_gv G.c_INSERTION) (pa_cons (pe_gv G.c_DELETION) (pa_cons (pe_gv G.c_TAG) pa_nil)))) rfl) (pw_and1 (pt_val (C8.pe_c c_is_numeral hr (by omega) (by rfl) (pa_cons (pe_slice sl_list (pv 0) (po_some pe_int) po_none) pa_nil))))))
      (pss_one (ps_ret (C8.pe_mk m_Item hr (by omega) (by rfl) (pa_cons (pv 1) (pa_cons (C8.pe_c c_value_of hr (by omega) (by rfl) (pa_cons (pe_slice sl_list (pv 0) (po_some pe_int) po_none) pa_nil)) (pa_cons pe_int (pa_cons pe_int pa_nil)))))))
      pss_nil)
      (pss_cons (ps_if (pt_val (C8.pe_c c_tells_property hr (by omega) (by rfl) (pa_cons (pv 0) pa_nil)))
      (pss_one (ps_ret (C8.pe_mk m_Item hr (by omega) (by rfl) (pa_cons (pe_gv G.c_OWN_LOOK) (pa_cons pe_int (pa_cons (pe_op op_sub (pv 1) (pe_gv G.c_FIRST_PROPERTY)) (pa_cons (C8.pe_c c_value_of hr (by omega) (by rfl) (pa_cons (pe_slice sl_list (pv 0) (po_some pe_int) po_none) pa_nil)) pa_nil)))))))
      pss_nil)
      (pss_one (ps_ret pe_non))))))), ?_⟩
    refine ⟨_, rfl, a, _, rfl, .inl hA, rfl, _, rfl, ite2 (fun g => ?_) (fun g => ?_)⟩
    · have g1 := eq_dec g
      rw [vN_len] at g1
      have e1 : l = [] := List.eq_nil_of_length_eq_zero (by omega)
      subst e1
      exact q1 rfl H (Same.refl _)
    · have g1 := ne_dec g
      rw [vN_len] at g1
      cases l with
      | nil => exact absurd rfl g1
      | cons c r =>
        rw [Vatrkd.itemOf] at q1 q2
        refine ⟨_, rfl, a, _, _, _, rfl, rfl, hA, at_of (j := 0) rfl rfl, ?_⟩
        refine ⟨_, rfl, rfl, _, rfl, ite2 (fun g2 => ?_) (fun g2 => ?_)⟩
        · have g3 : c = 42 := by have := eq_dec g2; omega
          subst g3
          have nl : ¬ Vatrkd.isLetter 42 = true := by decide
          rw [if_neg nl, if_neg (by decide), if_neg (by decide), if_neg (by decide), if_pos rfl] at q1 q2
          refine ⟨_, rfl, _, rfl, a, _, rfl, hA, fun t nt => ?_⟩
          rw [cut_tail rfl]
          exact ⟨t, r, rfl, SqL.of upd_same, fun h H' s1 => q1 h H' ((same_upd nt).trans s1), fun it h H' x s1 hx => q2 it h H' x ((same_upd nt).trans s1) hx⟩
        · have g3 : c ≠ 42 := by have := ne_dec g2; omega
          refine ⟨_, rfl, (by show 3 ≤ sizeLine; decide), fun tp ntp => ⟨tp, _, rfl, .inr (SqT.of upd_same), rfl, rfl, _, rfl, ?_⟩⟩
          have s1 : Same H (upd H tp (.tup [.int 43, .int 45, .int 35])) := same_upd ntp
          have hA1 := s1.seq hA
          generalize upd H tp (.tup [.int 43, .int 45, .int 35]) = H1 at s1 hA1
          -- a look's item, or none
          have prop : (¬ (c = 43 ∨ c = 45 ∨ c = 35) ∨ Vatrkd.numeral r = none) → ∀ H2, Same H H2 → ∀ (D : Ends), D.rt = Q →
              tSeq (tIfS (tB (tCall (sp_tells_property K) [] E0 (tCons (tVar 0) tNil))) (tRet (tMake C (spInit C fItem) [] E0 (tCons (tC (.int 0)) (tCons (tC (.int 0)) (tCons (tOp (rI0 fun i j => .int (i - j)) (tVar 1) (tC (.int 97))) (tCons (tCall (sp_value_of K) [] E0 (tCons (tSl (rSlL K) (tVar 0) (tPart (tC (.int 1))) tNoPart) tNil)) tNil)))))) tNext) (tRet (tC .non)) D [some (.ref a), some (.int (c : Int))] H2 := by
            intro hc H2 s2 D hD
            refine ⟨_, rfl, a, _, rfl, s2.seq hA, fun H3 s3 => ⟨_, rfl, ?_⟩⟩
            have hT : Tm.tellsP (c :: r) = (Vatrkd.isLetter c && (Vatrkd.numeral r).isSome) := rfl
            rw [hT]
            by_cases hl : Vatrkd.isLetter c = true
            · rw [if_pos hl] at q1 q2
              rw [hl, Bool.true_and]
              cases hn : Vatrkd.numeral r with
              | none =>
                rw [hn] at q1
                show D.rt .non H3
                rw [hD]
                exact q1 rfl H3 (s2.trans s3)
              | some n =>
                rw [hn] at q2
                have hk := Tm.isLetter_iff.mp hl
                refine ⟨_, rfl, _, _, rfl, rfl, _, rfl, _, rfl, a, _, rfl, (s2.trans s3).seq hA, fun t nt => ?_⟩
                rw [cut_tail rfl]
                refine ⟨t, r, rfl, SqL.of upd_same, (Tm.numeral_val hn).2.2.1, fun H5 s6 => fun y dy ny nd ne => ⟨y, dy, [_, _, _, _], rfl, rfl, upd_same, rfl, ?_⟩⟩
                rw [upd_upd, hD]
                refine q2 _ rfl _ y (((s2.trans s3).trans (same_upd nt)).trans (s6.trans (made_same ny nd))) ⟨dy, ?_⟩
                have e1 : (c : Int) - 97 = ((c - 97 : Nat) : Int) := by omega
                show made _ y dy C (fItem.zip [.int 0, .int 0, .int ((c : Int) - 97), .int ((Tm.capN r : Nat) : Int)]) y = _
                rw [e1, Tm.cap_eq hn]
                exact made_at
            · have hl' : Vatrkd.isLetter c = false := Bool.eq_false_iff.mpr hl
              rw [if_neg hl] at q1
              rw [hl', Bool.false_and]
              show D.rt .non H3
              rw [hD]
              refine q1 ?_ H3 (s2.trans s3)
              rcases hc with hc | hc
              · rw [if_neg (by omega), if_neg (by omega), if_neg (by omega), if_neg g3]
              · rw [hc]
                by_cases z1 : c = 43
                · rw [if_pos z1]; rfl
                · rw [if_neg z1]
                  by_cases z2 : c = 45
                  · rw [if_pos z2]; rfl
                  · rw [if_neg z2]
                    by_cases z3 : c = 35
                    · rw [if_pos z3]; rfl
                    · rw [if_neg z3, if_neg g3]
          refine ite2 (fun g4 => ?_) (fun g4 => ?_)
          · have g5 : inV (.int (c : Int)) [.int 43, .int 45, .int 35] = true := g4
            rw [in3] at g5
            have g6 := of_decide_eq_true g5
            refine ⟨_, rfl, _, rfl, a, _, rfl, hA1, fun t nt => ?_⟩
            rw [cut_tail rfl]
            have s2 : Same H1 (upd H1 t (.lst (vN r))) := same_upd nt
            refine ⟨t, r, rfl, SqL.of upd_same, _, rfl, ?_⟩
            cases hn : Vatrkd.numeral r with
            | none => exact prop (.inr hn) _ (s1.trans s2) _ rfl
            | some n =>
              have hl : ¬ Vatrkd.isLetter c = true := fun z => by have := Tm.isLetter_iff.mp z; omega
              rw [if_neg hl, hn] at q2
              refine ⟨_, rfl, _, rfl, _, rfl, a, _, rfl, s2.seq hA1, fun t2 nt2 => ?_⟩
              rw [cut_tail rfl]
              refine ⟨t2, r, rfl, SqL.of upd_same, (Tm.numeral_val hn).2.2.1, fun H5 s6 => fun y dy ny nd ne => ⟨y, dy, [_, _, _, _], rfl, rfl, upd_same, rfl, ?_⟩⟩
              rw [upd_upd]
              have sx := ((s1.trans s2).trans (same_upd (o := .lst (vN r)) nt2)).trans (s6.trans (made_same (C := C) (fs := fItem.zip [.int (c : Int), .int ((Tm.capN r : Nat) : Int), .int 0, .int 0]) ny nd))
              by_cases z1 : c = 43
              · subst z1
                rw [if_pos rfl] at q2
                refine q2 _ rfl _ y sx ⟨dy, ?_⟩
                rw [Tm.cap_eq hn]
                exact made_at
              · rw [if_neg z1] at q2
                by_cases z2 : c = 45
                · subst z2
                  rw [if_pos rfl] at q2
                  refine q2 _ rfl _ y sx ⟨dy, ?_⟩
                  rw [Tm.cap_eq hn]
                  exact made_at
                · rw [if_neg z2] at q2
                  have z3 : c = 35 := by omega
                  subst z3
                  rw [if_pos rfl] at q2
                  refine q2 _ rfl _ y sx ⟨dy, ?_⟩
                  rw [Tm.cap_eq hn]
                  exact made_at
          · have g5 : ¬ inV (.int (c : Int)) [.int 43, .int 45, .int 35] = true := g4
            rw [in3] at g5
            have g6 : ¬ (c = 43 ∨ c = 45 ∨ c = 35) := fun z => g5 (decide_eq_true (by omega))
            exact prop (.inl g6) H1 s1 _ rfl
end
end Td
set_option maxRecDepth 100000
set_option maxHeartbeats 4000000
namespace Td
open PySem PySem.Spec PyProof.Rows L2
abbrev s_names_change : Stmt := top 71
abbrev n_names_change : List Str := ["item"]
abbrev p_names_change : List Str := ["item"]
theorem sc_names_change : FnScope n_names_change p_names_change (defScope s_names_change) := ⟨rfl, rfl, rfl, by decide +kernel, rfl, by decide +kernel, by decide +kernel⟩
abbrev s_goes_with : Stmt := top 72
abbrev n_goes_with : List Str := ["mark", "kind"]
abbrev p_goes_with : List Str := ["mark", "kind"]
theorem sc_goes_with : FnScope n_goes_with p_goes_with (defScope s_goes_with) := ⟨rfl, rfl, rfl, by decide +kernel, rfl, by decide +kernel, by decide +kernel⟩
abbrev s_is_out_of_range : Stmt := top 69
abbrev n_is_out_of_range : List Str := ["items", "changes", "item"]
abbrev p_is_out_of_range : List Str := ["items", "changes"]
theorem sc_is_out_of_range : FnScope n_is_out_of_range p_is_out_of_range (defScope s_is_out_of_range) := ⟨rfl, rfl, rfl, by decide +kernel, rfl, by decide +kernel, by decide +kernel⟩
abbrev s_numbers_with : Stmt := top 74
abbrev n_numbers_with : List Str := ["items", "mark", "item"]
abbrev p_numbers_with : List Str := ["items", "mark"]
theorem sc_numbers_with : FnScope n_numbers_with p_numbers_with (defScope s_numbers_with) := ⟨rfl, rfl, rfl, by decide +kernel, rfl, by decide +kernel, by decide +kernel⟩
theorem told_snoc {ws : List (List Nat)} {i : Nat} {w : List Nat} {it : Vatrkd.Item} (h : ws[i]? = some w) (e : Vatrkd.itemOf w = some it) :
    (((ws.take (i + 1)).map Vatrkd.itemOf).filterMap fun x => x) = (((ws.take i).map Vatrkd.itemOf).filterMap fun x => x) ++ [it] := by
  rw [List.take_add_one, h, List.map_append, List.filterMap_append]
  show _ ++ ([Vatrkd.itemOf w].filterMap fun x => x) = _
  rw [e]
  rfl
section
variable {P : Program} {w : World} {K : PySem.W.Frag} {mg : Str → Option Value} {base : Heap} {C : Addr}
def sp_items_of (K : PySem.W.Frag) (C : Addr) : Sp := fun vs H Q _ => ∃ (a : Addr) (l : List Nat), vs = [.ref a] ∧ SqL K H a (vN l) ∧ l.length < 1000000 ∧
  (((Vatrkd.itemsOf l).all fun i => i.isSome) = false → ∀ H', Same H H' → Q .non H') ∧
  (((Vatrkd.itemsOf l).all fun i => i.isSome) = true → ∀ H' p, Same H H' → H p = none → ItemsAt C H' p (Vatrkd.told l) → Q (.ref p) H')
theorem cutAt_len (sep : Nat) (l : List Nat) : (Vatrkd.cutAt sep l).length ≤ l.length + 1 := by
  have h := (cutF_len sep l).1
  rw [Tm.cut_eq, List.length_append, List.length_singleton]
  omega
theorem ok_items_of {k : Nat} (G : Glob mg) (c_cut_at_blanks : C8.Cal P w K mg base 1 "cut_at_blanks" (sp_cut_at_blanks K) []) (c_item_of : C8.Cal P w K mg base 4 "item_of" (sp_item_of K C) [])
    (D : Stands K mg "items_of" s_items_of) : C8.Cal P w K mg base (k + 5) "items_of" (sp_items_of K C) [] := by
  refine cal_of D sc_items_of (fun vs H Q E h => ?_) (fun _ _ _ _ _ _ us hl => match us, hl with | [_], _ => rfl) (fun f cdv A outer s H vs Q E hr h => ?_)
  · obtain ⟨a, l, rfl, _⟩ := h
    rfl
  · obtain ⟨a, l, rfl, hA, hlen, q1, q2⟩ := h
    have hlenS : l.length < sizeLine := Nat.lt_trans hlen (by decide)
    refine ⟨_, (pss_cons (ps_if (pt_cmpR op_eq (pe_callB call_len_seq (by rfl) G.b_len (by decide +kernel) (pa_cons (pv 0) pa_nil)) pe_int (nomark _))
      (pss_one (ps_ret (pe_lst pa_nil)))
      pss_nil)
      (pss_cons (ps_set (i := 1) sc_items_of.nd rfl (Or.inl rfl) (pe_lst pa_nil))
      (pss_cons (ps_for PassesOwn.never rfl (pi_list (C8.pe_c c_cut_at_blanks hr (by omega) (by rfl) (pa_cons (pv 0) pa_nil))) (pg_name (i := 2) sc_items_of.nd rfl (Or.inl rfl))
      (pss_cons (ps_set (i := 3) sc_items_of.nd rfl (Or.inl rfl) (C8.pe_c c_item_of hr (by omega) (by rfl) (pa_cons (pv 2) pa_nil)))
      (pss_cons (ps_if (pt_cmpR op_isN (pv 3) pe_non (nomark _))
      (pss_one (ps_ret pe_non))
      pss_nil)
      (pss_one (ps_expr (pe_bm PySem.F.plainAttrs_list PySem.F.slot_list_append PySem.F.type_list_append mt_append (pv 1) (pa_cons (pv 3) pa_nil)))))))
      (pss_one (ps_ret (pv 1)))))), ?_⟩
    refine ⟨_, rfl, a, _, rfl, .inl hA, rfl, _, rfl, ite2 (fun g => ?_) (fun g => ?_)⟩
    · have g1 := eq_dec g
      rw [vN_len] at g1
      have e1 : l = [] := List.eq_nil_of_length_eq_zero (by omega)
      subst e1
      exact ⟨Nat.zero_le _, fun p np => q2 rfl _ p (same_upd np) np ⟨[], upd_same, .nil⟩⟩
    · have g1 := ne_dec g
      rw [vN_len] at g1
      have hne : l.isEmpty = false := by
        cases l with
        | nil => exact absurd rfl g1
        | cons _ _ => rfl
      have hits : Vatrkd.itemsOf l = (Vatrkd.cutAt 32 l).map Vatrkd.itemOf := by
        unfold Vatrkd.itemsOf
        rw [hne]
        rfl
      have htold : Vatrkd.told l = ((Vatrkd.cutAt 32 l).map Vatrkd.itemOf).filterMap fun x => x := by
        unfold Vatrkd.told
        rw [hits]
      rw [hits] at q1 q2
      rw [htold] at q2
      refine ⟨Nat.zero_le _, fun p np => ?_⟩
      have s0 : Same H (upd H p (.lst [])) := same_upd np
      refine ⟨_, rfl, a, l, rfl, s0.seq hA, hlenS, fun H1 pl s1 npl hLL => ?_⟩
      obtain ⟨as, hl1, hl2⟩ := hLL
      have hpl : pl ≠ p := fun z => by rw [z, upd_same] at npl; cases npl
      have hlw := cutAt_len 32 l
      have hlas : as.length = (Vatrkd.cutAt 32 l).length := Paired.length hl2
      generalize Vatrkd.cutAt 32 l = ws at *
      refine ⟨pl, rfl, ⟨_, SqL.of hl1⟩, for_list (xs := as.map V.ref) (fun i σ H2 => ∃ (y2 y3 : Option V) (bs : List Addr), σ = [some (.ref a), some (.ref p), y2, y3] ∧ (∀ b o, H1 b = some o → b ≠ p → H2 b = some o) ∧
          H2 p = some (.lst (bs.map V.ref)) ∧ Paired (fun b it => b ≠ p ∧ ItemAt C H2 b it) bs (((ws.take i).map Vatrkd.itemOf).filterMap fun x => x) ∧ ((ws.take i).map Vatrkd.itemOf).all (fun x => x.isSome) = true ∧ bs.length ≤ i)
        ⟨none, none, [], rfl, fun b o e _ => e, s1 _ _ upd_same, .nil, rfl, Nat.le_refl _⟩ (fun i σ H2 _ hP => ?_) (fun i x σ H2 hx hP => ?_) (fun σ H2 hP => ?_)⟩
      · obtain ⟨_, _, _, _, k1, _⟩ := hP
        exact SqL.of (k1 _ _ hl1 hpl)
      · obtain ⟨y2, y3, bs, rfl, k1, h1, h2, hall, hbl⟩ := hP
        rw [List.getElem?_map] at hx
        obtain ⟨pa, hpa, rfl⟩ := Option.map_eq_some_iff.mp hx
        obtain ⟨wd, hwd, e1, e2⟩ := paired_get hl2 hpa
        have npa : pa ≠ p := fun z => by rw [z, upd_same] at e2; cases e2
        have hil : i < as.length := (List.getElem?_eq_some_iff.mp hpa).1
        have sHH2 : Same H H2 := fun b o e => k1 b o (s1 _ _ (s0 _ _ e)) (ne_of_none e np)
        refine ⟨_, rfl, pa, wd, rfl, SqL.of (k1 _ _ e1 npa), fun hn H3 s3 => ?_, fun it hi H3 x s3 hx3 => ?_⟩
        · refine ⟨_, rfl, rfl, _, rfl, ?_⟩
          refine q1 ?_ H3 (sHH2.trans s3)
          have hm : wd ∈ ws := List.mem_of_getElem? hwd
          cases z : (ws.map Vatrkd.itemOf).all (fun i => i.isSome) with
          | false => rfl
          | true =>
            have := List.all_eq_true.mp z _ (List.mem_map.mpr ⟨wd, hm, rfl⟩)
            rw [hn] at this
            cases this
        · refine ⟨_, rfl, rfl, _, rfl, ?_⟩
          have h1' := s3 _ _ h1
          have npx : x ≠ p := fun z => by
            obtain ⟨dx, hx4⟩ := hx3
            rw [z, h1'] at hx4
            cases hx4
          refine ⟨_, rfl, .inl ⟨rfl, _, SqL.of h1'⟩, _, rfl, p, _, _, rfl, rfl, h1', ?_, ?_⟩
          · rw [List.length_map]
            omega
          · refine ⟨some (.ref pa), some (.ref x), bs ++ [x], rfl, fun b o e hb => by rw [upd_ne hb]; exact s3 _ _ (k1 b o e hb), ?_, ?_, ?_, ?_⟩
            · rw [upd_same, List.map_append]
              rfl
            · rw [told_snoc hwd hi]
              refine paired_snoc (Paired.mapP h2 fun b j z => ⟨z.1, ?_⟩) ⟨npx, ?_⟩
              · obtain ⟨dx, z2⟩ := z.2.same s3
                exact ⟨dx, by rw [upd_ne z.1]; exact z2⟩
              · obtain ⟨dx, z2⟩ := hx3
                exact ⟨dx, by rw [upd_ne npx]; exact z2⟩
            · rw [List.take_add_one, hwd, List.map_append, List.all_append, hall]
              show ([Vatrkd.itemOf wd].all fun x => x.isSome) = true
              rw [hi]
              rfl
            · rw [List.length_append, List.length_singleton]
              omega
      · obtain ⟨y2, y3, bs, rfl, k1, h1, h2, hall, hbl⟩ := hP
        rw [List.length_map, hlas, List.take_length] at h2 hall
        refine ⟨_, rfl, q2 hall H2 p (fun b o e => k1 b o (s1 _ _ (s0 _ _ e)) (ne_of_none e np)) np ⟨bs, h1, Paired.mapP h2 fun b j z => z.2⟩⟩
/-- item.mark in (INSERTION, DELETION, PENDING_LOOK) -/
def namesC : Vatrkd.Item → Bool
  | .ins _ => true
  | .del _ => true
  | .pend _ _ _ => true
  | _ => false
def sp_names_change (C : Addr) : Sp := fun vs H Q _ => ∃ (a : Addr) (it : Vatrkd.Item), vs = [.ref a] ∧ ItemAt C H a it ∧ ∀ H', Same H H' → Q (.bl (namesC it)) H'
theorem ok_names_change {k : Nat} (G : Glob mg) (T : CT K C fItem) (D : Stands K mg "names_change" s_names_change) : C8.Cal P w K mg base (k + 1) "names_change" (sp_names_change C) [] := by
  refine cal_of D sc_names_change (fun vs H Q E h => ?_) (fun _ _ _ _ _ _ us hl => match us, hl with | [_], _ => rfl) (fun f cdv A outer s H vs Q E hr h => ?_)
  · obtain ⟨a, it, rfl, _⟩ := h
    rfl
  · obtain ⟨a, it, rfl, ⟨dx, hA⟩, q⟩ := h
    refine ⟨_, (pss_one (ps_ret (pe_cmpR op_in_seq (pe_fld (pv 0) rfl) (pe_tup (pa_cons (pe_gv G.c_INSERTION) (pa_cons (pe_gv G.c_DELETION) (pa_cons (pe_gv G.c_PENDING_LOOK) pa_nil)))) rfl))), ?_⟩
    refine ⟨_, rfl, a, C, dx, _, _, rfl, hA, T.cl, T.no _ (by simp), lkI0, (by show 3 ≤ sizeLine; decide), fun tp ntp => ⟨tp, _, rfl, .inr (SqT.of upd_same), rfl, rfl, ?_⟩⟩
    show Q (.bl (inV (.int ((Tm.it4 it).1 : Nat)) [.int 43, .int 45, .int 42])) _
    rw [in3]
    have e : decide (((Tm.it4 it).1 : Int) = 43 ∨ ((Tm.it4 it).1 : Int) = 45 ∨ ((Tm.it4 it).1 : Int) = 42) = namesC it := by cases it <;> rfl
    rw [e]
    exact q _ (same_upd ntp)
/-- whether a change of a kind goes with a mark -/
def goesK (m kd : Nat) : Bool := if m = 43 then decide (kd = 1 ∨ kd = 4) else if m = 45 then decide (kd = 2 ∨ kd = 4) else decide (kd = 3)
def sp_goes_with : Sp := fun vs H Q _ => ∃ (m kd : Nat), vs = [.int (m : Int), .int (kd : Int)] ∧ ∀ H', Same H H' → Q (.bl (goesK m kd)) H'
theorem ok_goes_with {k : Nat} (G : Glob mg) (D : Stands K mg "goes_with" s_goes_with) : C8.Cal P w K mg base (k + 1) "goes_with" sp_goes_with [] := by
  refine cal_of D sc_goes_with (fun vs H Q E h => ?_) (fun _ _ _ _ _ _ us hl => match us, hl with | [_, _], _ => rfl) (fun f cdv A outer s H vs Q E hr h => ?_)
  · obtain ⟨m, kd, rfl, _⟩ := h
    rfl
  · obtain ⟨m, kd, rfl, q⟩ := h
    refine ⟨_, (pss_cons (ps_if (pt_cmpR op_eq (pv 0) (pe_gv G.c_INSERTION) (nomark _))
      (pss_one (ps_ret (pe_cmpR op_in_seq (pv 1) (pe_tup (pa_cons (pe_gv G.c_PUT) (pa_cons (pe_gv G.c_MOVE) pa_nil))) rfl)))
      pss_nil)
      (pss_cons (ps_if (pt_cmpR op_eq (pv 0) (pe_gv G.c_DELETION) (nomark _))
      (pss_one (ps_ret (pe_cmpR op_in_seq (pv 1) (pe_tup (pa_cons (pe_gv G.c_CUT) (pa_cons (pe_gv G.c_MOVE) pa_nil))) rfl)))
      pss_nil)
      (pss_one (ps_ret (pe_cmpR op_eq (pv 1) (pe_gv G.c_PAINT) (nomark _)))))), ?_⟩
    unfold goesK at q
    refine ⟨_, rfl, rfl, _, rfl, ite2 (fun g => ?_) (fun g => ?_)⟩
    · have g1 : m = 43 := by have := eq_dec g; omega
      rw [if_pos g1] at q
      refine ⟨_, rfl, (by show 2 ≤ sizeLine; decide), fun tp ntp => ⟨tp, _, rfl, .inr (SqT.of upd_same), rfl, rfl, ?_⟩⟩
      show Q (.bl (inV (.int (kd : Int)) [.int 1, .int 4])) _
      rw [in2, show decide ((kd : Int) = 1 ∨ (kd : Int) = 4) = decide (kd = 1 ∨ kd = 4) from decide_eq_decide.mpr (by omega)]
      exact q _ (same_upd ntp)
    · have g1 : m ≠ 43 := by have := ne_dec g; omega
      rw [if_neg g1] at q
      refine ⟨_, rfl, rfl, _, rfl, ite2 (fun g2 => ?_) (fun g2 => ?_)⟩
      · have g3 : m = 45 := by have := eq_dec g2; omega
        rw [if_pos g3] at q
        refine ⟨_, rfl, (by show 2 ≤ sizeLine; decide), fun tp ntp => ⟨tp, _, rfl, .inr (SqT.of upd_same), rfl, rfl, ?_⟩⟩
        show Q (.bl (inV (.int (kd : Int)) [.int 2, .int 4])) _
        rw [in2, show decide ((kd : Int) = 2 ∨ (kd : Int) = 4) = decide (kd = 2 ∨ kd = 4) from decide_eq_decide.mpr (by omega)]
        exact q _ (same_upd ntp)
      · have g3 : m ≠ 45 := by have := ne_dec g2; omega
        rw [if_neg g3] at q
        refine ⟨_, rfl, rfl, ?_⟩
        show Q (.bl (decide (V.int (kd : Int) = V.int 3))) H
        rw [show decide (V.int (kd : Int) = V.int 3) = decide (kd = 3) from decide_eq_decide.mpr ⟨fun z => by have := V.int.inj z; omega, fun z => by rw [z]; rfl⟩]
        exact q _ (Same.refl _)
def sp_is_out_of_range (C : Addr) : Sp := fun vs H Q _ => ∃ (a : Addr) (its : List Vatrkd.Item) (n : Nat), vs = [.ref a, .int (n : Int)] ∧ ItemsAt C H a its ∧ n < 10 ^ 18 ∧ ∀ H', Same H H' → Q (.bl (!its.all (Vatrkd.inRange n))) H'
theorem ok_is_out_of_range {k : Nat} (G : Glob mg) (T : CT K C fItem) (c_names_change : C8.Cal P w K mg base 1 "names_change" (sp_names_change C) []) (D : Stands K mg "is_out_of_range" s_is_out_of_range) : C8.Cal P w K mg base (k + 2) "is_out_of_range" (sp_is_out_of_range C) [] := by
  refine cal_of D sc_is_out_of_range (fun vs H Q E h => ?_) (fun _ _ _ _ _ _ us hl => match us, hl with | [_, _], _ => rfl) (fun f cdv A outer s H vs Q E hr h => ?_)
  · obtain ⟨a, its, n, rfl, _⟩ := h
    rfl
  · obtain ⟨a, its, n, rfl, ⟨as, h1, h2⟩, hn, q⟩ := h
    refine ⟨_, (pss_cons (ps_for PassesOwn.never rfl (pi_list (pv 0)) (pg_name (i := 2) sc_is_out_of_range.nd rfl (Or.inl rfl))
      (pss_cons (ps_if (pt_cmpR op_gt (pe_fld (pv 2) rfl) (pe_gv G.c_GREATEST_VALUE) (nomark _))
      (pss_one (ps_ret pe_bl))
      pss_nil)
      (pss_cons (ps_if (PW.pt (pw_and (pt_cmpR op_eq (pe_fld (pv 2) rfl) (pe_gv G.c_TAG) (nomark _)) (pw_and1 (pt_not (pt_chain op_le op_le pe_int (pe_fld (pv 2) rfl) (pe_gv G.c_GREATEST_TAG))))))
      (pss_one (ps_ret pe_bl))
      pss_nil)
      (pss_one (ps_if (PW.pt (pw_and (pt_val (C8.pe_c c_names_change hr (by omega) (by rfl) (pa_cons (pv 2) pa_nil))) (pw_and1 (pt_not (pt_chain op_le op_le pe_int (pe_fld (pv 2) rfl) (pv 1))))))
      (pss_one (ps_ret pe_bl))
      pss_nil)))))
      (pss_one (ps_ret pe_bl))), ?_⟩
    have bad : ∀ (i : Nat) (it : Vatrkd.Item) H', its[i]? = some it → Vatrkd.inRange n it = false → Same H H' → Q (.bl true) H' := fun i it H' hi hb s1 => by
      have e : its.all (Vatrkd.inRange n) = false := by
        cases z : its.all (Vatrkd.inRange n) with
        | false => rfl
        | true =>
          have := List.all_eq_true.mp z it (List.mem_of_getElem? hi)
          rw [hb] at this
          cases this
      rw [e] at q
      exact q H' s1
    refine ⟨_, rfl, a, rfl, ⟨_, SqL.of h1⟩, for_list (xs := as.map V.ref) (fun i σ H2 => ∃ y, σ = [some (.ref a), some (.int (n : Int)), y] ∧ Same H H2 ∧ (its.take i).all (Vatrkd.inRange n) = true) ⟨none, rfl, Same.refl _, rfl⟩ (fun i σ H2 _ hP => ?_) (fun i x σ H2 hx hP => ?_) (fun σ H2 hP => ?_)⟩
    · obtain ⟨_, _, s1, _⟩ := hP
      exact SqL.of (s1 _ _ h1)
    · obtain ⟨y, rfl, s1, hall⟩ := hP
      rw [List.getElem?_map] at hx
      obtain ⟨xa, hxa, rfl⟩ := Option.map_eq_some_iff.mp hx
      obtain ⟨it, hit, dx, hx0⟩ := paired_get h2 hxa
      have hx1 := s1 _ _ hx0
      -- the turn is through
      have good : Vatrkd.inRange n it = true → ∀ H3, Same H H3 → ∃ y, [some (V.ref a), some (V.int (n : Int)), some (V.ref xa)] = [some (.ref a), some (.int (n : Int)), y] ∧ Same H H3 ∧ (its.take (i + 1)).all (Vatrkd.inRange n) = true := fun hg H3 s3 => by
        refine ⟨_, rfl, s3, ?_⟩
        rw [List.take_add_one, hit, List.all_append, hall]
        show ([it].all (Vatrkd.inRange n)) = true
        rw [List.all_cons, hg]
        rfl
      refine ⟨_, rfl, xa, C, dx, _, _, rfl, hx1, T.cl, T.no _ (by simp), lkI3, _, _, rfl, rfl, _, rfl, ite2 (fun g => ?_) (fun g => ?_)⟩
      · have g1 : (99 : Int) < ((Tm.it4 it).2.2.2 : Nat) := lt_dec g
        refine bad i it H2 hit ?_ s1
        cases it with
        | look kk v =>
          have g2 : 99 < Tm.cap v := by have : (99 : Int) < (Tm.cap v : Nat) := g1; omega
          have g3 : ¬ v ≤ 99 := fun z => by have := (Tm.cap_le (n := v) (b := 99) (by decide)).mpr z; omega
          exact decide_eq_false g3
        | pend c kk v =>
          have g2 : 99 < Tm.cap v := by have : (99 : Int) < (Tm.cap v : Nat) := g1; omega
          have g3 : ¬ v ≤ 99 := fun z => by have := (Tm.cap_le (n := v) (b := 99) (by decide)).mpr z; omega
          show (decide (1 ≤ c) && (decide (c ≤ n) && decide (v ≤ 99))) = false
          rw [decide_eq_false g3, Bool.and_false, Bool.and_false]
        | ins c => exact absurd g1 (by show ¬ (99 : Int) < ((0 : Nat) : Int); omega)
        | del c => exact absurd g1 (by show ¬ (99 : Int) < ((0 : Nat) : Int); omega)
        | tag c => exact absurd g1 (by show ¬ (99 : Int) < ((0 : Nat) : Int); omega)
      · have g1 : (((Tm.it4 it).2.2.2 : Nat) : Int) ≤ 99 := ge_dec g
        -- names_change(item) and not 1 <= item.number <= changes
        have rest : ((Tm.it4 it).1 = 35 → 1 ≤ (Tm.it4 it).2.1 ∧ (Tm.it4 it).2.1 ≤ 999) → ∀ D : Ends, (D.nx = fun σ H2 => ∃ y, σ = [some (.ref a), some (.int (n : Int)), y] ∧ Same H H2 ∧ (its.take (i + 1)).all (Vatrkd.inRange n) = true) → D.rt = Q →
            tIfS (tAnd (tB (tCall (sp_names_change C) [] E0 (tCons (tVar 2) tNil))) (tNot (tTest (tChain (rI0 fun i j => .bl (decide (i ≤ j))) (rI0 fun i j => .bl (decide (i ≤ j))) (tC (.int 1)) (tFld K (tVar 2) "number") (tVar 1))))) (tRet (tC (.bl true))) tNext D [some (.ref a), some (.int (n : Int)), some (.ref xa)] H2 := by
          intro htag D hD hR
          refine ⟨_, rfl, xa, it, rfl, ⟨dx, hx1⟩, fun H3 s3 => ⟨_, rfl, ?_⟩⟩
          have hx3 := s3 _ _ hx1
          have s13 := s1.trans s3
          cases hnc : namesC it with
          | false =>
            show D.nx _ H3
            rw [hD]
            refine good ?_ H3 s13
            cases it with
            | look kk v => exact decide_eq_true ((Tm.cap_le (n := v) (b := 99) (by decide)).mp (by have : ((Tm.cap v : Nat) : Int) ≤ 99 := g1; omega))
            | tag t =>
              obtain ⟨t1, t2⟩ := htag rfl
              show (decide (1 ≤ t) && decide (t ≤ 999)) = true
              rw [decide_eq_true ((Tm.cap_pos (n := t)).mp t1), decide_eq_true ((Tm.cap_le (n := t) (b := 999) (by decide)).mp t2)]
              rfl
            | ins c => cases hnc
            | del c => cases hnc
            | pend c kk v => cases hnc
          | true =>
            refine ⟨_, rfl, xa, C, dx, _, _, rfl, hx3, T.cl, T.no _ (by simp), lkI1, _, _, rfl, rfl, _, rfl, ?_⟩
            -- the number of the change
            have key : ∀ c : Nat, (Tm.it4 it).2.1 = Tm.cap c → Vatrkd.inRange n it = (decide (1 ≤ c) && decide (c ≤ n)) →
                (if decide ((1 : Int) ≤ ((Tm.it4 it).2.1 : Nat)) = true then tVar 1 [some (.ref a), some (.int (n : Int)), some (.ref xa)] H3 (fun w' H4 => rI0 (fun i j => .bl (decide (i ≤ j))) (.int ((Tm.it4 it).2.1 : Nat)) w' H4 fun x H' => ∃ k, x = .bl k ∧ (if (!k) = true then D.rt (.bl true) H' else D.nx [some (.ref a), some (.int (n : Int)), some (.ref xa)] H'))
                else ∃ k, V.bl false = .bl k ∧ (if (!k) = true then D.rt (.bl true) H3 else D.nx [some (.ref a), some (.int (n : Int)), some (.ref xa)] H3)) := by
              intro c hc hin
              rw [hc]
              refine ite2 (fun e => ?_) (fun e => ?_)
              · have e1 : 1 ≤ c := Tm.cap_pos.mp (by have := of_decide_eq_true e; omega)
                refine ⟨_, rfl, _, _, rfl, rfl, _, rfl, ite2 (fun e2 => ?_) (fun e2 => ?_)⟩
                · have e3 : ¬ ((Tm.cap c : Nat) : Int) ≤ (n : Int) := fun z => by rw [decide_eq_true z] at e2; cases e2
                  have e4 : ¬ c ≤ n := fun z => e3 (by have := (Tm.cap_le hn).mpr z; omega)
                  rw [hR]
                  exact bad i it H3 hit (by rw [hin, decide_eq_false e4, Bool.and_false]) s13
                · have e3 : ((Tm.cap c : Nat) : Int) ≤ (n : Int) := by
                    by_cases z : ((Tm.cap c : Nat) : Int) ≤ (n : Int)
                    · exact z
                    · rw [decide_eq_false z] at e2; exact absurd rfl e2
                  have e4 : c ≤ n := (Tm.cap_le hn).mp (by omega)
                  rw [hD]
                  exact good (by rw [hin, decide_eq_true e1, decide_eq_true e4]; rfl) H3 s13
              · have e1 : ¬ 1 ≤ c := fun z => e (decide_eq_true (by have := Tm.cap_pos.mpr z; omega))
                refine ⟨_, rfl, ?_⟩
                show D.rt (.bl true) H3
                rw [hR]
                exact bad i it H3 hit (by rw [hin, decide_eq_false e1]; rfl) s13
            cases it with
            | ins c => exact key c rfl rfl
            | del c => exact key c rfl rfl
            | pend c kk v =>
              refine key c rfl ?_
              have : v ≤ 99 := (Tm.cap_le (n := v) (b := 99) (by decide)).mp (by have : ((Tm.cap v : Nat) : Int) ≤ 99 := g1; omega)
              show (decide (1 ≤ c) && (decide (c ≤ n) && decide (v ≤ 99))) = _
              rw [decide_eq_true this, Bool.and_true]
            | look kk v => cases hnc
            | tag t => cases hnc
        refine ⟨_, rfl, xa, C, dx, _, _, rfl, hx1, T.cl, T.no _ (by simp), lkI0, rfl, _, rfl, ite2 (fun g2 => ?_) (fun g2 => ?_)⟩
        · have g3 : (Tm.it4 it).1 = 35 := by have := eq_dec g2; omega
          refine ⟨_, rfl, xa, C, dx, _, _, rfl, hx1, T.cl, T.no _ (by simp), lkI1, _, _, rfl, rfl, _, rfl, ?_⟩
          have hbad : ¬ (1 ≤ (Tm.it4 it).2.1 ∧ (Tm.it4 it).2.1 ≤ 999) → Vatrkd.inRange n it = false := fun z => by
            cases it with
            | tag t =>
              show (decide (1 ≤ t) && decide (t ≤ 999)) = false
              by_cases z1 : 1 ≤ t
              · have z2 : ¬ t ≤ 999 := fun z3 => z ⟨Tm.cap_pos.mpr z1, (Tm.cap_le (by decide)).mpr z3⟩
                rw [decide_eq_false z2, Bool.and_false]
              · rw [decide_eq_false z1]; rfl
            | look kk v => exact absurd g3 (show ¬ (0 : Nat) = 35 by decide)
            | ins c => exact absurd g3 (show ¬ (43 : Nat) = 35 by decide)
            | del c => exact absurd g3 (show ¬ (45 : Nat) = 35 by decide)
            | pend c kk v => exact absurd g3 (show ¬ (42 : Nat) = 35 by decide)
          refine ite2 (fun e => ?_) (fun e => ?_)
          · have e1 : 1 ≤ (Tm.it4 it).2.1 := by have := of_decide_eq_true e; omega
            refine ⟨_, _, rfl, rfl, _, rfl, ite2 (fun e2 => ?_) (fun e2 => ?_)⟩
            · have e3 : ¬ (((Tm.it4 it).2.1 : Nat) : Int) ≤ 999 := fun z => by rw [decide_eq_true z] at e2; cases e2
              exact bad i it H2 hit (hbad fun z => e3 (by omega)) s1
            · have e3 : (((Tm.it4 it).2.1 : Nat) : Int) ≤ 999 := by
                by_cases z : (((Tm.it4 it).2.1 : Nat) : Int) ≤ 999
                · exact z
                · rw [decide_eq_false z] at e2; exact absurd rfl e2
              exact rest (fun _ => ⟨e1, by omega⟩) _ rfl rfl
          · have e1 : ¬ 1 ≤ (Tm.it4 it).2.1 := fun z => e (decide_eq_true (by omega))
            refine ⟨_, rfl, ?_⟩
            exact bad i it H2 hit (hbad fun z => e1 z.1) s1
        · have g3 : (Tm.it4 it).1 ≠ 35 := by have := ne_dec g2; omega
          exact rest (fun z => absurd z g3) _ rfl rfl
    · obtain ⟨y, rfl, s1, hall⟩ := hP
      rw [List.length_map, Paired.length h2, List.take_length] at hall
      rw [hall] at q
      exact q H2 s1
end
end Td
set_option maxRecDepth 100000
set_option maxHeartbeats 4000000
namespace Td
open PySem PySem.Spec PyProof.Rows L2
open Vatrka (Piece Pending Change)
/-! ### dresses as data -/
def pendD (y : Pending) : PyData := .tuple [.int (y.change : Nat), .int (y.prop : Nat), .int (y.value : Nat)]
def dressD (x : Piece) : PyData := .tuple [.tuple (dN x.look), .tuple (dN x.ins), .tuple (dN x.del), .tuple (x.pend.map pendD), .tuple (dN x.tags)]
theorem ixN_nat {n k : Nat} (h : k < n) : ixN n (k : Int) = some k := by
  unfold ixN
  rw [if_pos (by omega), if_pos (by omega), Int.toNat_natCast]
/-- the numbers of the items with a mark -/
def numsW (m : Nat) (its : List Vatrkd.Item) : List Nat := (its.filter fun it => decide ((Tm.it4 it).1 = m)).map fun it => (Tm.it4 it).2.1
theorem cap_range {n c : Nat} (hn : n < 10 ^ 18) (h : c ≤ n) : Tm.cap c = c := Tm.cap_of hn h
theorem nums_ins {n : Nat} (hn : n < 10 ^ 18) : ∀ {its : List Vatrkd.Item}, its.all (Vatrkd.inRange n) = true → numsW 43 its = Tm.insN its
  | [], _ => rfl
  | it :: r, h => by
    rw [List.all_cons, Bool.and_eq_true] at h
    have ih := nums_ins hn (its := r) h.2
    unfold numsW at ih ⊢
    cases it with
    | ins c =>
      have hc : (decide (1 ≤ c) && decide (c ≤ n)) = true := h.1
      rw [Bool.and_eq_true, decide_eq_true_eq, decide_eq_true_eq] at hc
      show Tm.cap c :: _ = c :: Tm.insN r
      rw [ih, cap_range hn hc.2]
    | look _ _ => exact ih
    | del _ => exact ih
    | tag _ => exact ih
    | pend _ _ _ => exact ih
theorem nums_del {n : Nat} (hn : n < 10 ^ 18) : ∀ {its : List Vatrkd.Item}, its.all (Vatrkd.inRange n) = true → numsW 45 its = Tm.delN its
  | [], _ => rfl
  | it :: r, h => by
    rw [List.all_cons, Bool.and_eq_true] at h
    have ih := nums_del hn (its := r) h.2
    unfold numsW at ih ⊢
    cases it with
    | del c =>
      have hc : (decide (1 ≤ c) && decide (c ≤ n)) = true := h.1
      rw [Bool.and_eq_true, decide_eq_true_eq, decide_eq_true_eq] at hc
      show Tm.cap c :: _ = c :: Tm.delN r
      rw [ih, cap_range hn hc.2]
    | look _ _ => exact ih
    | ins _ => exact ih
    | tag _ => exact ih
    | pend _ _ _ => exact ih
theorem nums_tag {n : Nat} : ∀ {its : List Vatrkd.Item}, its.all (Vatrkd.inRange n) = true → numsW 35 its = Tm.tagN its
  | [], _ => rfl
  | it :: r, h => by
    rw [List.all_cons, Bool.and_eq_true] at h
    have ih := nums_tag (n := n) (its := r) h.2
    unfold numsW at ih ⊢
    cases it with
    | tag c =>
      have hc : (decide (1 ≤ c) && decide (c ≤ 999)) = true := h.1
      rw [Bool.and_eq_true, decide_eq_true_eq, decide_eq_true_eq] at hc
      show Tm.cap c :: _ = c :: Tm.tagN r
      rw [ih, Tm.cap_of (b := 999) (by decide) hc.2]
    | look _ _ => exact ih
    | ins _ => exact ih
    | del _ => exact ih
    | pend _ _ _ => exact ih
/-- the pending looks among items -/
def pendW (its : List Vatrkd.Item) : List (Nat × Nat × Nat) := (its.filter fun it => decide ((Tm.it4 it).1 = 42)).map fun it => (Tm.it4 it).2
theorem pend_w {n : Nat} (hn : n < 10 ^ 18) : ∀ {its : List Vatrkd.Item}, its.all (Vatrkd.inRange n) = true → pendW its = (Tm.pendN its).map fun y => (y.change, y.prop, y.value)
  | [], _ => rfl
  | it :: r, h => by
    rw [List.all_cons, Bool.and_eq_true] at h
    have ih := pend_w hn (its := r) h.2
    unfold pendW at ih ⊢
    cases it with
    | pend c k v =>
      have hc : (decide (1 ≤ c) && (decide (c ≤ n) && decide (v ≤ 99))) = true := h.1
      rw [Bool.and_eq_true, Bool.and_eq_true, decide_eq_true_eq, decide_eq_true_eq, decide_eq_true_eq] at hc
      show (Tm.cap c, k, Tm.cap v) :: _ = (c, k, v) :: (Tm.pendN r).map _
      rw [ih, cap_range hn hc.2.1, Tm.cap_of (b := 99) (by decide) hc.2.2]
    | look _ _ => exact ih
    | ins _ => exact ih
    | del _ => exact ih
    | tag _ => exact ih
theorem filter_snoc {α β : Type} {p : α → Bool} {f : α → β} {l : List α} {i : Nat} {x : α} (h : l[i]? = some x) :
    ((l.take (i + 1)).filter p).map f = ((l.take i).filter p).map f ++ (if p x = true then [f x] else []) := by
  rw [List.take_add_one, h, List.filter_append, List.map_append]
  show _ ++ (([x].filter p).map f) = _
  rw [List.filter_cons]
  by_cases e : p x = true
  · rw [if_pos e, if_pos e]; rfl
  · rw [if_neg e, if_neg e]; rfl
abbrev s_dress_of : Stmt := top 73
abbrev n_dress_of : List Str := ["items", "look", "item", "pending", "insertions", "deletions", "tags"]
abbrev p_dress_of : List Str := ["items"]
theorem sc_dress_of : FnScope n_dress_of p_dress_of (defScope s_dress_of) := ⟨rfl, rfl, rfl, by decide +kernel, rfl, by decide +kernel, by decide +kernel⟩
section
variable {P : Program} {w : World} {K : PySem.W.Frag} {mg : Str → Option Value} {base : Heap} {C : Addr}
def sp_numbers_with (C : Addr) : Sp := fun vs H Q _ => ∃ (a : Addr) (its : List Vatrkd.Item) (m : Nat), vs = [.ref a, .int (m : Int)] ∧ ItemsAt C H a its ∧ its.length < 1000001 ∧
  ∀ H' p, Same H H' → H p = none → H' p = some (.lst (vN (numsW m its))) → Q (.ref p) H'
theorem ok_numbers_with {k : Nat} (G : Glob mg) (T : CT K C fItem) (D : Stands K mg "numbers_with" s_numbers_with) : C8.Cal P w K mg base (k + 1) "numbers_with" (sp_numbers_with C) [] := by
  refine cal_of D sc_numbers_with (fun vs H Q E h => ?_) (fun _ _ _ _ _ _ us hl => match us, hl with | [_, _], _ => rfl) (fun f cdv A outer s H vs Q E hr h => ?_)
  · obtain ⟨a, its, m, rfl, _⟩ := h
    rfl
  · obtain ⟨a, its, m, rfl, ⟨as, h1, h2⟩, hlen, q⟩ := h
    refine ⟨_, (pss_one (ps_ret (pe_lc (own := [("item", 2)]) (g := (gName 2)) (tt := (tTest (tOp rEq (tFld K (tVar 2) "mark") (tVar 1)))) (te := (tFld K (tVar 2) "number")) rfl sc_numbers_with.nd (pi_list (pv 0)) (blkOk_by (N := ["items", "mark", "item"]) (sc := defScope s_numbers_with) (by decide +kernel)) (fun _ _ _ _ _ => (pg_name (i := 2) sc_numbers_with.nd rfl (Or.inl rfl))) (fun _ _ _ _ _ => (pts_one (pt_cmpR op_eq (pe_fld (pv 2) rfl) (pv 1) (nomark _)))) (fun _ _ _ _ _ => (pe_fld (pv 2) rfl))))), ?_⟩
    refine ⟨_, rfl, a, rfl, ⟨_, SqL.of h1⟩, fun D nD => ?_⟩
    refine lc_list (xs := as.map V.ref) (fun i H1 => Same H H1 ∧ H1 D = some (.lst (vN (numsW m (its.take i))))) ⟨same_upd nD, upd_same⟩ (fun i H1 _ hP => SqL.of (hP.1 _ _ h1)) (fun i x H1 hx hP => ?_) (fun H1 hP => ?_)
    · rw [List.getElem?_map] at hx
      obtain ⟨xa, hxa, rfl⟩ := Option.map_eq_some_iff.mp hx
      obtain ⟨it, hit, dx, hx0⟩ := paired_get h2 hxa
      have hx1 := hP.1 _ _ hx0
      have hil : i < its.length := (List.getElem?_eq_some_iff.mp hit).1
      refine ⟨rfl, _, rfl, xa, C, dx, _, _, rfl, hx1, T.cl, T.no _ (by simp), lkI0, _, rfl, rfl, _, rfl, ite2 (fun g => ?_) (fun g => ?_)⟩
      · have g1 : (Tm.it4 it).1 = m := by have := eq_dec g; omega
        refine ⟨_, rfl, xa, C, dx, _, _, rfl, hx1, T.cl, T.no _ (by simp), lkI1, _, hP.2, ?_, same_write nD hP.1, ?_⟩
        · rw [vN_len]
          have := List.length_filter_le (fun it => decide ((Tm.it4 it).1 = m)) (its.take i)
          unfold numsW
          rw [List.length_map]
          rw [List.length_take] at this
          have e : (1000001 : Nat) < sizeLine := by decide
          omega
        · rw [upd_same]
          unfold numsW
          rw [filter_snoc hit, if_pos (decide_eq_true g1), vN_app]
          rfl
      · have g1 : ¬ (Tm.it4 it).1 = m := by have := ne_dec g; omega
        refine ⟨hP.1, ?_⟩
        unfold numsW
        rw [filter_snoc hit, if_neg (by rw [decide_eq_true_eq]; exact g1), List.append_nil]
        exact hP.2
    · have e : its.take (as.map V.ref).length = its := by rw [List.length_map, Paired.length h2, List.take_length]
      rw [e] at hP
      exact q H1 D hP.1 nD hP.2
/-- the dress that items tell -/
def dressOf (its : List Vatrkd.Item) : Piece := its.foldl Vatrkd.wear { sign := 10, look := Vatrka.zeroLook }
theorem dressOf_D (its : List Vatrkd.Item) : dressD (dressOf its) = .tuple [.tuple (dN (its.foldl Tm.lookS Vatrka.zeroLook)), .tuple (dN (Tm.insN its)), .tuple (dN (Tm.delN its)), .tuple ((Tm.pendN its).map pendD), .tuple (dN ((Tm.tagN its).foldl (fun ts t => Vatrka.withTag t ts) []))] := by
  obtain ⟨h1, h2, h3, h4, h5, h6⟩ := Tm.wear_all its { sign := 10, look := Vatrka.zeroLook }
  unfold dressD dressOf
  rw [h2, h3, h4, h5, h6]
  rfl
theorem look_len (its : List Vatrkd.Item) : ∀ l : List Nat, (its.foldl Tm.lookS l).length = l.length := by
  induction its with
  | nil => intro l; rfl
  | cons it r ih =>
    intro l
    rw [List.foldl_cons, ih]
    cases it with
    | look k v => show (l.set k v).length = _; rw [List.length_set]
    | _ => rfl
def sp_dress_of (K : PySem.W.Frag) (C : Addr) : Sp := fun vs H Q _ => ∃ (a : Addr) (its : List Vatrkd.Item) (n : Nat), vs = [.ref a] ∧ ItemsAt C H a its ∧ its.length < 1000001 ∧ n < 10 ^ 18 ∧ its.all (Vatrkd.inRange n) = true ∧ Vatrkd.noClash its = true ∧ (∀ it ∈ its, Tm.placeOk it = true) ∧
  ∀ H' p, Same H H' → Dp K H' (.ref p) (dressD (dressOf its)) → Q (.ref p) H'
theorem dpAll_pends {K : PySem.W.Frag} {H : Hp} : ∀ {as : List Addr} {ys : List (Nat × Nat × Nat)}, Paired (fun a y => H a = some (.tup [.int (y.1 : Nat), .int (y.2.1 : Nat), .int (y.2.2 : Nat)])) as ys → DpAll K H (as.map V.ref) (ys.map fun y => .tuple [.int (y.1 : Nat), .int (y.2.1 : Nat), .int (y.2.2 : Nat)])
  | _, _, .nil => .nil
  | _, _, .cons r t => .cons (.tup (SqT.of r) (.cons (.int _) (.cons (.int _) (.cons (.int _) .nil)))) (dpAll_pends t)
theorem ok_dress_of {k : Nat} (G : Glob mg) (T : CT K C fItem) (c_numbers_with : C8.Cal P w K mg base 1 "numbers_with" (sp_numbers_with C) []) (D : Stands K mg "dress_of" s_dress_of) : C8.Cal P w K mg base (k + 2) "dress_of" (sp_dress_of K C) [] := by
  refine cal_of D sc_dress_of (fun vs H Q E h => ?_) (fun _ _ _ _ _ _ us hl => match us, hl with | [_], _ => rfl) (fun f cdv A outer s H vs Q E hr h => ?_)
  · obtain ⟨a, its, n, rfl, _⟩ := h
    rfl
  · obtain ⟨a, its, n, rfl, hI, hlen, hn, hin, hcl, hpl, q⟩ := h
    rw [dressOf_D] at q
    have hI0 := hI
    obtain ⟨as, h1, h2⟩ := hI
    refine ⟨_, (pss_cons (ps_set (i := 1) sc_dress_of.nd rfl (Or.inl rfl) (pe_lst (pa_cons pe_int (pa_cons pe_int (pa_cons pe_int (pa_cons pe_int pa_nil))))))
      (pss_cons (ps_for PassesOwn.never rfl (pi_list (pv 0)) (pg_name (i := 2) sc_dress_of.nd rfl (Or.inl rfl))
      (pss_one (ps_if (pt_cmpR op_eq (pe_fld (pv 2) rfl) (pe_gv G.c_OWN_LOOK) (nomark _))
      (pss_one (ps_asg (pe_fld (pv 2) rfl) (pg_sub (pv 1) (pe_fld (pv 2) rfl) set_list)))
      pss_nil)))
      (pss_cons (ps_setLc (i := 3) (own := [("item", 2)]) (g := (gName 2)) (tt := (tTest (tOp rEq (tFld K (tVar 2) "mark") (tC (.int 42))))) (te := (tTup (tCons (tFld K (tVar 2) "number") (tCons (tFld K (tVar 2) "place") (tCons (tFld K (tVar 2) "value") tNil))))) rfl sc_dress_of.nd rfl rfl (sw_true rfl rfl rfl (by decide +kernel)) (pi_list (pv 0)) (blkOk_by (N := ["items", "look", "item", "pending", "insertions", "deletions", "tags"]) (sc := defScope s_dress_of) (by decide +kernel)) (fun _ _ _ _ _ => (pg_name (i := 2) sc_dress_of.nd rfl (Or.inl rfl))) (fun _ _ _ _ _ => (pts_one (pt_cmpR op_eq (pe_fld (pv 2) rfl) (pe_gv G.c_PENDING_LOOK) (nomark _)))) (fun _ _ _ _ _ => (pe_tup (pa_cons (pe_fld (pv 2) rfl) (pa_cons (pe_fld (pv 2) rfl) (pa_cons (pe_fld (pv 2) rfl) pa_nil))))))
      (pss_cons (ps_set (i := 4) sc_dress_of.nd rfl (Or.inl rfl) (pe_callTy call_tuple_of (by rfl) G.b_tuple (by decide +kernel) (pa_cons (C8.pe_c c_numbers_with hr (by omega) (by rfl) (pa_cons (pv 0) (pa_cons (pe_gv G.c_INSERTION) pa_nil))) pa_nil)))
      (pss_cons (ps_set (i := 5) sc_dress_of.nd rfl (Or.inl rfl) (pe_callTy call_tuple_of (by rfl) G.b_tuple (by decide +kernel) (pa_cons (C8.pe_c c_numbers_with hr (by omega) (by rfl) (pa_cons (pv 0) (pa_cons (pe_gv G.c_DELETION) pa_nil))) pa_nil)))
      (pss_cons (ps_set (i := 6) sc_dress_of.nd rfl (Or.inl rfl) (pe_callTy call_tuple_of (by rfl) G.b_tuple (by decide +kernel) (pa_cons (pe_callB cr_sortedI (by rfl) G.b_sorted (by decide +kernel) (pa_cons (C8.pe_c c_numbers_with hr (by omega) (by rfl) (pa_cons (pv 0) (pa_cons (pe_gv G.c_TAG) pa_nil))) pa_nil)) pa_nil)))
      (pss_one (ps_ret (pe_tup (pa_cons (pe_callTy call_tuple_of (by rfl) G.b_tuple (by decide +kernel) (pa_cons (pv 1) pa_nil)) (pa_cons (pv 4) (pa_cons (pv 5) (pa_cons (pe_callTy call_tuple_of (by rfl) G.b_tuple (by decide +kernel) (pa_cons (pv 3) pa_nil)) (pa_cons (pv 6) pa_nil)))))))))))))), ?_⟩
    refine ⟨(by show 4 ≤ sizeLine; decide), fun lk nlk => ?_⟩
    have s0 : Same H (upd H lk (.lst [.int 0, .int 0, .int 0, .int 0])) := same_upd nlk
    refine ⟨_, rfl, a, rfl, ⟨_, SqL.of (s0 _ _ h1)⟩, for_list (xs := as.map V.ref) (fun i σ H1 => ∃ y, σ = [some (.ref a), some (.ref lk), y, none, none, none, none] ∧ Same H H1 ∧ H1 lk = some (.lst (vN ((its.take i).foldl Tm.lookS Vatrka.zeroLook))))
      ⟨none, rfl, s0, upd_same⟩ (fun i σ H1 _ hP => ?_) (fun i x σ H1 hx hP => ?_) (fun σ H1 hP => ?_)⟩
    · obtain ⟨_, _, s1, _⟩ := hP
      exact SqL.of (s1 _ _ h1)
    · obtain ⟨y, rfl, s1, hl1⟩ := hP
      rw [List.getElem?_map] at hx
      obtain ⟨xa, hxa, rfl⟩ := Option.map_eq_some_iff.mp hx
      obtain ⟨it, hit, dx, hx0⟩ := paired_get h2 hxa
      have hx1 := s1 _ _ hx0
      have hmem := List.mem_of_getElem? hit
      have hmore : (its.take (i + 1)).foldl Tm.lookS Vatrka.zeroLook = Tm.lookS ((its.take i).foldl Tm.lookS Vatrka.zeroLook) it := by
        rw [List.take_add_one, hit, List.foldl_append]
        rfl
      refine ⟨_, rfl, xa, C, dx, _, _, rfl, hx1, T.cl, T.no _ (by simp), lkI0, rfl, _, rfl, ite2 (fun g => ?_) (fun g => ?_)⟩
      · have g1 : (Tm.it4 it).1 = 0 := by have := eq_dec g; omega
        cases it with
        | look kk v =>
          have hk : kk < 4 := of_decide_eq_true (hpl _ hmem)
          have hv : v ≤ 99 := of_decide_eq_true (List.all_eq_true.mp hin _ hmem)
          have hll : (vN ((its.take i).foldl Tm.lookS Vatrka.zeroLook)).length = 4 := by rw [vN_len, look_len]; rfl
          refine ⟨_, rfl, xa, C, dx, _, _, rfl, hx1, T.cl, T.no _ (by simp), lkI3, _, rfl, _, rfl, xa, C, dx, _, _, rfl, hx1, T.cl, T.no _ (by simp), lkI2, lk, _, _, kk, rfl, rfl, hl1, ?_, ?_⟩
          · rw [hll]
            exact ixN_nat hk
          · refine ⟨_, rfl, same_write nlk s1, ?_⟩
            rw [upd_same, hmore]
            show some (HO.lst ((vN ((its.take i).foldl Tm.lookS Vatrka.zeroLook)).set kk (.int ((Tm.cap v : Nat) : Int)))) = some (HO.lst (vN (((its.take i).foldl Tm.lookS Vatrka.zeroLook).set kk v)))
            rw [Tm.cap_of (b := 99) (by decide) hv]
            unfold vN
            rw [List.map_set]
        | ins c => exact absurd g1 (show ¬ (43 : Nat) = 0 by decide)
        | del c => exact absurd g1 (show ¬ (45 : Nat) = 0 by decide)
        | tag c => exact absurd g1 (show ¬ (35 : Nat) = 0 by decide)
        | pend c kk v => exact absurd g1 (show ¬ (42 : Nat) = 0 by decide)
      · have g1 : ¬ (Tm.it4 it).1 = 0 := by have := ne_dec g; omega
        refine ⟨_, rfl, s1, ?_⟩
        rw [hmore, hl1]
        cases it with
        | look kk v => exact absurd rfl g1
        | _ => rfl
    · obtain ⟨y, rfl, s1, hl1⟩ := hP
      rw [List.length_map, Paired.length h2, List.take_length] at hl1
      -- pending
      refine ⟨_, rfl, a, rfl, ⟨_, SqL.of (s1 _ _ h1)⟩, fun D nD => ?_⟩
      refine lc_list (xs := as.map V.ref) (fun i H2 => Same H1 H2 ∧ ∃ bs : List Addr, H2 D = some (.lst (bs.map V.ref)) ∧ Paired (fun b y => H2 b = some (.tup [.int (y.1 : Nat), .int (y.2.1 : Nat), .int (y.2.2 : Nat)])) bs (pendW (its.take i)))
        ⟨same_upd nD, [], upd_same, .nil⟩ (fun i H2 _ hP => SqL.of (hP.1 _ _ (s1 _ _ h1))) (fun i x H2 hx hP => ?_) (fun H2 hP => ?_)
      · obtain ⟨s2, bs, hb1, hb2⟩ := hP
        rw [List.getElem?_map] at hx
        obtain ⟨xa, hxa, rfl⟩ := Option.map_eq_some_iff.mp hx
        obtain ⟨it, hit, dx, hx0⟩ := paired_get h2 hxa
        have hx1 := s2 _ _ (s1 _ _ hx0)
        have hil : i < its.length := (List.getElem?_eq_some_iff.mp hit).1
        refine ⟨rfl, _, rfl, xa, C, dx, _, _, rfl, hx1, T.cl, T.no _ (by simp), lkI0, rfl, _, rfl, ite2 (fun g => ?_) (fun g => ?_)⟩
        · have g1 : (Tm.it4 it).1 = 42 := by have := eq_dec g; omega
          refine ⟨_, rfl, xa, C, dx, _, _, rfl, hx1, T.cl, T.no _ (by simp), lkI1, _, rfl, xa, C, dx, _, _, rfl, hx1, T.cl, T.no _ (by simp), lkI2, _, rfl, xa, C, dx, _, _, rfl, hx1, T.cl, T.no _ (by simp), lkI3, (by show 3 ≤ sizeLine; decide), fun tp ntp => ?_⟩
          have hD3 := (same_upd (o := .tup [.int ((Tm.it4 it).2.1 : Nat), .int ((Tm.it4 it).2.2.1 : Nat), .int ((Tm.it4 it).2.2.2 : Nat)]) ntp) _ _ hb1
          have ntD : tp ≠ D := fun z => by rw [z, hb1] at ntp; cases ntp
          refine ⟨_, hD3, ?_, same_write nD (s2.trans (same_upd ntp)), bs ++ [tp], ?_, ?_⟩
          · rw [List.length_map, Paired.length hb2]
            have := List.length_filter_le (fun it => decide ((Tm.it4 it).1 = 42)) (its.take i)
            unfold pendW
            rw [List.length_map]
            rw [List.length_take] at this
            have e : (1000001 : Nat) < sizeLine := by decide
            omega
          · rw [upd_same, List.map_append]
            rfl
          · have e : pendW (its.take (i + 1)) = pendW (its.take i) ++ [(Tm.it4 it).2] := by
              unfold pendW
              rw [filter_snoc hit, if_pos (decide_eq_true g1)]
            rw [e]
            refine paired_snoc (Paired.mapP hb2 fun b y z => ?_) ?_
            · have nb : b ≠ D := fun z2 => by rw [z2, hb1] at z; cases z
              rw [upd_ne nb]
              exact same_upd ntp _ _ z
            · rw [upd_ne ntD]
              exact upd_same
        · have g1 : ¬ (Tm.it4 it).1 = 42 := by have := ne_dec g; omega
          refine ⟨s2, bs, hb1, ?_⟩
          have e : pendW (its.take (i + 1)) = pendW (its.take i) := by
            unfold pendW
            rw [filter_snoc hit, if_neg (by rw [decide_eq_true_eq]; exact g1), List.append_nil]
          rw [e]
          exact hb2
      · obtain ⟨s2, bs, hb1, hb2⟩ := hP
        rw [List.length_map, Paired.length h2, List.take_length] at hb2
        have s12 := s1.trans s2
        -- insertions, deletions, tags
        refine ⟨_, rfl, a, its, 43, rfl, hI0.same s12, hlen, fun H3 p3 s3 np3 hp3 => ⟨p3, _, rfl, .inl ⟨SqL.of hp3, fun ti nti => ?_⟩⟩⟩
        have s3' := s3.trans (same_upd (o := .tup (vN (numsW 43 its))) nti)
        refine ⟨_, rfl, a, its, 45, rfl, hI0.same (s12.trans s3'), hlen, fun H4 p4 s4 np4 hp4 => ⟨p4, _, rfl, .inl ⟨SqL.of hp4, fun td ntd => ?_⟩⟩⟩
        have s4' := s4.trans (same_upd (o := .tup (vN (numsW 45 its))) ntd)
        refine ⟨_, rfl, a, its, 35, rfl, hI0.same (s12.trans (s3'.trans s4')), hlen, fun H5 p5 s5 np5 hp5 => ⟨p5, (numsW 35 its).map fun (n : Nat) => (n : Int), rfl, by rw [← vN_ints]; exact SqL.of hp5, fun ns p6 hperm hsort np6 => ⟨p6, _, rfl, .inl ⟨SqL.of upd_same, fun tt ntt => ?_⟩⟩⟩⟩
        have s5' := s5.trans ((same_upd (o := .lst (ns.map V.int)) np6).trans (same_upd (o := .tup (ns.map V.int)) ntt))
        -- return (tuple(look), insertions, deletions, tuple(pending), tags)
        have hlk5 := s5' _ _ (s4' _ _ (s3' _ _ (s2 _ _ hl1)))
        have hns : ∃ ts : List Nat, ns = ts.map (fun (n : Nat) => (n : Int)) ∧ ts.Perm (numsW 35 its) ∧ ts.Pairwise (· ≤ ·) := by
          have key : ∀ (ns : List Int) (l : List Nat), ns.Perm (l.map fun (n : Nat) => (n : Int)) → ns = (ns.map Int.toNat).map fun (n : Nat) => (n : Int) := by
            intro ns l hp
            rw [List.map_map]
            refine (List.map_id ns).symm.trans (List.map_congr_left fun x hx => ?_)
            obtain ⟨y, _, e⟩ := List.mem_map.mp (hp.mem_iff.mp hx)
            show x = ((x.toNat : Nat) : Int)
            omega
          refine ⟨ns.map Int.toNat, key ns _ hperm, ?_, ?_⟩
          · have := hperm.map Int.toNat
            rw [List.map_map] at this
            have e : (numsW 35 its).map (Int.toNat ∘ fun (n : Nat) => (n : Int)) = numsW 35 its := by
              refine (List.map_congr_left fun x _ => ?_).trans (List.map_id _)
              rfl
            rw [e] at this
            exact this
          · exact List.pairwise_map.mpr (hsort.imp fun {x y} h => by omega)
        obtain ⟨ts, hts, hp1, hp2⟩ := hns
        have htag : ts = (Tm.tagN its).foldl (fun ts t => Vatrka.withTag t ts) [] := by
          rw [nums_tag hin] at hp1
          obtain ⟨a1, a2⟩ := Tm.tags_perm (Tm.tagN its) [] (by rw [List.nil_append]; exact Tm.noClash_tags hcl) List.Pairwise.nil
          rw [List.nil_append] at a1
          exact Tm.sorted_same (hp1.trans a1.symm) hp2 a2
        have evN : ns.map V.int = vN ts := by rw [hts, vN_ints]
        rw [evN] at s5' hlk5
        refine ⟨_, rfl, lk, _, rfl, .inl ⟨SqL.of (by rw [evN]; exact hlk5), fun tl ntl => ?_⟩⟩
        refine ⟨_, rfl, _, rfl, _, rfl, D, bs.map V.ref, rfl, ?_⟩
        rw [evN] at ntl ⊢
        have hb5 : ∀ {b : Addr} {o : HO}, H2 b = some o → (upd (upd (upd H5 p6 (.lst (vN ts))) tt (.tup (vN ts))) tl (.tup (vN ((its.foldl Tm.lookS Vatrka.zeroLook))))) b = some o := fun {b o} e => same_upd ntl _ _ (s5' _ _ (s4' _ _ (s3' _ _ e)))
        refine .inl ⟨SqL.of (hb5 hb1), fun tq ntq => ?_⟩
        refine ⟨_, rfl, (by show 5 ≤ sizeLine; decide), fun r nr => ?_⟩
        have sA : Same H1 (upd (upd (upd H5 p6 (.lst (vN ts))) tt (.tup (vN ts))) tl (.tup (vN (its.foldl Tm.lookS Vatrka.zeroLook)))) := fun b o e => hb5 (s2 _ _ e)
        have hti := same_upd (o := .tup (bs.map V.ref)) ntq _ _ (same_upd (o := .tup (vN (its.foldl Tm.lookS Vatrka.zeroLook))) ntl _ _ (s5' _ _ (s4' _ _ (upd_same (H := H3) (a := ti) (o := .tup (vN (numsW 43 its)))))))
        have htd := same_upd (o := .tup (bs.map V.ref)) ntq _ _ (same_upd (o := .tup (vN (its.foldl Tm.lookS Vatrka.zeroLook))) ntl _ _ (s5' _ _ (upd_same (H := H4) (a := td) (o := .tup (vN (numsW 45 its))))))
        have htt := same_upd (o := .tup (bs.map V.ref)) ntq _ _ (same_upd (o := .tup (vN (its.foldl Tm.lookS Vatrka.zeroLook))) ntl _ _ (upd_same (H := upd H5 p6 (.lst (vN ts))) (a := tt) (o := .tup (vN ts))))
        have htl := same_upd (o := .tup (bs.map V.ref)) ntq _ _ (upd_same (H := upd (upd H5 p6 (.lst (vN ts))) tt (.tup (vN ts))) (a := tl) (o := .tup (vN (its.foldl Tm.lookS Vatrka.zeroLook))))
        have sB := sA.trans (same_upd (o := .tup (bs.map V.ref)) ntq)
        have hbq : ∀ b o, H2 b = some o → (upd (upd (upd (upd H5 p6 (.lst (vN ts))) tt (.tup (vN ts))) tl (.tup (vN (its.foldl Tm.lookS Vatrka.zeroLook)))) tq (.tup (bs.map V.ref))) b = some o := fun b o e => same_upd ntq _ _ (hb5 e)
        have htq : (upd (upd (upd (upd H5 p6 (.lst (vN ts))) tt (.tup (vN ts))) tl (.tup (vN (its.foldl Tm.lookS Vatrka.zeroLook)))) tq (.tup (bs.map V.ref))) tq = some (.tup (bs.map V.ref)) := upd_same
        generalize upd (upd (upd (upd H5 p6 (.lst (vN ts))) tt (.tup (vN ts))) tl (.tup (vN (its.foldl Tm.lookS Vatrka.zeroLook)))) tq (.tup (bs.map V.ref)) = H6 at *
        have sC : Same H6 (upd H6 r (.tup [.ref tl, .ref ti, .ref td, .ref tq, .ref tt])) := same_upd nr
        refine q _ r (s1.trans (sB.trans sC)) (.tup (SqT.of upd_same) (.cons (dp_tup (SqT.of (sC _ _ htl))) (.cons ?_ (.cons ?_ (.cons ?_ (.cons ?_ .nil))))))
        · rw [← nums_ins hn hin]
          exact dp_tup (SqT.of (sC _ _ hti))
        · rw [← nums_del hn hin]
          exact dp_tup (SqT.of (sC _ _ htd))
        · refine .tup (SqT.of (sC _ _ htq)) ?_
          have e : (Tm.pendN its).map pendD = (pendW its).map fun y => PyData.tuple [.int (y.1 : Nat), .int (y.2.1 : Nat), .int (y.2.2 : Nat)] := by
            rw [pend_w hn hin, List.map_map]
            rfl
          rw [e]
          exact dpAll_pends (Paired.mapP hb2 fun b y z => sC _ _ (hbq _ _ z))
        · rw [← htag]
          exact dp_tup (SqT.of (sC _ _ htt))
end
end Td
set_option maxRecDepth 100000
set_option maxHeartbeats 4000000
/-! Rules that the layer lacks: enumerate of a list or a tuple from any count, min and max with a default. -/
namespace Td
open PySem PySem.Spec PyProof.Rows L2
open PySem.W (alike AlikeAll minD_ints maxD_ints min_list_default max_list_default)
/-- a sequence that is walked: how it is read, how its iterator stands, what that draws -/
structure SeqK (P : Program) (w : World) (K : PySem.W.Frag) (a : Addr) (Sq : Hp → List V → Prop) (Is : Heap → Array Value → Prop) (At : Heap → Addr → Nat → Prop) : Prop where
  read : ∀ (X : Cx), X.prog = P → X.w = w → X.K = K → ∀ (pins : List (Addr × Obj)) (σ : L2.St) (H : Hp) (s : Shared), Inv X pins σ H s → ∀ xs, Sq H xs → ∃ its : List Value, Vals xs its ∧ Is s.heap its.toArray
  one : ∀ (X : Cx), X.prog = P → X.w = w → X.K = K → ∀ (pins : List (Addr × Obj)) (σ : L2.St) (H : Hp) (s : Shared), Inv X pins σ H s → ∀ xs ys, Sq H xs → Sq H ys → xs = ys
  draws : ∀ (A : Around), A.handled = none → ∀ (it : Addr), a ≠ it → ∀ items : Array Value, Draws P w A it [it, a] items.size (fun i v => items[i]? = some v) (fun i h => At h it i ∧ Is h items)
  obj : ∀ h it i, At h it i → ∃ o, h.get? it = some o ∧ ∀ v, o.data ≠ .cell v
  stay : ∀ h h' it i, At h it i → (∀ o, h.get? it = some o → h'.get? it = some o) → At h' it i
  lt : ∀ h items, Is h items → a < h.objs.size
theorem seqK_list {P : Program} {w : World} {K : PySem.W.Frag} (a : Addr) : SeqK P w K a (fun H xs => SqL K H a xs) (fun h items => h.IsList a items) (fun h it i => h.IsListIter it a i) where
  read := fun X hP hw hK pins σ H s I xs h => by
    subst hK
    obtain ⟨its, r, p, _⟩ := Inv.list I h
    exact ⟨its, r, p.isList⟩
  one := fun X hP hw hK pins σ H s I xs ys h k => by
    subst hK
    exact Inv.list_inj I h k
  draws := fun A hh it hne items => Draws.list hh it a hne items
  obj := fun h it i x => by
    obtain ⟨o, e, c, d⟩ := x
    refine ⟨o, e, fun v z => ?_⟩
    rw [d] at z
    cases z
  stay := fun h h' it i x k => Heap.IsListIter.at x k
  lt := fun h items x => by
    obtain ⟨o, e, _⟩ := x
    exact Heap.lt_size e
theorem seqK_tup {P : Program} {w : World} {K : PySem.W.Frag} (a : Addr) : SeqK P w K a (fun H xs => SqT K H a xs) (fun h items => h.IsTuple a items) (fun h it i => h.IsTupleIter it a i) where
  read := fun X hP hw hK pins σ H s I xs h => by
    subst hK
    obtain ⟨its, r, ⟨o, e, c, n, d⟩, _⟩ := Inv.tuple I h
    exact ⟨its, r, o, e, c, n, d⟩
  one := fun X hP hw hK pins σ H s I xs ys h k => by
    subst hK
    exact Inv.tuple_inj I h k
  draws := fun A hh it hne items => Draws.tuple hh it a hne items
  obj := fun h it i x => by
    obtain ⟨o, e, c, d⟩ := x
    refine ⟨o, e, fun v z => ?_⟩
    rw [d] at z
    cases z
  stay := fun h h' it i x k => Heap.IsTupleIter.at x k
  lt := fun h items x => by
    obtain ⟨o, e, _⟩ := x
    exact Heap.lt_size e
/-- new pairs of a count from c on and the items as they stand -/
def ItC (c : Int) (Sq : Hp → List V → Prop) : It :=
  ⟨fun i H => ∃ xs x, Sq H xs ∧ xs[i]? = some x,
   fun i H v H' => ∃ T x, v = .ref T ∧ H T = none ∧ H' = upd H T (.tup [.int (c + (i : Int)), x]) ∧ ∀ xs, Sq H xs → xs[i]? = some x,
   fun i H => ∃ xs, Sq H xs ∧ xs.length = i⟩
/-- the turns of an enumerate; a list that grows past its end is not meant: here the stop is at its length -/
theorem turnC {P : Program} {w : World} {K : PySem.W.Frag} {elts : List Expr} {kk : Nat} {tpos : Pos} {Sq : Hp → List V → Prop} {Is : Heap → Array Value → Prop} {At : Heap → Addr → Nat → Prop} (c : Int) (a e it : Addr) (S : SeqK P w K a Sq Is At) :
    Turn P w K (.Tuple elts kk tpos) (ItC c Sq) [e, it] e (fun i h => (∃ old, IsEnum h e it (c + (i : Int)) old) ∧ At h it i ∧ e ≠ it ∧ a ≠ it ∧ e ≠ a) where
  mem := List.mem_cons_self
  obj := fun i h st b hb => by
    obtain ⟨⟨old, he⟩, ha, _⟩ := st
    rcases List.mem_cons.mp hb with z | z
    · subst z
      exact ⟨_, he, fun v q => by cases q⟩
    · rw [List.mem_singleton.mp z]
      exact S.obj _ _ _ ha
  keep := fun i h h' st k => by
    obtain ⟨⟨old, he⟩, ha, r⟩ := st
    exact ⟨⟨old, k e List.mem_cons_self _ he⟩, S.stay _ _ _ _ ha fun o q => k it (List.mem_cons_of_mem _ List.mem_cons_self) o q, r⟩
  item := by
    intro X hP hw hK hc i pins s σ H E I hf st hg
    obtain ⟨⟨old, he⟩, ha, hne, hai, hea⟩ := st
    obtain ⟨xs, x, hq, hx⟩ := hg
    obtain ⟨its, rv, his⟩ := S.read X hP hw hK pins σ H s I xs hq
    have hS := S
    subst hP hw hK
    obtain ⟨u, hu, ru⟩ := Vals.get rv hx
    have hlt : i < its.toArray.size := by
      have := (List.getElem?_eq_some_iff.mp hu).1
      rw [List.size_toArray]
      exact this
    have hel : e < s.heap.objs.size := Heap.lt_size he
    have hil : it < s.heap.objs.size := by
      obtain ⟨o, eo, _⟩ := S.obj _ _ _ ha
      exact Heap.lt_size eo
    have D := S.draws X.A.in1 (I.ok.hd hc) it hai its.toArray
    have hef : e ∉ [it, a] := fun z => by
      rcases List.mem_cons.mp z with z | z
      · exact hne z
      · exact hea (List.mem_singleton.mp z)
    refine wpAny_pyNext_enum_itemC D he ⟨ha, his⟩ hlt hne hef fun y h' tk hy ho hst hT hsz hk => ?_
    have ey : y = u := by
      have h1 : its.toArray[i]? = some y := hy
      rw [List.getElem?_toArray, hu] at h1
      exact (Option.some.inj h1).symm
    subst ey
    refine ⟨_, rfl, wpAny_letOwnedTupleGo_enum (s := { s with heap := h', toks := tk + 1 }) ho fun h2 he2 sb => ?_⟩
    have hT2 : h2.get? s.heap.objs.size = some { cls := .type "tuple", data := .seq #[.int (c + (i : Int)) tk, y] } := (sb.2 _ (Nat.ne_of_gt hel)).trans hT
    have new : ObjOk X.prog X.w (upd H s.heap.objs.size (.tup [.int (c + (i : Int)), x])) h2 s.heap.objs.size (.tup [.int (c + (i : Int)), x]) := by
      refine ⟨?_, [.int (c + (i : Int)) tk, y], .cons ⟨_, rfl⟩ (.cons ru .nil), ⟨_, hT2, rfl, _, rfl⟩⟩
      show 2 ≤ sizeLine
      decide
    have keep2 : ∀ b ob, b ∉ [e, it] → s.heap.get? b = some ob → h2.get? b = some ob := fun b ob hb q => by
      have b1 : b ≠ e := fun z => hb (by rw [z]; exact List.mem_cons_self)
      have b2 : b ≠ it := fun z => hb (by rw [z]; exact List.mem_cons_of_mem _ List.mem_cons_self)
      exact (sb.2 b b1).trans (hk b ob b1 b2 q)
    have I1 : Inv X pins σ (upd H s.heap.objs.size (.tup [.int (c + (i : Int)), x])) { s with heap := h2, toks := tk + 1 } := Inv.turnedNew I (ch := [e, it]) keep2 hf (Nat.le_refl _) new
    refine ⟨.ref s.heap.objs.size, _, I1, rfl, ⟨_, x, rfl, I.hok.fresh (Nat.le_refl _), rfl, fun ys hy2 => ?_⟩, ⟨⟨y, ?_⟩, S.stay _ _ _ _ hst.1 fun o q => (sb.2 it (Ne.symm hne)).trans q, hne, hai, hea⟩, fun b hb => ?_⟩
    · rw [← hS.one X rfl rfl rfl pins σ H s I xs ys hq hy2]
      exact hx
    · have e1 : c + ((i + 1 : Nat) : Int) = c + (i : Int) + 1 := by omega
      rw [e1]
      exact he2
    · have hb' : b < s.heap.objs.size := by
        rcases List.mem_cons.mp hb with z | z
        · rw [z]; exact hel
        · rw [List.mem_singleton.mp z]; exact hil
      rw [upd_ne (Nat.ne_of_lt hb')]
      exact (hf b hb).1
  done := by
    intro X hP hw hK hc i pins s σ H E I hf st hg
    obtain ⟨⟨old, he⟩, ha, hne, hai, hea⟩ := st
    obtain ⟨xs, hq, hx⟩ := hg
    obtain ⟨its, rv, his⟩ := S.read X hP hw hK pins σ H s I xs hq
    subst hP hw hK
    have D := S.draws X.A.in1 (I.ok.hd hc) it hai its.toArray
    have hsz : its.toArray.size = i := by rw [List.size_toArray, ← Vals.length rv, hx]
    obtain ⟨f0, f1, f2, f3, f4, f5⟩ := hf it (List.mem_cons_of_mem _ List.mem_cons_self)
    exact wpAny_pyNext_enum_endD D he (by rw [hsz]; exact ⟨ha, his⟩) fun h' eb => ⟨rfl, Inv.turned I (t' := s.toks) (fun b o hb q => eb b o hb q) f0 f1 f3 f4 f5⟩
  self := fun A i s Q E st h => by
    obtain ⟨⟨old, he⟩, _⟩ := st
    exact wpAny_pyIter_enum he h

theorem walk_C {c : Int} {Sq : Hp → List V → Prop} {xs : List V} : Walk (ItC c Sq) xs.length (fun H => Sq H xs) (YPair (fun i => some (.int (c + (i : Int)))) (fun i => xs[i]?)) := by
  refine ⟨fun i H hi q => ⟨xs, xs[i], q, List.getElem?_eq_getElem hi⟩, fun H q => ⟨xs, q, rfl⟩, fun i H v H' _ q y => ?_⟩
  obtain ⟨T, x, h1, h2, h3, h4⟩ := y
  exact ⟨T, _, x, h1, h2, h3, rfl, h4 xs q⟩
section
variable {M : Model} {A : Around} {E : Value → Shared → Prop} {s : Shared} {env : Env}
/-- a built-in class called with keywords -/
theorem callWith_tyK {pos : Pos} {T : String} {e : Expr} {rest : List Expr} {kws : List Keyword} {Q : Value → Shared → Prop}
    (h : wpAny M A (spliced (backTo pos (starEach (e :: rest) env))) (fun vs s1 => wpAny M A (evalAll ((backToKw pos (keywordEach kws env)).map fun x => x.2))
      (fun kvs s2 => wpAny M A (call (.type T) vs (((backToKw pos (keywordEach kws env)).filterMap fun x => x.1).zip kvs)) Q E s2) E s1) E s)
    (he : backTo pos (starEach (e :: rest) env) = (false, eval e env) :: backTo pos (starEach rest env)) (hp : (backTo pos (starEach (e :: rest) env)).any (fun x => x.1) = false)
    (hall : (backToKw pos (keywordEach kws env)).all (fun x => x.1.isSome) = true) (hk : (backToKw pos (keywordEach kws env)).any (fun x => x.1.isNone) = false) :
    wpAny M A (callWith pos (.type T) [] (backTo pos (starEach (e :: rest) env)) (backToKw pos (keywordEach kws env))) Q E s := by
  unfold callWith
  refine wpAny_bind (wpAny_holding ?_)
  have k : wpAny M A (evalArgs (.type T) true (backTo pos (starEach (e :: rest) env)) (backToKw pos (keywordEach kws env))) (fun a s1 => wpAny M A (call (.type T) ([] ++ a.pos) a.kw) Q E s1) E s := by
    rw [he] at h ⊢
    exact evalArgs_kwB hall h
  refine wpAny_mono k (fun a s1 h1 => wpAny_bind (wpAny_standAt ?_)) fun _ _ x => x
  simp only [hp, hk, Bool.or_false]
  exact wpAny_bind (wpAny_pure (wpAny_bind (wpAny_mono h1 (fun r s2 hr => wpAny_bind (wpAny_holding (wpAny_point (wpAny_pure hr)))) fun _ _ x => x)))
end
section
variable {X : Cx} {e : Expr} {ta : TA} {p pos tpos : Pos} {elts : List Expr} {kk : Nat}
/-- what an enumerate of the value v asks: S tells which sequences it may walk -/
def iEnumC (c : Int) (Sq : Addr → Hp → List V → Prop) (ta : TA) : TI := fun σ H R => ta σ H fun vs H1 => ∃ a xs, vs = [.ref a] ∧ Sq a H1 xs ∧ R (ItC c (Sq a)) H1
theorem enumC_run {Sq : Hp → List V → Prop} {Is : Heap → Array Value → Prop} {At : Heap → Addr → Nat → Prop} {c : Int} {a : Addr} {pins : List (Addr × Obj)} {σ : L2.St} {H : Hp} {s : Shared} {R : It → Hp → Prop} {o : Obj} {h' : Heap} (S : SeqK X.prog X.w X.K a Sq Is At)
    (I : Inv X pins σ H s) {items : Array Value} (his : Is s.heap items) (hAt : ∀ h, h.get? s.heap.objs.size = some o → At h s.heap.objs.size 0) (he : IsEnum h' (s.heap.objs.size + 1) s.heap.objs.size c .none) (ho : h'.get? s.heap.objs.size = some o)
    (hk : ∀ b o, s.heap.get? b = some o → h'.get? b = some o) (q : R (ItC c Sq) H) :
    wpAny (model X.prog X.w) X.A (pyIter (.ref (s.heap.objs.size + 1))) (PIE X pins σ (.Tuple elts kk tpos) R) X.xe { s with heap := h' } := by
  refine wpAny_pyIter_enum he ?_
  have hla := S.lt _ _ his
  refine ⟨s.heap.objs.size + 1, [s.heap.objs.size + 1, s.heap.objs.size], _, _, H, rfl, Inv.kept I (t' := s.toks) hk, turnC c a (s.heap.objs.size + 1) s.heap.objs.size S, ⟨⟨.none, ?_⟩, hAt _ ho, Nat.succ_ne_self _, Nat.ne_of_lt hla, Nat.ne_of_gt (Nat.lt_succ_of_lt hla)⟩, fun b hb => ?_, q⟩
  · rw [show c + ((0 : Nat) : Int) = c by omega]
    exact he
  · have hle : s.heap.objs.size ≤ b := by
      rcases List.mem_cons.mp hb with z | z
      · rw [z]; exact Nat.le_succ _
      · rw [List.mem_singleton.mp z]; exact Nat.le_refl _
    exact Inv.fpOk I hle (I.hok.fresh hle)
/-- enumerate(list, start=c) -/
theorem pi_enumL {c : Int} {j : Nat} {kp cp : Pos} (hg : Gl X "enumerate") (hm : X.mg "enumerate" = none) (ha : PA X [e] ta) (hc0 : -(2 ^ 63) ≤ c := by decide) (hc1 : c < 2 ^ 63 := by decide)
    (hs : starEach [e] X.env = [(false, eval e X.env)] := by rfl) :
    PI X (.Tuple elts kk tpos) (.Call (.Name "enumerate" p) [e] [⟨some "start", .Constant (.int c) j cp, kp⟩] pos) (iEnumC c (fun a H xs => SqL X.K H a xs) ta) := by
  refine ⟨fun pins s σ H R I h => ?_⟩
  refine wpAny_Call_Name_kw (ld_blt I hg hm boot_enumerate ?_)
  refine callWith_tyK (thn (ha.run pos pins s σ H _ I h) fun us s1 ⟨vs, H1, I1, r1, q1⟩ => ?_) (by rw [hs]; rfl) (by rw [hs]; rfl) rfl rfl
  refine thn ((pk_cons (nm := some "start") (kpos := kp) (pe_int (i := c) (j := j) (pos := cp)) pk_nil).run pos pins s1 σ H1 (fun zs H2 => zs = [.int c] ∧ H2 = H1) I1 ⟨rfl, rfl⟩) fun ws s2 ⟨zs, H2, I2, r2, ez, eH⟩ => ?_
  subst ez eH
  obtain ⟨a, xs, ex, hq, q⟩ := q1
  subst ex
  cases r1 with
  | cons r rr =>
    cases rr
    cases r
    cases r2 with
    | cons r3 rr2 =>
      cases rr2
      obtain ⟨tk, rfl⟩ := r3
      obtain ⟨its, rv, his⟩ := (seqK_list (P := X.prog) (w := X.w) (K := X.K) a).read X rfl rfl rfl pins σ H2 s2 I2 xs hq
      refine enum_begins_start (begins_list a its.toArray) his hc0 hc1 fun h' he ho hsz hk => ?_
      exact enumC_run (seqK_list a) I2 his (fun h e => ⟨_, e, rfl, rfl⟩) he ho hk q
/-- enumerate(tuple, start=c) -/
theorem pi_enumT {c : Int} {j : Nat} {kp cp : Pos} (hg : Gl X "enumerate") (hm : X.mg "enumerate" = none) (ha : PA X [e] ta) (hc0 : -(2 ^ 63) ≤ c := by decide) (hc1 : c < 2 ^ 63 := by decide)
    (hs : starEach [e] X.env = [(false, eval e X.env)] := by rfl) :
    PI X (.Tuple elts kk tpos) (.Call (.Name "enumerate" p) [e] [⟨some "start", .Constant (.int c) j cp, kp⟩] pos) (iEnumC c (fun a H xs => SqT X.K H a xs) ta) := by
  refine ⟨fun pins s σ H R I h => ?_⟩
  refine wpAny_Call_Name_kw (ld_blt I hg hm boot_enumerate ?_)
  refine callWith_tyK (thn (ha.run pos pins s σ H _ I h) fun us s1 ⟨vs, H1, I1, r1, q1⟩ => ?_) (by rw [hs]; rfl) (by rw [hs]; rfl) rfl rfl
  refine thn ((pk_cons (nm := some "start") (kpos := kp) (pe_int (i := c) (j := j) (pos := cp)) pk_nil).run pos pins s1 σ H1 (fun zs H2 => zs = [.int c] ∧ H2 = H1) I1 ⟨rfl, rfl⟩) fun ws s2 ⟨zs, H2, I2, r2, ez, eH⟩ => ?_
  subst ez eH
  obtain ⟨a, xs, ex, hq, q⟩ := q1
  subst ex
  cases r1 with
  | cons r rr =>
    cases rr
    cases r
    cases r2 with
    | cons r3 rr2 =>
      cases rr2
      obtain ⟨tk, rfl⟩ := r3
      obtain ⟨its, rv, his⟩ := (seqK_tup (P := X.prog) (w := X.w) (K := X.K) a).read X rfl rfl rfl pins σ H2 s2 I2 xs hq
      refine enum_begins_start (begins_tuple a its.toArray) his hc0 hc1 fun h' he ho hsz hk => ?_
      exact enumC_run (seqK_tup a) I2 his (fun h e => ⟨_, e, rfl, rfl⟩) he ho hk q
end
/-! ### min and max with a default -/
def rMinD (K : PySem.W.Frag) : List V → List V → Hp → VK → Prop := fun vs zs H Q => ∃ (a : Addr) (ns : List Int) (d : Int), vs = [V.ref a] ∧ zs = [.int d] ∧ SqL K H a (ns.map V.int) ∧ ∀ m, ((ns = [] ∧ m = d) ∨ (m ∈ ns ∧ ∀ y ∈ ns, m ≤ y)) → Q (.int m) H
def rMaxD2 (K : PySem.W.Frag) : List V → List V → Hp → VK → Prop := fun vs zs H Q => ∃ (a : Addr) (ns : List Int) (d : Int), vs = [V.ref a] ∧ zs = [.int d] ∧ SqL K H a (ns.map V.int) ∧ ∀ m, ((ns = [] ∧ m = d) ∨ (m ∈ ns ∧ ∀ y ∈ ns, y ≤ m)) → Q (.int m) H

theorem dpAll_ints {K : PySem.W.Frag} {H : Hp} : ∀ ns : List Int, DpAll K H (ns.map V.int) (ns.map PyData.int)
  | [] => .nil
  | n :: r => .cons (.int _) (dpAll_ints r)
theorem ints_alike (ns : List Int) : AlikeAll (ns.map PyData.int) := by
  refine ⟨fun x hx y hy => ?_, fun x hx z => ?_⟩
  · obtain ⟨i, _, rfl⟩ := List.mem_map.mp hx
    obtain ⟨j, _, rfl⟩ := List.mem_map.mp hy
    rw [alike]
  · obtain ⟨i, _, rfl⟩ := List.mem_map.mp hx
    cases z
theorem ints_depth (ns : List Int) : PyData.depthAll (ns.map PyData.int) = 0 := by
  induction ns with
  | nil => rw [List.map_nil, PyData.depthAll]
  | cons n r ih => rw [List.map_cons, PyData.depthAll, PyData.depth, ih]; rfl
theorem fold_min : ∀ (ns : List Int) (n : Int), ns.foldl min n ∈ n :: ns ∧ ∀ y ∈ n :: ns, ns.foldl min n ≤ y
  | [], n => ⟨List.mem_cons_self, fun y hy => by rw [List.mem_singleton.mp hy]; exact Int.le_refl _⟩
  | k :: r, n => by
    obtain ⟨h1, h2⟩ := fold_min r (min n k)
    rw [List.foldl_cons]
    refine ⟨?_, fun y hy => ?_⟩
    · rcases List.mem_cons.mp h1 with z | z
      · rw [z]
        by_cases c : n ≤ k
        · rw [show min n k = n by omega]; exact List.mem_cons_self
        · rw [show min n k = k by omega]; exact List.mem_cons_of_mem _ List.mem_cons_self
      · exact List.mem_cons_of_mem _ (List.mem_cons_of_mem _ z)
    · have h3 := h2 _ List.mem_cons_self
      rcases List.mem_cons.mp hy with z | z
      · omega
      · rcases List.mem_cons.mp z with u | u
        · omega
        · exact h2 y (List.mem_cons_of_mem _ u)
theorem fold_max : ∀ (ns : List Int) (n : Int), ns.foldl max n ∈ n :: ns ∧ ∀ y ∈ n :: ns, y ≤ ns.foldl max n
  | [], n => ⟨List.mem_cons_self, fun y hy => by rw [List.mem_singleton.mp hy]; exact Int.le_refl _⟩
  | k :: r, n => by
    obtain ⟨h1, h2⟩ := fold_max r (max n k)
    rw [List.foldl_cons]
    refine ⟨?_, fun y hy => ?_⟩
    · rcases List.mem_cons.mp h1 with z | z
      · rw [z]
        by_cases c : n ≤ k
        · rw [show max n k = k by omega]; exact List.mem_cons_of_mem _ List.mem_cons_self
        · rw [show max n k = n by omega]; exact List.mem_cons_self
      · exact List.mem_cons_of_mem _ (List.mem_cons_of_mem _ z)
    · have h3 := h2 _ List.mem_cons_self
      rcases List.mem_cons.mp hy with z | z
      · omega
      · rcases List.mem_cons.mp z with u | u
        · omega
        · exact h2 y (List.mem_cons_of_mem _ u)
section
variable {X : Cx}
theorem cr_minD (hc : X.calm = true) (hu : X.A.units + 64 < cLine) : CallRK X (.builtin "min") [Str.ofString "default"] (rMinD X.K) := by
  intro pins s σ H vs zs us ws Q I r1 r2 h
  obtain ⟨a, ns, d, rfl, rfl, hs, qq⟩ := h
  have q0 : ns = [] → Q (.int d) H := fun e => qq d (.inl ⟨e, rfl⟩)
  have q : ∀ m, m ∈ ns → (∀ y ∈ ns, m ≤ y) → Q (.int m) H := fun m h1 h2 => qq m (.inr ⟨h1, h2⟩)
  obtain ⟨its, rv, hl, _⟩ := Inv.list I hs
  rw [Vals.ref1 r1]
  cases r2 with
  | cons r3 rr =>
    cases rr
    obtain ⟨tk, rfl⟩ := r3
    obtain ⟨as, hr⟩ := Dp.readsAll I (ns.map PyData.int) (ns.map V.int) its (dpAll_ints ns) rv
    refine min_list_default (I.ok.hd hc) hl.isList (xs := ns.map PyData.int) (as := as) (by simpa using hr) (ints_alike ns) (by rw [ints_depth]; omega) (fun e h' tk' hk => ?_) (fun y ys i v h' tk' bs e hv hR hk => ?_)
    · exact ⟨.int d, H, I.kept hk, ⟨_, rfl⟩, q0 (List.map_eq_nil_iff.mp e)⟩
    · cases ns with
      | nil => cases e
      | cons n r =>
        obtain ⟨e1, e2⟩ := List.cons.inj e
        rw [← e1, ← e2, minD_ints] at hR
        cases hR with
        | int i t => exact ⟨.int _, H, I.kept hk, ⟨_, rfl⟩, q _ (fold_min r n).1 (fold_min r n).2⟩
theorem cr_maxD (hc : X.calm = true) (hu : X.A.units + 64 < cLine) : CallRK X (.builtin "max") [Str.ofString "default"] (rMaxD2 X.K) := by
  intro pins s σ H vs zs us ws Q I r1 r2 h
  obtain ⟨a, ns, d, rfl, rfl, hs, qq⟩ := h
  have q0 : ns = [] → Q (.int d) H := fun e => qq d (.inl ⟨e, rfl⟩)
  have q : ∀ m, m ∈ ns → (∀ y ∈ ns, y ≤ m) → Q (.int m) H := fun m h1 h2 => qq m (.inr ⟨h1, h2⟩)
  obtain ⟨its, rv, hl, _⟩ := Inv.list I hs
  rw [Vals.ref1 r1]
  cases r2 with
  | cons r3 rr =>
    cases rr
    obtain ⟨tk, rfl⟩ := r3
    obtain ⟨as, hr⟩ := Dp.readsAll I (ns.map PyData.int) (ns.map V.int) its (dpAll_ints ns) rv
    refine max_list_default (I.ok.hd hc) hl.isList (xs := ns.map PyData.int) (as := as) (by simpa using hr) (ints_alike ns) (by rw [ints_depth]; omega) (fun e h' tk' hk => ?_) (fun y ys i v h' tk' bs e hv hR hk => ?_)
    · exact ⟨.int d, H, I.kept hk, ⟨_, rfl⟩, q0 (List.map_eq_nil_iff.mp e)⟩
    · cases ns with
      | nil => cases e
      | cons n r =>
        obtain ⟨e1, e2⟩ := List.cons.inj e
        rw [← e1, ← e2, maxD_ints] at hR
        cases hR with
        | int i t => exact ⟨.int _, H, I.kept hk, ⟨_, rfl⟩, q _ (fold_max r n).1 (fold_max r n).2⟩
/-- a op1 b op2 c op3 d, as a test -/
def tChain3 (r1 r2 r3 : R2) (ta tb tc td : TE) : TE := fun σ H Q => ta σ H fun x H1 => tb σ H1 fun y H2 => r1 x y H2 fun z H3 => ∃ k, z = .bl k ∧
  (if k = true then tc σ H3 fun v H4 => r2 y v H4 fun z2 H5 => ∃ k2, z2 = .bl k2 ∧ (if k2 = true then td σ H5 fun u H6 => r3 v u H6 Q else Q (.bl false) H5) else Q (.bl false) H3)
theorem pt_chain3 {a b c d : Expr} {pos : Pos} {ta tb tc td : TE} {o1 o2 o3 : CmpOp} {r1 r2 r3 : R2} (h1 : OpR X (compareOp o1) r1) (h2 : OpR X (compareOp o2) r2) (h3 : OpR X (compareOp o3) r3) (ha : PE X a ta) (hb : PE X b tb) (hc : PE X c tc) (hd : PE X d td)
    (hm : lastMarks [o1, o2, o3] [b, c, d] = false := by with_unfolding_all rfl) : PT X (.Compare a [o1, o2, o3] [b, c, d] pos) (tTest (tChain3 r1 r2 r3 ta tb tc td)) := by
  refine ⟨fun pins s σ H Q I h => ?_⟩
  refine isTrue_chain (thn (ha.run pins s σ H _ I h) fun v1 s1 ⟨x1, H1, I1, e1, q1⟩ => test_link (thn (hb.run pins s1 σ H1 _ I1 q1) fun v2 s2 ⟨x2, H2, I2, e2, q2⟩ =>
    thn (h1 pins s2 σ H2 x1 x2 v1 v2 _ I2 e1 e2 q2) fun v3 s3 ⟨x3, H3, I3, e3, k, ek, q3⟩ => ?_)) hm
  subst ek
  cases e3
  refine wpAny_truthy_bool ?_
  cases k with
  | false =>
    obtain ⟨k', e', q'⟩ := q3
    cases e'
    exact ite_ff ⟨H3, I3, q'⟩
  | true =>
    refine ite_tt (test_link (thn (hc.run pins s3 σ H3 _ I3 q3) fun v4 s4 ⟨x4, H4, I4, e4, q4⟩ => thn (h2 pins s4 σ H4 x2 x4 v2 v4 _ I4 e2 e4 q4) fun v5 s5 ⟨x5, H5, I5, e5, k2, ek2, q5⟩ => ?_))
    subst ek2
    cases e5
    refine wpAny_truthy_bool ?_
    cases k2 with
    | false =>
      obtain ⟨k', e', q'⟩ := q5
      cases e'
      exact ite_ff ⟨H5, I5, q'⟩
    | true =>
      refine ite_tt (test_last (thn (hd.run pins s5 σ H5 _ I5 q5) fun v6 s6 ⟨x6, H6, I6, e6, q6⟩ => thn (h3 pins s6 σ H6 x4 x6 v4 v6 _ I6 e4 e6 q6) fun v7 s7 ⟨x7, H7, I7, e7, k3, ek3, q7⟩ => ?_))
      subst ek3
      cases e7
      exact wpAny_truthy_bool ⟨H7, I7, q7⟩
end
end Td
set_option maxRecDepth 100000
set_option maxHeartbeats 4000000
/-! Sets of tuples of any size that comes here: the table's walk meets every slot for every mask 2^j - 1. -/
namespace Ts
open PySem PySem.Spec PyProof.Rows L2
/-! ### i -> 5 i + 1 goes round all of 2^j -/
def geo : Nat → Nat
  | 0 => 0
  | k + 1 => 5 * geo k + 1
theorem geo_pow (k : Nat) : 4 * geo k + 1 = 5 ^ k := by
  induction k with
  | zero => rfl
  | succ k ih =>
    rw [Nat.pow_succ, ← ih]
    show 4 * (5 * geo k + 1) + 1 = _
    omega
theorem geo_double (e : Nat) : geo (2 * e) = geo e * (5 ^ e + 1) := by
  have h1 := geo_pow (2 * e)
  have h2 := geo_pow e
  have h3 : 5 ^ (2 * e) = 5 ^ e * 5 ^ e := by rw [Nat.two_mul, Nat.pow_add]
  have h4 : 4 * geo (2 * e) = 4 * (geo e * (5 ^ e + 1)) := by
    rw [h3, ← h2] at h1
    have e1 : (4 * geo e + 1) * (4 * geo e + 1) = 4 * (geo e * (4 * geo e + 1 + 1)) + 1 := by
      simp only [Nat.mul_add, Nat.add_mul, Nat.mul_one, Nat.one_mul]
      have e2 : 4 * geo e * (4 * geo e) = 4 * (geo e * (4 * geo e)) := Nat.mul_assoc ..
      omega
    rw [e1] at h1
    rw [← h2]
    omega
  omega
theorem geo_mod (k : Nat) : geo k % 2 = k % 2 := by
  induction k with
  | zero => rfl
  | succ k ih =>
    show (5 * geo k + 1) % 2 = (k + 1) % 2
    omega
theorem five_odd (e : Nat) : (5 ^ e) % 4 = 1 := by
  induction e with
  | zero => rfl
  | succ e ih => rw [Nat.pow_succ]; omega
theorem geo_dvd : ∀ (j d : Nat), 2 ^ j ∣ geo d → 2 ^ j ∣ d
  | 0, d, _ => by rw [Nat.pow_zero]; exact Nat.one_dvd d
  | j + 1, d, h => by
    have hev : 2 ∣ geo d := Nat.dvd_trans ⟨2 ^ j, by rw [Nat.pow_succ, Nat.mul_comm]⟩ h
    have h2 : d % 2 = 0 := by
      have := geo_mod d
      have := Nat.mod_eq_zero_of_dvd hev
      omega
    obtain ⟨e, rfl⟩ : ∃ e, d = 2 * e := ⟨d / 2, by omega⟩
    rw [geo_double] at h
    obtain ⟨u, hu⟩ : ∃ u, 5 ^ e + 1 = 2 * (2 * u + 1) := by
      have h5 := five_odd e
      generalize 5 ^ e = z at h5
      exact ⟨(z - 1) / 4, by omega⟩
    rw [hu, ← Nat.mul_assoc, Nat.mul_comm (geo e) 2, Nat.mul_assoc, Nat.pow_succ, Nat.mul_comm (2 ^ j) 2] at h
    have h3 : 2 ^ j ∣ geo e * (2 * u + 1) := Nat.dvd_of_mul_dvd_mul_left (by decide) h
    have hco : Nat.Coprime (2 ^ j) (2 * u + 1) := by
      refine Nat.Coprime.pow_left j ?_
      show Nat.gcd 2 (2 * u + 1) = 1
      rw [Nat.gcd_rec, show (2 * u + 1) % 2 = 1 by omega]
      decide
    have h4 : 2 ^ j ∣ geo e := hco.dvd_of_dvd_mul_right h3
    rw [Nat.pow_succ, Nat.mul_comm (2 ^ j) 2]
    exact Nat.mul_dvd_mul_left 2 (geo_dvd j e h4)
theorem lcg_form (m i : Nat) (hi : i ≤ m) : ∀ k, lcgI m i k = (5 ^ k * i + geo k) % (m + 1)
  | 0 => by
    show i = (5 ^ 0 * i + 0) % (m + 1)
    rw [Nat.pow_zero, Nat.one_mul, Nat.add_zero, Nat.mod_eq_of_lt (by omega)]
  | k + 1 => by
    show (lcgI m i k * 5 + 1) % (m + 1) = (5 ^ (k + 1) * i + (5 * geo k + 1)) % (m + 1)
    rw [lcg_form m i hi k, Nat.add_mod, Nat.mod_mul_mod, ← Nat.add_mod, Nat.pow_succ]
    congr 1
    rw [Nat.add_mul, Nat.mul_right_comm]
    omega
theorem lcg_le (m i : Nat) (hi : i ≤ m) : ∀ k, lcgI m i k ≤ m
  | 0 => hi
  | k + 1 => Nat.le_of_lt_succ (Nat.mod_lt _ (Nat.succ_pos _))
theorem lcg_more (m i : Nat) : ∀ a d, lcgI m i (a + d) = lcgI m (lcgI m i a) d
  | a, 0 => rfl
  | a, d + 1 => by
    show (lcgI m i (a + d) * 5 + 1) % (m + 1) = (lcgI m (lcgI m i a) d * 5 + 1) % (m + 1)
    rw [lcg_more m i a d]
theorem lcg_inj {m j i a b : Nat} (hm : m + 1 = 2 ^ j) (hi : i ≤ m) (hab : a < b) (hb : b ≤ m) : lcgI m i a ≠ lcgI m i b := by
  intro e
  obtain ⟨d, rfl⟩ : ∃ d, b = a + d := ⟨b - a, by omega⟩
  rw [lcg_more] at e
  have hx := lcg_le m i hi a
  generalize lcgI m i a = x at e hx
  rw [lcg_form m x hx d, ← geo_pow d] at e
  have e2 : (4 * geo d + 1) * x + geo d = geo d * (4 * x + 1) + x := by
    simp only [Nat.add_mul, Nat.mul_add, Nat.one_mul, Nat.mul_one]
    have : 4 * geo d * x = geo d * (4 * x) := by rw [Nat.mul_comm 4 (geo d), Nat.mul_assoc]
    omega
  rw [e2] at e
  have e3 : (geo d * (4 * x + 1)) % (m + 1) = 0 := by
    have h1 : x % (m + 1) = (geo d * (4 * x + 1) + x) % (m + 1) := by rw [Nat.mod_eq_of_lt (by omega)]; exact e
    generalize geo d * (4 * x + 1) = y at h1
    have h4 : x % (m + 1) = x := Nat.mod_eq_of_lt (by omega)
    have h5 : (y + x) % (m + 1) = ((y % (m + 1)) + (x % (m + 1))) % (m + 1) := Nat.add_mod ..
    have h6 : y % (m + 1) < m + 1 := Nat.mod_lt _ (by omega)
    rw [h4] at h5 h1
    have h7 := h1.trans h5
    clear h1 h5 h4 e
    generalize y % (m + 1) = r at h6 h7 ⊢
    by_cases c : r + x < m + 1
    · rw [Nat.mod_eq_of_lt c] at h7; omega
    · have h8 : (r + x) % (m + 1) = (r + x - (m + 1)) % (m + 1) := Nat.mod_eq_sub_mod (by omega)
      rw [h8, Nat.mod_eq_of_lt (by omega)] at h7
      omega
  have h4 : 2 ^ j ∣ geo d * (4 * x + 1) := by rw [← hm]; exact Nat.dvd_of_mod_eq_zero e3
  have hco : Nat.Coprime (2 ^ j) (4 * x + 1) := by
    refine Nat.Coprime.pow_left j ?_
    show Nat.gcd 2 (4 * x + 1) = 1
    rw [Nat.gcd_rec, show (4 * x + 1) % 2 = 1 by omega]
    decide
  have h5 := geo_dvd j d (hco.dvd_of_dvd_mul_right h4)
  rw [← hm] at h5
  have := Nat.le_of_dvd (by omega) h5
  omega
/-- from anywhere every slot is met within a round -/
theorem lcg_round {m j i t : Nat} (hm : m + 1 = 2 ^ j) (hi : i ≤ m) (ht : t ≤ m) : ∃ k, k ≤ m ∧ lcgI m i k = t := by
  rcases Classical.em (∃ k, k ≤ m ∧ lcgI m i k = t) with c | c
  · exact c
  · exfalso
    have nd : ((List.range (m + 1)).map (lcgI m i)).Nodup := by
      refine List.pairwise_map.mpr ((List.pairwise_lt_range (n := m + 1)).imp_of_mem fun {a b} ha hb hab => ?_)
      exact lcg_inj hm hi hab (Nat.le_of_lt_succ (List.mem_range.mp hb))
    have sub : ∀ x ∈ t :: (List.range (m + 1)).map (lcgI m i), x ∈ List.range (m + 1) := by
      intro x hx
      rcases List.mem_cons.mp hx with z | z
      · rw [z]; exact List.mem_range.mpr (by omega)
      · obtain ⟨k, _, e⟩ := List.mem_map.mp z
        rw [← e]
        exact List.mem_range.mpr (Nat.lt_succ_of_le (lcg_le m i hi k))
    have nd2 : (t :: (List.range (m + 1)).map (lcgI m i)).Nodup := by
      refine List.nodup_cons.mpr ⟨fun z => ?_, nd⟩
      obtain ⟨k, hk, e⟩ := List.mem_map.mp z
      exact c ⟨k, Nat.le_of_lt_succ (List.mem_range.mp hk), e⟩
    have := nat_nodup_len _ _ nd2 sub
    rw [List.length_cons, List.length_map, List.length_range] at this
    omega
end Ts
set_option maxRecDepth 100000
set_option maxHeartbeats 4000000
namespace Ts
open PySem PySem.Spec PyProof.Rows L2
/-- the masks that come here: a set of fewer than 4915 -/
def MaskP (m : Nat) : Prop := m = 7 ∨ m = 31 ∨ m = 127 ∨ m = 511 ∨ m = 2047 ∨ m = 8191
theorem MaskP.two {m : Nat} (h : MaskP m) : ∃ j, m + 1 = 2 ^ j := by
  rcases h with h | h | h | h | h | h <;> subst h
  · exact ⟨3, rfl⟩
  · exact ⟨5, rfl⟩
  · exact ⟨7, rfl⟩
  · exact ⟨9, rfl⟩
  · exact ⟨11, rfl⟩
  · exact ⟨13, rfl⟩
theorem MaskP.odd {m : Nat} (h : MaskP m) : m % 2 = 1 := by
  rcases h with h | h | h | h | h | h <;> subst h <;> rfl
theorem run_here {m : Nat} (hm : MaskP m) (h : Int) {j : Nat} (hj : j ≤ m) : ∃ n, n ≤ m + 12 ∧ runI m (SetTable.bits h) n = j := by
  obtain ⟨e, he⟩ := hm.two
  obtain ⟨k, hk, ek⟩ := lcg_round he (runI_le m (SetTable.bits h) 12) hj
  refine ⟨12 + k, by omega, ?_⟩
  rw [runI_tail (bits_lt h)]
  exact ek
theorem way_in (m : Nat) (h : Int) (k : Nat) : way m h k ≤ m := by
  have hs : SetTable.bits h % (m + 1) ≤ m := Nat.le_of_lt_succ (Nat.mod_lt _ (Nat.succ_pos _))
  have b := runEnd_bd hs
  have q := nth_in (m := m) k (runAt m (SetTable.bits h % (m + 1)) (SetTable.bits h)) (Nat.add_sub_cancel' b.2.1 ▸ b.1)
  exact Nat.le_trans (Nat.le_add_right _ _) q
theorem way_here {m : Nat} (hm : MaskP m) (h : Int) {j : Nat} (hj : j ≤ m) : ∃ k, k < 10 * SetTable.turns m ∧ way m h k = j := by
  obtain ⟨n, hn, en⟩ := run_here hm h hj
  obtain ⟨k, hk, ek⟩ := run_nth m (SetTable.bits h) n
  refine ⟨k, ?_, ?_⟩
  · show k < 10 * (m + 15)
    omega
  · show (nth m (runAt m (SetTable.bits h % (m + 1)) (SetTable.bits h)) k).j = j
    rw [ek]
    exact en
/-- a table from whose hashes every entry is found again -/
structure TabP (t : SetTable) (hs : List Int) : Prop where
  rise : Ris t.place.toList
  clean : t.dummies = #[]
  full : t.place.size = hs.length
  mask : MaskP t.mask
  inside : ∀ x ∈ t.place.toList, x ≤ t.mask
  found : ∀ (i : Nat) (h : Int) (j : Nat), hs[i]? = some h → t.place.toList[i]? = some j → ∃ k, way t.mask h k = j ∧ ∀ c, c < k → way t.mask h c ∈ t.place.toList
theorem TabP.gap {t : SetTable} {hs : List Int} (T : TabP t hs) (hl : hs.length ≤ t.mask) (h : Int) : ∃ K, K < 10 * SetTable.turns t.mask ∧ way t.mask h K ∉ t.place.toList ∧ ∀ c, c < K → way t.mask h c ∈ t.place.toList := by
  have hn : t.place.toList.length < t.mask + 1 := by
    have := T.full
    rw [Array.length_toList]
    omega
  obtain ⟨j, hj, hout⟩ := st_missing _ _ hn
  obtain ⟨k, hk, ek⟩ := way_here T.mask h (Nat.le_of_lt_succ hj)
  have hp : way t.mask h k ∉ t.place.toList := by
    intro z
    have z2 : way t.mask h k = j := ek
    rw [z2] at z
    exact hout z
  obtain ⟨K, h1, h2, h3⟩ := st_least (p := fun c => way t.mask h c ∉ t.place.toList) k hp
  exact ⟨K, Nat.lt_of_le_of_lt h1 hk, h2, fun c hc => Classical.byContradiction (h3 c hc)⟩
theorem TabP.ahead {t : SetTable} {hs : List Int} (T : TabP t hs) {h : Int} {K i j : Nat} (hK : way t.mask h K ∉ t.place.toList) (hi : hs[i]? = some h) (hj : t.place.toList[i]? = some j) : ∃ c, c < K ∧ way t.mask h c = j := by
  obtain ⟨k, e, hb⟩ := T.found i h j hi hj
  by_cases c : k < K
  · exact ⟨k, c, e⟩
  · by_cases d : k = K
    · subst d
      refine absurd (List.mem_of_getElem? hj) ?_
      rw [← e]
      exact hK
    · exact absurd (hb K (by omega)) hK
/-- one more, at the first empty slot of its way -/
theorem TabP.add {t : SetTable} {hs : List Int} (T : TabP t hs) {h : Int} {K : Nat} (hK : way t.mask h K ∉ t.place.toList) (hb : ∀ c, c < K → way t.mask h c ∈ t.place.toList) :
    SetTable.below t.place (way t.mask h K) ≤ hs.length ∧ TabP (t.put (way t.mask h K)).1 (hs.take (SetTable.below t.place (way t.mask h K)) ++ h :: hs.drop (SetTable.below t.place (way t.mask h K))) ∧ (t.put (way t.mask h K)).1.fill = hs.length + 1 := by
  have hin := way_in t.mask h K
  generalize hj : way t.mask h K = j at hK hin
  have hlow := (below_cut T.rise j).1
  have hph : SetTable.below t.place j ≤ hs.length := by rw [← T.full]; exact hlow
  have hpl : SetTable.below t.place j ≤ t.place.toList.length := by rw [Array.length_toList]; exact hlow
  have hnew : t.place[SetTable.below t.place j]? ≠ some j := fun z => hK (List.mem_of_getElem? (by rw [Array.getElem?_toList]; exact z))
  have hpp := put_place t j
  have hold : ∀ {x : Nat}, x ∈ t.place.toList → x ∈ (t.put j).1.place.toList := fun {x} hx => by rw [hpp]; exact mem_ins.2 (.inr hx)
  have hsz : (t.put j).1.place.size = hs.length + 1 := by
    rw [← Array.length_toList, hpp, len_ins _ hpl, Array.length_toList, T.full]
  have hfill : (t.put j).1.fill = hs.length + 1 := by
    show (t.put j).1.place.size + (t.put j).1.dummies.size = hs.length + 1
    rw [hsz, put_dm T.clean j]
    rfl
  refine ⟨hph, ⟨ris_insert T.rise hnew, put_dm T.clean j, by rw [hsz, len_ins _ hph], T.mask, fun x hx => ?_, fun i g y h1 h2 => ?_⟩, hfill⟩
  · rw [hpp] at hx
    rcases mem_ins.1 hx with z | z
    · rw [z]; exact hin
    · exact T.inside x z
  · rw [tins_get hs hph] at h1
    rw [hpp, tins_get _ hpl] at h2
    have lift : ∀ i', hs[i']? = some g → t.place.toList[i']? = some y → ∃ k, way t.mask g k = y ∧ ∀ c, c < k → way t.mask g c ∈ (t.put j).1.place.toList := fun i' a1 a2 => by
      obtain ⟨k, e, z⟩ := T.found i' g y a1 a2
      exact ⟨k, e, fun c hc => hold (z c hc)⟩
    by_cases c1 : i < SetTable.below t.place j
    · rw [if_pos c1] at h1 h2
      exact lift i h1 h2
    · rw [if_neg c1] at h1 h2
      by_cases c2 : i = SetTable.below t.place j
      · rw [if_pos c2] at h1 h2
        have a1 := Option.some.inj h1
        have a2 := Option.some.inj h2
        subst a1 a2
        exact ⟨K, hj, fun c hc => hold (hb c hc)⟩
      · rw [if_neg c2] at h1 h2
        exact lift (i - 1) h1 h2
/-! ### the table laid anew -/
theorem free_here {m : Nat} (hm : MaskP m) (owner : Array (Option Nat)) (h : Int) {j : Nat} (hj : j ≤ m) (hf : oAt owner j = none) :
    ∃ K, SetTable.layClean.free m owner (SetTable.turns m) (SetTable.bits h % (m + 1)) (SetTable.bits h) = some (way m h K) ∧ oAt owner (way m h K) = none ∧ ∀ c, c < K → oAt owner (way m h c) ≠ none := by
  obtain ⟨n, hn, en⟩ := run_here hm h hj
  have hw : way m h (off m (SetTable.bits h % (m + 1)) (SetTable.bits h) n) = j := by
    unfold way
    rw [nth_off, itL_run]
    exact en
  obtain ⟨K, k1, k2, k3⟩ := st_least (p := fun c => oAt owner (way m h c) = none) (off m (SetTable.bits h % (m + 1)) (SetTable.bits h) n) (by
    show oAt owner (way m h _) = none
    unfold way at hw ⊢
    rw [hw]
    exact hf)
  refine ⟨K, free_spec m owner (SetTable.turns m) n _ _ K (by show n < m + 15; omega) k1 (fun c hc => ?_) ?_, k2, k3⟩
  · have q : oAt owner (way m h c) ≠ none := k3 c hc
    unfold way at q
    cases z : oAt owner (nth m (runAt m (SetTable.bits h % (m + 1)) (SetTable.bits h)) c).j with
    | none => exact absurd z q
    | some _ => rfl
  · have q : oAt owner (way m h K) = none := k2
    unfold way at q
    rw [q]
    rfl
theorem own_more {m : Nat} (hm : MaskP m) {done : List Int} {owner : Array (Option Nat)} (W : Own m done owner) (hl : done.length ≤ m) (h : Int) :
    ∃ j, SetTable.layClean.free m owner (SetTable.turns m) (SetTable.bits h % (m + 1)) (SetTable.bits h) = some j ∧ Own m (done ++ [h]) (owner.setIfInBounds j (some done.length)) := by
  obtain ⟨ps, hps, hall⟩ := W.ps
  obtain ⟨j0, hj0, hn0⟩ := st_missing ps (m + 1) (by omega)
  have hfree : oAt owner j0 = none := Classical.byContradiction fun z => hn0 (hall j0 (Nat.le_of_lt_succ hj0) z)
  obtain ⟨K, e1, e2, e3⟩ := free_here hm owner h (Nat.le_of_lt_succ hj0) hfree
  have hin := way_in m h K
  generalize hj : way m h K = j at e1 e2 hin
  have hlt : j < owner.size := by rw [W.sz]; omega
  have here := oAt_set_self (some done.length) hlt
  have else_ : ∀ {i : Nat}, i ≠ j → oAt (owner.setIfInBounds j (some done.length)) i = oAt owner i := fun {i} hi => oAt_set_ne _ hi
  have grow : ∀ {i : Nat}, oAt owner i ≠ none → oAt (owner.setIfInBounds j (some done.length)) i ≠ none := fun {i} hi => by
    by_cases c : i = j
    · rw [c, here]
      exact fun z => nomatch z
    · rw [else_ c]
      exact hi
  refine ⟨j, e1, ⟨by rw [Array.size_setIfInBounds]; exact W.sz, fun i k hi e => ?_, fun k hk => ?_, ⟨j :: ps, by rw [List.length_cons, List.length_append, hps]; rfl, fun i hi e => ?_⟩⟩⟩
  · by_cases c : i = j
    · rw [c, here] at e
      have ek := Option.some.inj e
      refine ⟨h, K, ?_, hj.trans c.symm, fun c' hc' => grow (e3 c' hc')⟩
      rw [← ek, List.getElem?_append_right (Nat.le_refl _), Nat.sub_self]
      rfl
    · rw [else_ c] at e
      obtain ⟨g, K', a1, a2, a3⟩ := W.at_ i k hi e
      refine ⟨g, K', ?_, a2, fun c' hc' => grow (a3 c' hc')⟩
      rw [List.getElem?_append_left (List.getElem?_eq_some_iff.mp a1).1]
      exact a1
  · rw [List.length_append, List.length_singleton] at hk
    by_cases c : k < done.length
    · obtain ⟨i, hi, e⟩ := W.all k c
      have hne : i ≠ j := fun z => by rw [z, e2] at e; cases e
      exact ⟨i, hi, (else_ hne).trans e⟩
    · have ek : k = done.length := by omega
      subst ek
      exact ⟨j, hin, here⟩
  · by_cases c : i = j
    · rw [c]; exact List.mem_cons_self
    · rw [else_ c] at e
      exact List.mem_cons_of_mem _ (hall i hi e)
theorem own_all {m : Nat} (hm : MaskP m) : ∀ (rest done : List Int) (owner : Array (Option Nat)), Own m done owner → done.length + rest.length ≤ m →
    ∃ ow, rest.foldl (stepF m) (some (owner, done.length)) = some (ow, (done ++ rest).length) ∧ Own m (done ++ rest) ow := by
  intro rest
  induction rest with
  | nil =>
    intro done owner W _
    exact ⟨owner, by rw [List.append_nil]; rfl, by rw [List.append_nil]; exact W⟩
  | cons h rest ih =>
    intro done owner W hl
    rw [List.length_cons] at hl
    obtain ⟨j, e, W1⟩ := own_more hm W (by omega) h
    obtain ⟨ow, f, W2⟩ := ih (done ++ [h]) _ W1 (by rw [List.length_append, List.length_singleton]; omega)
    have ea : done ++ [h] ++ rest = done ++ h :: rest := by rw [List.append_assoc]; rfl
    rw [ea] at f W2
    refine ⟨ow, ?_, W2⟩
    rw [List.foldl_cons, stepF_some e]
    rw [List.length_append, List.length_singleton] at f
    exact f
theorem laid_anew (t : SetTable) {hs : Array Int} {wanted M : Nat} (hw : SetTable.sizeAbove wanted - 1 = M) (hM : MaskP M) (hn : hs.size ≤ M) :
    ∃ t' order, t.relaid hs wanted = some (t', order) ∧ order.toList.Perm (List.range hs.size) ∧ TabP t' (order.toList.map fun i => hs.getD i 0) ∧ t'.mask = M ∧ t'.led = t.led ∧ t'.plain = t.plain := by
  obtain ⟨owner, f, W⟩ := own_all hM hs.toList [] _ (Own.init M) (by show 0 + hs.size ≤ M; omega)
  rw [List.nil_append] at f W
  have hlay : SetTable.layClean M hs = some owner := by
    rw [layClean_eq]
    have f2 : hs.toList.foldl (stepF M) (some (Array.replicate (M + 1) none, 0)) = some (owner, hs.toList.length) := f
    rw [f2]
    rfl
  have hrel : t.relaid hs wanted = some (tabOf t M owner, ((liveOf M owner).map fun x => x.2).toArray) := by
    rw [relaid_eq, hw, hlay]
    rfl
  have rise := ris_live (fun j => owner.getD j none) (List.range (M + 1)) (by
    unfold Ris
    exact List.pairwise_lt_range)
  have r1 : Ris ((liveOf M owner).map (·.1)) := rise.1
  have r2 : ∀ x ∈ (liveOf M owner).map (·.1), x ∈ List.range (M + 1) := rise.2
  have mem := fun {j k : Nat} => mem_live (m := M) (owner := owner) W.sz (j := j) (k := k)
  have hall : ∀ k, k < hs.size → k ∈ (liveOf M owner).map fun x => x.2 := fun k hk => by
    obtain ⟨j, b1, b2⟩ := W.all k (by rw [Array.length_toList]; exact hk)
    exact List.mem_map.mpr ⟨(j, k), mem.2 ⟨b1, b2⟩, rfl⟩
  have hlen : (liveOf M owner).length = hs.size := by
    obtain ⟨ps, p1, p2⟩ := W.ps
    have nd : ((liveOf M owner).map (·.1)).Nodup := r1.imp fun h => Nat.ne_of_lt h
    have a := nat_nodup_len _ ps nd fun x hx => by
      obtain ⟨⟨y, k⟩, hq, e⟩ := List.mem_map.mp hx
      have ey : y = x := e
      subst ey
      obtain ⟨b1, b2⟩ := mem.1 hq
      exact p2 y b1 fun z => by rw [b2] at z; cases z
    have b := nat_nodup_len (List.range hs.size) _ List.nodup_range fun k hk => hall k (List.mem_range.mp hk)
    rw [List.length_map, p1] at a
    have hz : hs.toList.length = hs.size := rfl
    rw [List.length_map, List.length_range] at b
    omega
  refine ⟨_, _, hrel, perm_range hs.size _ (by rw [List.length_map]; exact hlen) hall, ⟨r1, rfl, ?_, hM, fun x hx => Nat.le_of_lt_succ (List.mem_range.mp (r2 x hx)), fun i h j h1 h2 => ?_⟩, rfl, rfl, rfl⟩
  · show ((liveOf M owner).map (·.1)).toArray.size = (((liveOf M owner).map fun x => x.2).map fun i => hs.getD i 0).length
    rw [List.size_toArray, List.length_map, List.length_map, List.length_map]
  · have g1 : (((liveOf M owner).map fun x => x.2).map fun i => hs.getD i 0)[i]? = some h := h1
    have g2 : ((liveOf M owner).map (·.1))[i]? = some j := h2
    rw [List.getElem?_map] at g2
    rw [List.getElem?_map, List.getElem?_map] at g1
    cases hq : (liveOf M owner)[i]? with
    | none => rw [hq] at g2; cases g2
    | some q =>
      obtain ⟨y, k⟩ := q
      rw [hq] at g1 g2
      have e1 : y = j := Option.some.inj g2
      have e2 : hs.getD k 0 = h := Option.some.inj g1
      subst e1
      obtain ⟨b1, b2⟩ := mem.1 (List.mem_of_getElem? hq)
      obtain ⟨g, K, a1, a2, a3⟩ := W.at_ y k b1 b2
      have e3 : g = h := by
        rw [← e2, Array.getD_eq_getD_getElem?, ← Array.getElem?_toList, a1]
        rfl
      subst e3
      refine ⟨K, a2, fun c hc => ?_⟩
      cases z : oAt owner (way M g c) with
      | none => exact absurd z (a3 c hc)
      | some k2 => exact List.mem_map.mpr ⟨(way M g c, k2), mem.2 ⟨way_in M g c, z⟩, rfl⟩
end Ts
set_option maxRecDepth 100000
set_option maxHeartbeats 4000000
namespace Ts
open PySem PySem.Spec PyProof.Rows L2
section
variable {P : Program} {w : World} {A : Around} {E : Value → Shared → Prop} {s : Shared}
/-- the set at a holds just the tuples of L -/
structure SetP (P : Program) (w : World) (h : Heap) (a : Addr) (L : List (Addr × List Int)) (es : Array (Int × Value)) (ep : Nat) (t : SetTable) : Prop where
  obj : ∃ o, h.get? a = some o ∧ o.ExactSet ∧ o.data = .set es ep t
  rows : es.toList = rowsOf P w L
  tab : TabP t (L.map fun p => thash P w p.2)
  nd : (L.map fun p => p.2).Nodup
  tup : ∀ p ∈ L, IsT P w h p.2 p.1
  plain : t.plain = true
  led : w.params.followText "set-order" = true ∨ t.led = true
  room : L.length * 5 < t.mask * 3
variable {a : Addr} {L : List (Addr × List Int)} {es : Array (Int × Value)} {ep : Nat} {t : SetTable}
theorem rows_len {L : List (Addr × List Int)} {es : Array (Int × Value)} (h : es.toList = rowsOf P w L) : es.size = L.length := by
  have e := congrArg List.length h
  unfold rowsOf at e
  rw [List.length_map] at e
  exact e
theorem fits_of {t : SetTable} {n : Nat} (hd : t.dummies = #[]) (hs : t.place.size = n) (hm : n ≤ t.mask) : t.fits n = true := by
  unfold SetTable.fits SetTable.fill
  rw [hd, hs, beq_self_eq_true, Bool.true_and, decide_eq_true_eq]
  exact hm
theorem SetP.fits (R : SetP P w s.heap a L es ep t) : t.fits es.size = true := by
  have h1 := R.tab.full
  have h2 := rows_len R.rows
  have h3 := R.room
  rw [List.length_map] at h1
  exact fits_of R.tab.clean (by omega) (by omega)
theorem SetP.entry (R : SetP P w s.heap a L es ep t) {i : Nat} {p : Addr × List Int} (h : L[i]? = some p) : es[i]? = some (thash P w p.2, Value.ref p.1) := by
  rw [← Array.getElem?_toList, R.rows]
  unfold rowsOf
  rw [List.getElem?_map, h]
  rfl
theorem SetP.stands (R : SetP P w s.heap a L es ep t) : ¬ t.gaveWay = true := by
  unfold SetTable.gaveWay
  rw [R.tab.mask.odd]
  decide
/-- where a probe for the hash h stands behind c steps -/
abbrev stepAt (m : Nat) (h : Int) (c : Nat) : SetTable.Probe := nth m (runAt m (SetTable.bits h % (m + 1)) (SetTable.bits h)) c
theorem step_clean (m : Nat) (h : Int) : ∀ c, (stepAt m h c).dummy = none := by
  have key : ∀ (n : Nat) (p : SetTable.Probe), p.dummy = none → (nth m p n).dummy = none := by
    intro n
    induction n with
    | zero => intro p hp; exact hp
    | succ n ih =>
      intro p hp
      refine ih (adv m p) ?_
      unfold adv
      split <;> exact hp
  exact fun c => key c _ rfl
theorem seek (R : SetP P w s.heap a L es ep t) {x : Addr} {k : List Int} (hx : IsT P w s.heap k x) (hu : A.units < cLine) {K : Nat} (hKf : K < 10 * SetTable.turns t.mask)
    (hK : way t.mask (thash P w k) K ∉ t.place.toList) (hKb : ∀ c, c < K → way t.mask (thash P w k) c ∈ t.place.toList) {Q : SetFound → Shared → Prop}
    (yes : (∃ p ∈ L, p.2 = k) → Q (.there none) s) (no : (∀ p ∈ L, p.2 ≠ k) → Q (.free (way t.mask (thash P w k) K) false) s) :
    ∀ (f c : Nat) (stand : Option SetTable.Probe), stand.getD (t.probeStart (thash P w k)) = stepAt t.mask (thash P w k) c → c ≤ K → K < f + c →
      (∀ (i : Nat) p, L[i]? = some p → p.2 = k → ∃ b, c ≤ b ∧ b < K ∧ t.place.toList[i]? = some (way t.mask (thash P w k) b)) →
      wpAny (model P w) A (setSearchFrom a (.ref x) (thash P w k) true f stand) Q E s := by
  intro f
  induction f with
  | zero => intro c stand _ h1 h2; exact absurd h2 (by omega)
  | succ f ih =>
    intro c stand hst hc hf hleft
    obtain ⟨o, ho, hex, hd⟩ := R.obj
    rw [setSearchFrom_succ]
    refine wpAny_bind (wpAny_setState_of ho hd R.fits ?_)
    dsimp only
    refine wp_if_neg R.stands ?_
    try refine wpAny_bind (wpAny_pure ?_)
    have shift : ∀ q, nth t.mask (stepAt t.mask (thash P w k) c) q = stepAt t.mask (thash P w k) (c + q) := fun q => (nth_add t.mask c _ q).symm
    have jAt : ∀ q, (nth t.mask (stepAt t.mask (thash P w k) c) q).j = way t.mask (thash P w k) (c + q) := fun q => congrArg SetTable.Probe.j (shift q)
    have met := go_spec t R.tab.rise R.tab.clean (fun i => (es[i]?.map (·.1)).getD 0) (thash P w k) (10 * SetTable.turns t.mask) (K - c) _ (step_clean t.mask (thash P w k) c) (by omega)
      (fun q hq => by rw [jAt]; exact hKb _ (by omega)) (by rw [jAt, show c + (K - c) = K by omega]; exact hK)
    have hashOf : ∀ (i : Nat) p, L[i]? = some p → (es[i]?.map (·.1)).getD 0 = thash P w p.2 := fun i p hp => by
      rw [R.entry hp]
      rfl
    -- none of equal key is left once the places ahead of b have another hash
    rcases met with ⟨q, i, hq, hi, hh, hno, hpr⟩ | ⟨hno, hpr⟩
    · rw [jAt] at hi
      have hprobe : t.probe (fun i => (es[i]?.map (·.1)).getD 0) (thash P w k) (stand.getD (t.probeStart (thash P w k))) = some (.candidate (way t.mask (thash P w k) (c + q)) i (stepAt t.mask (thash P w k) (c + (q + 1)))) := by
        rw [hst, ← jAt, ← shift]
        exact hpr
      rw [hprobe]
      dsimp only
      have hil : i < L.length := by
        have h1 := (List.getElem?_eq_some_iff.mp hi).1
        have h2 := R.tab.full
        rw [List.length_map] at h2
        rw [Array.length_toList, h2] at h1
        exact h1
      obtain ⟨p, hp⟩ : ∃ p, L[i]? = some p := ⟨_, List.getElem?_eq_getElem hil⟩
      have hmem := List.mem_of_getElem? hp
      have live := slot_live R.tab.rise hi
      have go : wpAny (model P w) A (searchRest a (.ref x) (thash P w k) true f es t (way t.mask (thash P w k) (c + q)) i (stepAt t.mask (thash P w k) (c + (q + 1)))) Q E s := by
        unfold searchRest
        rw [R.entry hp]
        dsimp only
        refine wpAny_bind (wpAny_holding (wpAny_eqBool_tuple hu (R.tup p hmem) hx ?_))
        refine wpAny_bind (wpAny_setState_of ho hd R.fits ?_)
        dsimp only
        by_cases same : p.2 = k
        · refine wp_if_pos (by simp [same]) (wpAny_pure (yes ⟨p, hmem, same⟩))
        · refine wp_if_neg (by simp [same]) ?_
          try refine wpAny_bind (wpAny_pure ?_)
          rw [sameMem]
          dsimp only
          simp only [if_true, live, R.entry hp]
          refine wpAny_bind (wpAny_isSame_ref_self (wpAny_bind (wpAny_pure ?_)))
          simp only [if_true]
          refine wp_if_neg (by simp [same]) ?_
          refine ih (c + (q + 1)) _ rfl (by omega) (by omega) fun i0 p0 h0 hk0 => ?_
          obtain ⟨b, b1, b2, b3⟩ := hleft i0 p0 h0 hk0
          refine ⟨b, ?_, b2, b3⟩
          by_cases z : c + q < b
          · omega
          · exfalso
            by_cases y : b = c + q
            · rw [y] at b3
              have l0 := slot_live R.tab.rise b3
              rw [live] at l0
              injection l0 with l0
              rw [← l0, hp] at h0
              have := Option.some.inj h0
              rw [this] at same
              exact same hk0
            · refine hno (b - c) i0 (by omega) (by rw [jAt, show c + (b - c) = b by omega]; exact b3) ?_
              rw [hashOf i0 p0 h0, hk0]
      by_cases hl : t.led = true
      · refine wp_if_neg (by simp [hl]) ?_
        try refine wpAny_bind (wpAny_pure ?_)
        exact go
      · refine wp_if_pos (by simp [hl]) ?_
        refine wpAny_bind (seen_tup hx (fun y hy => ?_) ?_)
        · obtain ⟨e, he, ee⟩ := List.mem_map.mp hy
          have he2 : e ∈ es.toList := by
            have : e ∈ es ∧ e.1 = thash P w k := by simpa using he
            simpa using this.1
          rw [R.rows] at he2
          obtain ⟨p2, hp2, e2⟩ := List.mem_map.mp he2
          exact ⟨p2.2, p2.1, by rw [← ee, ← e2], R.tup p2 hp2⟩
        · refine wp_if_neg (by decide) ?_
          try refine wpAny_bind (wpAny_pure ?_)
          exact go
    · have hprobe : t.probe (fun i => (es[i]?.map (·.1)).getD 0) (thash P w k) (stand.getD (t.probeStart (thash P w k))) = some (.empty (way t.mask (thash P w k) K) none) := by
        have e : way t.mask (thash P w k) K = (nth t.mask (stepAt t.mask (thash P w k) c) (K - c)).j := by rw [jAt, show c + (K - c) = K by omega]
        rw [hst, e]
        exact hpr
      rw [hprobe]
      dsimp only
      refine wpAny_pure (no fun p0 hm0 hk0 => ?_)
      obtain ⟨i0, hi0, e0⟩ := List.getElem_of_mem hm0
      have h0 : L[i0]? = some p0 := by rw [List.getElem?_eq_getElem hi0, e0]
      obtain ⟨b, b1, b2, b3⟩ := hleft i0 p0 h0 hk0
      refine hno (b - c) i0 (by omega) (by rw [jAt, show c + (b - c) = b by omega]; exact b3) ?_
      rw [hashOf i0 p0 h0, hk0]
theorem turns_few {m : Nat} (h : MaskP m) : 10 * SetTable.turns m < 100000 := by
  show 10 * (m + 15) < 100000
  rcases h with h | h | h | h | h | h <;> omega
theorem sought (R : SetP P w s.heap a L es ep t) {x : Addr} {k : List Int} (hx : IsT P w s.heap k x) (hu : A.units < cLine) {Q : SetFound → Shared → Prop} (yes : (∃ p ∈ L, p.2 = k) → Q (.there none) s)
    (no : ∀ K, (∀ p ∈ L, p.2 ≠ k) → way t.mask (thash P w k) K ∉ t.place.toList → (∀ c, c < K → way t.mask (thash P w k) c ∈ t.place.toList) → Q (.free (way t.mask (thash P w k) K) false) s) :
    wpAny (model P w) A (setSearch a (.ref x) (thash P w k) true) Q E s := by
  have hroom := R.room
  have hfull := R.tab.full
  rw [List.length_map] at hfull
  obtain ⟨K, hKf, hK, hKb⟩ := R.tab.gap (by rw [List.length_map]; omega) (thash P w k)
  have hfew := turns_few R.tab.mask
  unfold setSearch
  refine seek R hx hu hKf hK hKb yes (fun hn => no K hn hK hKb) 100000 0 none rfl (Nat.zero_le _) (by omega) fun i p hp hk => ?_
  have hi : (L.map fun p => thash P w p.2)[i]? = some (thash P w k) := by
    rw [List.getElem?_map, hp, ← hk]
    rfl
  have hil : i < t.place.toList.length := by
    have := (List.getElem?_eq_some_iff.mp hp).1
    rw [Array.length_toList, hfull]
    exact this
  have hj := List.getElem?_eq_getElem hil
  obtain ⟨c, hc, e⟩ := R.tab.ahead hK hi hj
  exact ⟨c, Nat.zero_le _, hc, by rw [hj, e]⟩
end
end Ts
set_option maxRecDepth 100000
set_option maxHeartbeats 4000000
namespace Ts
open PySem PySem.Spec PyProof.Rows L2
section
variable {P : Program} {w : World} {A : Around} {E : Value → Shared → Prop} {s : Shared}
variable {a : Addr} {L : List (Addr × List Int)} {es : Array (Int × Value)} {ep : Nat} {t : SetTable}
theorem relaid_here {o : Obj} (ho : s.heap.get? a = some o) (hex : o.ExactSet) (hd : o.data = .set es ep t) (hrows : es.toList = rowsOf P w L) (hsz : t.place.size = es.size) (hdm : t.dummies = #[]) (hfl : es.size ≤ t.mask)
    (nd : (L.map fun p => p.2).Nodup) (tup : ∀ p ∈ L, IsT P w s.heap p.2 p.1) (pl : t.plain = true) (ld : w.params.followText "set-order" = true ∨ t.led = true) {wanted M : Nat}
    (hw : SetTable.sizeAbove wanted - 1 = M) (hM : MaskP M) (hw2 : SetTable.sizeAbove wanted ≤ 8192) (hn : L.length * 5 < M * 3) {Q : Unit → Shared → Prop}
    (hQ : ∀ h' L' es' ep' t', Heap.SameBut a s.heap h' → SetP P w h' a L' es' ep' t' → L'.Perm L → Q () { s with heap := h' }) : wpAny (model P w) A (setRelay a wanted) Q E s := by
  have hsl := rows_len hrows
  obtain ⟨t', order, e, hp, T, em, el, epl⟩ := laid_anew t (hs := es.map (·.1)) (wanted := wanted) hw hM (by rw [Array.size_map, hsl]; omega)
  rw [Array.size_map, hsl] at hp
  obtain ⟨L2, r1, r2, r3⟩ := order_rows L es order hrows hp
  rw [← r3] at T
  have hs2 : (order.filterMap (es[·]?)).size = es.size := by rw [rows_len r1, r2.length_eq, hsl]
  rw [setRelay_eq]
  refine wpAny_bind (wpAny_setState_of ho hd (fits_of hdm hsz hfl) ?_)
  dsimp only
  refine wp_if_neg (by rw [sizeLine_eq]; omega) ?_
  try refine wpAny_bind (wpAny_pure ?_)
  rw [e]
  dsimp only
  refine wpAny_bind ?_
  refine wp_if_neg (by rw [hs2]; simp) ?_
  try refine wpAny_bind (wpAny_pure ?_)
  refine wpAny_pure ?_
  dsimp only
  have hLb : L.length < 8192 := by
    have : M ≤ 8191 := by rw [← hw]; omega
    omega
  refine wpAny_storeSet_of ho hd ?_ (by rw [hs2, hsl, sizeLine_eq]; omega)
  have sb : Heap.SameBut a s.heap (s.heap.update a (Obj.putSet (order.filterMap (es[·]?)) t')) := Heap.SameBut.update ..
  refine hQ _ L2 (order.filterMap (es[·]?)) (ep + 1) t' sb ⟨⟨_, store_at ho hd, ⟨hex.1, hex.2.1, hex.2.2⟩, rfl⟩, r1, T, (r2.map (·.2)).nodup_iff.mpr nd, fun p hpm => isT_same (tup p (r2.mem_iff.mp hpm)) ho hd sb, by rw [epl]; exact pl, by rw [el]; exact ld, ?_⟩ r2
  rw [r2.length_eq, em]
  exact hn
/-- how a table grows that is too full with n -/
theorem grows {m n : Nat} (hm : MaskP m) (h1 : (n - 1) * 5 < m * 3) (h2 : m * 3 ≤ n * 5) (h3 : n < 4915) : ∃ M, SetTable.sizeAbove (SetTable.grown n) - 1 = M ∧ MaskP M ∧ SetTable.sizeAbove (SetTable.grown n) ≤ 8192 ∧ n * 5 < M * 3 := by
  rcases hm with h | h | h | h | h | h <;> subst h
  · have : n = 5 := by omega
    subst this
    exact ⟨31, by decide +kernel, .inr (.inl rfl), by decide +kernel, by decide⟩
  · have : n = 19 := by omega
    subst this
    exact ⟨127, by decide +kernel, .inr (.inr (.inl rfl)), by decide +kernel, by decide⟩
  · have : n = 77 := by omega
    subst this
    exact ⟨511, by decide +kernel, .inr (.inr (.inr (.inl rfl))), by decide +kernel, by decide⟩
  · have : n = 307 := by omega
    subst this
    exact ⟨2047, by decide +kernel, .inr (.inr (.inr (.inr (.inl rfl)))), by decide +kernel, by decide⟩
  · have : n = 1229 := by omega
    subst this
    exact ⟨8191, by decide +kernel, .inr (.inr (.inr (.inr (.inr rfl)))), by decide +kernel, by decide⟩
  · omega
theorem mask_le {m : Nat} (hm : MaskP m) : 7 ≤ m ∧ m ≤ 8191 := by
  rcases hm with h | h | h | h | h | h <;> omega
/-- one tuple more, or it was there -/
theorem added (R : SetP P w s.heap a L es ep t) {x : Addr} {k : List Int} (hx : IsT P w s.heap k x) (hu : A.units < cLine) (hfew : L.length + 1 < 4915) {Q : Bool → Shared → Prop}
    (hQ : ∀ b h' L' es' ep' t', Heap.SameBut a s.heap h' → SetP P w h' a L' es' ep' t' → ((∃ p ∈ L, p.2 = k) → L' = L) → ((∀ p ∈ L, p.2 ≠ k) → L'.Perm ((x, k) :: L)) → Q b { s with heap := h' }) :
    wpAny (model P w) A (setAddHashed a (.ref x) (thash P w k)) Q E s := by
  obtain ⟨o, ho, hex, hd⟩ := R.obj
  have hsl := rows_len R.rows
  have hroom := R.room
  have hfull := R.tab.full
  rw [List.length_map] at hfull
  unfold setAddHashed
  refine wpAny_holding ?_
  rw [show (100000 : Nat) = 99999 + 1 from rfl, setAddHashedIn_succ]
  refine wpAny_bind (wpAny_setState_of ho hd R.fits ?_)
  dsimp only
  refine wp_if_neg (by simp [byScan, Value.scannable]) ?_
  try refine wpAny_bind (wpAny_pure ?_)
  refine wpAny_bind (sought R hx hu (fun there => ?_) fun K hnot hK hb => ?_)
  · dsimp only
    exact wpAny_pure (hQ false s.heap L es ep t (Heap.SameBut.refl a s.heap) R (fun _ => rfl) fun z => by
      obtain ⟨p, hp, e⟩ := there
      exact absurd e (z p hp))
  · dsimp only
    refine wpAny_bind (wpAny_setState_of ho hd R.fits ?_)
    dsimp only
    obtain ⟨q1, q2, q3⟩ := R.tab.add hK hb
    rw [List.length_map] at q1 q3
    have hmask : (t.put (way t.mask (thash P w k) K)).1.mask = t.mask := rfl
    have hled : (t.put (way t.mask (thash P w k) K)).1.led = t.led := rfl
    have hplain : (t.put (way t.mask (thash P w k) K)).1.plain = true := R.plain
    have hpos : (t.put (way t.mask (thash P w k) K)).2 = SetTable.below t.place (way t.mask (thash P w k) K) := rfl
    generalize t.put (way t.mask (thash P w k) K) = pt at q2 q3 hmask hled hplain hpos ⊢
    obtain ⟨t1, pl⟩ := pt
    dsimp only at q2 q3 hmask hled hplain hpos ⊢
    subst hpos
    first
      | (refine wpAny_bind ?_; refine wp_if_pos hplain ?_; refine hashBy_tup hx ?_)
      | refine wp_if_pos hplain (wpAny_bind (hashBy_tup hx ?_))
    simp only [if_true]
    generalize SetTable.below t.place (way t.mask (thash P w k) K) = pl at q1 q2 ⊢
    have pm := put_perm L pl (x, k)
    have hin : (SetTable.insertAt es pl (thash P w k, Value.ref x)).toList = rowsOf P w (L.take pl ++ (x, k) :: L.drop pl) := by rw [SetTable.toList_insertAt, rows_put, R.rows]
    have htab : TabP t1 ((L.take pl ++ (x, k) :: L.drop pl).map fun p => thash P w p.2) := by
      rw [List.map_append, List.map_cons, List.map_take, List.map_drop]
      exact q2
    have hlen : (L.take pl ++ (x, k) :: L.drop pl).length = L.length + 1 := pm.length_eq
    have nd1 : ((L.take pl ++ (x, k) :: L.drop pl).map fun p => p.2).Nodup := by
      refine (pm.map fun p => p.2).nodup_iff.mpr (List.nodup_cons.mpr ⟨fun z => ?_, R.nd⟩)
      obtain ⟨p, hp, e⟩ := List.mem_map.mp z
      exact hnot p hp e
    have hes := rows_len hin
    rw [hlen] at hes
    generalize SetTable.insertAt es pl (thash P w k, Value.ref x) = es1 at hin hes ⊢
    generalize L.take pl ++ (x, k) :: L.drop pl = L1 at pm hlen htab nd1 hin
    refine wpAny_bind (wpAny_storeSet_of ho hd ?_ (by rw [hes, sizeLine_eq]; omega))
    have sb : Heap.SameBut a s.heap (s.heap.update a (Obj.putSet es1 t1)) := Heap.SameBut.update ..
    have ho1 := store_at (es' := es1) (t' := t1) ho hd
    generalize s.heap.update a (Obj.putSet es1 t1) = h1 at sb ho1 ⊢
    have tup1 : ∀ p ∈ L1, IsT P w h1 p.2 p.1 := fun p hp => by
      rcases List.mem_cons.mp (pm.mem_iff.mp hp) with e | hp
      · rw [e]; exact isT_same hx ho hd sb
      · exact isT_same (R.tup p hp) ho hd sb
    have ld1 : w.params.followText "set-order" = true ∨ t1.led = true := by rw [hled]; exact R.led
    have out : ∀ (b : Bool) (h2 : Heap) (L2 : List (Addr × List Int)) es2 ep2 t2, Heap.SameBut a h1 h2 → SetP P w h2 a L2 es2 ep2 t2 → L2.Perm L1 → Q b { s with heap := h2 } := fun b h2 L2 es2 ep2 t2 sb2 R2 pm2 =>
      hQ b h2 L2 es2 ep2 t2 (sb.trans sb2) R2 (fun z => by obtain ⟨p, hp, e⟩ := z; exact absurd e (hnot p hp)) fun _ => pm2.trans pm
    have tooFull_iff : t1.tooFull = true ↔ t.mask * 3 ≤ (L.length + 1) * 5 := by
      unfold SetTable.tooFull
      rw [decide_eq_true_eq, q3, hmask]
    by_cases hf : t1.tooFull = true
    · first
        | (refine wpAny_bind ?_; refine wp_if_pos (by simp [hf]) ?_)
        | (refine wp_if_pos (by simp [hf]) ?_; refine wpAny_bind ?_)
      obtain ⟨M, g1, g2, g3, g4⟩ := grows (n := L.length + 1) R.tab.mask (by rw [Nat.add_sub_cancel]; exact hroom) (tooFull_iff.mp hf) hfew
      rw [hsl]
      have hsz1 : t1.place.size = es1.size := by
        have h := htab.full
        rw [List.length_map, hlen] at h
        rw [h, hes]
      have hml := mask_le R.tab.mask
      refine relaid_here (s := { s with heap := h1 }) ho1 ⟨hex.1, hex.2.1, hex.2.2⟩ rfl hin hsz1 htab.clean (by rw [hes, hmask]; omega) nd1 tup1 hplain ld1 g1 g2 g3 (by rw [hlen]; exact g4) ?_
      intro h2 L2 es2 ep2 t2 sb2 R2 pm2
      exact wpAny_pure (out true h2 L2 es2 ep2 t2 sb2 R2 pm2)
    · first
        | refine wp_if_neg (by simp [hf]) ?_
        | (refine wpAny_bind ?_; refine wp_if_neg (by simp [hf]) ?_; refine wpAny_pure ?_)
      refine wpAny_pure (out true h1 L1 es1 (ep + 1) t1 (Heap.SameBut.refl a h1) ⟨⟨_, ho1, ⟨hex.1, hex.2.1, hex.2.2⟩, rfl⟩, hin, htab, nd1, tup1, hplain, ld1, ?_⟩ (List.Perm.refl _))
      rw [hlen, hmask]
      exact Nat.lt_of_not_le fun z => hf (tooFull_iff.mpr z)
/-- no more than so many different ones -/
def Few (ks : List (Addr × List Int)) : Prop := ∀ L : List (Addr × List Int), (L.map fun p => p.2).Nodup → (∀ p ∈ L, p ∈ ks) → L.length + 1 < 4915
theorem SetP.keep {h h' : Heap} {a : Addr} {L : List (Addr × List Int)} {es : Array (Int × Value)} {ep : Nat} {t : SetTable} (R : SetP P w h a L es ep t) (ha : ∀ o, h.get? a = some o → h'.get? a = some o) (ht : ∀ p ∈ L, IsT P w h' p.2 p.1) : SetP P w h' a L es ep t := by
  obtain ⟨o, ho, r⟩ := R.obj
  exact ⟨⟨o, ha o ho, r⟩, R.rows, R.tab, R.nd, ht, R.plain, R.led, R.room⟩
theorem setP_new {h : Heap} {a : Addr} (ho : h.get? a = some { cls := .type "set", dict := none, data := .set #[] 0 (.fresh 0 0 (!w.params.followText "set-order")) }) : SetP P w h a [] #[] 0 (.fresh 0 0 (!w.params.followText "set-order")) := by
  refine ⟨⟨_, ho, ⟨rfl, rfl, rfl⟩, rfl⟩, rfl, ⟨List.Pairwise.nil, rfl, rfl, .inl rfl, fun x hx => (by cases hx), fun i h j hi => (by simp at hi)⟩, List.nodup_nil, fun p hp => (by cases hp), rfl, ?_, by show 0 * 5 < 7 * 3; decide⟩
  show _ ∨ (!w.params.followText "set-order") = true
  cases w.params.followText "set-order"
  · exact .inr rfl
  · exact .inl rfl
/-- the loop that takes the items one by one -/
theorem taken_all {I : Addr} {fp wr : List Addr} {G : Array GenState → Array GenState → Prop} {n : Nat} {Pv : Nat → Value → Prop} {St : Nat → Shared → Prop} {R : Result → Shared → Prop}
    (W : WalksS P w A.in1 I fp wr G n Pv St) (S : Addr) (hSf : S ∉ fp) (ks : List (Addr × List Int)) (hn : n = ks.length) (hfew : Few ks) (hval : ∀ i v, Pv i v → ∃ p, ks[i]? = some p ∧ v = .ref p.1)
    (h0 : Heap) (hk : ∀ p ∈ ks, IsT P w h0 p.2 p.1) (hS0 : h0.get? S = none) (hw0 : ∀ b ∈ wr, h0.get? b = none) (hu : A.in1.units < cLine) :
    ∀ (left i : Nat) (s : Shared), i + left = n → St i s → (∀ b o, h0.get? b = some o → s.heap.get? b = some o) → (∃ L es ep t, SetP P w s.heap S L es ep t ∧ Got ks i L) →
      (∀ s' L es ep t, Moved (S :: wr) G s s' → SetP P w s'.heap S L es ep t → Got ks n L → (∀ b o, h0.get? b = some o → s'.heap.get? b = some o) → R (.ok (.ret .none)) s') →
      codeAny (model P w) A (.builtin "set.update.loop" ⟨[.ref S, .ref I], []⟩) R s := by
  have hSw : S ∉ wr := fun h => hSf (W.sub _ h)
  have more : ∀ b ∈ wr, b ∈ S :: wr := fun b hb => List.mem_cons_of_mem _ hb
  have stay : ∀ {s s' : Shared}, Moved wr G s s' → (∀ b o, h0.get? b = some o → s.heap.get? b = some o) → ∀ b o, h0.get? b = some o → s'.heap.get? b = some o := fun hm hkp b o e =>
    hm.heap b o (fun hb => by rw [hw0 b hb] at e; cases e) (hkp b o e)
  intro left
  induction left with
  | zero =>
    intro i s hi hst hkp ⟨L, es, ep, t, hS, g⟩ hR
    have hin : i = n := by omega
    subst hin
    refine codeAny_builtin F.entry_set_update_loop ?_
    rw [Around.under_plainId F.plain_set_update_loop _]
    show wpAny _ A.in1 (pyNext (.ref I) >>= _) _ _ s
    refine wpAny_bind (W.done s _ _ hst fun s' hm => ?_)
    have hkp' := stay hm hkp
    exact wpAny_pure (hR s' L es ep t (hm.mono more) (hS.keep (fun o e => hm.heap S o hSw e) fun p hp => isT_keep (hk p (List.mem_of_mem_take (g.sub p hp))) hkp') g hkp')
  | succ left ih =>
    intro i s hi hst hkp ⟨L, es, ep, t, hS, g⟩ hR
    have hlt : i < n := by omega
    refine codeAny_builtin F.entry_set_update_loop ?_
    rw [Around.under_plainId F.plain_set_update_loop _]
    show wpAny _ A.in1 (pyNext (.ref I) >>= _) _ _ s
    refine wpAny_bind (W.item i s _ _ hlt hst fun v s' hP hst' hm => ?_)
    obtain ⟨p, hp, rfl⟩ := hval i v hP
    have hkp' := stay hm hkp
    have hsub : ∀ p ∈ L, p ∈ ks := fun p hp => List.mem_of_mem_take (g.sub p hp)
    have hS' : SetP P w s'.heap S L es ep t := hS.keep (fun o e => hm.heap S o hSw e) fun q hq => isT_keep (hk q (hsub q hq)) hkp'
    have hx : IsT P w s'.heap p.2 p.1 := isT_keep (hk p (List.mem_of_getElem? hp)) hkp'
    show wpAny _ A.in1 (holding [Value.ref p.1] (setAdd S (.ref p.1)) >>= _) _ _ s'
    refine wpAny_bind (wpAny_holding ?_)
    unfold setAdd
    refine wpAny_holding ?_
    refine wpAny_bind (wpAny_pyHash_tuple hu hx ?_)
    refine added (s := { s' with toks := s'.toks + (p.2.length + 1) }) hS' hx hu (hfew L hS.nd hsub) fun b h' L' es' ep' t' hsb hS2 c1 c2 => ?_
    have g' : Got ks (i + 1) L' := by
      by_cases c : ∃ q ∈ L, q.2 = p.2
      · obtain ⟨q, hq, e⟩ := c
        rw [c1 ⟨q, hq, e⟩]
        exact g.same hp (List.mem_map.mpr ⟨q, hq, e⟩)
      · exact g.more hp (c2 fun q hq e => c ⟨q, hq, e⟩)
    have hkp2 : ∀ b o, h0.get? b = some o → h'.get? b = some o := fun b o e => (hsb.2 b (fun z => by rw [z, hS0] at e; cases e)).trans (hkp' b o e)
    have frameSt : St (i + 1) { s' with heap := h', toks := s'.toks + (p.2.length + 1) } := W.frame _ s' _ _ hst' (Nat.le_add_right _ _) fun b hb o e => by
      rw [hsb.2 b (fun h : b = S => hSf (by rw [← h]; exact hb))]
      exact e
    refine wpAny_pure ⟨plainId_quiet F.plain_set_update_loop _, ih (i + 1) _ (by omega) frameSt hkp2 ⟨L', es', ep', t', hS2, g'⟩ fun s2 L2 es2 ep2 t2 hm2 hS3 g2 hkp3 => ?_⟩
    refine hR s2 L2 es2 ep2 t2 (Moved.trans W.gtrans ((hm.mono more).then_heap (Nat.le_add_right _ _) fun b o hb e => ?_) hm2) hS3 g2 hkp3
    rw [hsb.2 b (fun h : b = S => hb (by rw [h]; exact List.mem_cons_self))]
    exact e
end
end Ts
set_option maxRecDepth 100000
set_option maxHeartbeats 4000000
namespace Ts
open PySem PySem.Spec PyProof.Rows L2
section
variable {P : Program} {w : World} {A : Around} {E : Value → Shared → Prop} {s : Shared}
/-- a new set's object -/
abbrev freshSet (w : World) : Obj := { cls := .type "set", dict := none, data := .set #[] 0 (.fresh 0 0 (!w.params.followText "set-order")) }
theorem none_past {h : Heap} {b : Addr} (hb : h.objs.size ≤ b) : h.get? b = none := by
  cases q : h.get? b with
  | none => rfl
  | some o => exact absurd (Nat.lt_of_lt_of_le (Heap.lt_size q) hb) (Nat.lt_irrefl _)
/-- set(xs), xs a list of tuples of ints -/
theorem set_made {l : Addr} {items : Array Value} (ks : List (Addr × List Int)) {Q : Value → Shared → Prop} (hh : A.handled = none) (hl : s.heap.IsList l items) (hit : items.toList = ks.map fun p => Value.ref p.1)
    (hk : ∀ p ∈ ks, IsT P w s.heap p.2 p.1) (hfew : Few ks) (hu : A.units + 3 < cLine)
    (h : ∀ (h' : Heap) (tk : Nat) L es ep t, SetP P w h' s.heap.objs.size L es ep t → Got ks ks.length L → (∀ b o, s.heap.get? b = some o → h'.get? b = some o) → Q (.ref s.heap.objs.size) { s with heap := h', toks := tk }) :
    wpAny (model P w) A (call (.type "set") [.ref l]) Q E s := by
  have hisz : items.size = ks.length := by
    have q := congrArg List.length hit
    rw [List.length_map] at q
    exact q
  obtain ⟨c, tl, hmro⟩ := F.called_set.mro
  have hmade := F.called_set.made
  have hsub := F.called_set.sub
  refine wpAny_call (codeAny_of_tree ?_)
  show wpAny _ _ (callAny (.type "set") _) _ _ _
  refine wpAny_pure ⟨Code.quiet_builtin _ (by decide +kernel), codeAny_builtin F.entry_type_call ?_⟩
  rw [Around.under_plain (weight_type_call_type "set" [.ref l] []) rfl]
  have h1 := F.called_set.notType
  have h2 := F.called_set.canCreate
  have hct := F.typeCall_set_1 (.ref l)
  repeat (any_goals (first | assumption | wp_step))
  refine codeAny_mono (code_set_led1 (.ref l) (E := E) (Q₁ := fun obj s1 => obj = .ref s.heap.objs.size ∧ s1 = { s with heap := s.heap.push (freshSet w) }) ⟨rfl, rfl⟩) fun r s1 hr => ?_
  cases r with
  | error e => exact hr
  | ok fl =>
    cases fl with
    | ret obj =>
      obtain ⟨rfl, rfl⟩ := hr
      have hS : (s.heap.push (freshSet w)).get? s.heap.objs.size = some (freshSet w) := Heap.get?_push_size _ rfl
      have hT : Shared.TypeIs { s with heap := s.heap.push (freshSet w) } (.ref s.heap.objs.size) "set" := ⟨_, hS, rfl⟩
      have hli := F.called_set.init.lookup
      have hbi := F.called_set.init.bind (.ref s.heap.objs.size)
      repeat (any_goals (first | assumption | wp_step))
      refine codeAny_mono (codeAny_call_builtin (R := wants (fun r s2 => r = .none ∧ ∃ h' tk L es ep t, s2 = { s with heap := h', toks := tk } ∧ SetP P w h' s.heap.objs.size L es ep t ∧ Got ks ks.length L ∧
          (∀ b o, s.heap.get? b = some o → h'.get? b = some o)) E) F.called_set.init.plain F.entry_set_init (check_set_init_1 hT ?_)) fun r2 s2 hr2 => ?_
      · obtain ⟨ol, hol, hcl, nl, hdl⟩ := hl
        obtain ⟨ocls, odict, odata, oslots⟩ := ol
        simp only at hcl hdl
        subst hcl
        subst hdl
        have hol2 : (s.heap.push (freshSet w)).get? l = some { cls := .type "list", dict := odict, data := .seq items nl, slots := oslots } := Heap.get?_push_of_some _ hol
        have hsls := F.sub_list_set
        have hslf := F.sub_list_frozenset
        have hne : (Value.type "list" == Value.type "dict") = false := by decide
        have hl1 : (s.heap.push (freshSet w)).IsList l items := ⟨_, hol2, rfl, nl, rfl⟩
        unfold Builtin.«set.__init__» noKeywords Builtin.Frozenset.updateFrom
        generalize hPI : pyIter = PI
        wp_walk
        subst hPI
        refine wpAny_pyIter_list hl1 (wpAny_bind (wpAny_runValue ?_))
        have hlS : l < s.heap.objs.size := Heap.lt_size hol
        have hh3 : A.in1.in1.in1.handled = none := by simp [hh]
        have hz1 : (s.heap.push (freshSet w)).objs.size = s.heap.objs.size + 1 := Heap.size_push ..
        have hneI : l ≠ (s.heap.push (freshSet w)).objs.size := by
          rw [hz1]
          exact Nat.ne_of_lt (Nat.lt_succ_of_lt hlS)
        have hSf : s.heap.objs.size ∉ [(s.heap.push (freshSet w)).objs.size, l] := fun z => by
          rcases List.mem_cons.mp z with z | z
          · rw [hz1] at z
            exact Nat.succ_ne_self _ z.symm
          · exact Nat.ne_of_gt hlS (List.mem_singleton.mp z)
        have hval : ∀ (i : Nat) (v : Value), items[i]? = some v → ∃ p, ks[i]? = some p ∧ v = .ref p.1 := fun i v hv => by
          have q : items.toList[i]? = some v := by
            rw [Array.getElem?_toList]
            exact hv
          rw [hit, List.getElem?_map] at q
          obtain ⟨p, hp, e⟩ := Option.map_eq_some_iff.mp q
          exact ⟨p, hp, e.symm⟩
        refine taken_all ((Walks.list hh3 _ l hneI items).toS) s.heap.objs.size hSf ks hisz hfew hval s.heap hk (none_past (Nat.le_refl _)) (fun b hb => none_past (by
            rw [List.mem_singleton.mp hb, hz1]
            exact Nat.le_succ _)) hu items.size 0 _ (Nat.zero_add _)
          ⟨⟨_, Heap.get?_push_size _ rfl, rfl, rfl⟩, (hl1.push _)⟩ (fun b o e => Heap.get?_push_of_some _ (Heap.get?_push_of_some _ e)) ⟨[], #[], 0, _, setP_new (Heap.get?_push_of_some _ hS), Got.zero ks⟩ ?_
        intro s' L es ep t hm hS' g' hkp
        obtain ⟨h', g2, d', tk', os'⟩ := s'
        have eg : g2 = s.gens := hm.gens
        have ed : d' = s.drawn := hm.drawn
        have eo : os' = s.os := hm.os
        subst eg
        subst ed
        subst eo
        show wpAny _ _ _ _ _ _
        refine wpAny_pure ?_
        show wpAny _ _ (ret Value.none) _ _ _
        rw [hisz] at g'
        exact wpAny_pure ⟨rfl, h', tk', L, es, ep, t, rfl, hS', g', hkp⟩
      · cases r2 with
        | error e => exact hr2
        | ok fl2 =>
          cases fl2 with
          | ret r =>
            obtain ⟨rfl, h', tk, L, es, ep, t, rfl, hS', g', hk'⟩ := hr2
            repeat (any_goals (first | assumption | wp_step))
            exact h _ _ _ _ _ _ hS' g' hk'
          | _ => exact hr2.elim
    | _ => exact hr.elim
end
theorem got_len {ks L : List (Addr × List Int)} (g : Got ks ks.length L) (nd : (L.map fun p => p.2).Nodup) : L.length ≤ ks.length ∧ (L.length = ks.length ↔ (ks.map fun p => p.2).Nodup) := by
  have hl := g.len
  refine ⟨hl, fun e => ?_, fun hn => ?_⟩
  · -- as many, none twice, all of them among ks
    have sub : ∀ x ∈ ks.map (fun p => p.2), x ∈ L.map fun p => p.2 := fun x hx => by
      obtain ⟨p, hp, rfl⟩ := List.mem_map.mp hx
      exact g.all p (by rw [List.take_length]; exact hp)
    have key : ∀ (xs ys : List (List Int)), ys.Nodup → (∀ y ∈ ys, y ∈ xs) → xs.length ≤ ys.length → xs.Nodup := by
      intro xs
      induction xs with
      | nil => intro ys _ _ _; exact List.nodup_nil
      | cons x xs ih =>
        intro ys hnd hsub hlen
        by_cases hx : x ∈ xs
        · -- then ys fits into xs: too long
          exfalso
          have h2 : ∀ y ∈ ys, y ∈ xs := fun y hy => by
            rcases List.mem_cons.mp (hsub y hy) with z | z
            · rw [z]; exact hx
            · exact z
          have h3 : ∀ (zs vs : List (List Int)), zs.Nodup → (∀ z ∈ zs, z ∈ vs) → zs.length ≤ vs.length := by
            intro zs
            induction zs with
            | nil => intro vs _ _; exact Nat.zero_le _
            | cons z zs ihz =>
              intro vs hz hv
              have hzz := List.nodup_cons.mp hz
              have hm := hv z List.mem_cons_self
              have := ihz (vs.erase z) hzz.2 fun u hu => (List.mem_erase_of_ne fun e => hzz.1 (by rw [← e]; exact hu)).mpr (hv u (List.mem_cons_of_mem _ hu))
              rw [List.length_erase_of_mem hm] at this
              have hp : 0 < vs.length := List.length_pos_of_mem hm
              rw [List.length_cons]
              omega
          have := h3 ys xs hnd h2
          rw [List.length_cons] at hlen
          omega
        · refine List.nodup_cons.mpr ⟨hx, ih (ys.erase x) (hnd.erase x) (fun y hy => ?_) ?_⟩
          · have hne : y ≠ x := fun z => by
              rw [z] at hy
              exact (List.Nodup.not_mem_erase hnd) hy
            rcases List.mem_cons.mp (hsub y (List.mem_of_mem_erase hy)) with z | z
            · exact absurd z hne
            · exact z
          · have := List.length_erase (a := x) (l := ys)
            rw [List.length_cons] at hlen
            split at this <;> omega
    refine key _ (L.map fun p => p.2) nd (fun y hy => ?_) (by rw [List.length_map, List.length_map, e]; exact Nat.le_refl _)
    obtain ⟨p, hp, rfl⟩ := List.mem_map.mp hy
    have := g.sub p hp
    rw [List.take_length] at this
    exact List.mem_map.mpr ⟨p, this, rfl⟩
  · have h3 : ∀ (zs vs : List (List Int)), zs.Nodup → (∀ z ∈ zs, z ∈ vs) → zs.length ≤ vs.length := by
      intro zs
      induction zs with
      | nil => intro vs _ _; exact Nat.zero_le _
      | cons z zs ihz =>
        intro vs hz hv
        have hzz := List.nodup_cons.mp hz
        have hm := hv z List.mem_cons_self
        have := ihz (vs.erase z) hzz.2 fun u hu => (List.mem_erase_of_ne fun e => hzz.1 (by rw [← e]; exact hu)).mpr (hv u (List.mem_cons_of_mem _ hu))
        rw [List.length_erase_of_mem hm] at this
        have hp : 0 < vs.length := List.length_pos_of_mem hm
        rw [List.length_cons]
        omega
    have := h3 _ (L.map fun p => p.2) hn fun x hx => by
      obtain ⟨p, hp, rfl⟩ := List.mem_map.mp hx
      exact g.all p (by rw [List.take_length]; exact hp)
    rw [List.length_map, List.length_map] at this
    omega
/-- len(set(xs)), xs a list of tuples of ints -/
def tLenSetT (K : PySem.W.Frag) (ta : TE) : TE := fun σ H Q => ta σ H fun x H1 => ∃ (l : Addr) (ks : List (Addr × List Int)), x = .ref l ∧ SqL K H1 l (ks.map fun p => V.ref p.1) ∧ (∀ p ∈ ks, SqT K H1 p.1 (p.2.map V.int)) ∧ Few ks ∧
  ∀ n : Nat, n ≤ ks.length → (n = ks.length ↔ (ks.map fun p => p.2).Nodup) → Q (.int (n : Int)) H1
theorem pe_lenSetT {X : Cx} {a : Expr} {ta : TE} {p p2 q pos : Pos} (hg : Gl X "len") (hm : X.mg "len" = none) (hg2 : Gl X "set") (hm2 : X.mg "set" = none) (hu : X.A.units + 64 < cLine) (ha : PE X a ta) (hc : X.calm = true := by rfl)
    (na : starEach [a] X.env = (false, eval a X.env) :: starEach [] X.env := by rfl) : PE X (.Call (.Name "len" p) [.Call (.Name "set" p2) [a] [] q] [] pos) (tLenSetT X.K ta) := by
  refine ⟨fun pins s σ H Q I h => ?_⟩
  refine Call_ (ld_blt I hg hm boot_len (PyProof.Rows.callWith_builtin1 (PyProof.Rows.args_cons ?_ rfl) rfl rfl))
  refine Call_ (ld_blt I hg2 hm2 boot_set (PyProof.Rows.callWith_type1 (PyProof.Rows.args_cons (thn (ha.run pins s σ H _ I h) fun v s1 ⟨x, H1, I1, r1, q1⟩ => PyProof.Rows.args_nil ?_) na) na rfl))
  obtain ⟨l, ks, rfl, hq, hk, hf, q1⟩ := q1
  cases r1
  obtain ⟨its, rv, hl, hz⟩ := Inv.list I1 hq
  refine set_made (P := X.prog) (w := X.w) ks (I1.ok.hd hc) hl.isList (by simpa using refs_of_vals rv) (fun p hp => Inv.isT I1 (hk p hp)) hf (by omega) fun h' tk L es ep t R g k => ?_
  refine PyProof.Rows.args_nil ?_
  obtain ⟨o, ho, hex, hd⟩ := R.obj
  obtain ⟨g1, g2⟩ := got_len g R.nd
  have hlen : es.size = L.length := rows_len R.rows
  have I2 : Inv X pins σ H1 { s1 with heap := h', toks := tk } := I1.kept k
  refine call_len_set ho hex hd (SetP.fits (s := { s1 with heap := h', toks := tk }) R) ?_ ⟨.int (L.length : Int), H1, I2.tok _, ⟨_, by rw [hlen]⟩, q1 _ g1 g2⟩
  have := hf L R.nd fun p hp => List.mem_of_mem_take (g.sub p hp)
  rw [hlen]
  have e : sizeLine = 16777216 := sizeLine_eq
  omega
end Ts
set_option maxRecDepth 100000
set_option maxHeartbeats 4000000
namespace Td
open PySem PySem.Spec PyProof.Rows L2
open Vatrka (Piece Pending Change)
/-! ### data that stays -/
theorem same_tup {K : PySem.W.Frag} {H H' : Hp} {a : Addr} {xs : List V} (e : Same H H') (h : SqT K H a xs) : SqT K H' a xs := by
  rcases h with (h | ⟨o, h⟩) | h
  · exact .inl (.inl (e _ _ h))
  · exact .inl (.inr ⟨o, e _ _ h⟩)
  · exact .inr h
mutual
theorem dp_same {K : PySem.W.Frag} {H H' : Hp} (e : Same H H') : ∀ (d : PyData) (v : V), Dp K H v d → Dp K H' v d
  | .none, _, h => by cases h; exact .non
  | .bool _, _, h => by cases h; exact .bl _
  | .int _, _, h => by cases h; exact .int _
  | .str _, _, h => by cases h; exact .str _
  | .list ds, _, h => by cases h with | lst h1 h2 => exact .lst (e.seq h1) (dp_sames e ds _ h2)
  | .tuple ds, _, h => by cases h with | tup h1 h2 => exact .tup (same_tup e h1) (dp_sames e ds _ h2)
  | .dict _, _, h => by cases h
theorem dp_sames {K : PySem.W.Frag} {H H' : Hp} (e : Same H H') : ∀ (ds : List PyData) (vs : List V), DpAll K H vs ds → DpAll K H' vs ds
  | [], _, h => by cases h; exact .nil
  | d :: ds, _, h => by cases h with | cons h1 h2 => exact .cons (dp_same e d _ h1) (dp_sames e ds _ h2)
end
/-- every tuple stays -/
def KeepT (K : PySem.W.Frag) (H H' : Hp) : Prop := ∀ a xs, SqT K H a xs → SqT K H' a xs
theorem Same.keepT {K : PySem.W.Frag} {H H' : Hp} (e : Same H H') : KeepT K H H' := fun _ _ h => same_tup e h
theorem KeepT.trans {K : PySem.W.Frag} {H H1 H2 : Hp} (a : KeepT K H H1) (b : KeepT K H1 H2) : KeepT K H H2 := fun x xs h => b x xs (a x xs h)
theorem keepT_upd {K : PySem.W.Frag} {H : Hp} {p : Addr} {o u : HO} (h : H p = some u) (hu : ∀ xs, u ≠ .tup xs) (hu2 : ∀ ob xs, u ≠ .frz ob (.tup xs)) : KeepT K H (upd H p o) := by
  intro a xs q
  rcases q with (q | ⟨ob, q⟩) | q
  · refine .inl (.inl ?_)
    rw [upd_ne fun z => ?_]
    · exact q
    · rw [z, h] at q
      exact hu _ (Option.some.inj q)
  · refine .inl (.inr ⟨ob, ?_⟩)
    rw [upd_ne fun z => ?_]
    · exact q
    · rw [z, h] at q
      exact hu2 _ _ (Option.some.inj q)
  · exact .inr q
mutual
/-- numbers and tuples alone -/
def tupD : PyData → Bool
  | .none => true
  | .int _ => true
  | .tuple xs => tupDs xs
  | _ => false
def tupDs : List PyData → Bool
  | [] => true
  | x :: xs => tupD x && tupDs xs
end
mutual
theorem dp_keep {K : PySem.W.Frag} {H H' : Hp} (e : KeepT K H H') : ∀ (d : PyData) (v : V), tupD d = true → Dp K H v d → Dp K H' v d
  | .none, _, _, h => by cases h; exact .non
  | .int _, _, _, h => by cases h; exact .int _
  | .tuple ds, _, t, h => by cases h with | tup h1 h2 => exact .tup (e _ _ h1) (dp_keeps e ds _ (by simpa [tupD] using t) h2)
  | .bool _, _, t, _ => by simp [tupD] at t
  | .str _, _, t, _ => by simp [tupD] at t
  | .list _, _, t, _ => by simp [tupD] at t
  | .dict _, _, t, _ => by simp [tupD] at t
theorem dp_keeps {K : PySem.W.Frag} {H H' : Hp} (e : KeepT K H H') : ∀ (ds : List PyData) (vs : List V), tupDs ds = true → DpAll K H vs ds → DpAll K H' vs ds
  | [], _, _, h => by cases h; exact .nil
  | d :: ds, _, t, h => by
    simp only [tupDs, Bool.and_eq_true] at t
    cases h with
    | cons h1 h2 => exact .cons (dp_keep e d _ t.1 h1) (dp_keeps e ds _ t.2 h2)
end
theorem tupDs_of {xs : List PyData} (h : ∀ x ∈ xs, tupD x = true) : tupDs xs = true := by
  induction xs with
  | nil => rw [tupDs]
  | cons x xs ih =>
    rw [tupDs, h x List.mem_cons_self, ih fun y hy => h y (List.mem_cons_of_mem _ hy)]
    rfl
theorem tupD_nums (l : List Nat) : tupD (.tuple (dN l)) = true := by
  rw [tupD]
  refine tupDs_of fun x hx => ?_
  obtain ⟨n, _, rfl⟩ := List.mem_map.mp hx
  rw [tupD]
theorem tupD_dress (x : Piece) : tupD (dressD x) = true := by
  unfold dressD
  rw [tupD]
  refine tupDs_of fun d hd => ?_
  simp only [List.mem_cons, List.not_mem_nil, or_false] at hd
  rcases hd with rfl | rfl | rfl | rfl | rfl
  · exact tupD_nums _
  · exact tupD_nums _
  · exact tupD_nums _
  · rw [tupD]
    refine tupDs_of fun y hy => ?_
    obtain ⟨z, _, rfl⟩ := List.mem_map.mp hy
    unfold pendD
    simp [tupD, tupDs]
  · exact tupD_nums _
/-! ### the table -/
def changeD (c : Change) : PyData := .tuple [.int (c.author : Nat), .int (c.time : Nat), .int (c.kind : Nat), .tuple (dN (Vatrkd.digits c.time))]
theorem tupD_change (c : Change) : tupD (changeD c) = true := by
  unfold changeD
  have := tupD_nums (Vatrkd.digits c.time)
  simp only [tupD, tupDs] at this ⊢
  simp [this]
/-- at p the list of the table's changes -/
def TabAt (K : PySem.W.Frag) (H : Hp) (p : Addr) (tb : List Change) : Prop := ∃ bs : List Addr, H p = some (.lst (bs.map V.ref)) ∧ Paired (fun b c => Dp K H (.ref b) (changeD c)) bs tb
theorem TabAt.same {K : PySem.W.Frag} {H H' : Hp} {p : Addr} {tb : List Change} (e : Same H H') (h : TabAt K H p tb) : TabAt K H' p tb := by
  obtain ⟨bs, h1, h2⟩ := h
  exact ⟨bs, e _ _ h1, Paired.mapP h2 fun b c z => dp_same e _ _ z⟩
theorem change_at {K : PySem.W.Frag} {H : Hp} {b : Addr} {c : Change} (h : Dp K H (.ref b) (changeD c)) : ∃ ta, SqT K H b [.int (c.author : Nat), .int (c.time : Nat), .int (c.kind : Nat), .ref ta] ∧ SqT K H ta (vN (Vatrkd.digits c.time)) := by
  have key : ∀ (l : List Nat) (vs : List V), DpAll K H vs (dN l) → vs = vN l := by
    intro l
    induction l with
    | nil => intro vs h; cases h; rfl
    | cons n r ih =>
      intro vs h
      cases h with
      | cons h1 h2 =>
        cases h1
        rw [ih _ h2]
        rfl
  unfold changeD at h
  cases h with
  | tup h1 h2 =>
    cases h2 with
    | cons a1 h2 =>
      cases a1
      cases h2 with
      | cons a2 h2 =>
        cases a2
        cases h2 with
        | cons a3 h2 =>
          cases a3
          cases h2 with
          | cons a4 h2 =>
            cases h2
            cases a4 with
            | tup b1 b2 =>
              rw [key _ _ b2] at b1
              exact ⟨_, h1, b1⟩
/-! ### marks at odds -/
def key3 (it : Vatrkd.Item) : List Int := [((Tm.it4 it).1 : Nat), ((Tm.it4 it).2.1 : Nat), ((Tm.it4 it).2.2.1 : Nat)]
theorem clash_key {n : Nat} (hn : n < 10 ^ 18) {x y : Vatrkd.Item} (hx : Vatrkd.inRange n x = true) (hy : Vatrkd.inRange n y = true) : Vatrkd.clash x y = decide (key3 x = key3 y) := by
  have c1 : ∀ {c : Nat}, (decide (1 ≤ c) && decide (c ≤ n)) = true → Tm.cap c = c := fun {c} h => by
    rw [Bool.and_eq_true, decide_eq_true_eq, decide_eq_true_eq] at h
    exact Tm.cap_of hn h.2
  have c2 : ∀ {c v : Nat}, (decide (1 ≤ c) && (decide (c ≤ n) && decide (v ≤ 99))) = true → Tm.cap c = c := fun {c v} h => by
    rw [Bool.and_eq_true, Bool.and_eq_true, decide_eq_true_eq, decide_eq_true_eq] at h
    exact Tm.cap_of hn h.2.1
  have c3 : ∀ {t : Nat}, (decide (1 ≤ t) && decide (t ≤ 999)) = true → Tm.cap t = t := fun {t} h => by
    rw [Bool.and_eq_true, decide_eq_true_eq, decide_eq_true_eq] at h
    exact Tm.cap_of (b := 999) (by decide) h.2
  have dm : ∀ {a b c a' b' c' : Nat}, a ≠ a' → false = decide (([(a : Int), (b : Int), (c : Int)]) = [(a' : Int), (b' : Int), (c' : Int)]) := fun {a b c a' b' c'} h => by
    refine (decide_eq_false fun e => h ?_).symm
    have := (List.cons.inj e).1
    exact Int.ofNat.inj this
  have dk : ∀ {a b c b' c' : Nat}, ((b == b') && (c == c')) = decide (([(a : Int), (b : Int), (c : Int)]) = [(a : Int), (b' : Int), (c' : Int)]) := fun {a b c b' c'} => by
    rw [Bool.eq_iff_iff, decide_eq_true_eq, Bool.and_eq_true, beq_iff_eq, beq_iff_eq]
    constructor
    · rintro ⟨rfl, rfl⟩; rfl
    · intro e
      have e1 := (List.cons.inj (List.cons.inj e).2).1
      have e2 := (List.cons.inj (List.cons.inj (List.cons.inj e).2).2).1
      exact ⟨Int.ofNat.inj e1, Int.ofNat.inj e2⟩
  have d1 : ∀ {a b b' : Nat}, (b == b') = decide (([(a : Int), (b : Int), ((0 : Nat) : Int)]) = [(a : Int), (b' : Int), ((0 : Nat) : Int)]) := fun {a b b'} => by
    rw [← dk]
    simp
  have d2 : ∀ {a b b' : Nat}, (b == b') = decide (([(a : Int), ((0 : Nat) : Int), (b : Int)]) = [(a : Int), ((0 : Nat) : Int), (b' : Int)]) := fun {a b b'} => by
    rw [← dk]
    simp
  cases x with
  | look k v =>
    cases y with
    | look k' v' => exact d2
    | ins c => exact dm (by simp [Tm.it4])
    | del c => exact dm (by simp [Tm.it4])
    | pend c j w => exact dm (by simp [Tm.it4])
    | tag t => exact dm (by simp [Tm.it4])
  | ins c =>
    cases y with
    | look k' v' => exact dm (by simp [Tm.it4])
    | ins d =>
      have e1 := c1 hx
      have e2 := c1 hy
      show (c == d) = decide (([((43 : Nat) : Int), ((Tm.cap c : Nat) : Int), ((0 : Nat) : Int)]) = [((43 : Nat) : Int), ((Tm.cap d : Nat) : Int), ((0 : Nat) : Int)])
      rw [e1, e2]; exact d1
    | del c => exact dm (by simp [Tm.it4])
    | pend c j w => exact dm (by simp [Tm.it4])
    | tag t => exact dm (by simp [Tm.it4])
  | del c =>
    cases y with
    | look k' v' => exact dm (by simp [Tm.it4])
    | del d =>
      have e1 := c1 hx
      have e2 := c1 hy
      show (c == d) = decide (([((45 : Nat) : Int), ((Tm.cap c : Nat) : Int), ((0 : Nat) : Int)]) = [((45 : Nat) : Int), ((Tm.cap d : Nat) : Int), ((0 : Nat) : Int)])
      rw [e1, e2]; exact d1
    | ins c => exact dm (by simp [Tm.it4])
    | pend c j w => exact dm (by simp [Tm.it4])
    | tag t => exact dm (by simp [Tm.it4])
  | tag c =>
    cases y with
    | look k' v' => exact dm (by simp [Tm.it4])
    | tag d =>
      have e1 := c3 hx
      have e2 := c3 hy
      show (c == d) = decide (([((35 : Nat) : Int), ((Tm.cap c : Nat) : Int), ((0 : Nat) : Int)]) = [((35 : Nat) : Int), ((Tm.cap d : Nat) : Int), ((0 : Nat) : Int)])
      rw [e1, e2]; exact d1
    | ins c => exact dm (by simp [Tm.it4])
    | pend c j w => exact dm (by simp [Tm.it4])
    | del t => exact dm (by simp [Tm.it4])
  | pend c k v =>
    cases y with
    | look k' v' => exact dm (by simp [Tm.it4])
    | pend d j w =>
      have e1 := c2 hx
      have e2 := c2 hy
      show (c == d && k == j) = decide (([((42 : Nat) : Int), ((Tm.cap c : Nat) : Int), ((k : Nat) : Int)]) = [((42 : Nat) : Int), ((Tm.cap d : Nat) : Int), ((j : Nat) : Int)])
      rw [e1, e2]; exact dk
    | ins c => exact dm (by simp [Tm.it4])
    | tag c => exact dm (by simp [Tm.it4])
    | del t => exact dm (by simp [Tm.it4])
theorem noClash_keys {n : Nat} (hn : n < 10 ^ 18) : ∀ {its : List Vatrkd.Item}, its.all (Vatrkd.inRange n) = true → (Vatrkd.noClash its = true ↔ (its.map key3).Nodup)
  | [], _ => ⟨fun _ => List.nodup_nil, fun _ => rfl⟩
  | x :: r, h => by
    rw [List.all_cons, Bool.and_eq_true] at h
    have ih := noClash_keys hn (its := r) h.2
    show ((r.all fun y => !Vatrkd.clash x y) && Vatrkd.noClash r) = true ↔ _
    rw [Bool.and_eq_true, ih, List.map_cons, List.nodup_cons, List.all_eq_true]
    refine and_congr ⟨fun a z => ?_, fun a y hy => ?_⟩ Iff.rfl
    · obtain ⟨y, hy, e⟩ := List.mem_map.mp z
      have := a y hy
      rw [clash_key hn h.1 (List.all_eq_true.mp h.2 y hy), decide_eq_true e.symm] at this
      cases this
    · rw [clash_key hn h.1 (List.all_eq_true.mp h.2 y hy), decide_eq_false fun e => a (List.mem_map.mpr ⟨y, hy, e.symm⟩)]
      rfl
/-- the keys that come, numbered -/
def codeK (n : Nat) : List Int → Nat
  | [m, c, k] => if m = 35 then c.toNat - 1 else if m = 0 then 999 + k.toNat else if m = 43 then 1003 + (c.toNat - 1) else if m = 45 then 1003 + n + (c.toNat - 1) else 1003 + 2 * n + 4 * (c.toNat - 1) + k.toNat
  | _ => 0
theorem key_shape {n : Nat} (hn : n < 10 ^ 18) {it : Vatrkd.Item} (hr : Vatrkd.inRange n it = true) (hp : Tm.placeOk it = true) : ∃ m c k : Nat, key3 it = [(m : Int), (c : Int), (k : Int)] ∧
    ((m = 35 ∧ 1 ≤ c ∧ c ≤ 999 ∧ k = 0) ∨ (m = 0 ∧ c = 0 ∧ k < 4) ∨ (m = 43 ∧ 1 ≤ c ∧ c ≤ n ∧ k = 0) ∨ (m = 45 ∧ 1 ≤ c ∧ c ≤ n ∧ k = 0) ∨ (m = 42 ∧ 1 ≤ c ∧ c ≤ n ∧ k < 4)) := by
  refine ⟨_, _, _, rfl, ?_⟩
  cases it with
  | look k v =>
    have := of_decide_eq_true hp
    exact .inr (.inl ⟨rfl, rfl, this⟩)
  | ins c =>
    have h : (decide (1 ≤ c) && decide (c ≤ n)) = true := hr
    rw [Bool.and_eq_true, decide_eq_true_eq, decide_eq_true_eq] at h
    refine .inr (.inr (.inl ⟨rfl, ?_, ?_, rfl⟩))
    · show 1 ≤ Tm.cap c; rw [Tm.cap_of hn h.2]; exact h.1
    · show Tm.cap c ≤ n; rw [Tm.cap_of hn h.2]; exact h.2
  | del c =>
    have h : (decide (1 ≤ c) && decide (c ≤ n)) = true := hr
    rw [Bool.and_eq_true, decide_eq_true_eq, decide_eq_true_eq] at h
    refine .inr (.inr (.inr (.inl ⟨rfl, ?_, ?_, rfl⟩)))
    · show 1 ≤ Tm.cap c; rw [Tm.cap_of hn h.2]; exact h.1
    · show Tm.cap c ≤ n; rw [Tm.cap_of hn h.2]; exact h.2
  | tag c =>
    have h : (decide (1 ≤ c) && decide (c ≤ 999)) = true := hr
    rw [Bool.and_eq_true, decide_eq_true_eq, decide_eq_true_eq] at h
    refine .inl ⟨rfl, ?_, ?_, rfl⟩
    · show 1 ≤ Tm.cap c; rw [Tm.cap_of (b := 999) (by decide) h.2]; exact h.1
    · show Tm.cap c ≤ 999; rw [Tm.cap_of (b := 999) (by decide) h.2]; exact h.2
  | pend c k v =>
    have h : (decide (1 ≤ c) && (decide (c ≤ n) && decide (v ≤ 99))) = true := hr
    rw [Bool.and_eq_true, Bool.and_eq_true, decide_eq_true_eq, decide_eq_true_eq, decide_eq_true_eq] at h
    have := of_decide_eq_true hp
    refine .inr (.inr (.inr (.inr ⟨rfl, ?_, ?_, this⟩)))
    · show 1 ≤ Tm.cap c; rw [Tm.cap_of hn h.2.1]; exact h.1
    · show Tm.cap c ≤ n; rw [Tm.cap_of hn h.2.1]; exact h.2.1
theorem code_lt {n : Nat} {m c k : Nat} (h : (m = 35 ∧ 1 ≤ c ∧ c ≤ 999 ∧ k = 0) ∨ (m = 0 ∧ c = 0 ∧ k < 4) ∨ (m = 43 ∧ 1 ≤ c ∧ c ≤ n ∧ k = 0) ∨ (m = 45 ∧ 1 ≤ c ∧ c ≤ n ∧ k = 0) ∨ (m = 42 ∧ 1 ≤ c ∧ c ≤ n ∧ k < 4)) :
    codeK n [(m : Int), (c : Int), (k : Int)] < 1003 + 6 * n ∧ codeK n [(m : Int), (c : Int), (k : Int)] = (if m = 35 then c - 1 else if m = 0 then 999 + k else if m = 43 then 1003 + (c - 1) else if m = 45 then 1003 + n + (c - 1) else 1003 + 2 * n + 4 * (c - 1) + k) := by
  have e : codeK n [(m : Int), (c : Int), (k : Int)] = (if m = 35 then c - 1 else if m = 0 then 999 + k else if m = 43 then 1003 + (c - 1) else if m = 45 then 1003 + n + (c - 1) else 1003 + 2 * n + 4 * (c - 1) + k) := by
    unfold codeK
    simp only [Int.toNat_natCast]
    rcases h with h | h | h | h | h <;> (obtain ⟨rfl, h⟩ := h; rfl)
  refine ⟨?_, e⟩
  rw [e]
  rcases h with h | h | h | h | h <;> (obtain ⟨rfl, h⟩ := h; simp; omega)
theorem few_items {n : Nat} (hn : n < 10 ^ 18) {its : List Vatrkd.Item} {ks : List (Addr × List Int)} (hr : its.all (Vatrkd.inRange n) = true) (hp : ∀ it ∈ its, Tm.placeOk it = true) (hk : ∀ p ∈ ks, ∃ it ∈ its, p.2 = key3 it)
    (hb : ks.length < 4914 ∨ n ≤ 650) : Ts.Few ks := by
  intro L nd sub
  rcases hb with hb | hb
  · have h3 : ∀ (zs vs : List (List Int)), zs.Nodup → (∀ z ∈ zs, z ∈ vs) → zs.length ≤ vs.length := by
      intro zs
      induction zs with
      | nil => intro vs _ _; exact Nat.zero_le _
      | cons z zs ihz =>
        intro vs hz hv
        have hzz := List.nodup_cons.mp hz
        have hm := hv z List.mem_cons_self
        have := ihz (vs.erase z) hzz.2 fun u hu => (List.mem_erase_of_ne fun e => hzz.1 (by rw [← e]; exact hu)).mpr (hv u (List.mem_cons_of_mem _ hu))
        rw [List.length_erase_of_mem hm] at this
        have hp : 0 < vs.length := List.length_pos_of_mem hm
        rw [List.length_cons]
        omega
    have := h3 _ (ks.map fun p => p.2) nd fun z hz => by
      obtain ⟨p, hp, rfl⟩ := List.mem_map.mp hz
      exact List.mem_map.mpr ⟨p, sub p hp, rfl⟩
    rw [List.length_map, List.length_map] at this
    omega
  · have nd2 : ((L.map fun p => p.2).map (codeK n)).Nodup := by
      refine List.pairwise_map.mpr (nd.imp_of_mem fun {x y} hx hy hne e => hne ?_)
      obtain ⟨p, hpL, rfl⟩ := List.mem_map.mp hx
      obtain ⟨q, hqL, rfl⟩ := List.mem_map.mp hy
      obtain ⟨it, hit, e1⟩ := hk p (sub p hpL)
      obtain ⟨it', hit', e2⟩ := hk q (sub q hqL)
      obtain ⟨m, c, k, f1, f2⟩ := key_shape hn (List.all_eq_true.mp hr it hit) (hp it hit)
      obtain ⟨m', c', k', f1', f2'⟩ := key_shape hn (List.all_eq_true.mp hr it' hit') (hp it' hit')
      rw [e1, e2, f1, f1'] at e ⊢
      rw [(code_lt f2).2, (code_lt f2').2] at e
      have : m = m' ∧ c = c' ∧ k = k' := by
        rcases f2 with f2 | f2 | f2 | f2 | f2 <;> rcases f2' with g | g | g | g | g <;> (obtain ⟨rfl, f2⟩ := f2; obtain ⟨rfl, g⟩ := g; simp at e; omega)
      obtain ⟨rfl, rfl, rfl⟩ := this
      rfl
    have := nat_nodup_len _ (List.range (1003 + 6 * n)) nd2 fun x hx => by
      obtain ⟨y, hy, rfl⟩ := List.mem_map.mp hx
      obtain ⟨p, hpL, rfl⟩ := List.mem_map.mp hy
      obtain ⟨it, hit, e1⟩ := hk p (sub p hpL)
      obtain ⟨m, c, k, f1, f2⟩ := key_shape hn (List.all_eq_true.mp hr it hit) (hp it hit)
      rw [e1, f1]
      exact List.mem_range.mpr (code_lt f2).1
    rw [List.length_map, List.length_map, List.length_range] at this
    omega
end Td
set_option maxRecDepth 100000
set_option maxHeartbeats 4000000
namespace Td
open PySem PySem.Spec PyProof.Rows L2
open Vatrka (Piece Pending Change)
theorem atI_nat {α : Type} {xs : List α} {i : Nat} {x : α} (h : xs[i]? = some x) : atI xs (i : Int) = some x := by
  have hl : i < xs.length := (List.getElem?_eq_some_iff.mp h).1
  unfold atI
  rw [ixN_nat hl]
  exact h
theorem kind_at {tb : List Change} {c : Nat} {x : Change} (h : tb[c - 1]? = some x) : Vatrkd.kindOf tb c = x.kind := by
  unfold Vatrkd.kindOf
  rw [h]
abbrev s_is_at_odds : Stmt := top 70
abbrev n_is_at_odds : List Str := ["items", "table", "told", "item"]
abbrev p_is_at_odds : List Str := ["items", "table"]
theorem sc_is_at_odds : FnScope n_is_at_odds p_is_at_odds (defScope s_is_at_odds) := ⟨rfl, rfl, rfl, by decide +kernel, rfl, by decide +kernel, by decide +kernel⟩
section
variable {P : Program} {w : World} {K : PySem.W.Frag} {mg : Str → Option Value} {base : Heap} {C : Addr}
def sp_is_at_odds (K : PySem.W.Frag) (C : Addr) : Sp := fun vs H Q _ => ∃ (a : Addr) (its : List Vatrkd.Item) (b : Addr) (tb : List Change), vs = [.ref a, .ref b] ∧ ItemsAt C H a its ∧ TabAt K H b tb ∧ tb.length < 10 ^ 18 ∧ its.length < 1000001 ∧ its.all (Vatrkd.inRange tb.length) = true ∧ (∀ it ∈ its, Tm.placeOk it = true) ∧
  (its.length < 4914 ∨ tb.length ≤ 650) ∧ ∀ H', Same H H' → Q (.bl (!Vatrkd.fits tb its)) H'
theorem ok_is_at_odds {k : Nat} (G : Glob mg) (T : CT K C fItem) (c_names_change : C8.Cal P w K mg base 1 "names_change" (sp_names_change C) []) (c_goes_with : C8.Cal P w K mg base 1 "goes_with" sp_goes_with []) (D : Stands K mg "is_at_odds" s_is_at_odds) : C8.Cal P w K mg base (k + 2) "is_at_odds" (sp_is_at_odds K C) [] := by
  refine cal_of D sc_is_at_odds (fun vs H Q E h => ?_) (fun _ _ _ _ _ _ us hl => match us, hl with | [_, _], _ => rfl) (fun f cdv A outer s H vs Q E hr h => ?_)
  · obtain ⟨a, its, b, tb, rfl, _⟩ := h
    rfl
  · obtain ⟨a, its, b, tb, rfl, ⟨as, h1, h2⟩, hT, hn, hlen, hin, hpl, hb, q⟩ := h
    refine ⟨_, (pss_cons (ps_setLc (i := 2) (own := [("item", 3)]) (g := (gName 3)) (tt := tYes) (te := (tTup (tCons (tFld K (tVar 3) "mark") (tCons (tFld K (tVar 3) "number") (tCons (tFld K (tVar 3) "place") tNil))))) rfl sc_is_at_odds.nd rfl rfl (sw_true rfl rfl rfl (by decide +kernel)) (pi_list (pv 0)) (blkOk_by (N := ["items", "table", "told", "item"]) (sc := defScope s_is_at_odds) (by decide +kernel)) (fun _ _ _ _ _ => (pg_name (i := 3) sc_is_at_odds.nd rfl (Or.inl rfl))) (fun _ _ _ _ _ => pts_nil) (fun _ _ _ _ _ => (pe_tup (pa_cons (pe_fld (pv 3) rfl) (pa_cons (pe_fld (pv 3) rfl) (pa_cons (pe_fld (pv 3) rfl) pa_nil))))))
      (pss_cons (ps_if (pt_cmpR op_lt (Ts.pe_lenSetT (by rfl) G.b_len (by rfl) G.b_set hr.units (id (pv 2))) (pe_callB call_len_seq (by rfl) G.b_len (by decide +kernel) (pa_cons (pv 2) pa_nil)) (nomark _))
      (pss_one (ps_ret pe_bl))
      pss_nil)
      (pss_cons (ps_for PassesOwn.never rfl (pi_list (pv 0)) (pg_name (i := 3) sc_is_at_odds.nd rfl (Or.inl rfl))
      (pss_one (ps_if (PW.pt (pw_and (pt_val (C8.pe_c c_names_change hr (by omega) (by rfl) (pa_cons (pv 3) pa_nil))) (pw_and1 (pt_not (pt_val (C8.pe_c c_goes_with hr (by omega) (by rfl) (pa_cons (pe_fld (pv 3) rfl) (pa_cons (pe_ix ix_tup (pe_ix ix_list (pv 1) (pe_op op_sub (pe_fld (pv 3) rfl) pe_int) (fun _ _ => rfl)) (pe_gv G.c_KIND) (fun _ _ => rfl)) pa_nil))))))))
      (pss_one (ps_ret pe_bl))
      pss_nil)))
      (pss_one (ps_ret pe_bl))))), ?_⟩
    refine ⟨_, rfl, a, rfl, ⟨_, SqL.of h1⟩, fun D nD => ?_⟩
    refine lc_list (xs := as.map V.ref) (fun i H1 => Same H H1 ∧ ∃ bs : List Addr, H1 D = some (.lst (bs.map V.ref)) ∧ Paired (fun b y => H1 b = some (.tup ((key3 y).map V.int))) bs (its.take i))
      ⟨same_upd nD, [], upd_same, .nil⟩ (fun i H1 _ hP => SqL.of (hP.1 _ _ h1)) (fun i x H1 hx hP => ?_) (fun H1 hP => ?_)
    · obtain ⟨s2, bs, hb1, hb2⟩ := hP
      rw [List.getElem?_map] at hx
      obtain ⟨xa, hxa, rfl⟩ := Option.map_eq_some_iff.mp hx
      obtain ⟨it, hit, dx, hx0⟩ := paired_get h2 hxa
      have hx1 := s2 _ _ hx0
      have hil : i < its.length := (List.getElem?_eq_some_iff.mp hit).1
      refine ⟨rfl, _, rfl, xa, C, dx, _, _, rfl, hx1, T.cl, T.no _ (by simp), lkI0, _, rfl, xa, C, dx, _, _, rfl, hx1, T.cl, T.no _ (by simp), lkI1, _, rfl, xa, C, dx, _, _, rfl, hx1, T.cl, T.no _ (by simp), lkI2, (by show 3 ≤ sizeLine; decide), fun tp ntp => ?_⟩
      have hD3 := (same_upd (o := .tup [.int ((Tm.it4 it).1 : Nat), .int ((Tm.it4 it).2.1 : Nat), .int ((Tm.it4 it).2.2.1 : Nat)]) ntp) _ _ hb1
      have ntD : tp ≠ D := fun z => by rw [z, hb1] at ntp; cases ntp
      refine ⟨_, hD3, ?_, same_write nD (s2.trans (same_upd ntp)), bs ++ [tp], ?_, ?_⟩
      · rw [List.length_map, Paired.length hb2, List.length_take]
        have e : (1000001 : Nat) < sizeLine := by decide
        omega
      · rw [upd_same, List.map_append]
        rfl
      · rw [List.take_add_one, hit]
        refine paired_snoc (Paired.mapP hb2 fun b y z => ?_) ?_
        · have nb : b ≠ D := fun z2 => by rw [z2, hb1] at z; cases z
          rw [upd_ne nb]
          exact same_upd ntp _ _ z
        · rw [upd_ne ntD]
          exact upd_same
    · obtain ⟨s2, bs, hb1, hb2⟩ := hP
      rw [List.length_map, Paired.length h2, List.take_length] at hb2
      have hbl : bs.length = its.length := Paired.length hb2
      have e1 : (bs.zip (its.map key3)).map (fun p => V.ref p.1) = bs.map V.ref := by
        have e : (bs.zip (its.map key3)).map Prod.fst = bs := List.map_fst_zip (by rw [List.length_map, hbl]; exact Nat.le_refl _)
        conv => rhs; rw [← e]
        rw [List.map_map]
        rfl
      have e2 : (bs.zip (its.map key3)).map (fun p => p.2) = its.map key3 := List.map_snd_zip (by rw [List.length_map, hbl]; exact Nat.le_refl _)
      have ek : ∀ p ∈ bs.zip (its.map key3), ∃ it ∈ its, p.2 = key3 it ∧ H1 p.1 = some (.tup ((key3 it).map V.int)) := by
        have key : ∀ {bs : List Addr} {its : List Vatrkd.Item}, Paired (fun b y => H1 b = some (.tup ((key3 y).map V.int))) bs its → ∀ p ∈ bs.zip (its.map key3), ∃ it ∈ its, p.2 = key3 it ∧ H1 p.1 = some (.tup ((key3 it).map V.int)) := by
          intro bs its h
          induction h with
          | nil => intro p hp; cases hp
          | cons r t ih =>
            intro p hp
            rw [List.map_cons, List.zip_cons_cons] at hp
            rcases List.mem_cons.mp hp with rfl | hp
            · exact ⟨_, List.mem_cons_self, rfl, r⟩
            · obtain ⟨it, h1, h2⟩ := ih p hp
              exact ⟨it, List.mem_cons_of_mem _ h1, h2⟩
        exact key hb2
      have hfew : Ts.Few (bs.zip (its.map key3)) := by
        refine few_items hn hin hpl (fun p hp => ?_) ?_
        · obtain ⟨it, g1, g2, _⟩ := ek p hp
          exact ⟨it, g1, g2⟩
        · rw [List.length_zip, List.length_map, hbl, Nat.min_self]
          exact hb
      have elen : (bs.zip (its.map key3)).length = its.length := by rw [List.length_zip, List.length_map, hbl, Nat.min_self]
      refine ⟨_, rfl, D, bs.zip (its.map key3), rfl, by rw [e1]; exact SqL.of hb1, fun p hp => ?_, hfew, fun n hn1 hn2 => ?_⟩
      · obtain ⟨it, g1, g2, g3⟩ := ek p hp
        rw [g2]
        exact SqT.of g3
      · rw [e2, ← noClash_keys hn hin] at hn2
        rw [elen] at hn1 hn2
        refine ⟨_, rfl, D, _, rfl, .inl (SqL.of hb1), _, _, rfl, rfl, _, rfl, ite2 (fun g => ?_) (fun g => ?_)⟩
        · have g1 := lt_dec g
          rw [List.length_map, hbl] at g1
          have g2 : ¬ Vatrkd.noClash its = true := fun z => by have := hn2.mpr z; omega
          have g3 : Vatrkd.fits tb its = false := by
            unfold Vatrkd.fits
            rw [Bool.eq_false_iff.mpr g2]
            rfl
          rw [g3] at q
          exact q H1 s2
        · have g1 := ge_dec g
          rw [List.length_map, hbl] at g1
          have g2 : Vatrkd.noClash its = true := hn2.mp (by omega)
          have g3 : Vatrkd.fits tb its = its.all (Vatrkd.kindFits tb) := by
            unfold Vatrkd.fits
            rw [g2]
            rfl
          rw [g3] at q
          have bad : ∀ (i : Nat) (it : Vatrkd.Item) H', its[i]? = some it → Vatrkd.kindFits tb it = false → Same H H' → Q (.bl true) H' := fun i it H' hi hb s1 => by
            have e : its.all (Vatrkd.kindFits tb) = false := by
              cases z : its.all (Vatrkd.kindFits tb) with
              | false => rfl
              | true =>
                have := List.all_eq_true.mp z it (List.mem_of_getElem? hi)
                rw [hb] at this
                cases this
            rw [e] at q
            exact q H' s1
          refine ⟨_, rfl, a, rfl, ⟨_, SqL.of (s2 _ _ h1)⟩, for_list (xs := as.map V.ref) (fun i σ H2 => ∃ y, σ = [some (.ref a), some (.ref b), some (.ref D), y] ∧ Same H H2 ∧ (its.take i).all (Vatrkd.kindFits tb) = true) ⟨_, rfl, s2, rfl⟩ (fun i σ H2 _ hP => ?_) (fun i x σ H2 hx hP => ?_) (fun σ H2 hP => ?_)⟩
          · obtain ⟨_, _, s1, _⟩ := hP
            exact SqL.of (s1 _ _ h1)
          · obtain ⟨y, rfl, s1, hall⟩ := hP
            rw [List.getElem?_map] at hx
            obtain ⟨xa, hxa, rfl⟩ := Option.map_eq_some_iff.mp hx
            obtain ⟨it, hit, dx, hx0⟩ := paired_get h2 hxa
            have good : Vatrkd.kindFits tb it = true → ∀ H3, Same H H3 → ∃ y, [some (V.ref a), some (V.ref b), some (V.ref D), some (V.ref xa)] = [some (.ref a), some (.ref b), some (.ref D), y] ∧ Same H H3 ∧ (its.take (i + 1)).all (Vatrkd.kindFits tb) = true := fun hg H3 s3 => by
              refine ⟨_, rfl, s3, ?_⟩
              rw [List.take_add_one, hit, List.all_append, hall]
              show ([it].all (Vatrkd.kindFits tb)) = true
              rw [List.all_cons, hg]
              rfl
            have hx1 := s1 _ _ hx0
            refine ⟨_, rfl, xa, it, rfl, ⟨dx, hx1⟩, fun H3 s3 => ⟨_, rfl, ?_⟩⟩
            have hx3 := s3 _ _ hx1
            have s13 := s1.trans s3
            cases hnc : namesC it with
            | false =>
              refine good ?_ H3 s13
              cases it with
              | look kk v => rfl
              | tag t => rfl
              | ins c => cases hnc
              | del c => cases hnc
              | pend c kk v => cases hnc
            | true =>
              have num : ∃ c, (Tm.it4 it).2.1 = c ∧ 1 ≤ c ∧ c ≤ tb.length ∧ Vatrkd.kindFits tb it = goesK (Tm.it4 it).1 (Vatrkd.kindOf tb c) := by
                have hi := List.all_eq_true.mp hin it (List.mem_of_getElem? hit)
                cases it with
                | ins c =>
                  have hc : (decide (1 ≤ c) && decide (c ≤ tb.length)) = true := hi
                  rw [Bool.and_eq_true, decide_eq_true_eq, decide_eq_true_eq] at hc
                  refine ⟨c, Tm.cap_of hn hc.2, hc.1, hc.2, ?_⟩
                  show (Vatrkd.kindOf tb c == 1 || Vatrkd.kindOf tb c == 4) = decide (Vatrkd.kindOf tb c = 1 ∨ Vatrkd.kindOf tb c = 4)
                  rw [Bool.eq_iff_iff]; simp
                | del c =>
                  have hc : (decide (1 ≤ c) && decide (c ≤ tb.length)) = true := hi
                  rw [Bool.and_eq_true, decide_eq_true_eq, decide_eq_true_eq] at hc
                  refine ⟨c, Tm.cap_of hn hc.2, hc.1, hc.2, ?_⟩
                  show (Vatrkd.kindOf tb c == 2 || Vatrkd.kindOf tb c == 4) = decide (Vatrkd.kindOf tb c = 2 ∨ Vatrkd.kindOf tb c = 4)
                  rw [Bool.eq_iff_iff]; simp
                | pend c kk v =>
                  have hc : (decide (1 ≤ c) && (decide (c ≤ tb.length) && decide (v ≤ 99))) = true := hi
                  rw [Bool.and_eq_true, Bool.and_eq_true, decide_eq_true_eq, decide_eq_true_eq] at hc
                  refine ⟨c, Tm.cap_of hn hc.2.1, hc.1, hc.2.1, ?_⟩
                  show (Vatrkd.kindOf tb c == 3) = decide (Vatrkd.kindOf tb c = 3)
                  rw [Bool.eq_iff_iff]; simp
                | look kk v => cases hnc
                | tag t => cases hnc
              obtain ⟨c, hc1, hc2, hc3, hc4⟩ := num
              obtain ⟨ch, hch⟩ : ∃ ch, tb[c - 1]? = some ch := ⟨tb[c - 1]'(by omega), List.getElem?_eq_getElem (by omega)⟩
              rw [kind_at hch] at hc4
              obtain ⟨cs, ht1, ht2⟩ := hT.same s13
              obtain ⟨ca, hca, hcd⟩ := paired_get2 ht2 hch
              obtain ⟨ta, hc5, _⟩ := change_at hcd
              refine ⟨_, rfl, xa, C, dx, _, _, rfl, hx3, T.cl, T.no _ (by simp), lkI0, _, rfl, _, rfl, xa, C, dx, _, _, rfl, hx3, T.cl, T.no _ (by simp), lkI1, _, _, rfl, rfl, b, _, _, _, rfl, rfl, SqL.of ht1, ?_, ca, _, _, _, rfl, rfl, hc5, at_of (j := 2) rfl rfl, (Tm.it4 it).1, ch.kind, rfl, fun H4 s4 => ⟨_, rfl, ?_⟩⟩
              · have e : ((Tm.it4 it).2.1 : Int) - 1 = ((c - 1 : Nat) : Int) := by omega
                rw [e]
                exact atI_nat (by rw [List.getElem?_map, hca]; rfl)
              · rw [← hc4]
                cases hk : Vatrkd.kindFits tb it with
                | true => exact good hk H4 (s13.trans s4)
                | false => exact bad i it H4 hit hk (s13.trans s4)
          · obtain ⟨y, rfl, s1, hall⟩ := hP
            rw [List.length_map, Paired.length h2, List.take_length] at hall
            rw [hall] at q
            exact q H2 s1
end
end Td
set_option maxRecDepth 100000
set_option maxHeartbeats 4000000
namespace Td
open PySem PySem.Spec PyProof.Rows L2
open Vatrka (Piece Pending Change)
/-! ### pieces -/
def pieceD (x : Piece) : PyData := .tuple [.int (x.sign : Nat), dressD x]
theorem tupD_piece (x : Piece) : tupD (pieceD x) = true := by
  have := tupD_dress x
  unfold pieceD
  simp [tupD, tupDs, this]
/-- at p the list of a row's pieces -/
def RowAt (K : PySem.W.Frag) (H : Hp) (p : Addr) (row : List Piece) : Prop := ∃ bs : List Addr, H p = some (.lst (bs.map V.ref)) ∧ Paired (fun b x => Dp K H (.ref b) (pieceD x)) bs row
theorem RowAt.same {K : PySem.W.Frag} {H H' : Hp} {p : Addr} {row : List Piece} (e : Same H H') (h : RowAt K H p row) : RowAt K H' p row := by
  obtain ⟨bs, h1, h2⟩ := h
  exact ⟨bs, e _ _ h1, Paired.mapP h2 fun b c z => dp_same e _ _ z⟩
/-- a piece's sign and dress -/
theorem piece_at {K : PySem.W.Frag} {H : Hp} {b : Addr} {x : Piece} (h : Dp K H (.ref b) (pieceD x)) : ∃ d, SqT K H b [.int (x.sign : Nat), .ref d] ∧ Dp K H (.ref d) (dressD x) := by
  unfold pieceD at h
  cases h with
  | tup h1 h2 =>
    cases h2 with
    | cons a1 h2 =>
      cases a1
      cases h2 with
      | cons a2 h2 =>
        cases h2
        have a2' := a2
        unfold dressD at a2
        cases a2 with
        | tup b1 b2 => exact ⟨_, h1, a2'⟩
theorem nums_vN {K : PySem.W.Frag} {H : Hp} : ∀ (l : List Nat) (vs : List V), DpAll K H vs (dN l) → vs = vN l := by
  intro l
  induction l with
  | nil => intro vs h; cases h; rfl
  | cons n r ih =>
    intro vs h
    cases h with
    | cons h1 h2 =>
      cases h1
      rw [ih _ h2]
      rfl
/-- a pending look -/
def PendAt (K : PySem.W.Frag) (H : Hp) (a : Addr) (y : Pending) : Prop := SqT K H a [.int (y.change : Nat), .int (y.prop : Nat), .int (y.value : Nat)]
theorem pends_at {K : PySem.W.Frag} {H : Hp} : ∀ (l : List Pending) (vs : List V), DpAll K H vs (l.map pendD) → ∃ as : List Addr, vs = as.map V.ref ∧ Paired (PendAt K H) as l := by
  intro l
  induction l with
  | nil => intro vs h; cases h; exact ⟨[], rfl, .nil⟩
  | cons y r ih =>
    intro vs h
    cases h with
    | cons h1 h2 =>
      obtain ⟨as, rfl, h3⟩ := ih _ h2
      unfold pendD at h1
      cases h1 with
      | tup g1 g2 =>
        cases g2 with
        | cons a1 g2 =>
          cases a1
          cases g2 with
          | cons a2 g2 =>
            cases a2
            cases g2 with
            | cons a3 g2 =>
              cases a3
              cases g2
              exact ⟨_ :: as, rfl, .cons g1 h3⟩
/-- a dress's parts -/
theorem dress_at {K : PySem.W.Frag} {H : Hp} {d : Addr} {x : Piece} (h : Dp K H (.ref d) (dressD x)) : ∃ lk ins del pe tg, SqT K H d [.ref lk, .ref ins, .ref del, .ref pe, .ref tg] ∧ SqT K H lk (vN x.look) ∧ SqT K H ins (vN x.ins) ∧ SqT K H del (vN x.del) ∧
    (∃ as : List Addr, SqT K H pe (as.map V.ref) ∧ Paired (PendAt K H) as x.pend) ∧ SqT K H tg (vN x.tags) := by
  unfold dressD at h
  cases h with
  | tup h1 h2 =>
    cases h2 with
    | cons a1 h2 =>
      cases a1 with
      | tup b1 c1 =>
        cases h2 with
        | cons a2 h2 =>
          cases a2 with
          | tup b2 c2 =>
            cases h2 with
            | cons a3 h2 =>
              cases a3 with
              | tup b3 c3 =>
                cases h2 with
                | cons a4 h2 =>
                  cases a4 with
                  | tup b4 c4 =>
                    cases h2 with
                    | cons a5 h2 =>
                      cases a5 with
                      | tup b5 c5 =>
                        cases h2
                        obtain ⟨as, rfl, hp⟩ := pends_at _ _ c4
                        rw [nums_vN _ _ c1] at b1
                        rw [nums_vN _ _ c2] at b2
                        rw [nums_vN _ _ c3] at b3
                        rw [nums_vN _ _ c5] at b5
                        exact ⟨_, _, _, _, _, h1, b1, b2, b3, ⟨as, b4, hp⟩, b5⟩
/-- the pieces of spans and their items -/
def rowOf (ss : List (List Nat × List Nat)) (itss : List (List Vatrkd.Item)) : List Piece := (ss.zip itss).flatMap fun p => p.1.2.map fun c => { dressOf p.2 with sign := c }
theorem rowOf_snoc {ss : List (List Nat × List Nat)} {itss : List (List Vatrkd.Item)} {i : Nat} {s : List Nat × List Nat} {its : List Vatrkd.Item} (h1 : ss[i]? = some s) (h2 : itss[i]? = some its) :
    rowOf (ss.take (i + 1)) (itss.take (i + 1)) = rowOf (ss.take i) (itss.take i) ++ s.2.map fun c => { dressOf its with sign := c } := by
  unfold rowOf
  have hi1 : i < ss.length := (List.getElem?_eq_some_iff.mp h1).1
  have hi2 : i < itss.length := (List.getElem?_eq_some_iff.mp h2).1
  rw [List.take_add_one, List.take_add_one, h1, h2]
  rw [List.zip_append (by rw [List.length_take, List.length_take]; omega), List.flatMap_append]
  show _ ++ ([(s, its)].flatMap _) = _
  rw [List.flatMap_singleton]
/-- at p a list of lists of items -/
def ToldAt (C : Addr) (H : Hp) (p : Addr) (itss : List (List Vatrkd.Item)) : Prop := ∃ as : List Addr, H p = some (.lst (as.map V.ref)) ∧ Paired (ItemsAt C H) as itss
theorem ToldAt.same {C : Addr} {H H' : Hp} {p : Addr} {itss : List (List Vatrkd.Item)} (e : Same H H') (h : ToldAt C H p itss) : ToldAt C H' p itss := by
  obtain ⟨bs, h1, h2⟩ := h
  exact ⟨bs, e _ _ h1, Paired.mapP h2 fun b c z => z.same e⟩
theorem flatMap_len_take {α β : Type} (f : α → List β) (l : List α) (i : Nat) : ((l.take i).flatMap f).length ≤ (l.flatMap f).length := by
  conv => rhs; rw [← List.take_append_drop i l, List.flatMap_append, List.length_append]
  exact Nat.le_add_right _ _
theorem mem_flat_len {α β : Type} (f : α → List β) {l : List α} {x : α} (h : x ∈ l) : (f x).length ≤ (l.flatMap f).length := by
  induction l with
  | nil => cases h
  | cons y r ih =>
    rw [List.flatMap_cons, List.length_append]
    rcases List.mem_cons.mp h with rfl | h
    · exact Nat.le_add_right _ _
    · have := ih h
      omega
theorem rowOf_len : ∀ (ss : List (List Nat × List Nat)) (itss : List (List Vatrkd.Item)), (rowOf ss itss).length ≤ (ss.flatMap fun s => s.2).length
  | [], _ => by unfold rowOf; simp
  | _ :: _, [] => by unfold rowOf; simp
  | s :: ss, its :: itss => by
    have ih := rowOf_len ss itss
    have e : rowOf (s :: ss) (its :: itss) = (s.2.map fun c => { dressOf its with sign := c }) ++ rowOf ss itss := by
      unfold rowOf
      rw [List.zip_cons_cons, List.flatMap_cons]
    rw [e, List.flatMap_cons, List.length_append, List.length_append, List.length_map]
    omega
abbrev s_pieces_of : Stmt := top 105
abbrev n_pieces_of : List Str := ["spans", "told", "pieces", "span", "items", "dress", "sign"]
abbrev p_pieces_of : List Str := ["spans", "told"]
theorem sc_pieces_of : FnScope n_pieces_of p_pieces_of (defScope s_pieces_of) := ⟨rfl, rfl, rfl, by decide +kernel, rfl, by decide +kernel, by decide +kernel⟩
abbrev s_is_put_or_cut : Stmt := top 45
abbrev n_is_put_or_cut : List Str := ["dress"]
abbrev p_is_put_or_cut : List Str := ["dress"]
theorem sc_is_put_or_cut : FnScope n_is_put_or_cut p_is_put_or_cut (defScope s_is_put_or_cut) := ⟨rfl, rfl, rfl, by decide +kernel, rfl, by decide +kernel, by decide +kernel⟩
abbrev s_plain_dress : Stmt := top 43
abbrev n_plain_dress : List Str := []
abbrev p_plain_dress : List Str := []
theorem sc_plain_dress : FnScope n_plain_dress p_plain_dress (defScope s_plain_dress) := ⟨rfl, rfl, rfl, by decide +kernel, rfl, by decide +kernel, by decide +kernel⟩
abbrev s_new_document : Stmt := top 44
abbrev n_new_document : List Str := []
abbrev p_new_document : List Str := []
theorem sc_new_document : FnScope n_new_document p_new_document (defScope s_new_document) := ⟨rfl, rfl, rfl, by decide +kernel, rfl, by decide +kernel, by decide +kernel⟩
section
variable {P : Program} {w : World} {K : PySem.W.Frag} {mg : Str → Option Value} {base : Heap} {C CS : Addr}
def sp_pieces_of (K : PySem.W.Frag) (CS C : Addr) : Sp := fun vs H Q _ => ∃ (a : Addr) (ss : List (List Nat × List Nat)) (b : Addr) (itss : List (List Vatrkd.Item)) (n : Nat), vs = [.ref a, .ref b] ∧ SpansAt CS H a ss ∧ ToldAt C H b itss ∧ ss.length = itss.length ∧ n < 10 ^ 18 ∧
  (∀ its ∈ itss, its.length < 1000001 ∧ its.all (Vatrkd.inRange n) = true ∧ Vatrkd.noClash its = true ∧ ∀ it ∈ its, Tm.placeOk it = true) ∧ (ss.flatMap fun s => s.2).length < 1000001 ∧
  ∀ H' p, Same H H' → H p = none → RowAt K H' p (rowOf ss itss) → Q (.ref p) H'
theorem ok_pieces_of {k : Nat} (G : Glob mg) (TS : CT K CS fSpan) (c_dress_of : C8.Cal P w K mg base 2 "dress_of" (sp_dress_of K C) []) (D : Stands K mg "pieces_of" s_pieces_of) : C8.Cal P w K mg base (k + 3) "pieces_of" (sp_pieces_of K CS C) [] := by
  refine cal_of D sc_pieces_of (fun vs H Q E h => ?_) (fun _ _ _ _ _ _ us hl => match us, hl with | [_, _], _ => rfl) (fun f cdv A outer s H vs Q E hr h => ?_)
  · obtain ⟨a, ss, b, itss, n, rfl, _⟩ := h
    rfl
  · obtain ⟨a, ss, b, itss, n, rfl, ⟨as, a1, a2⟩, ⟨bs, b1, b2⟩, hl, hn, hok, htot, q⟩ := h
    refine ⟨_, (pss_cons (ps_set (i := 2) sc_pieces_of.nd rfl (Or.inl rfl) (pe_lst pa_nil))
      (pss_cons (ps_for PassesOwn.never rfl (pi_zip (by rfl) G.b_zip (pa_cons (pv 0) (pa_cons (pv 1) pa_nil))) (pg_tup rfl (pgs_cons (pg_name (i := 3) sc_pieces_of.nd rfl (Or.inl rfl)) (pgs_cons (pg_name (i := 4) sc_pieces_of.nd rfl (Or.inl rfl)) pgs_nil)))
      (pss_cons (ps_set (i := 5) sc_pieces_of.nd rfl (Or.inr rfl) (C8.pe_c c_dress_of hr (by omega) (by rfl) (pa_cons (pv 4) pa_nil)))
      (pss_one (ps_expr (pe_bm PySem.F.plainAttrs_list PySem.F.slot_list_extend PySem.F.type_list_extend mt_extend (pv 2) (pa_cons (pe_lc (own := [("sign", 6)]) (g := (gName 6)) (tt := tYes) (te := (tTup (tCons (tVar 6) (tCons (tVar 5) tNil)))) rfl sc_pieces_of.nd (pi_list (pe_fld (pv 3) rfl)) (blkOk_by (N := ["spans", "told", "pieces", "span", "items", "dress", "sign"]) (sc := defScope s_pieces_of) (by decide +kernel)) (fun _ _ _ _ _ => (pg_name (i := 6) sc_pieces_of.nd rfl (Or.inl rfl))) (fun _ _ _ _ _ => pts_nil) (fun _ _ _ _ _ => (pe_tup (pa_cons (pv 6) (pa_cons (pv 5) pa_nil))))) pa_nil))))))
      (pss_one (ps_ret (pv 2))))), ?_⟩
    refine ⟨Nat.zero_le _, fun p np => ?_⟩
    have s0 : Same H (upd H p (.lst [])) := same_upd np
    have la : as.length = ss.length := Paired.length a2
    have lb : bs.length = itss.length := Paired.length b2
    refine ⟨_, rfl, _, rfl, a, b, _, _, rfl, SqL.of (s0 _ _ a1), SqL.of (s0 _ _ b1), for_it (walk_zip (xs := as.map V.ref) (ys := bs.map V.ref) (n := ss.length) (by rw [List.length_map, List.length_map, la, lb, hl, Nat.min_self]))
      (fun i σ H1 => ∃ y1 y2 y3 y4, σ = [some (.ref a), some (.ref b), some (.ref p), y1, y2, y3, y4] ∧ Same H H1 ∧ RowAt K H1 p (rowOf (ss.take i) (itss.take i))) ⟨_, _, _, _, rfl, s0, [], upd_same, .nil⟩ (fun i σ H1 _ hP => ?_) (fun i x σ H1 H2 hi hP hY => ?_) (fun σ H1 hP => ?_)⟩
    · obtain ⟨_, _, _, _, _, s1, _⟩ := hP
      exact ⟨SqL.of (s1 _ _ a1), SqL.of (s1 _ _ b1)⟩
    · obtain ⟨y1, y2, y3, y4, rfl, s1, cs, c1, c2⟩ := hP
      obtain ⟨t, v1, v2, rfl, nt, rfl, e1, e2⟩ := hY
      have e1' : (as.map V.ref)[i]? = some v1 := e1
      have e2' : (bs.map V.ref)[i]? = some v2 := e2
      rw [List.getElem?_map] at e1' e2'
      obtain ⟨sa, hsa, rfl⟩ := Option.map_eq_some_iff.mp e1'
      obtain ⟨ia, hia, rfl⟩ := Option.map_eq_some_iff.mp e2'
      obtain ⟨sp, hsp, bb, mk, dx, sg, x1, x2, x3⟩ := paired_get a2 hsa
      obtain ⟨its, hits, hI⟩ := paired_get b2 hia
      obtain ⟨k1, k2, k3, k4⟩ := hok its (List.mem_of_getElem? hits)
      have s2 : Same H1 (upd H1 t (.tup [.ref sa, .ref ia])) := same_upd nt
      have s12 := s1.trans s2
      refine ⟨t, _, rfl, SqT.of upd_same, rfl, _, _, rfl, _, _, rfl, rfl, ?_⟩
      refine ⟨_, rfl, ia, its, n, rfl, hI.same s12, k1, hn, k2, k3, k4, fun H3 d s3 hd => ?_⟩
      have s13 := s12.trans s3
      have c1' := s3 _ _ (s2 _ _ c1)
      refine ⟨_, rfl, .inl ⟨rfl, _, SqL.of c1'⟩, _, ⟨rfl, sa, CS, dx, _, _, rfl, s13 _ _ x1, TS.cl, TS.no _ (by simp), lkS1, sg, rfl, ⟨_, SqL.of (s13 _ _ x2)⟩, fun Dd nD => ?_⟩⟩
      refine lc_list (xs := vN sp.2) (fun j Hx => Same H3 Hx ∧ ∃ ts : List Addr, Hx Dd = some (.lst (ts.map V.ref)) ∧ Paired (fun t (c : Nat) => Hx t = some (.tup [.int (c : Int), .ref d])) ts (sp.2.take j))
        ⟨same_upd nD, [], upd_same, .nil⟩ (fun j Hx _ hP => SqL.of (hP.1 _ _ (s13 _ _ x2))) (fun j x Hx hx hP => ?_) (fun Hx hP => ?_)
      · obtain ⟨s4, ts, t1, t2⟩ := hP
        obtain ⟨c, hc, rfl⟩ := vN_int hx
        have hjl : j < sp.2.length := (List.getElem?_eq_some_iff.mp hc).1
        refine ⟨rfl, _, rfl, _, rfl, (by show 2 ≤ sizeLine; decide), fun tp ntp => ?_⟩
        have hD3 := (same_upd (o := .tup [.int (c : Int), .ref d]) ntp) _ _ t1
        have ntD : tp ≠ Dd := fun z => by rw [z, t1] at ntp; cases ntp
        refine ⟨_, hD3, ?_, same_write nD (s4.trans (same_upd ntp)), ts ++ [tp], ?_, ?_⟩
        · rw [List.length_map, Paired.length t2, List.length_take]
          have e : (1000001 : Nat) < sizeLine := by decide
          have := mem_flat_len (fun (s : List Nat × List Nat) => s.2) (List.mem_of_getElem? hsp)
          omega
        · rw [upd_same, List.map_append]
          rfl
        · rw [List.take_add_one, hc]
          refine paired_snoc (Paired.mapP t2 fun b y z => ?_) ?_
          · have nb : b ≠ Dd := fun z2 => by rw [z2, t1] at z; cases z
            rw [upd_ne nb]
            exact same_upd ntp _ _ z
          · rw [upd_ne ntD]
            exact upd_same
      · obtain ⟨s4, ts, t1, t2⟩ := hP
        rw [vN_len, List.take_length] at t2
        have c1'' := s4 _ _ c1'
        refine ⟨p, Dd, _, _, rfl, rfl, c1'', t1, ?_, ?_⟩
        · rw [List.length_map, List.length_map, Paired.length c2, Paired.length t2]
          have h1 := rowOf_len (ss.take (i + 1)) (itss.take (i + 1))
          rw [rowOf_snoc hsp hits, List.length_append, List.length_map] at h1
          have h2 := flatMap_len_take (fun (s : List Nat × List Nat) => s.2) ss (i + 1)
          have e : (1000001 : Nat) < sizeLine := by decide
          omega
        · refine ⟨_, _, _, _, rfl, same_write np (s13.trans s4), cs ++ ts, ?_, ?_⟩
          · rw [upd_same, List.map_append]
          · have kt : KeepT K Hx (upd Hx p (.lst (cs.map V.ref ++ ts.map V.ref))) := keepT_upd c1'' (fun _ z => by cases z) (fun _ _ z => by cases z)
            rw [rowOf_snoc hsp hits]
            refine paired_app (Paired.mapP c2 fun b y z => dp_keep kt _ _ (tupD_piece y) (dp_same ((s2.trans s3).trans s4) _ _ z)) ?_
            have hdr := dp_keep kt _ _ (tupD_dress _) (dp_same s4 _ _ hd)
            have key : ∀ {us : List Addr} {l : List Nat}, Paired (fun t (c : Nat) => Hx t = some (.tup [.int (c : Int), .ref d])) us l → Paired (fun b x => Dp K (upd Hx p (.lst (cs.map V.ref ++ ts.map V.ref))) (.ref b) (pieceD x)) us (l.map fun c => { dressOf its with sign := c }) := by
              intro us l h
              induction h with
              | nil => exact .nil
              | cons r _ ih => exact .cons (.tup (kt _ _ (SqT.of r)) (.cons (.int _) (.cons hdr .nil))) ih
            exact key t2
    · obtain ⟨y1, y2, y3, y4, rfl, s1, hR⟩ := hP
      rw [List.take_length, hl, List.take_length] at hR
      exact ⟨_, rfl, q _ p s1 np hR⟩
/-- whether a piece is put or cut -/
def putCut (x : Piece) : Bool := !(x.ins.isEmpty && x.del.isEmpty)
def sp_is_put_or_cut (K : PySem.W.Frag) : Sp := fun vs H Q _ => ∃ (d : Addr) (x : Piece), vs = [.ref d] ∧ Dp K H (.ref d) (dressD x) ∧ Q (.bl (putCut x)) H
theorem ok_is_put_or_cut {k : Nat} (G : Glob mg) (D : Stands K mg "is_put_or_cut" s_is_put_or_cut) : C8.Cal P w K mg base (k + 1) "is_put_or_cut" (sp_is_put_or_cut K) [] := by
  refine cal_of D sc_is_put_or_cut (fun vs H Q E h => ?_) (fun _ _ _ _ _ _ us hl => match us, hl with | [_], _ => rfl) (fun f cdv A outer s H vs Q E hr h => ?_)
  · obtain ⟨d, x, rfl, _⟩ := h
    rfl
  · obtain ⟨d, x, rfl, hd, q⟩ := h
    obtain ⟨lk, ins, del, pe, tg, h1, h2, h3, h4, h5, h6⟩ := dress_at hd
    refine ⟨_, (pss_one (ps_ret (pe_or (pe_cmpR op_gt (pe_callB call_len_seq (by rfl) G.b_len (by decide +kernel) (pa_cons (pe_ix ix_tup (pv 0) (pe_gv G.c_INSERTIONS) (fun _ _ => rfl)) pa_nil)) pe_int (nomark _)) (pe_one (pe_cmpR op_gt (pe_callB call_len_seq (by rfl) G.b_len (by decide +kernel) (pa_cons (pe_ix ix_tup (pv 0) (pe_gv G.c_DELETIONS) (fun _ _ => rfl)) pa_nil)) pe_int (nomark _)))))), ?_⟩
    have em : ∀ l : List Nat, decide ((0 : Int) < ((vN l).length : Int)) = !l.isEmpty := fun l => by
      rw [vN_len]
      cases l with
      | nil => rfl
      | cons x r => exact decide_eq_true (by rw [List.length_cons]; omega)
    refine ⟨_, rfl, d, _, _, _, rfl, rfl, h1, at_of (j := 1) rfl rfl, ins, _, rfl, .inr h3, _, _, rfl, rfl, _, rfl, ?_⟩
    rw [em]
    unfold putCut at q
    cases hi : x.ins.isEmpty with
    | false =>
      rw [hi] at q
      exact q
    | true =>
      rw [hi] at q
      refine ⟨_, rfl, d, _, _, _, rfl, rfl, h1, at_of (j := 2) rfl rfl, del, _, rfl, .inr h4, _, _, rfl, rfl, ?_⟩
      show Q (.bl (decide ((0 : Int) < ((vN x.del).length : Int)))) H
      rw [em]
      exact q
/-- no marks, no look, no tags -/
def plainP (c : Nat) : Piece := { sign := c, look := Vatrka.zeroLook }
def sp_plain_dress (K : PySem.W.Frag) : Sp := fun vs H Q _ => vs = [] ∧ ∀ H' p, Same H H' → Dp K H' (.ref p) (dressD (plainP 10)) → Q (.ref p) H'
theorem ok_plain_dress {k : Nat} (G : Glob mg) (D : Stands K mg "plain_dress" s_plain_dress) : C8.Cal P w K mg base (k + 1) "plain_dress" (sp_plain_dress K) [] := by
  refine cal_of D sc_plain_dress (fun vs H Q E h => ?_) (fun _ _ _ _ _ _ us hl => match us, hl with | [], _ => rfl) (fun f cdv A outer s H vs Q E hr h => ?_)
  · obtain ⟨rfl, _⟩ := h
    rfl
  · obtain ⟨rfl, q⟩ := h
    refine ⟨_, (pss_one (ps_ret (pe_tup (pa_cons (pe_tup (pa_cons pe_int (pa_cons pe_int (pa_cons pe_int (pa_cons pe_int pa_nil))))) (pa_cons (pe_tup pa_nil) (pa_cons (pe_tup pa_nil) (pa_cons (pe_tup pa_nil) (pa_cons (pe_tup pa_nil) pa_nil)))))))), ?_⟩
    refine ⟨by show 4 ≤ sizeLine; decide, fun t1 n1 => ⟨Nat.zero_le _, fun t2 n2 => ⟨Nat.zero_le _, fun t3 n3 => ⟨Nat.zero_le _, fun t4 n4 => ⟨Nat.zero_le _, fun t5 n5 => ⟨by show 5 ≤ sizeLine; decide, fun t6 n6 => ?_⟩⟩⟩⟩⟩⟩
    have m2 := same_upd (o := .tup []) n2
    have m3 := same_upd (o := .tup []) n3
    have m4 := same_upd (o := .tup []) n4
    have m5 := same_upd (o := .tup []) n5
    have m6 := same_upd (o := .tup [.ref t1, .ref t2, .ref t3, .ref t4, .ref t5]) n6
    refine q _ t6 ((((((same_upd n1).trans m2).trans m3).trans m4).trans m5).trans m6) (.tup (SqT.of upd_same) (.cons (dp_tup (l := [0, 0, 0, 0]) (SqT.of ?_)) (.cons (dp_tup (l := []) (SqT.of ?_)) (.cons (dp_tup (l := []) (SqT.of ?_)) (.cons (.tup (xs := []) (SqT.of ?_) .nil) (.cons (dp_tup (l := []) (SqT.of ?_)) .nil))))))
    · exact m6 _ _ (m5 _ _ (m4 _ _ (m3 _ _ (m2 _ _ upd_same))))
    · exact m6 _ _ (m5 _ _ (m4 _ _ (m3 _ _ upd_same)))
    · exact m6 _ _ (m5 _ _ (m4 _ _ upd_same))
    · exact m6 _ _ (m5 _ _ upd_same)
    · exact m6 _ _ upd_same
def sp_new_document (K : PySem.W.Frag) (C : Addr) : Sp := fun vs H Q _ => vs = [] ∧ ∀ H' p dx ta ra, Same H H' → H' p = some (.ins C dx (fDoc.zip [.ref ta, .ref ra])) → TabAt K H' ta [] → RowAt K H' ra [plainP 10] → Q (.ref p) H'
theorem ok_new_document {k : Nat} (G : Glob mg) (m_Document : C8.Mak P w K mg base 1 "Document" C (spInit C fDoc) []) (c_plain_dress : C8.Cal P w K mg base 1 "plain_dress" (sp_plain_dress K) []) (D : Stands K mg "new_document" s_new_document) : C8.Cal P w K mg base (k + 3) "new_document" (sp_new_document K C) [] := by
  refine cal_of D sc_new_document (fun vs H Q E h => ?_) (fun _ _ _ _ _ _ us hl => match us, hl with | [], _ => rfl) (fun f cdv A outer s H vs Q E hr h => ?_)
  · obtain ⟨rfl, _⟩ := h
    rfl
  · obtain ⟨rfl, q⟩ := h
    refine ⟨_, (pss_one (ps_ret (C8.pe_mk m_Document hr (by omega) (by rfl) (pa_cons (pe_lst pa_nil) (pa_cons (pe_lst (pa_cons (pe_tup (pa_cons (pe_gv G.c_LINE_END) (pa_cons (pe_c0 c_plain_dress hr (by omega) (by rfl)) pa_nil))) pa_nil)) pa_nil))))), ?_⟩
    refine ⟨Nat.zero_le _, fun ta na => ⟨rfl, fun H1 d s1 hd => ⟨by show 2 ≤ sizeLine; decide, fun t n1 => ⟨by show 1 ≤ sizeLine; decide, fun ra n2 => ?_⟩⟩⟩⟩
    refine fun x dx nx nd ne => ⟨x, dx, [_, _], rfl, rfl, upd_same, rfl, ?_⟩
    rw [upd_upd]
    have m2 := same_upd (o := .tup [.int 10, .ref d]) n1
    have m3 := same_upd (o := .lst [.ref t]) n2
    have m4 := made_same (C := C) (fs := fDoc.zip [.ref ta, .ref ra]) nx nd
    refine q _ x dx ta ra ((((same_upd na).trans s1).trans (m2.trans m3)).trans m4) made_at ⟨[], ?_, .nil⟩ ⟨[t], ?_, .cons ?_ .nil⟩
    · exact m4 _ _ (m3 _ _ (m2 _ _ (s1 _ _ upd_same)))
    · exact m4 _ _ upd_same
    · exact .tup (SqT.of (m4 _ _ (m3 _ _ upd_same))) (.cons (.int _) (.cons (dp_same ((m2.trans m3).trans m4) _ _ hd) .nil))
end
end Td
set_option maxRecDepth 100000
set_option maxHeartbeats 4000000
namespace Td
open PySem PySem.Spec PyProof.Rows L2
open Vatrka (Piece Pending Change)
/-! ### a change's line -/
abbrev kws : List Str := ["put", "cut", "paint", "move"]
theorem kws_words : kws.map codes = Vatrkd.kindWords := by decide +kernel
/-- the words of the kinds stand at the top -/
def Words (K : PySem.W.Frag) (mg : Str → Option Value) : Prop := ∃ a, GV mg "KIND_WORDS" (.ref a) ∧ ∀ H : Hp, SqT K H a (kws.map V.str)
def kindN (l : List Nat) : Option Nat := if (Vatrkd.kindWords.any fun z => z == l) = true then some ((Vatrkd.kindWords.findIdx fun z => z == l) + 1) else none
theorem kindN_at {l : List Nat} {i : Nat} (h : Vatrkd.kindWords[i]? = some l) (hp : ∀ j, j < i → Vatrkd.kindWords[j]? ≠ some l) : kindN l = some (i + 1) := by
  have hi := List.getElem?_eq_some_iff.mp h
  have h1 : (Vatrkd.kindWords.any fun z => z == l) = true := List.any_eq_true.mpr ⟨l, List.mem_of_getElem? h, beq_self_eq_true l⟩
  unfold kindN
  rw [if_pos h1]
  have e : (Vatrkd.kindWords.findIdx fun z => z == l) = i := by
    refine (List.findIdx_eq hi.1).mpr ⟨by rw [hi.2]; exact beq_self_eq_true l, fun j hj => ?_⟩
    refine beq_eq_false_iff_ne.mpr fun e => hp j hj ?_
    rw [List.getElem?_eq_getElem (Nat.lt_trans hj hi.1), e]
  rw [e]
theorem kindN_none {l : List Nat} (hp : ∀ j, j < 4 → Vatrkd.kindWords[j]? ≠ some l) : kindN l = none := by
  unfold kindN
  rw [if_neg]
  intro h
  obtain ⟨z, hz, e⟩ := List.any_eq_true.mp h
  rw [beq_iff_eq] at e
  subst e
  obtain ⟨j, hj, e⟩ := List.getElem_of_mem hz
  exact hp j hj (by rw [List.getElem?_eq_getElem hj, e])
abbrev s_kind_of : Stmt := top 103
abbrev n_kind_of : List Str := ["part", "kind", "word"]
abbrev p_kind_of : List Str := ["part"]
theorem sc_kind_of : FnScope n_kind_of p_kind_of (defScope s_kind_of) := ⟨rfl, rfl, rfl, by decide +kernel, rfl, by decide +kernel, by decide +kernel⟩
abbrev s_is_change_shape : Stmt := top 102
abbrev n_is_change_shape : List Str := ["parts"]
abbrev p_is_change_shape : List Str := ["parts"]
theorem sc_is_change_shape : FnScope n_is_change_shape p_is_change_shape (defScope s_is_change_shape) := ⟨rfl, rfl, rfl, by decide +kernel, rfl, by decide +kernel, by decide +kernel⟩
abbrev s_read_change : Stmt := top 101
abbrev n_read_change : List Str := ["table", "parts", "part", "number", "author"]
abbrev p_read_change : List Str := ["table", "parts"]
theorem sc_read_change : FnScope n_read_change p_read_change (defScope s_read_change) := ⟨rfl, rfl, rfl, by decide +kernel, rfl, by decide +kernel, by decide +kernel⟩
section
variable {P : Program} {w : World} {K : PySem.W.Frag} {mg : Str → Option Value} {base : Heap}
def sp_kind_of (K : PySem.W.Frag) : Sp := fun vs H Q _ => ∃ (a : Addr) (l : List Nat), vs = [.ref a] ∧ SqL K H a (vN l) ∧ (kindN l = none → ∀ H', Same H H' → Q .non H') ∧ (∀ n, kindN l = some n → ∀ H', Same H H' → Q (.int (n : Nat)) H')
theorem ok_kind_of {k : Nat} (G : Glob mg) (Wd : Words K mg) (c_numbers_of : C8.Cal P w K mg base 1 "numbers_of" sp_numbers_of []) (D : Stands K mg "kind_of" s_kind_of) : C8.Cal P w K mg base (k + 2) "kind_of" (sp_kind_of K) [] := by
  obtain ⟨kw, hkw, hseq⟩ := Wd
  refine cal_of D sc_kind_of (fun vs H Q E h => ?_) (fun _ _ _ _ _ _ us hl => match us, hl with | [_], _ => rfl) (fun f cdv A outer s H vs Q E hr h => ?_)
  · obtain ⟨a, l, rfl, _⟩ := h
    rfl
  · obtain ⟨a, l, rfl, hA, q1, q2⟩ := h
    refine ⟨_, (pss_cons (ps_for PassesOwn.never rfl (pi_enumT (by rfl) G.b_enumerate (pa_cons (pe_gv hkw) pa_nil)) (pg_tup rfl (pgs_cons (pg_name (i := 1) sc_kind_of.nd rfl (Or.inl rfl)) (pgs_cons (pg_name (i := 2) sc_kind_of.nd rfl (Or.inl rfl)) pgs_nil)))
      (pss_one (ps_if (pt_cmpR (op_eqD hr.units) (pv 0) (C8.pe_c c_numbers_of hr (by omega) (by rfl) (pa_cons (pv 2) pa_nil)) (nomark _))
      (pss_one (ps_ret (pv 1)))
      pss_nil)))
      (pss_one (ps_ret pe_non))), ?_⟩
    refine ⟨kw, _, rfl, hseq H, for_it (walk_C (xs := kws.map V.str)) (fun i σ H1 => ∃ y1 y2, σ = [some (.ref a), y1, y2] ∧ Same H H1 ∧ ∀ j, j < i → Vatrkd.kindWords[j]? ≠ some l) ⟨_, _, rfl, Same.refl _, fun j z => absurd z (Nat.not_lt_zero _)⟩ (fun i σ H1 _ hP => hseq H1) (fun i x σ H1 H2 hi hP hY => ?_) (fun σ H1 hP => ?_)⟩
    · obtain ⟨y1, y2, rfl, s1, hp⟩ := hP
      obtain ⟨t, v1, v2, rfl, nt, rfl, e1, e2⟩ := hY
      obtain rfl := Option.some.inj e1
      have e2' : (kws.map V.str)[i]? = some v2 := e2
      rw [List.getElem?_map] at e2'
      obtain ⟨z, hz, rfl⟩ := Option.map_eq_some_iff.mp e2'
      have hz' : Vatrkd.kindWords[i]? = some (codes z) := by rw [← kws_words, List.getElem?_map, hz]; rfl
      have s2 : Same H1 (upd H1 t (.tup [.int (1 + (i : Int)), .str z])) := same_upd nt
      have s12 := s1.trans s2
      have hlen : (codes z).length ≤ sizeLine := by
        have : ∀ z ∈ kws, (codes z).length ≤ sizeLine := by decide +kernel
        exact this z (List.mem_of_getElem? hz)
      refine ⟨t, _, rfl, SqT.of upd_same, rfl, _, _, rfl, _, _, rfl, rfl, ?_⟩
      refine ⟨_, rfl, _, rfl, z, rfl, hlen, fun H3 p s3 np hp3 => ?_⟩
      have s13 := s12.trans s3
      refine ⟨.list (dN l), .list (dN (codes z)), dp_list (s13.seq hA), dp_list (SqL.of hp3), nums_shaped _, nums_shaped _, _, rfl, ?_⟩
      rw [nums_eqv]
      refine ite2 (fun g => ?_) (fun g => ?_)
      · have g1 := of_decide_eq_true g
        rw [← g1] at hz'
        have := q2 (i + 1) (kindN_at hz' hp) H3 s13
        rw [show ((i + 1 : Nat) : Int) = 1 + (i : Int) by omega] at this
        exact ⟨_, rfl, this⟩
      · have g1 : ¬ l = codes z := fun y => g (decide_eq_true y)
        refine ⟨_, _, rfl, s13, fun j hj => ?_⟩
        by_cases e : j < i
        · exact hp j e
        · have : j = i := by omega
          subst this
          rw [hz']
          exact fun y => g1 (Option.some.inj y).symm
    · obtain ⟨y1, y2, rfl, s1, hp⟩ := hP
      exact q1 (kindN_none hp) H1 s1
/-- a change's line, cut at blanks, has the shape -/
def chShape : List (List Nat) → Bool
  | [x0, _, x2, _, x4, _, x6] => (x0 == Vatrkd.word "change" && (x2 == Vatrkd.word "by" && (x4 == Vatrkd.word "at" && Vatrkd.kindWords.any fun z => z == x6)))
  | _ => false
theorem chShape_no {ls : List (List Nat)} (h : ls.length ≠ 7) : chShape ls = false := by
  match ls with
  | [] => rfl
  | [_] => rfl
  | [_, _] => rfl
  | [_, _, _] => rfl
  | [_, _, _, _] => rfl
  | [_, _, _, _, _] => rfl
  | [_, _, _, _, _, _] => rfl
  | [_, _, _, _, _, _, _] => exact absurd rfl h
  | _ :: _ :: _ :: _ :: _ :: _ :: _ :: _ :: _ => rfl
theorem seven {ls : List (List Nat)} (h : ls.length = 7) : ∃ x0 x1 x2 x3 x4 x5 x6, ls = [x0, x1, x2, x3, x4, x5, x6] := by
  match ls, h with
  | [x0, x1, x2, x3, x4, x5, x6], _ => exact ⟨x0, x1, x2, x3, x4, x5, x6, rfl⟩
theorem paired7 {α β : Type} {F : α → β → Prop} {as : List α} {x0 x1 x2 x3 x4 x5 x6 : β} (h : Paired F as [x0, x1, x2, x3, x4, x5, x6]) : ∃ a0 a1 a2 a3 a4 a5 a6, as = [a0, a1, a2, a3, a4, a5, a6] ∧ F a0 x0 ∧ F a1 x1 ∧ F a2 x2 ∧ F a3 x3 ∧ F a4 x4 ∧ F a5 x5 ∧ F a6 x6 := by
  cases h with
  | cons h0 h => cases h with
    | cons h1 h => cases h with
      | cons h2 h => cases h with
        | cons h3 h => cases h with
          | cons h4 h => cases h with
            | cons h5 h => cases h with
              | cons h6 h => cases h with
                | nil => exact ⟨_, _, _, _, _, _, _, rfl, h0, h1, h2, h3, h4, h5, h6⟩
theorem three_eqv (a b c x y z : List Nat) : PyData.eqv (.list [.list (dN a), .list (dN b), .list (dN c)]) (.list [.list (dN x), .list (dN y), .list (dN z)]) = decide (a = x ∧ b = y ∧ c = z) := by
  have f : ∀ a b c : List Nat, flatD 2 (.list [.list (dN a), .list (dN b), .list (dN c)]) := fun a b c => flatD_lst fun d hd => by
    simp only [List.mem_cons, List.not_mem_nil, or_false] at hd
    rcases hd with rfl | rfl | rfl <;> exact flatD_lst (dN_flat _)
  rw [Bool.eq_iff_iff, (f a b c).eq (f x y z), decide_eq_true_eq]
  constructor
  · intro h
    have h1 := PyData.list.inj h
    injection h1 with h2 h3
    injection h3 with h4 h5
    injection h5 with h6 h7
    exact ⟨dN_inj.mp (PyData.list.inj h2), dN_inj.mp (PyData.list.inj h4), dN_inj.mp (PyData.list.inj h6)⟩
  · rintro ⟨rfl, rfl, rfl⟩; rfl
theorem three_shaped (a b c : List Nat) : SeqAt.shaped (.list [.list (dN a), .list (dN b), .list (dN c)]) = true :=
  (flatD_lst (n := 1) fun d hd => by
    simp only [List.mem_cons, List.not_mem_nil, or_false] at hd
    rcases hd with rfl | rfl | rfl <;> exact flatD_lst (dN_flat _)).shaped (by decide)
def sp_is_change_shape (K : PySem.W.Frag) : Sp := fun vs H Q _ => ∃ (a : Addr) (H0 : Hp) (ls : List (List Nat)), vs = [.ref a] ∧ LL H0 H a ls ∧
  ∀ H', Same H H' → Q (.bl (chShape ls)) H'
theorem ok_is_change_shape {k : Nat} (G : Glob mg) (c_numbers_of : C8.Cal P w K mg base 1 "numbers_of" sp_numbers_of []) (c_kind_of : C8.Cal P w K mg base 2 "kind_of" (sp_kind_of K) []) (D : Stands K mg "is_change_shape" s_is_change_shape) : C8.Cal P w K mg base (k + 3) "is_change_shape" (sp_is_change_shape K) [] := by
  refine cal_of D sc_is_change_shape (fun vs H Q E h => ?_) (fun _ _ _ _ _ _ us hl => match us, hl with | [_], _ => rfl) (fun f cdv A outer s H vs Q E hr h => ?_)
  · obtain ⟨a, H0, ls, rfl, _⟩ := h
    rfl
  · obtain ⟨a, H0, ls, rfl, ⟨as, h1, h2⟩, q⟩ := h
    refine ⟨_, (pss_cons (ps_if (PW.pt (pw_or (pt_cmpR op_ne (pe_callB call_len_seq (by rfl) G.b_len (by decide +kernel) (pa_cons (pv 0) pa_nil)) pe_int (nomark _)) (pw_or1 (pt_cmpR op_isN (C8.pe_c c_kind_of hr (by omega) (by rfl) (pa_cons (pe_ix ix_list (pv 0) pe_int (fun _ _ => rfl)) pa_nil)) pe_non (nomark _)))))
      (pss_one (ps_ret pe_bl))
      pss_nil)
      (pss_one (ps_ret (pe_cmpR (op_eqD hr.units) (pe_lst (pa_cons (pe_ix ix_list (pv 0) pe_int (fun _ _ => rfl)) (pa_cons (pe_ix ix_list (pv 0) pe_int (fun _ _ => rfl)) (pa_cons (pe_ix ix_list (pv 0) pe_int (fun _ _ => rfl)) pa_nil)))) (pe_lst (pa_cons (C8.pe_c c_numbers_of hr (by omega) (by rfl) (pa_cons pe_str pa_nil)) (pa_cons (C8.pe_c c_numbers_of hr (by omega) (by rfl) (pa_cons pe_str pa_nil)) (pa_cons (C8.pe_c c_numbers_of hr (by omega) (by rfl) (pa_cons pe_str pa_nil)) pa_nil)))) (nomark _))))), ?_⟩
    refine ⟨_, rfl, a, _, rfl, .inl (SqL.of h1), rfl, _, rfl, ite2 (fun g => ?_) (fun g => ?_)⟩
    · have g1 : ls.length ≠ 7 := by
        rw [List.length_map, Paired.length h2] at g
        intro e
        rw [e] at g
        exact absurd g (by decide)
      rw [chShape_no g1] at q
      exact q H (Same.refl _)
    · have g1 : ls.length = 7 := by
        rw [List.length_map, Paired.length h2] at g
        by_cases e : ls.length = 7
        · exact e
        · exact absurd (by rw [decide_eq_false fun z => e (by have := V.int.inj z; omega)]; rfl) g
      obtain ⟨x0, x1, x2, x3, x4, x5, x6, rfl⟩ := seven g1
      obtain ⟨a0, a1, a2, a3, a4, a5, a6, rfl, p0, p1, p2, p3, p4, p5, p6⟩ := paired7 h2
      have hA : SqL K H a [.ref a0, .ref a1, .ref a2, .ref a3, .ref a4, .ref a5, .ref a6] := SqL.of h1
      rw [show chShape [x0, x1, x2, x3, x4, x5, x6] = (x0 == Vatrkd.word "change" && (x2 == Vatrkd.word "by" && (x4 == Vatrkd.word "at" && Vatrkd.kindWords.any fun z => z == x6))) from rfl] at q
      refine ⟨_, rfl, a, _, _, _, rfl, rfl, hA, at_of (j := 6) rfl rfl, a6, x6, rfl, SqL.of p6.1, fun hk H1 s1 => ?_, fun n hk H1 s1 => ?_⟩
      · have e : (Vatrkd.kindWords.any fun z => z == x6) = false := by
          unfold kindN at hk
          cases z : (Vatrkd.kindWords.any fun z => z == x6) with
          | false => rfl
          | true => rw [if_pos z] at hk; cases hk
        rw [e, Bool.and_false, Bool.and_false, Bool.and_false] at q
        exact ⟨rfl, _, rfl, q H1 s1⟩
      · have e : (Vatrkd.kindWords.any fun z => z == x6) = true := by
          unfold kindN at hk
          cases z : (Vatrkd.kindWords.any fun z => z == x6) with
          | true => rfl
          | false => rw [if_neg (by rw [z]; decide)] at hk; cases hk
        rw [e, Bool.and_true] at q
        refine ⟨rfl, _, rfl, ?_⟩
        have hA1 := s1.seq hA
        refine ⟨_, rfl, a, _, _, _, rfl, rfl, hA1, at_of (j := 0) rfl rfl, _, rfl, a, _, _, _, rfl, rfl, hA1, at_of (j := 2) rfl rfl, _, rfl, a, _, _, _, rfl, rfl, hA1, at_of (j := 4) rfl rfl, by show 3 ≤ sizeLine; decide, fun t1 n1 => ?_⟩
        have m1 := same_upd (o := .lst [.ref a0, .ref a2, .ref a4]) n1
        refine ⟨"change", rfl, by decide +kernel, fun H2 c0 m2 _ hc0 => ⟨"by", rfl, by decide +kernel, fun H3 c1 m3 _ hc1 => ⟨"at", rfl, by decide +kernel, fun H4 c2 m4 _ hc2 => ⟨by show 3 ≤ sizeLine; decide, fun t2 n2 => ?_⟩⟩⟩⟩
        have m5 := same_upd (o := .lst [.ref c0, .ref c1, .ref c2]) n2
        have mm := ((m2.trans m3).trans m4).trans m5
        have pA : ∀ {b : Addr} {o : HO}, H b = some o → (upd H4 t2 (.lst [.ref c0, .ref c1, .ref c2])) b = some o := fun {b o} e => mm _ _ (m1 _ _ (s1 _ _ e))
        refine ⟨.list [.list (dN x0), .list (dN x2), .list (dN x4)], .list [.list (dN (codes "change")), .list (dN (codes "by")), .list (dN (codes "at"))], .lst (SqL.of (mm _ _ upd_same)) (.cons (dp_list (SqL.of (pA p0.1))) (.cons (dp_list (SqL.of (pA p2.1))) (.cons (dp_list (SqL.of (pA p4.1))) .nil))),
          .lst (SqL.of upd_same) (.cons (dp_list (SqL.of (m5 _ _ (m4 _ _ (m3 _ _ hc0))))) (.cons (dp_list (SqL.of (m5 _ _ (m4 _ _ hc1)))) (.cons (dp_list (SqL.of (m5 _ _ hc2))) .nil))), three_shaped _ _ _, three_shaped _ _ _, ?_⟩
        rw [three_eqv, show codes "change" = Vatrkd.word "change" by decide +kernel, show codes "by" = Vatrkd.word "by" by decide +kernel, show codes "at" = Vatrkd.word "at" by decide +kernel]
        have ee : decide (x0 = Vatrkd.word "change" ∧ x2 = Vatrkd.word "by" ∧ x4 = Vatrkd.word "at") = (x0 == Vatrkd.word "change" && (x2 == Vatrkd.word "by" && x4 == Vatrkd.word "at")) := by
          rw [Bool.eq_iff_iff]; simp
        rw [ee]
        exact q _ ((s1.trans m1).trans mm)
end
end Td
set_option maxRecDepth 100000
set_option maxHeartbeats 4000000
namespace Td
open PySem PySem.Spec PyProof.Rows L2
open Vatrka (Piece Pending Change)
/-- all stays but what is at p -/
def Kept (p : Addr) (H H' : Hp) : Prop := ∀ b o, H b = some o → b ≠ p → H' b = some o
theorem Same.kept {p : Addr} {H H' : Hp} (e : Same H H') : Kept p H H' := fun b o h _ => e b o h
theorem Kept.trans {p : Addr} {H H1 H2 : Hp} (a : Kept p H H1) (b : Kept p H1 H2) : Kept p H H2 := fun x o h n => b x o (a x o h n) n
/-- a change's line by its words -/
def chLine (i : Nat) : List (List Nat) → Except Nat Change
  | [w, n, by_, a, at_, t, k] =>
    if (w == Vatrkd.word "change" && (by_ == Vatrkd.word "by" && (at_ == Vatrkd.word "at" && Vatrkd.kindWords.any fun z => z == k))) = false then .error 2
    else match Vatrkd.numeral n, Vatrkd.numeral a, Vatrkd.numeral t with
    | some n, some a, some t =>
      if (n == i && (decide (1 ≤ a) && decide (a ≤ 99))) = true then .ok { author := a, time := t, kind := (Vatrkd.kindWords.findIdx fun z => z == k) + 1 }
      else .error 4
    | _, _, _ => .error 3
  | _ => .error 2
theorem chLine_is (i : Nat) (l : List Nat) : Vatrkd.changeLine i l = chLine i (Vatrkd.cutAt 32 l) := rfl
theorem chLine_shape {i : Nat} {ls : List (List Nat)} (h : chShape ls = false) : chLine i ls = .error 2 := by
  match ls with
  | [] => rfl
  | [_] => rfl
  | [_, _] => rfl
  | [_, _, _] => rfl
  | [_, _, _, _] => rfl
  | [_, _, _, _, _] => rfl
  | [_, _, _, _, _, _] => rfl
  | [x0, x1, x2, x3, x4, x5, x6] =>
    have h' : (x0 == Vatrkd.word "change" && (x2 == Vatrkd.word "by" && (x4 == Vatrkd.word "at" && Vatrkd.kindWords.any fun z => z == x6))) = false := h
    exact if_pos h'
  | _ :: _ :: _ :: _ :: _ :: _ :: _ :: _ :: _ => rfl
section
variable {P : Program} {w : World} {K : PySem.W.Frag} {mg : Str → Option Value} {base : Heap}
def sp_read_change (K : PySem.W.Frag) : Sp := fun vs H Q _ => ∃ (tp : Addr) (tb : List Change) (pp : Addr) (H0 : Hp) (ls : List (List Nat)), vs = [.ref tp, .ref pp] ∧ TabAt K H tp tb ∧ LL H0 H pp ls ∧ tb.length < 1000000 ∧
  (∀ e, chLine (tb.length + 1) ls = .error e → ∀ H', Same H H' → Q (.int (e : Nat)) H') ∧ (∀ c, chLine (tb.length + 1) ls = .ok c → ∀ H', Kept tp H H' → TabAt K H' tp (tb ++ [c]) → Q (.int 0) H')
theorem ok_read_change {k : Nat} (G : Glob mg) (c_is_numeral : C8.Cal P w K mg base 1 "is_numeral" (sp_is_numeral K) []) (c_value_of : C8.Cal P w K mg base 2 "value_of" (sp_value_of K) []) (c_kind_of : C8.Cal P w K mg base 2 "kind_of" (sp_kind_of K) [])
    (c_is_change_shape : C8.Cal P w K mg base 3 "is_change_shape" (sp_is_change_shape K) []) (D : Stands K mg "read_change" s_read_change) : C8.Cal P w K mg base (k + 4) "read_change" (sp_read_change K) [] := by
  refine cal_of D sc_read_change (fun vs H Q E h => ?_) (fun _ _ _ _ _ _ us hl => match us, hl with | [_, _], _ => rfl) (fun f cdv A outer s H vs Q E hr h => ?_)
  · obtain ⟨tp, tb, pp, H0, ls, rfl, _⟩ := h
    rfl
  · obtain ⟨tp, tb, pp, H0, ls, rfl, hT, hL, htl, q1, q2⟩ := h
    refine ⟨_, (pss_cons (ps_if (pt_not (pt_val (C8.pe_c c_is_change_shape hr (by omega) (by rfl) (pa_cons (pv 1) pa_nil))))
      (pss_one (ps_ret (pe_gv G.c_NOT_THE_SHAPE)))
      pss_nil)
      (pss_cons (ps_if (pt_not (pt_val (pe_callB (cr_all rfl) (by rfl) G.b_all (by decide +kernel) (pa_cons (pe_lc (own := [("part", 2)]) (g := (gName 2)) (tt := tYes) (te := (tCall _ [] _ (tCons (tVar 2) tNil))) rfl sc_read_change.nd (pi_tup (pe_tup (pa_cons (pe_ix ix_list (pv 1) pe_int (fun _ _ => rfl)) (pa_cons (pe_ix ix_list (pv 1) pe_int (fun _ _ => rfl)) (pa_cons (pe_ix ix_list (pv 1) pe_int (fun _ _ => rfl)) pa_nil))))) (blkOk_by (N := ["table", "parts", "part", "number", "author"]) (sc := defScope s_read_change) (by decide +kernel)) (fun _ _ _ _ _ => (pg_name (i := 2) sc_read_change.nd rfl (Or.inl rfl))) (fun _ _ _ _ _ => pts_nil) (fun _ _ _ _ _ => (C8.pe_c c_is_numeral hr (by omega) (by rfl) (pa_cons (pv 2) pa_nil)))) pa_nil))))
      (pss_one (ps_ret (pe_gv G.c_NOT_THE_WORDS)))
      pss_nil)
      (pss_cons (ps_set (i := 3) sc_read_change.nd rfl (Or.inl rfl) (C8.pe_c c_value_of hr (by omega) (by rfl) (pa_cons (pe_ix ix_list (pv 1) pe_int (fun _ _ => rfl)) pa_nil)))
      (pss_cons (ps_set (i := 4) sc_read_change.nd rfl (Or.inl rfl) (C8.pe_c c_value_of hr (by omega) (by rfl) (pa_cons (pe_ix ix_list (pv 1) pe_int (fun _ _ => rfl)) pa_nil)))
      (pss_cons (ps_if (PW.pt (pw_or (pt_cmpR op_ne (pv 3) (pe_op op_add (pe_callB call_len_seq (by rfl) G.b_len (by decide +kernel) (pa_cons (pv 0) pa_nil)) pe_int) (nomark _)) (pw_or1 (pt_not (pt_chain op_le op_le pe_int (pv 4) (pe_gv G.c_GREATEST_AUTHOR))))))
      (pss_one (ps_ret (pe_gv G.c_OUT_OF_RANGE)))
      pss_nil)
      (pss_cons (ps_expr (pe_bm PySem.F.plainAttrs_list PySem.F.slot_list_append PySem.F.type_list_append mt_append (pv 0) (pa_cons (pe_tup (pa_cons (pv 4) (pa_cons (C8.pe_c c_value_of hr (by omega) (by rfl) (pa_cons (pe_ix ix_list (pv 1) pe_int (fun _ _ => rfl)) pa_nil)) (pa_cons (C8.pe_c c_kind_of hr (by omega) (by rfl) (pa_cons (pe_ix ix_list (pv 1) pe_int (fun _ _ => rfl)) pa_nil)) (pa_cons (pe_callTy call_tuple_of (by rfl) G.b_tuple (by decide +kernel) (pa_cons (pe_ix ix_list (pv 1) pe_int (fun _ _ => rfl)) pa_nil)) pa_nil))))) pa_nil)))
      (pss_one (ps_ret (pe_gv G.c_FINE))))))))), ?_⟩
    refine ⟨_, rfl, pp, H0, ls, rfl, hL, fun H1 s1 => ⟨_, rfl, ?_⟩⟩
    cases hsh : chShape ls with
    | false => exact q1 2 (chLine_shape hsh) H1 s1
    | true =>
      have hl7 : ls.length = 7 := by
        by_cases e : ls.length = 7
        · exact e
        · rw [chShape_no e] at hsh; cases hsh
      obtain ⟨as, h1, h2⟩ := hL
      obtain ⟨x0, x1, x2, x3, x4, x5, x6, rfl⟩ := seven hl7
      obtain ⟨a0, a1, a2, a3, a4, a5, a6, rfl, p0, p1, p2, p3, p4, p5, p6⟩ := paired7 h2
      have hA : SqL K H pp [.ref a0, .ref a1, .ref a2, .ref a3, .ref a4, .ref a5, .ref a6] := SqL.of h1
      have hA1 := s1.seq hA
      have ech : chLine (tb.length + 1) [x0, x1, x2, x3, x4, x5, x6] = (match Vatrkd.numeral x1, Vatrkd.numeral x3, Vatrkd.numeral x5 with
        | some n, some a, some t => if (n == tb.length + 1 && (decide (1 ≤ a) && decide (a ≤ 99))) = true then .ok { author := a, time := t, kind := (Vatrkd.kindWords.findIdx fun z => z == x6) + 1 } else .error 4
        | _, _, _ => .error 3) := by
        have h' : ¬ (x0 == Vatrkd.word "change" && (x2 == Vatrkd.word "by" && (x4 == Vatrkd.word "at" && Vatrkd.kindWords.any fun z => z == x6))) = false := fun z => by
          have e : chShape [x0, x1, x2, x3, x4, x5, x6] = (x0 == Vatrkd.word "change" && (x2 == Vatrkd.word "by" && (x4 == Vatrkd.word "at" && Vatrkd.kindWords.any fun z => z == x6))) := rfl
          rw [e, z] at hsh
          cases hsh
        exact if_neg h'
      rw [ech] at q1 q2
      refine ⟨_, rfl, pp, _, _, _, rfl, rfl, hA1, at_of (j := 1) rfl rfl, _, rfl, pp, _, _, _, rfl, rfl, hA1, at_of (j := 3) rfl rfl, _, rfl, pp, _, _, _, rfl, rfl, hA1, at_of (j := 5) rfl rfl, by show 3 ≤ sizeLine; decide, fun t1 n1 => ?_⟩
      have m1 := same_upd (o := .tup [.ref a1, .ref a3, .ref a5]) n1
      have s2 := s1.trans m1
      have ht1 : SqT K (upd H1 t1 (.tup [.ref a1, .ref a3, .ref a5])) t1 ([a1, a3, a5].map V.ref) := SqT.of upd_same
      have hpr : Paired (fun a l => H a = some (.lst (vN l))) [a1, a3, a5] [x1, x3, x5] := .cons p1.1 (.cons p3.1 (.cons p5.1 .nil))
      generalize upd H1 t1 (.tup [.ref a1, .ref a3, .ref a5]) = H2 at m1 s2 ht1
      refine ⟨t1, rfl, ⟨_, ht1⟩, fun Dd nD => ?_⟩
      refine lc_it (walk_tup (xs := [a1, a3, a5].map V.ref)) (fun j Hx => Same H2 Hx ∧ Hx Dd = some (.lst ((([x1, x3, x5].take j).map fun l => (Vatrkd.numeral l).isSome).map V.bl))) ⟨same_upd nD, upd_same⟩ (fun j Hx _ hP => same_tup hP.1 ht1) (fun j x Hx Hy hj hP hY => ?_) (fun Hx hP => ?_)
      · obtain ⟨rfl, hx⟩ := hY
        rw [List.getElem?_map] at hx
        obtain ⟨xa, hxa, rfl⟩ := Option.map_eq_some_iff.mp hx
        obtain ⟨l, hl, hla⟩ := paired_get hpr hxa
        refine ⟨rfl, _, rfl, xa, l, rfl, SqL.of (hP.1 _ _ (s2 _ _ hla)), _, hP.2, ?_, same_write nD hP.1, ?_⟩
        · rw [List.length_map, List.length_map, List.length_take]
          have : (3 : Nat) < sizeLine := by decide
          have : [x1, x3, x5].length = 3 := rfl
          omega
        · rw [upd_same, List.take_add_one, hl, List.map_append, List.map_append]
          rfl
      · obtain ⟨s3, h3⟩ := hP
        have s23 := s2.trans s3
        refine ⟨Dd, [(Vatrkd.numeral x1).isSome, (Vatrkd.numeral x3).isSome, (Vatrkd.numeral x5).isSome], rfl, SqL.of h3, _, rfl, ?_⟩
        -- what has no numeral
        have no3 : ([(Vatrkd.numeral x1).isSome, (Vatrkd.numeral x3).isSome, (Vatrkd.numeral x5).isSome].all id = false) → Q (.int 3) Hx := fun z => by
          refine q1 3 ?_ Hx s23
          cases e1 : Vatrkd.numeral x1 with
          | none => rfl
          | some n => cases e2 : Vatrkd.numeral x3 with
            | none => rfl
            | some a => cases e3 : Vatrkd.numeral x5 with
              | none => rfl
              | some t => rw [e1, e2, e3] at z; cases z
        cases hall : ([(Vatrkd.numeral x1).isSome, (Vatrkd.numeral x3).isSome, (Vatrkd.numeral x5).isSome].all id) with
        | false => exact no3 hall
        | true =>
          have hall' : (Vatrkd.numeral x1).isSome = true ∧ (Vatrkd.numeral x3).isSome = true ∧ (Vatrkd.numeral x5).isSome = true := by
            simpa using hall
          obtain ⟨n, en⟩ := Option.isSome_iff_exists.mp hall'.1
          obtain ⟨au, ea⟩ := Option.isSome_iff_exists.mp hall'.2.1
          obtain ⟨tm, et⟩ := Option.isSome_iff_exists.mp hall'.2.2
          rw [en, ea, et] at q1 q2
          have hA3 := s23.seq hA
          refine ⟨_, rfl, pp, _, _, _, rfl, rfl, hA3, at_of (j := 1) rfl rfl, a1, x1, rfl, SqL.of (s23 _ _ p1.1), (Tm.numeral_val en).2.2.1, fun H4 t4 => ?_⟩
          have s23 := s23.trans t4
          have hA3 := s23.seq hA
          refine ⟨_, rfl, pp, _, _, _, rfl, rfl, hA3, at_of (j := 3) rfl rfl, a3, x3, rfl, SqL.of (s23 _ _ p3.1), (Tm.numeral_val ea).2.2.1, fun Hx t5 => ?_⟩
          have s23 := s23.trans t5
          have hA3 := s23.seq hA
          obtain ⟨cs, hc1, hc2⟩ := hT.same s23
          have hcl : cs.length = tb.length := Paired.length hc2
          rw [Tm.cap_eq en, Tm.cap_eq ea]
          refine ⟨_, rfl, _, rfl, tp, _, rfl, .inl (SqL.of hc1), _, _, rfl, rfl, rfl, _, rfl, ite2 (fun g => ?_) (fun g => ?_)⟩
          · refine q1 4 ?_ Hx s23
            dsimp only
            rw [if_neg]
            intro z
            rw [Bool.and_eq_true, beq_iff_eq] at z
            rw [List.length_map, hcl, z.1] at g
            have e : decide (V.int ((tb.length + 1 : Nat) : Int) = V.int ((tb.length : Int) + 1)) = true := decide_eq_true rfl
            rw [e] at g
            cases g
          · have hn : n = tb.length + 1 := by
              by_cases z : n = tb.length + 1
              · exact z
              · refine absurd ?_ g
                rw [List.length_map, hcl, decide_eq_false fun y => ?_]
                · rfl
                · have := V.int.inj y
                  omega
            refine ⟨_, rfl, _, _, rfl, rfl, _, rfl, ?_⟩
            have bad4 : ¬ (1 ≤ au ∧ au ≤ 99) → Q (.int 4) Hx := fun z => by
              refine q1 4 ?_ Hx s23
              dsimp only
              rw [if_neg]
              intro y
              rw [Bool.and_eq_true, Bool.and_eq_true, decide_eq_true_eq, decide_eq_true_eq] at y
              exact z y.2
            refine ite2 (fun e => ?_) (fun e => ?_)
            · have e1 : 1 ≤ au := by have := of_decide_eq_true e; omega
              refine ⟨_, _, rfl, rfl, _, rfl, ite2 (fun e2 => ?_) (fun e2 => ?_)⟩
              · refine bad4 fun z => ?_
                rw [decide_eq_true (by omega)] at e2
                cases e2
              · have e3 : au ≤ 99 := by
                  by_cases z : au ≤ 99
                  · exact z
                  · refine absurd ?_ e2
                    rw [decide_eq_false (by omega)]
                    rfl
                have hok := q2 { author := au, time := tm, kind := (Vatrkd.kindWords.findIdx fun z => z == x6) + 1 } (by
                  dsimp only
                  rw [if_pos]
                  rw [hn, decide_eq_true e1, decide_eq_true e3]
                  simp)
                have hkn : kindN x6 = some ((Vatrkd.kindWords.findIdx fun z => z == x6) + 1) := by
                  have e : chShape [x0, x1, x2, x3, x4, x5, x6] = (x0 == Vatrkd.word "change" && (x2 == Vatrkd.word "by" && (x4 == Vatrkd.word "at" && Vatrkd.kindWords.any fun z => z == x6))) := rfl
                  rw [e, Bool.and_eq_true, Bool.and_eq_true, Bool.and_eq_true] at hsh
                  unfold kindN
                  rw [if_pos hsh.2.2.2]
                refine ⟨_, rfl, .inl ⟨rfl, _, SqL.of hc1⟩, _, rfl, _, rfl, pp, _, _, _, rfl, rfl, hA3, at_of (j := 5) rfl rfl, a5, x5, rfl, SqL.of (s23 _ _ p5.1), (Tm.numeral_val et).2.2.1, fun H4' m4 => ?_⟩
                rw [Tm.cap_eq et]
                have s24 := s23.trans m4
                refine ⟨_, rfl, pp, _, _, _, rfl, rfl, s24.seq hA, at_of (j := 6) rfl rfl, a6, x6, rfl, SqL.of (s24 _ _ p6.1), fun z => (by rw [hkn] at z; cases z), fun kn hk H5 s5 => ?_⟩
                rw [hkn] at hk
                obtain rfl := Option.some.inj hk
                have s25 := s24.trans s5
                refine ⟨_, rfl, pp, _, _, _, rfl, rfl, s25.seq hA, at_of (j := 5) rfl rfl, a5, _, rfl, .inl ⟨SqL.of (s25 _ _ p5.1), fun tt ntt => ⟨by show 4 ≤ sizeLine; decide, fun tc ntc => ?_⟩⟩⟩
                have m5 := same_upd (o := .tup (vN x5)) ntt
                have htt : SqT K (upd H5 tt (.tup (vN x5))) tt (vN x5) := SqT.of upd_same
                have m6 := same_upd (o := .tup [.int (au : Int), .int (tm : Nat), .int (((Vatrkd.kindWords.findIdx fun z => z == x6) + 1 : Nat) : Int), .ref tt]) ntc
                have s46 := m4.trans (s5.trans (m5.trans m6))
                have hc6 := s46 _ _ hc1
                have ht6 := same_tup m6 htt
                have hq6 : (upd (upd H5 tt (.tup (vN x5))) tc (.tup [.int (au : Int), .int (tm : Nat), .int (((Vatrkd.kindWords.findIdx fun z => z == x6) + 1 : Nat) : Int), .ref tt])) tc = some (.tup [.int (au : Int), .int (tm : Nat), .int (((Vatrkd.kindWords.findIdx fun z => z == x6) + 1 : Nat) : Int), .ref tt]) := upd_same
                generalize upd (upd H5 tt (.tup (vN x5))) tc (.tup [.int (au : Int), .int (tm : Nat), .int (((Vatrkd.kindWords.findIdx fun z => z == x6) + 1 : Nat) : Int), .ref tt]) = H6 at m6 s46 hc6 ht6 hq6
                refine ⟨tp, _, _, rfl, rfl, hc6, ?_, ?_⟩
                · rw [List.length_map, hcl]
                  have : (1000000 : Nat) < sizeLine := by decide
                  omega
                · have kt : KeepT K H6 (upd H6 tp (.lst (cs.map V.ref ++ [.ref tc]))) := keepT_upd hc6 (fun _ z => by cases z) (fun _ _ z => by cases z)
                  refine hok _ (fun b o hb nb => ?_) ⟨cs ++ [tc], ?_, paired_snoc (Paired.mapP hc2 fun b c z => dp_keep kt _ _ (tupD_change c) (dp_same s46 _ _ z)) ?_⟩
                  · rw [upd_ne nb]
                    exact s46 _ _ (s23 _ _ hb)
                  · rw [upd_same, List.map_append]
                    rfl
                  · refine .tup (kt _ _ (SqT.of hq6)) (.cons (.int _) (.cons (.int _) (.cons (.int _) (.cons ?_ .nil))))
                    show Dp K _ (.ref tt) (.tuple (dN (Vatrkd.digits tm)))
                    rw [Tm.numeral_digits et]
                    exact dp_tup (kt _ _ ht6)
            · refine ⟨_, rfl, ?_⟩
              exact bad4 fun z => e (decide_eq_true (by omega))
end
end Td
set_option maxRecDepth 100000
set_option maxHeartbeats 4000000
namespace Td
open PySem PySem.Spec PyProof.Rows L2
open Vatrka (Piece Pending Change)
/-! ### None among lists -/
def NoneOrL (K : PySem.W.Frag) (H : Hp) (z : V) : Prop := z = .non ∨ ∃ a xs, z = .ref a ∧ SqL K H a xs
theorem isNone_ofL {z : V} {u : Value} {K : PySem.W.Frag} {H : Hp} (r : RelV z u) (f : NoneOrL K H z) : PySem.Numpy.isNone u = isNon z := by
  rcases f with rfl | ⟨a, xs, rfl, _⟩
  · cases r; rfl
  · cases r; rfl
theorem any_nonL {K : PySem.W.Frag} {H : Hp} : ∀ {xs : List V} {us : List Value}, Vals xs us → (∀ z ∈ xs, NoneOrL K H z) → us.any PySem.Numpy.isNone = xs.any isNon
  | _, _, .nil, _ => rfl
  | y :: xs, u :: us, .cons r t, f => by
    rw [List.any_cons, List.any_cons, isNone_ofL r (f y (List.mem_cons_self ..)), any_nonL t fun z hz => f z (List.mem_cons_of_mem _ hz)]
section
variable {X : Cx}
theorem mem_nonL {A : Around} {pins : List (Addr × Obj)} {σ : L2.St} {H : Hp} {s : Shared} (I : Inv X pins σ H s) (hu : A.units < cLine) : ∀ {xs : List V} {us : List Value}, Vals xs us → (∀ z ∈ xs, NoneOrL X.K H z) → ∀ u ∈ us, SeqAt.EqAt A s u .none (PySem.Numpy.isNone u)
  | _, _, .nil, _ => fun u hu' => by cases hu'
  | y :: xs, u :: us, .cons r t, f => fun u' hu' => by
    rcases List.mem_cons.mp hu' with e | hu'
    · subst e
      rcases f y (List.mem_cons_self ..) with rfl | ⟨a, ys, rfl, ha⟩
      · cases r
        exact SeqAt.EqAt.same _
      · cases r
        obtain ⟨its, _, hl, _⟩ := I.list ha
        exact SeqAt.EqAt.list_none hl.isList hu
    · exact mem_nonL I hu t (fun z hz => f z (List.mem_cons_of_mem _ hz)) u' hu'
def rNoneInL (K : PySem.W.Frag) : R2 := fun x y H Q => ∃ p xs, x = .non ∧ y = .ref p ∧ SqL K H p xs ∧ (∀ z ∈ xs, NoneOrL K H z) ∧ Q (.bl (xs.any isNon)) H
theorem op_noneInL (hu : X.A.units + 64 < cLine) : OpR X (compareOp .In) (rNoneInL X.K) := by
  intro pins s σ H x y v u Q I rx ry h
  obtain ⟨p, xs, rfl, rfl, hq, f, q⟩ := h
  cases rx
  cases ry
  obtain ⟨its, rv, hl, _⟩ := I.list hq
  have hu1 : X.A.in1.units < cLine := by show X.A.units + 1 < cLine; omega
  refine SeqAt.in_listAt PySem.Numpy.isNone hl.isList (fun z hz => mem_nonL I hu1 rv f z (by simpa using hz)) ⟨.bl _, H, I, rfl, ?_⟩
  rw [show its.toArray.any PySem.Numpy.isNone = its.any PySem.Numpy.isNone by simp, any_nonL rv f]
  exact q
end
/-! ### a paragraph's line -/
theorem wear_sign (its : List Vatrkd.Item) : ∀ (x : Piece) (c : Nat), its.foldl Vatrkd.wear { x with sign := c } = { its.foldl Vatrkd.wear x with sign := c } := by
  induction its with
  | nil => intro x c; rfl
  | cons it r ih =>
    intro x c
    rw [List.foldl_cons, List.foldl_cons, ← ih]
    cases it <;> rfl
theorem dressed_is (m : List Nat) (c : Nat) : Vatrkd.dressed m c = { dressOf (Vatrkd.told m) with sign := c } := wear_sign (Vatrkd.told m) { sign := 10, look := Vatrka.zeroLook } c
theorem rowOf_spans : ∀ ss : List (List Nat × List Nat), rowOf ss (ss.map fun s => Vatrkd.told s.1) = ss.flatMap fun r => r.2.map (Vatrkd.dressed r.1)
  | [] => rfl
  | s :: ss => by
    have ih := rowOf_spans ss
    unfold rowOf at ih ⊢
    rw [List.map_cons, List.zip_cons_cons, List.flatMap_cons, List.flatMap_cons, ih]
    congr 1
    exact List.map_congr_left fun c _ => (dressed_is s.1 c).symm
theorem lkD0 {a b : V} : (fDoc.zip [a, b]).lookup ("table" : Str) = some a := lk_here
theorem lkD1 {a b : V} : (fDoc.zip [a, b]).lookup ("row" : Str) = some b := (lk_past (by decide +kernel)).trans lk_here
theorem lkL0 {a b c : V} : (fLine.zip [a, b, c]).lookup ("numbers" : Str) = some a := lk_here
theorem lkL1 {a b c : V} : (fLine.zip [a, b, c]).lookup ("ended" : Str) = some b := (lk_past (by decide +kernel)).trans lk_here
theorem lkL2 {a b c : V} : (fLine.zip [a, b, c]).lookup ("last" : Str) = some c := (lk_past (by decide +kernel)).trans ((lk_past (by decide +kernel)).trans lk_here)
/-- a document: its table and its row -/
def DocAt (K : PySem.W.Frag) (C : Addr) (H : Hp) (d ta ra : Addr) : Prop := ∃ dx, H d = some (.ins C dx (fDoc.zip [.ref ta, .ref ra]))
/-- the classes -/
structure Cs (K : PySem.W.Frag) (CD CI CS CL : Addr) : Prop where
  d : CT K CD fDoc
  i : CT K CI fItem
  s : CT K CS fSpan
  l : CT K CL fLine
theorem ends_clean {l : List Piece} {x : Piece} (h : l.getLast? = some x) : Vatrkd.endsClean l = !putCut x := by
  unfold Vatrkd.endsClean putCut
  rw [h, Bool.not_not]
theorem ItemsAt.upd {C : Addr} {H : Hp} {a D : Addr} {its : List Vatrkd.Item} {xs : List V} {o : HO} (h : ItemsAt C H a its) (n : a ≠ D) (hD : H D = some (.lst xs)) : ItemsAt C (L2.upd H D o) a its := by
  obtain ⟨as, h1, h2⟩ := h
  refine ⟨as, by rw [upd_ne n]; exact h1, Paired.mapP h2 fun b it z => ?_⟩
  obtain ⟨dx, z⟩ := z
  exact ⟨dx, by rw [upd_ne fun e => by rw [e, hD] at z; cases z]; exact z⟩
/-- the items of marks, or None -/
def ToldV (C D : Addr) (H : Hp) (z : V) (m : List Nat) : Prop := (((Vatrkd.itemsOf m).all fun i => i.isSome) = true ∧ ∃ a, z = .ref a ∧ a ≠ D ∧ ItemsAt C H a (Vatrkd.told m)) ∨ (((Vatrkd.itemsOf m).all fun i => i.isSome) = false ∧ z = .non)
theorem ToldV.same {C D : Addr} {H H' : Hp} {z : V} {m : List Nat} (e : Same H H') (h : ToldV C D H z m) : ToldV C D H' z m := by
  rcases h with ⟨h1, a, h2, h3, h4⟩ | h
  · exact .inl ⟨h1, a, h2, h3, h4.same e⟩
  · exact .inr h
theorem ToldV.upd {C D : Addr} {H : Hp} {z : V} {m : List Nat} {xs : List V} {o : HO} (h : ToldV C D H z m) (hD : H D = some (.lst xs)) : ToldV C D (L2.upd H D o) z m := by
  rcases h with ⟨h1, a, h2, h3, h4⟩ | h
  · exact .inl ⟨h1, a, h2, h3, h4.upd h3 hD⟩
  · exact .inr h
theorem told_any {C D : Addr} {H : Hp} : ∀ {zs : List V} {ss : List (List Nat × List Nat)}, Paired (fun z (s : List Nat × List Nat) => ToldV C D H z s.1) zs ss → zs.any isNon = !(ss.all fun r => (Vatrkd.itemsOf r.1).all fun i => i.isSome)
  | _, _, .nil => rfl
  | _, _, .cons r t => by
    rw [List.any_cons, List.all_cons, told_any t, Bool.not_and]
    rcases r with ⟨h1, a, rfl, _⟩ | ⟨h1, rfl⟩
    · rw [h1]; rfl
    · rw [h1]; rfl
theorem told_all {C D : Addr} {H : Hp} : ∀ {zs : List V} {ss : List (List Nat × List Nat)}, Paired (fun z (s : List Nat × List Nat) => ToldV C D H z s.1) zs ss → (ss.all fun r => (Vatrkd.itemsOf r.1).all fun i => i.isSome) = true → ∃ bs : List Addr, zs = bs.map V.ref ∧ Paired (ItemsAt C H) bs (ss.map fun s => Vatrkd.told s.1)
  | _, _, .nil, _ => ⟨[], rfl, .nil⟩
  | _, _, .cons r t, h => by
    rw [List.all_cons, Bool.and_eq_true] at h
    obtain ⟨bs, rfl, h2⟩ := told_all t h.2
    rcases r with ⟨h1, a, rfl, _, h3⟩ | ⟨h1, rfl⟩
    · exact ⟨a :: bs, rfl, .cons h3 h2⟩
    · rw [h1] at h; cases h.1
theorem any_nots {α : Type} (f : α → Bool) : ∀ l : List α, ((l.map fun x => !f x).any id) = !(l.all f)
  | [] => rfl
  | x :: r => by
    rw [List.map_cons, List.any_cons, List.all_cons, any_nots f r, Bool.not_and]
    rfl
theorem spansF_len : ∀ (f : Nat) (l : List Nat) (ss : List (List Nat × List Nat)), Tm.spansF f l = some ss → ss.length ≤ l.length
  | f, [], ss, h => by
    have : ss = [] := by cases f <;> exact (Option.some.inj h).symm
    subst this
    exact Nat.zero_le _
  | 0, c :: r, ss, h => by cases h
  | f + 1, c :: r, ss, h => by
    rw [Tm.spansF] at h
    cases e : Tm.spanAt (c :: r) with
    | none => rw [e] at h; cases h
    | some x =>
      obtain ⟨sp, rest⟩ := x
      rw [e] at h
      dsimp only at h
      obtain ⟨ss', e1, rfl⟩ := Option.map_eq_some_iff.mp h
      have h1 := spansF_len f rest ss' e1
      have h2 := spanAt_less e
      rw [List.length_cons] at h2 ⊢
      rw [List.length_cons]
      omega
theorem spansOf_len {l : List Nat} {ss : List (List Nat × List Nat)} (h : Tm.spansOf l = some ss) : ss.length ≤ l.length + 1 := by
  unfold Tm.spansOf at h
  obtain ⟨s0, e, rfl⟩ := Option.map_eq_some_iff.mp h
  have := spansF_len _ _ _ e
  unfold Tm.finish
  split
  · rw [List.length_append, List.length_singleton]; omega
  · omega
abbrev s_read_paragraph : Stmt := top 104
abbrev n_read_paragraph : List Str := ["document", "line", "spans", "told", "span", "items", "pieces"]
abbrev p_read_paragraph : List Str := ["document", "line"]
theorem sc_read_paragraph : FnScope n_read_paragraph p_read_paragraph (defScope s_read_paragraph) := ⟨rfl, rfl, rfl, by decide +kernel, rfl, by decide +kernel, by decide +kernel⟩
section
variable {P : Program} {w : World} {K : PySem.W.Frag} {mg : Str → Option Value} {base : Heap} {CD CI CS CL : Addr}
/-- what a paragraph's line is, by its last place -/
def parLine (tb : List Change) (l : List Nat) (last : Bool) : Except Nat (List Piece) := match Vatrkd.paragraph tb (l, true) with
  | .error k => .error k
  | .ok ps => if (last && !Vatrkd.endsClean ps) = true then .error 6 else .ok ps
def sp_read_paragraph (K : PySem.W.Frag) (CD CL : Addr) : Sp := fun vs H Q _ => ∃ (d ta ra ln dl na : Addr) (tb : List Change) (row : List Piece) (l : List Nat) (last : Bool), vs = [.ref d, .ref ln] ∧ DocAt K CD H d ta ra ∧ TabAt K H ta tb ∧ RowAt K H ra row ∧
  H ln = some (.ins CL dl (fLine.zip [.ref na, .bl true, .bl last])) ∧ SqL K H na (vN l) ∧ Vatrkd.sound (l, true) = true ∧ l.length < 900000 ∧ tb.length < 900000 ∧ row.length < 900000 ∧ (l.length + 2 < 4914 ∨ tb.length ≤ 650) ∧
  (∀ e, parLine tb l last = .error e → ∀ H', Same H H' → Q (.int (e : Nat)) H') ∧ (∀ ps, parLine tb l last = .ok ps → ∀ H', Kept ra H H' → RowAt K H' ra (row ++ ps) → Q (.int 0) H')
theorem ok_read_paragraph {k : Nat} (G : Glob mg) (T : Cs K CD CI CS CL) (c_spans_of : C8.Cal P w K mg base 7 "spans_of" (sp_spans_of K CS) []) (c_items_of : C8.Cal P w K mg base 5 "items_of" (sp_items_of K CI) [])
    (c_is_out_of_range : C8.Cal P w K mg base 2 "is_out_of_range" (sp_is_out_of_range CI) []) (c_is_at_odds : C8.Cal P w K mg base 2 "is_at_odds" (sp_is_at_odds K CI) []) (c_pieces_of : C8.Cal P w K mg base 3 "pieces_of" (sp_pieces_of K CS CI) [])
    (c_is_put_or_cut : C8.Cal P w K mg base 1 "is_put_or_cut" (sp_is_put_or_cut K) []) (D : Stands K mg "read_paragraph" s_read_paragraph) : C8.Cal P w K mg base (k + 8) "read_paragraph" (sp_read_paragraph K CD CL) [] := by
  refine cal_of D sc_read_paragraph (fun vs H Q E h => ?_) (fun _ _ _ _ _ _ us hl => match us, hl with | [_, _], _ => rfl) (fun f cdv A outer s H vs Q E hr h => ?_)
  · obtain ⟨d, ta, ra, ln, dl, na, tb, row, l, last, rfl, _⟩ := h
    rfl
  · obtain ⟨d, ta, ra, ln, dl, na, tb, row, l, last, rfl, ⟨dd, hD⟩, hT, hR, hln, hna, hso, b1, b2, b3, b4, q1, q2⟩ := h
    refine ⟨_, (pss_cons (ps_set (i := 2) sc_read_paragraph.nd rfl (Or.inl rfl) (C8.pe_c c_spans_of hr (by omega) (by rfl) (pa_cons (pe_fld (pv 1) rfl) pa_nil)))
      (pss_cons (ps_if (pt_cmpR op_isN (pv 2) pe_non (nomark _))
      (pss_one (ps_ret (pe_gv G.c_NOT_THE_SHAPE)))
      pss_nil)
      (pss_cons (ps_setLc (i := 3) (own := [("span", 4)]) (g := (gName 4)) (tt := tYes) (te := (tCall _ [] _ (tCons (tFld K (tVar 4) "marks") tNil))) rfl sc_read_paragraph.nd rfl rfl (sw_true rfl rfl rfl (by decide +kernel)) (pi_list (pv 2)) (blkOk_by (N := ["document", "line", "spans", "told", "span", "items", "pieces"]) (sc := defScope s_read_paragraph) (by decide +kernel)) (fun _ _ _ _ _ => (pg_name (i := 4) sc_read_paragraph.nd rfl (Or.inl rfl))) (fun _ _ _ _ _ => pts_nil) (fun _ _ _ _ _ => (C8.pe_c c_items_of hr (by omega) (by rfl) (pa_cons (pe_fld (pv 4) rfl) pa_nil))))
      (pss_cons (ps_if (pt_cmpR (op_noneInL hr.units) pe_non (pv 3) rfl)
      (pss_one (ps_ret (pe_gv G.c_NOT_THE_WORDS)))
      pss_nil)
      (pss_cons (ps_if (pt_val (pe_callB (cr_any rfl) (by rfl) G.b_any (by decide +kernel) (pa_cons (pe_lc (own := [("items", 5)]) (g := (gName 5)) (tt := tYes) (te := (tCall _ [] _ (tCons (tVar 5) (tCons (tCB (fun xs H Q => ∃ p ys, xs = [V.ref p] ∧ (SqL K H p ys ∨ SqT K H p ys) ∧ Q (.int ys.length) H) (tCons (tFld K (tVar 0) "table") tNil)) tNil)))) rfl sc_read_paragraph.nd (pi_list (pv 3)) (blkOk_by (N := ["document", "line", "spans", "told", "span", "items", "pieces"]) (sc := defScope s_read_paragraph) (by decide +kernel)) (fun _ _ _ _ _ => (pg_name (i := 5) sc_read_paragraph.nd rfl (Or.inl rfl))) (fun _ _ _ _ _ => pts_nil) (fun _ _ _ _ _ => (C8.pe_c c_is_out_of_range hr (by omega) (by rfl) (pa_cons (pv 5) (pa_cons (pe_callB call_len_seq (by rfl) G.b_len (by decide +kernel) (pa_cons (pe_fld (pv 0) rfl) pa_nil)) pa_nil))))) pa_nil)))
      (pss_one (ps_ret (pe_gv G.c_OUT_OF_RANGE)))
      pss_nil)
      (pss_cons (ps_if (pt_val (pe_callB (cr_any rfl) (by rfl) G.b_any (by decide +kernel) (pa_cons (pe_lc (own := [("items", 5)]) (g := (gName 5)) (tt := tYes) (te := (tCall _ [] _ (tCons (tVar 5) (tCons (tFld K (tVar 0) "table") tNil)))) rfl sc_read_paragraph.nd (pi_list (pv 3)) (blkOk_by (N := ["document", "line", "spans", "told", "span", "items", "pieces"]) (sc := defScope s_read_paragraph) (by decide +kernel)) (fun _ _ _ _ _ => (pg_name (i := 5) sc_read_paragraph.nd rfl (Or.inl rfl))) (fun _ _ _ _ _ => pts_nil) (fun _ _ _ _ _ => (C8.pe_c c_is_at_odds hr (by omega) (by rfl) (pa_cons (pv 5) (pa_cons (pe_fld (pv 0) rfl) pa_nil))))) pa_nil)))
      (pss_one (ps_ret (pe_gv G.c_AT_ODDS)))
      pss_nil)
      (pss_cons (ps_set (i := 6) sc_read_paragraph.nd rfl (Or.inl rfl) (C8.pe_c c_pieces_of hr (by omega) (by rfl) (pa_cons (pv 2) (pa_cons (pv 3) pa_nil))))
      (pss_cons (ps_if (PW.pt (pw_and (pt_val (pe_fld (pv 1) rfl)) (pw_and1 (pt_val (C8.pe_c c_is_put_or_cut hr (by omega) (by rfl) (pa_cons (pe_ix ix_tup (pe_ix ix_list (pv 6) (pe_un un_neg pe_int) (fun _ _ => rfl)) (pe_gv G.c_DRESS) (fun _ _ => rfl)) pa_nil))))))
      (pss_one (ps_ret (pe_gv G.c_END_NOT_PLAIN)))
      pss_nil)
      (pss_cons (ps_expr (pe_bm PySem.F.plainAttrs_list PySem.F.slot_list_extend PySem.F.type_list_extend mt_extend (pe_fld (pv 0) rfl) (pa_cons (pv 6) pa_nil)))
      (pss_one (ps_ret (pe_gv G.c_FINE)))))))))))), ?_⟩
    unfold parLine at q1 q2
    rw [Tm.paragraph_spans tb l hso] at q1 q2
    refine ⟨_, rfl, ln, CL, dl, _, _, rfl, hln, T.l.cl, T.l.no _ (by simp), lkL0, na, l, rfl, hna, by omega, fun hq H1 s1 => ?_, fun ss hq H1 sp s1 hsp => ?_⟩
    · rw [hq] at q1
      exact ⟨_, rfl, rfl, _, rfl, q1 2 rfl H1 s1⟩
    · rw [hq] at q1 q2
      dsimp only at q1 q2
      have hsum := Tm.spansOf_sum hq
      refine ⟨_, rfl, rfl, _, rfl, ?_⟩
      obtain ⟨as, a1, a2⟩ := hsp
      have hasl : as.length = ss.length := Paired.length a2
      -- told = [items_of(span.marks) for span in spans]
      refine ⟨_, rfl, sp, rfl, ⟨_, SqL.of a1⟩, fun Dd nD => ?_⟩
      refine lc_list (xs := as.map V.ref) (fun j Hx => Same H1 Hx ∧ ∃ zs : List V, Hx Dd = some (.lst zs) ∧ Paired (fun z (s : List Nat × List Nat) => ToldV CI Dd Hx z s.1) zs (ss.take j)) ⟨same_upd nD, [], upd_same, .nil⟩ (fun j Hx _ hP => SqL.of (hP.1 _ _ a1)) (fun j x Hx hx hP => ?_) (fun Hx hP => ?_)
      · obtain ⟨s2, zs, z1, z2⟩ := hP
        rw [List.getElem?_map] at hx
        obtain ⟨xa, hxa, rfl⟩ := Option.map_eq_some_iff.mp hx
        obtain ⟨sn, hsn, bb, mk, dx, sg, x1, x2, x3⟩ := paired_get a2 hxa
        have hmem := List.mem_of_getElem? hsn
        have hsl := Tm.sumS_mem hmem
        have hjl : j < ss.length := (List.getElem?_eq_some_iff.mp hsn).1
        have hssl : ss.length < 1000001 := by have := spansOf_len hq; omega
        have hlen : zs.length < sizeLine := by
          rw [Paired.length z2, List.length_take]
          have e : (1000001 : Nat) < sizeLine := by decide
          omega
        refine ⟨rfl, _, rfl, xa, CS, dx, _, _, rfl, s2 _ _ x1, T.s.cl, T.s.no _ (by simp), lkS0, mk, sn.1, rfl, SqL.of (s2 _ _ x3), by omega, fun hno H3 s3 => ?_, fun hyes H3 pp s3 np hI => ?_⟩
        · refine ⟨zs, s3 _ _ z1, hlen, same_write nD (s2.trans s3), zs ++ [.non], upd_same, ?_⟩
          rw [List.take_add_one, hsn]
          exact paired_snoc (Paired.mapP z2 fun z y h => (h.same s3).upd (s3 _ _ z1)) (.inr ⟨hno, rfl⟩)
        · have npD : pp ≠ Dd := fun z => by rw [z, z1] at np; cases np
          refine ⟨zs, s3 _ _ z1, hlen, same_write nD (s2.trans s3), zs ++ [.ref pp], upd_same, ?_⟩
          rw [List.take_add_one, hsn]
          exact paired_snoc (Paired.mapP z2 fun z y h => (h.same s3).upd (s3 _ _ z1)) (.inl ⟨hyes, pp, rfl, npD, hI.upd npD (s3 _ _ z1)⟩)
      · obtain ⟨s2, zs, z1, z2⟩ := hP
        rw [List.length_map, hasl, List.take_length] at z2
        have s12 := s1.trans s2
        refine ⟨_, rfl, Dd, zs, rfl, rfl, SqL.of z1, fun z hz => ?_, _, rfl, ?_⟩
        · obtain ⟨y, _, hy⟩ := paired_mem z2 hz
          rcases hy with ⟨_, a, rfl, _, b, hb, _⟩ | ⟨_, rfl⟩
          · exact .inr ⟨a, _, rfl, SqL.of hb⟩
          · exact .inl rfl
        · rw [told_any z2]
          cases hall : (ss.all fun r => (Vatrkd.itemsOf r.1).all fun i => i.isSome) with
          | false =>
            rw [hall] at q1
            exact q1 3 rfl Hx s12
          | true =>
            rw [hall, if_neg (by decide)] at q1 q2
            have hssl : ss.length < 1000001 := by have := spansOf_len hq; omega
            have e9 : (4000001 : Nat) < sizeLine := by decide
            obtain ⟨bs, rfl, hbs⟩ := told_all z2 hall
            have hbl : bs.length = ss.length := by rw [Paired.length hbs, List.length_map]
            -- any([is_out_of_range(..)])
            refine ⟨_, rfl, Dd, rfl, ⟨_, SqL.of z1⟩, fun D2 n2 => ?_⟩
            refine lc_list (xs := bs.map V.ref) (fun j Hy => Same Hx Hy ∧ Hy D2 = some (.lst (((ss.take j).map fun r => !(Vatrkd.told r.1).all (Vatrkd.inRange tb.length)).map V.bl))) ⟨same_upd n2, upd_same⟩ (fun j Hy _ hP => SqL.of (hP.1 _ _ z1)) (fun j x Hy hx hP => ?_) (fun Hy hP => ?_)
            · obtain ⟨s3, hy⟩ := hP
              rw [List.getElem?_map] at hx
              obtain ⟨xa, hxa, rfl⟩ := Option.map_eq_some_iff.mp hx
              obtain ⟨its, hits, hI⟩ := paired_get hbs hxa
              rw [List.getElem?_map] at hits
              obtain ⟨sn, hsn, rfl⟩ := Option.map_eq_some_iff.mp hits
              have hjl : j < ss.length := (List.getElem?_eq_some_iff.mp hsn).1
              have s13 := s12.trans s3
              obtain ⟨cs, hc1, hc2⟩ := hT.same s13
              have hcl : (cs.map V.ref).length = tb.length := by rw [List.length_map, Paired.length hc2]
              refine ⟨rfl, _, rfl, _, rfl, d, CD, dd, _, _, rfl, s13 _ _ hD, T.d.cl, T.d.no _ (by simp), lkD0, ta, _, rfl, .inl (SqL.of hc1), xa, Vatrkd.told sn.1, _, rfl, hI.same s3, by rw [hcl]; omega, fun H4 s4 => ⟨_, s4 _ _ hy, ?_, same_write n2 (s3.trans s4), ?_⟩⟩
              · rw [List.length_map, List.length_map, List.length_take]
                omega
              · rw [upd_same, List.take_add_one, hsn, List.map_append, List.map_append, hcl]
                rfl
            · obtain ⟨s3, hy⟩ := hP
              rw [List.length_map, hbl, List.take_length] at hy
              have s13 := s12.trans s3
              refine ⟨D2, _, rfl, SqL.of hy, _, rfl, ?_⟩
              rw [any_nots fun (r : List Nat × List Nat) => (Vatrkd.told r.1).all (Vatrkd.inRange tb.length)]
              cases hrng : (ss.all fun r => (Vatrkd.told r.1).all (Vatrkd.inRange tb.length)) with
              | false =>
                rw [hrng] at q1
                exact q1 4 rfl Hy s13
              | true =>
                rw [hrng, if_neg (by decide)] at q1 q2
                -- any([is_at_odds(..)])
                refine ⟨_, rfl, Dd, rfl, ⟨_, SqL.of (s3 _ _ z1)⟩, fun D3 n3 => ?_⟩
                refine lc_list (xs := bs.map V.ref) (fun j Hz => Same Hy Hz ∧ Hz D3 = some (.lst (((ss.take j).map fun r => !Vatrkd.fits tb (Vatrkd.told r.1)).map V.bl))) ⟨same_upd n3, upd_same⟩ (fun j Hz _ hP => SqL.of (hP.1 _ _ (s3 _ _ z1))) (fun j x Hz hx hP => ?_) (fun Hz hP => ?_)
                · obtain ⟨s4, hz⟩ := hP
                  rw [List.getElem?_map] at hx
                  obtain ⟨xa, hxa, rfl⟩ := Option.map_eq_some_iff.mp hx
                  obtain ⟨its, hits, hI⟩ := paired_get hbs hxa
                  rw [List.getElem?_map] at hits
                  obtain ⟨sn, hsn, rfl⟩ := Option.map_eq_some_iff.mp hits
                  have hmem := List.mem_of_getElem? hsn
                  have hjl : j < ss.length := (List.getElem?_eq_some_iff.mp hsn).1
                  have s14 := s13.trans s4
                  have hsl := Tm.sumS_mem hmem
                  have htl := Tm.told_len sn.1
                  refine ⟨rfl, _, rfl, _, rfl, d, CD, dd, _, _, rfl, s14 _ _ hD, T.d.cl, T.d.no _ (by simp), lkD0, xa, Vatrkd.told sn.1, ta, tb, rfl, hI.same (s3.trans s4), hT.same s14, by omega, by omega, List.all_eq_true.mp hrng sn hmem, Tm.told_place sn.1, by omega, fun H5 s5 => ⟨_, s5 _ _ hz, ?_, same_write n3 (s4.trans s5), ?_⟩⟩
                  · rw [List.length_map, List.length_map, List.length_take]
                    omega
                  · rw [upd_same, List.take_add_one, hsn, List.map_append, List.map_append]
                    rfl
                · obtain ⟨s4, hz⟩ := hP
                  rw [List.length_map, hbl, List.take_length] at hz
                  have s14 := s13.trans s4
                  refine ⟨D3, _, rfl, SqL.of hz, _, rfl, ?_⟩
                  rw [any_nots fun (r : List Nat × List Nat) => Vatrkd.fits tb (Vatrkd.told r.1)]
                  cases hfit : (ss.all fun r => Vatrkd.fits tb (Vatrkd.told r.1)) with
                  | false =>
                    rw [hfit] at q1
                    exact q1 5 rfl Hz s14
                  | true =>
                    rw [hfit, if_neg (by decide)] at q1 q2
                    have s24 := (s2.trans s3).trans s4
                    refine ⟨_, rfl, _, rfl, sp, ss, Dd, ss.map fun s => Vatrkd.told s.1, tb.length, rfl, ⟨as, s24 _ _ a1, Paired.mapP a2 fun a r z => z.same s24⟩, ⟨bs, (s3.trans s4) _ _ z1, Paired.mapP hbs fun a r z => z.same (s3.trans s4)⟩, by rw [List.length_map], by omega, fun its hm => ?_, ?_, fun H6 p s6 np hp => ?_⟩
                    · obtain ⟨r, hr', rfl⟩ := List.mem_map.mp hm
                      have h1 := Tm.told_len r.1
                      have h2 := Tm.sumS_mem hr'
                      have h3 := List.all_eq_true.mp hfit r hr'
                      unfold Vatrkd.fits at h3
                      rw [Bool.and_eq_true] at h3
                      exact ⟨by omega, List.all_eq_true.mp hrng r hr', h3.1, Tm.told_place r.1⟩
                    · exact Nat.lt_of_le_of_lt (Tm.sumS_flat ss) (by omega)
                    · rw [rowOf_spans] at hp
                      have s16 := s14.trans s6
                      obtain ⟨lm, li, hli⟩ := Tm.spansOf_last hq
                      have hpl : (ss.flatMap fun r => r.2.map (Vatrkd.dressed r.1)).length ≤ l.length + 1 := by
                        have h1 := Tm.sumS_flat ss
                        have h2 : (ss.flatMap fun r => r.2.map (Vatrkd.dressed r.1)).length = (ss.flatMap fun s => s.2).length := by
                          rw [List.length_flatMap, List.length_flatMap]
                          congr 1
                          exact List.map_congr_left fun r _ => List.length_map _
                        rw [h2]
                        exact Nat.le_trans h1 hsum
                      have hps : (ss.flatMap fun r => r.2.map (Vatrkd.dressed r.1)) = (li.flatMap fun r => r.2.map (Vatrkd.dressed r.1)) ++ [Vatrkd.dressed lm 10] := by
                        rw [hli, List.flatMap_append]
                        rfl
                      generalize (ss.flatMap fun r => r.2.map (Vatrkd.dressed r.1)) = ps at q1 q2 hp hps hpl
                      have hlast : ps.getLast? = some (Vatrkd.dressed lm 10) := by rw [hps]; simp
                      have hclean := ends_clean hlast
                      generalize Vatrkd.dressed lm 10 = xl at hlast hclean hps
                      obtain ⟨es, e1, e2⟩ := hp
                      -- document.row.extend(pieces)
                      have fin : (last && !Vatrkd.endsClean ps) = false → ∀ D : Ends, D.rt = Q → tSeq (tDrop (tBM K "list" rExtend (tFld K (tVar 0) "row") (tCons (tVar 6) tNil))) (tRet (tC (.int 0))) D [some (.ref d), some (.ref ln), some (.ref sp), some (.ref Dd), none, none, some (.ref p)] H6 := by
                        intro hb D hD'
                        obtain ⟨rs, r1, r2⟩ := hR.same s16
                        refine ⟨_, rfl, d, CD, dd, _, _, rfl, s16 _ _ hD, T.d.cl, T.d.no _ (by simp), lkD1, .inl ⟨rfl, _, SqL.of r1⟩, _, rfl, ra, p, _, _, rfl, rfl, r1, e1, ?_, ?_⟩
                        · rw [List.length_map, List.length_map, Paired.length r2, Paired.length e2]
                          omega
                        · show D.rt (.int 0) _
                          rw [hD']
                          have kt : KeepT K H6 (upd H6 ra (.lst (rs.map V.ref ++ es.map V.ref))) := keepT_upd r1 (fun _ z => by cases z) (fun _ _ z => by cases z)
                          refine q2 ps ?_ _ (fun b o h nb => ?_) ⟨rs ++ es, ?_, paired_app (Paired.mapP r2 fun b x z => dp_keep kt _ _ (tupD_piece x) z) (Paired.mapP e2 fun b x z => dp_keep kt _ _ (tupD_piece x) z)⟩
                          · dsimp only
                            rw [hb, if_neg (by decide)]
                          · rw [upd_ne nb]
                            exact s16 _ _ h
                          · rw [upd_same, List.map_append]
                      refine ⟨_, rfl, ln, CL, dl, _, _, rfl, s16 _ _ hln, T.l.cl, T.l.no _ (by simp), lkL2, _, rfl, ?_⟩
                      cases hla : last with
                      | false => exact fin (by rw [hla]; rfl) _ rfl
                      | true =>
                        have hel : es.length = ps.length := Paired.length e2
                        have hpl0 : 0 < ps.length := by rw [hps, List.length_append]; simp
                        have hget : ps[ps.length - 1]? = some xl := by rw [← List.getLast?_eq_getElem?]; exact hlast
                        obtain ⟨xa, hxa, hxd⟩ := paired_get2 e2 hget
                        obtain ⟨dr, hx1, hx2⟩ := piece_at hxd
                        refine ⟨_, rfl, _, rfl, p, _, _, _, rfl, rfl, SqL.of e1, atI_last ?_, xa, _, _, _, rfl, rfl, hx1, at_of (j := 1) rfl rfl, dr, xl, rfl, hx2, _, rfl, ?_⟩
                        · rw [List.length_map, hel, List.getElem?_map, hxa]
                          rfl
                        · cases hpc : putCut xl with
                          | true =>
                            refine q1 6 ?_ H6 s16
                            dsimp only
                            rw [hclean, hpc, hla]
                            rfl
                          | false =>
                            refine fin ?_ _ rfl
                            rw [hclean, hpc, hla]
                            rfl
end
end Td
set_option maxRecDepth 100000
set_option maxHeartbeats 4000000
namespace Td
open PySem PySem.Spec PyProof.Rows L2
open Vatrka (Piece Pending Change)
/-! ### lines -/
/-- a text's numbers as the document takes them -/
abbrev nat (l : List Int) : List Nat := l.map Int.toNat
def linI : List Int → List (List Int × Bool)
  | [] => []
  | c :: r => if c = 10 then ([], true) :: linI r else match linI r with
    | (l, e) :: ls => (c :: l, e) :: ls
    | [] => [([c], false)]
theorem lin_nat : ∀ t : List Int, Vatrkd.linesOf (nat t) = (linI t).map fun x => (nat x.1, x.2)
  | [] => rfl
  | c :: r => by
    have ih := lin_nat r
    show Vatrkd.linesOf (c.toNat :: nat r) = _
    rw [Vatrkd.linesOf, linI]
    by_cases h : c = 10
    · subst h
      rw [if_pos rfl, if_pos (by decide), ih]
      rfl
    · rw [if_neg h, if_neg (by omega), ih]
      cases e : linI r with
      | nil => rfl
      | cons x ls => rfl
theorem lin_split : ∀ (a r : List Int), 10 ∉ a → linI (a ++ 10 :: r) = (a, true) :: linI r
  | [], r, _ => by
    show linI (10 :: r) = _
    rw [linI, if_pos rfl]
  | c :: a, r, h => by
    have hc : c ≠ 10 := fun z => h (by rw [z]; exact List.mem_cons_self)
    show linI (c :: (a ++ 10 :: r)) = _
    rw [linI, if_neg hc, lin_split a r fun z => h (List.mem_cons_of_mem _ z)]
theorem lin_rest : ∀ (a : List Int), a ≠ [] → 10 ∉ a → linI a = [(a, false)]
  | [], h, _ => absurd rfl h
  | c :: a, _, h => by
    have hc : c ≠ 10 := fun z => h (by rw [z]; exact List.mem_cons_self)
    rw [linI, if_neg hc]
    cases a with
    | nil => rfl
    | cons d b =>
      rw [lin_rest (d :: b) (fun z => by cases z) fun z => h (List.mem_cons_of_mem _ z)]
theorem lin_nil {t : List Int} : linI t = [] ↔ t = [] := by
  cases t with
  | nil => exact ⟨fun _ => rfl, fun _ => rfl⟩
  | cons c r =>
    refine ⟨fun h => ?_, fun h => by cases h⟩
    rw [linI] at h
    by_cases hc : c = 10
    · rw [if_pos hc] at h; cases h
    · rw [if_neg hc] at h
      cases e : linI r with
      | nil => rw [e] at h; cases h
      | cons x ls => rw [e] at h; cases h
/-- which is the last -/
def mark : List (List Int × Bool) → List (List Int × Bool × Bool)
  | [] => []
  | x :: r => (x.1, x.2, r.isEmpty) :: mark r
theorem mark_len : ∀ ls, (mark ls).length = ls.length
  | [] => rfl
  | x :: r => by rw [mark, List.length_cons, List.length_cons, mark_len r]
/-- how much of the text lines are -/
def used (ls : List (List Int × Bool × Bool)) : Nat := (ls.map fun x => x.1.length + (if x.2.1 = true then 1 else 0)).sum
theorem used_app (a b : List (List Int × Bool × Bool)) : used (a ++ b) = used a + used b := by
  unfold used
  rw [List.map_append, List.sum_append]
theorem lin_used : ∀ t : List Int, used (mark (linI t)) = t.length
  | [] => rfl
  | c :: r => by
    have ih := lin_used r
    rw [linI]
    by_cases hc : c = 10
    · rw [if_pos hc, mark]
      unfold used at ih ⊢
      rw [List.map_cons, List.sum_cons, ih, List.length_cons]
      simp
      omega
    · rw [if_neg hc]
      cases e : linI r with
      | nil =>
        have := lin_nil.mp e
        subst this
        rfl
      | cons x ls =>
        rw [e] at ih
        rw [mark] at ih ⊢
        unfold used at ih ⊢
        rw [List.map_cons, List.sum_cons] at ih ⊢
        rw [List.length_cons, List.length_cons]
        dsimp only at ih ⊢
        omega
/-! ### the reading, line by line -/
structure Rd where
  aw : Nat
  tb : List Change
  row : List Piece
def rdStep (r : Rd) (x : List Nat × Bool) (last : Bool) : Except Nat Rd :=
  if Vatrkd.sound x = false then .error 1
  else if r.aw = 2 then (match parLine r.tb x.1 last with
    | .error k => .error k
    | .ok ps => .ok { r with row := r.row ++ ps })
  else if r.aw = 0 then (if x.1 = Vatrkd.word "tracked 1" then .ok { r with aw := 1 } else .error 2)
  else if x.1 = Vatrkd.word "text" then .ok { r with aw := 2 }
  else match Vatrkd.changeLine (r.tb.length + 1) x.1 with
    | .error k => .error k
    | .ok c => .ok { r with tb := r.tb ++ [c] }
def rdRun : Rd → Nat → List (List Int × Bool × Bool) → Except (Nat × Nat) Rd
  | r, _, [] => .ok r
  | r, i, x :: ls => match rdStep r (nat x.1, x.2.1) x.2.2 with
    | .error k => .error (i, k)
    | .ok r' => rdRun r' (i + 1) ls
theorem rdRun_app : ∀ (a b : List (List Int × Bool × Bool)) (r : Rd) (i : Nat), rdRun r i (a ++ b) = (match rdRun r i a with
    | .error f => .error f
    | .ok r' => rdRun r' (i + a.length) b)
  | [], b, r, i => by
    show rdRun r i b = rdRun r (i + 0) b
    rw [Nat.add_zero]
  | x :: a, b, r, i => by
    show rdRun r i (x :: (a ++ b)) = _
    rw [rdRun, rdRun]
    cases e : rdStep r (nat x.1, x.2.1) x.2.2 with
    | error k => rfl
    | ok r' =>
      dsimp only
      rw [rdRun_app a b r' (i + 1), List.length_cons, show i + 1 + a.length = i + (a.length + 1) by omega]
theorem par_sound {tb : List Change} {x : List Nat × Bool} (h : Vatrkd.sound x = false) : Vatrkd.paragraph tb x = .error 1 := by
  unfold Vatrkd.paragraph
  rw [if_pos h]
theorem par_ne {tb : List Change} {x : List Nat × Bool} {ps : List Piece} (h : Vatrkd.paragraph tb x = .ok ps) : ps ≠ [] := by
  unfold Vatrkd.paragraph at h
  by_cases h1 : Vatrkd.sound x = false
  · rw [if_pos h1] at h; cases h
  · rw [if_neg h1] at h
    cases e : Vatrkd.shape .plain x.1 with
    | none => rw [e] at h; cases h
    | some p =>
      obtain ⟨rs, m⟩ := p
      rw [e] at h
      dsimp only at h
      split at h
      · cases h
      · split at h
        · cases h
        · split at h
          · cases h
          · obtain rfl := Except.ok.inj h
            exact fun z => by have := congrArg List.length z; simp at this
theorem run_body : ∀ (ls : List (List Int × Bool)) (tb : List Change) (row : List Piece) (i : Nat), rdRun ⟨2, tb, row⟩ i (mark ls) = (match Vatrkd.readBody tb i (ls.map fun x => (nat x.1, x.2)) with
    | .error f => .error f
    | .ok ps => .ok ⟨2, tb, row ++ ps⟩)
  | [], tb, row, i => by
    show Except.ok _ = Except.ok _
    rw [List.append_nil]
  | x :: r, tb, row, i => by
    have ih := run_body r tb
    rw [mark, rdRun, List.map_cons, Vatrkd.readBody]
    dsimp only
    have hem : (r.map fun x => (nat x.1, x.2)).isEmpty = r.isEmpty := by cases r <;> rfl
    rw [hem]
    unfold rdStep
    by_cases hs : Vatrkd.sound (nat x.1, x.2) = false
    · rw [if_pos hs, par_sound hs]
    · rw [if_neg hs, if_pos rfl]
      have hs' : Vatrkd.sound (nat x.1, x.2) = true := by
        cases z : Vatrkd.sound (nat x.1, x.2) with
        | true => rfl
        | false => exact absurd z hs
      have hx : x.2 = true := by
        unfold Vatrkd.sound at hs'
        rw [Bool.and_eq_true] at hs'
        exact hs'.1
      unfold parLine
      rw [hx]
      cases e : Vatrkd.paragraph tb (nat x.1, true) with
      | error k => rfl
      | ok ps =>
        dsimp only
        by_cases hl : (r.isEmpty && !Vatrkd.endsClean ps) = true
        · rw [if_pos hl, if_pos hl]
        · rw [if_neg hl, if_neg hl]
          dsimp only
          rw [ih]
          cases e2 : Vatrkd.readBody tb (i + 1) (r.map fun x => (nat x.1, x.2)) with
          | error f => rfl
          | ok qs =>
            dsimp only
            rw [List.append_assoc]
theorem body_ne {tb : List Change} {i : Nat} {x : List Nat × Bool} {r : List (List Nat × Bool)} {ps : List Piece} (h : Vatrkd.readBody tb i (x :: r) = .ok ps) : ps ≠ [] := by
  rw [Vatrkd.readBody] at h
  cases e : Vatrkd.paragraph tb x with
  | error k => rw [e] at h; cases h
  | ok qs =>
    rw [e] at h
    dsimp only at h
    split at h
    · cases h
    · cases e2 : Vatrkd.readBody tb (i + 1) r with
      | error f => rw [e2] at h; cases h
      | ok rs =>
        rw [e2] at h
        obtain rfl := Except.ok.inj h
        exact fun z => par_ne e (List.append_eq_nil_iff.mp z).1
/-- what becomes of what was read at the end -/
def rdEnd (n : Nat) : Except (Nat × Nat) Rd → Except (Nat × Nat) Vatrkd.Doc
  | .error f => .error f
  | .ok r => if r.row = [] then .error (n + 1, 7) else .ok { table := r.tb, row := r.row }
theorem run_head : ∀ (ls : List (List Int × Bool)) (tb : List Change) (i : Nat), 1 ≤ i → rdEnd (i - 1 + ls.length) (rdRun ⟨1, tb, []⟩ i (mark ls)) = Vatrkd.readHead i tb (ls.map fun x => (nat x.1, x.2))
  | [], tb, i, hi => by
    show (if ([] : List Piece) = [] then Except.error (i - 1 + 0 + 1, 7) else Except.ok { table := tb, row := [] }) = Except.error (i, 7)
    rw [if_pos rfl, show i - 1 + 0 + 1 = i by omega]
  | x :: r, tb, i, hi => by
    rw [mark, rdRun, List.map_cons, Vatrkd.readHead]
    dsimp only
    have hem : (r.map fun x => (nat x.1, x.2)).isEmpty = r.isEmpty := by cases r <;> rfl
    rw [hem]
    unfold rdStep
    by_cases hs : Vatrkd.sound (nat x.1, x.2) = false
    · rw [if_pos hs, if_pos hs]
      rfl
    · rw [if_neg hs, if_neg hs, if_neg (show ¬ (1 : Nat) = 2 by decide), if_neg (show ¬ (1 : Nat) = 0 by decide)]
      dsimp only
      by_cases ht : nat x.1 = Vatrkd.word "text"
      · rw [if_pos ht, if_pos ht]
        dsimp only
        rw [run_body]
        cases r with
        | nil =>
          show (if ([] : List Piece) = [] then Except.error (i - 1 + 1 + 1, 7) else Except.ok { table := tb, row := [] }) = Except.error (i + 1, 7)
          rw [if_pos rfl, show i - 1 + 1 + 1 = i + 1 by omega]
        | cons y r =>
          rw [if_neg (by show ¬ false = true; decide)]
          cases e : Vatrkd.readBody tb (i + 1) ((y :: r).map fun x => (nat x.1, x.2)) with
          | error f => rfl
          | ok ps =>
            show (if ([] : List Piece) ++ ps = [] then Except.error (_, 7) else Except.ok ({ table := tb, row := [] ++ ps } : Vatrkd.Doc)) = _
            rw [List.nil_append, if_neg (body_ne e)]
      · rw [if_neg ht, if_neg ht]
        cases e : Vatrkd.changeLine (tb.length + 1) (nat x.1) with
        | error k => rfl
        | ok c =>
          dsimp only
          have ih := run_head r (tb ++ [c]) (i + 1) (by omega)
          rw [← ih, List.length_cons, show i - 1 + (r.length + 1) = i + 1 - 1 + r.length by omega]
theorem run_doc (t : List Int) : rdEnd (linI t).length (rdRun ⟨0, [], []⟩ 1 (mark (linI t))) = Vatrkd.readDoc (nat t) := by
  unfold Vatrkd.readDoc
  rw [lin_nat]
  cases e : linI t with
  | nil => rfl
  | cons x r =>
    rw [mark, rdRun, List.map_cons]
    dsimp only
    unfold rdStep
    by_cases hs : Vatrkd.sound (nat x.1, x.2) = false
    · rw [if_pos hs, if_pos hs]
      rfl
    · rw [if_neg hs, if_neg hs, if_neg (show ¬ (0 : Nat) = 2 by decide), if_pos rfl]
      dsimp only
      by_cases ht : nat x.1 = Vatrkd.word "tracked 1"
      · rw [if_pos ht, if_pos ht]
        dsimp only
        have := run_head r [] 2 (by decide)
        rw [List.length_cons, show r.length + 1 = 2 - 1 + r.length by omega]
        exact this
      · rw [if_neg ht, if_neg ht]
        rfl
end Td
set_option maxRecDepth 100000
set_option maxHeartbeats 4000000
namespace Td
open PySem PySem.Spec PyProof.Rows L2
open Vatrka (Piece Pending Change)
/-! ### bounds -/
theorem cut_sum (sep : Nat) : ∀ l : List Nat, ((Vatrkd.cutAt sep l).map List.length).sum + (Vatrkd.cutAt sep l).length = l.length + 1
  | [] => rfl
  | c :: r => by
    have ih := cut_sum sep r
    rw [Vatrkd.cutAt]
    by_cases h : c = sep
    · rw [if_pos h, List.map_cons, List.sum_cons, List.length_cons, List.length_cons, List.length_nil]
      omega
    · rw [if_neg h]
      cases e : Vatrkd.cutAt sep r with
      | nil => exact absurd e (Tm.cutAt_ne sep r)
      | cons w ws =>
        rw [e] at ih
        rw [List.map_cons, List.sum_cons, List.length_cons] at ih
        dsimp only
        rw [List.map_cons, List.sum_cons, List.length_cons, List.length_cons, List.length_cons]
        omega
theorem numeral_pos {l : List Nat} {n : Nat} (h : Vatrkd.numeral l = some n) : 1 ≤ l.length := List.length_pos_iff.mpr (Tm.numeral_val h).2.1
theorem change_len {i : Nat} {l : List Nat} {c : Change} (h : Vatrkd.changeLine i l = .ok c) : 22 ≤ l.length := by
  rw [chLine_is] at h
  have hs := cut_sum 32 l
  by_cases h7 : (Vatrkd.cutAt 32 l).length = 7
  · obtain ⟨x0, x1, x2, x3, x4, x5, x6, e⟩ := seven h7
    rw [e] at h hs
    cases hsh : chShape [x0, x1, x2, x3, x4, x5, x6] with
    | false => rw [chLine_shape hsh] at h; cases h
    | true =>
      have e1 : chShape [x0, x1, x2, x3, x4, x5, x6] = (x0 == Vatrkd.word "change" && (x2 == Vatrkd.word "by" && (x4 == Vatrkd.word "at" && Vatrkd.kindWords.any fun z => z == x6))) := rfl
      rw [e1, Bool.and_eq_true, Bool.and_eq_true, Bool.and_eq_true, beq_iff_eq, beq_iff_eq, beq_iff_eq] at hsh
      obtain ⟨h0, h2, h4, h6⟩ := hsh
      have ech : chLine i [x0, x1, x2, x3, x4, x5, x6] = (match Vatrkd.numeral x1, Vatrkd.numeral x3, Vatrkd.numeral x5 with
        | some n, some a, some t => if (n == i && (decide (1 ≤ a) && decide (a ≤ 99))) = true then .ok { author := a, time := t, kind := (Vatrkd.kindWords.findIdx fun z => z == x6) + 1 } else .error 4
        | _, _, _ => .error 3) := by
        have h' : ¬ (x0 == Vatrkd.word "change" && (x2 == Vatrkd.word "by" && (x4 == Vatrkd.word "at" && Vatrkd.kindWords.any fun z => z == x6))) = false := by
          rw [h0, h2, h4, h6]
          decide
        exact if_neg h'
      rw [ech] at h
      cases n1 : Vatrkd.numeral x1 with
      | none => rw [n1] at h; cases h
      | some a1 => cases n3 : Vatrkd.numeral x3 with
        | none => rw [n1, n3] at h; cases h
        | some a3 => cases n5 : Vatrkd.numeral x5 with
          | none => rw [n1, n3, n5] at h; cases h
          | some a5 =>
            have l1 := numeral_pos n1
            have l3 := numeral_pos n3
            have l5 := numeral_pos n5
            have l0 : x0.length = 6 := by rw [h0]; decide +kernel
            have l2 : x2.length = 2 := by rw [h2]; decide +kernel
            have l4 : x4.length = 2 := by rw [h4]; decide +kernel
            have l6 : 3 ≤ x6.length := by
              obtain ⟨z, hz, e⟩ := List.any_eq_true.mp h6
              rw [beq_iff_eq] at e
              subst e
              have : ∀ z ∈ Vatrkd.kindWords, 3 ≤ z.length := by decide +kernel
              exact this _ hz
            simp only [List.map_cons, List.map_nil, List.sum_cons, List.sum_nil, List.length_cons, List.length_nil] at hs
            omega
  · rw [chLine_shape (chShape_no h7)] at h
    cases h
theorem par_len {tb : List Change} {l : List Nat} {ps : List Piece} (hs : Vatrkd.sound (l, true) = true) (h : Vatrkd.paragraph tb (l, true) = .ok ps) : ps.length ≤ l.length + 1 := by
  rw [Tm.paragraph_spans tb l hs] at h
  cases hq : Tm.spansOf l with
  | none => rw [hq] at h; cases h
  | some ss =>
    rw [hq] at h
    dsimp only at h
    split at h
    · cases h
    · split at h
      · cases h
      · split at h
        · cases h
        · obtain rfl := Except.ok.inj h
          have h2 : (ss.flatMap fun r => r.2.map (Vatrkd.dressed r.1)).length = (ss.flatMap fun s => s.2).length := by
            rw [List.length_flatMap, List.length_flatMap]
            congr 1
            exact List.map_congr_left fun r _ => List.length_map _
          rw [h2]
          exact Nat.le_trans (Tm.sumS_flat ss) (Tm.spansOf_sum hq)
/-- a reading so far is no longer than the text -/
structure Small (u : Nat) (r : Rd) : Prop where
  tb : r.tb.length * 23 ≤ u
  row : r.row.length ≤ u
  aw : r.aw ≤ 2
theorem small_step {u : Nat} {r r' : Rd} {x : List Int × Bool × Bool} (h : Small u r) (e : rdStep r (nat x.1, x.2.1) x.2.2 = .ok r') : Small (u + used [x]) r' := by
  have hu : used [x] = x.1.length + (if x.2.1 = true then 1 else 0) := by unfold used; simp
  unfold rdStep at e
  split at e
  · cases e
  · rename_i hs
    have hs' : Vatrkd.sound (nat x.1, x.2.1) = true := by
      cases z : Vatrkd.sound (nat x.1, x.2.1) with
      | true => rfl
      | false => exact absurd z hs
    have hx : x.2.1 = true := by
      unfold Vatrkd.sound at hs'
      rw [Bool.and_eq_true] at hs'
      exact hs'.1
    rw [hx] at hs'
    rw [if_pos hx] at hu
    have hl : (nat x.1).length = x.1.length := List.length_map _
    split at e
    · cases e2 : parLine r.tb (nat x.1) x.2.2 with
      | error k => rw [e2] at e; cases e
      | ok ps =>
        rw [e2] at e
        obtain rfl := Except.ok.inj e
        have : ps.length ≤ (nat x.1).length + 1 := by
          unfold parLine at e2
          cases e3 : Vatrkd.paragraph r.tb (nat x.1, true) with
          | error k => rw [e3] at e2; cases e2
          | ok qs =>
            rw [e3] at e2
            dsimp only at e2
            split at e2
            · cases e2
            · obtain rfl := Except.ok.inj e2
              exact par_len hs' e3
        refine ⟨by have := h.tb; show r.tb.length * 23 ≤ _; omega, ?_, h.aw⟩
        show (r.row ++ ps).length ≤ _
        rw [List.length_append]
        have := h.row
        omega
    · split at e
      · split at e
        · obtain rfl := Except.ok.inj e
          exact ⟨by have := h.tb; show r.tb.length * 23 ≤ _; omega, by have := h.row; show r.row.length ≤ _; omega, by show 1 ≤ 2; decide⟩
        · cases e
      · split at e
        · obtain rfl := Except.ok.inj e
          exact ⟨by have := h.tb; show r.tb.length * 23 ≤ _; omega, by have := h.row; show r.row.length ≤ _; omega, by show 2 ≤ 2; decide⟩
        · cases e2 : Vatrkd.changeLine (r.tb.length + 1) (nat x.1) with
          | error k => rw [e2] at e; cases e
          | ok c =>
            rw [e2] at e
            obtain rfl := Except.ok.inj e
            have := change_len e2
            refine ⟨?_, by have := h.row; show r.row.length ≤ _; omega, h.aw⟩
            show (r.tb ++ [c]).length * 23 ≤ _
            rw [List.length_append, List.length_singleton]
            have := h.tb
            omega
end Td
set_option maxRecDepth 100000
set_option maxHeartbeats 4000000
namespace Td
open PySem PySem.Spec PyProof.Rows L2
open Vatrka (Piece Pending Change)
/-- whole numbers as values -/
def vI (l : List Int) : List V := l.map V.int
theorem vI_len (l : List Int) : (vI l).length = l.length := by
  unfold vI
  rw [List.length_map]
theorem vI_get (l : List Int) (i : Nat) : (vI l)[i]? = l[i]?.map V.int := by
  unfold vI
  rw [List.getElem?_map]
theorem vI_drop (l : List Int) (i : Nat) : (vI l).drop i = vI (l.drop i) := by
  unfold vI
  rw [List.map_drop]
theorem vI_take (l : List Int) (i : Nat) : (vI l).take i = vI (l.take i) := by
  unfold vI
  rw [List.map_take]
/-- a line of the text, its list free in H0 -/
def LineAt (CL : Addr) (H0 H : Hp) (x : Addr) (r : List Int × Bool × Bool) : Prop := ∃ dl na, H x = some (.ins CL dl (fLine.zip [.ref na, .bl r.2.1, .bl r.2.2])) ∧ H na = some (.lst (vI r.1)) ∧ H0 na = none
theorem LineAt.same {CL : Addr} {H0 H H' : Hp} {x : Addr} {r : List Int × Bool × Bool} (e : Same H H') (h : LineAt CL H0 H x r) : LineAt CL H0 H' x r := by
  obtain ⟨dl, na, h1, h2, h3⟩ := h
  exact ⟨dl, na, e _ _ h1, e _ _ h2, h3⟩
def LineP (CL p : Addr) (H0 H : Hp) (x : Addr) (r : List Int × Bool × Bool) : Prop := ∃ dl na, H x = some (.ins CL dl (fLine.zip [.ref na, .bl r.2.1, .bl r.2.2])) ∧ H na = some (.lst (vI r.1)) ∧ H0 na = none ∧ na ≠ p
theorem LineP.same {CL p : Addr} {H0 H H' : Hp} {x : Addr} {r : List Int × Bool × Bool} (e : Same H H') (h : LineP CL p H0 H x r) : LineP CL p H0 H' x r := by
  obtain ⟨dl, na, h1, h2, h3⟩ := h
  exact ⟨dl, na, e _ _ h1, e _ _ h2, h3⟩
theorem LineP.upd {CL p : Addr} {H0 H : Hp} {x : Addr} {r : List Int × Bool × Bool} {xs : List V} {o : HO} (h : LineP CL p H0 H x r) (hp : H p = some (.lst xs)) : LineP CL p H0 (L2.upd H p o) x r := by
  obtain ⟨dl, na, h1, h2, h3, h4⟩ := h
  exact ⟨dl, na, by rw [upd_ne fun e => by rw [e, hp] at h1; cases h1]; exact h1, by rw [upd_ne h4]; exact h2, h3, h4⟩
theorem LineP.at {CL p : Addr} {H0 H : Hp} {x : Addr} {r : List Int × Bool × Bool} (h : LineP CL p H0 H x r) : LineAt CL H0 H x r := by
  obtain ⟨dl, na, h1, h2, h3, h4⟩ := h
  exact ⟨dl, na, h1, h2, h3⟩
def LinesAt (CL : Addr) (H0 H : Hp) (p : Addr) (ls : List (List Int × Bool × Bool)) : Prop := ∃ as : List Addr, H p = some (.lst (as.map V.ref)) ∧ Paired (LineAt CL H0 H) as ls ∧ H0 p = none
abbrev fRd : List Str := ["document", "awaited", "line", "reason"]
abbrev s_lines_of : Stmt := top 99
abbrev n_lines_of : List Str := ["text", "lines", "start", "at", "number"]
abbrev p_lines_of : List Str := ["text"]
theorem sc_lines_of : FnScope n_lines_of p_lines_of (defScope s_lines_of) := ⟨rfl, rfl, rfl, by decide +kernel, rfl, by decide +kernel, by decide +kernel⟩
abbrev s_Reading_init : Stmt := inClass (top 97) 0
abbrev n_Reading_init : List Str := ["self"]
abbrev p_Reading_init : List Str := ["self"]
theorem sc_Reading_init : FnScope n_Reading_init p_Reading_init (defScope s_Reading_init) := ⟨rfl, rfl, rfl, by decide +kernel, rfl, by decide +kernel, by decide +kernel⟩
abbrev s_Reading_fail : Stmt := inClass (top 97) 1
abbrev n_Reading_fail : List Str := ["self", "line", "reason"]
abbrev p_Reading_fail : List Str := ["self", "line", "reason"]
theorem sc_Reading_fail : FnScope n_Reading_fail p_Reading_fail (defScope s_Reading_fail) := ⟨rfl, rfl, rfl, by decide +kernel, rfl, by decide +kernel, by decide +kernel⟩
abbrev s_read_line : Stmt := top 100
abbrev n_read_line : List Str := ["reading", "line", "numbers"]
abbrev p_read_line : List Str := ["reading", "line"]
theorem sc_read_line : FnScope n_read_line p_read_line (defScope s_read_line) := ⟨rfl, rfl, rfl, by decide +kernel, rfl, by decide +kernel, by decide +kernel⟩
abbrev s_read_text : Stmt := top 98
abbrev n_read_text : List Str := ["text", "reading", "lines", "number", "line", "reason"]
abbrev p_read_text : List Str := ["text"]
theorem sc_read_text : FnScope n_read_text p_read_text (defScope s_read_text) := ⟨rfl, rfl, rfl, by decide +kernel, rfl, by decide +kernel, by decide +kernel⟩
section
variable {P : Program} {w : World} {K : PySem.W.Frag} {mg : Str → Option Value} {base : Heap} {CD CI CS CL CR : Addr}
/-- what lies behind place i when no line's end lies from st to i -/
theorem lines_end {t : List Int} {st i : Nat} (h : t[i]? = some 10) (hn : ∀ j, st ≤ j → j < i → t[j]? ≠ some 10) (hs : st ≤ i) : linI (t.drop st) = ((t.drop st).take (i - st), true) :: linI (t.drop (i + 1)) := by
  have hi := (List.getElem?_eq_some_iff.mp h).1
  have e : t.drop st = (t.drop st).take (i - st) ++ 10 :: t.drop (i + 1) := by
    conv => lhs; rw [← List.take_append_drop (i - st) (t.drop st)]
    rw [List.drop_drop, show st + (i - st) = i by omega]
    congr 1
    rw [List.drop_eq_getElem_cons hi]
    congr 1
    have := (List.getElem?_eq_some_iff.mp h).2
    exact this
  conv => lhs; rw [e]
  refine lin_split _ _ fun z => ?_
  obtain ⟨j, hj, e2⟩ := List.getElem_of_mem z
  rw [List.length_take] at hj
  rw [List.getElem_take, List.getElem_drop] at e2
  refine hn (st + j) (by omega) (by omega) ?_
  rw [List.getElem?_eq_getElem (by omega), e2]
theorem lines_rest {t : List Int} {st : Nat} (hs : st < t.length) (hn : ∀ j, st ≤ j → j < t.length → t[j]? ≠ some 10) : linI (t.drop st) = [(t.drop st, false)] := by
  refine lin_rest _ (fun z => ?_) fun z => ?_
  · have := congrArg List.length z
    rw [List.length_drop] at this
    simp at this
    omega
  · obtain ⟨j, hj, e2⟩ := List.getElem_of_mem z
    rw [List.length_drop] at hj
    rw [List.getElem_drop] at e2
    refine hn (st + j) (by omega) (by omega) ?_
    rw [List.getElem?_eq_getElem (by omega), e2]
def sp_lines_of (K : PySem.W.Frag) (CL : Addr) : Sp := fun vs H Q _ => ∃ (a : Addr) (t : List Int), vs = [.ref a] ∧ SqL K H a (vI t) ∧ t.length < 900000 ∧ ∀ H' p, Same H H' → LinesAt CL H H' p (mark (linI t)) → Q (.ref p) H'
theorem ok_lines_of {k : Nat} (G : Glob mg) (m_Line : C8.Mak P w K mg base 1 "Line" CL (spInit CL fLine) []) (D : Stands K mg "lines_of" s_lines_of) : C8.Cal P w K mg base (k + 3) "lines_of" (sp_lines_of K CL) [] := by
  refine cal_of D sc_lines_of (fun vs H Q E h => ?_) (fun _ _ _ _ _ _ us hl => match us, hl with | [_], _ => rfl) (fun f cdv A outer s H vs Q E hr h => ?_)
  · obtain ⟨a, t, rfl, _⟩ := h
    rfl
  · obtain ⟨a, t, rfl, hA, hlen, q⟩ := h
    refine ⟨_, (pss_cons (ps_set (i := 1) sc_lines_of.nd rfl (Or.inl rfl) (pe_lst pa_nil))
      (pss_cons (ps_set (i := 2) sc_lines_of.nd rfl (Or.inl rfl) pe_int)
      (pss_cons (ps_for PassesOwn.never rfl (pi_enum (by rfl) G.b_enumerate (pa_cons (pv 0) pa_nil)) (pg_tup rfl (pgs_cons (pg_name (i := 3) sc_lines_of.nd rfl (Or.inl rfl)) (pgs_cons (pg_name (i := 4) sc_lines_of.nd rfl (Or.inl rfl)) pgs_nil)))
      (pss_one (ps_if (pt_cmpR op_eq (pv 4) (pe_gv G.c_LINE_END) (nomark _))
      (pss_cons (ps_expr (pe_bm PySem.F.plainAttrs_list PySem.F.slot_list_append PySem.F.type_list_append mt_append (pv 1) (pa_cons (C8.pe_mk m_Line hr (by omega) (by rfl) (pa_cons (pe_slice sl_list (pv 0) (po_some (pv 2)) (po_some (pv 3))) (pa_cons pe_bl (pa_cons (pe_cmpR op_eq (pe_op op_add (pv 3) pe_int) (pe_callB call_len_seq (by rfl) G.b_len (by decide +kernel) (pa_cons (pv 0) pa_nil)) (nomark _)) pa_nil)))) pa_nil)))
      (pss_one (ps_set (i := 2) sc_lines_of.nd rfl (Or.inl rfl) (pe_op op_add (pv 3) pe_int))))
      pss_nil)))
      (pss_cons (ps_if (pt_cmpR op_lt (pv 2) (pe_callB call_len_seq (by rfl) G.b_len (by decide +kernel) (pa_cons (pv 0) pa_nil)) (nomark _))
      (pss_one (ps_expr (pe_bm PySem.F.plainAttrs_list PySem.F.slot_list_append PySem.F.type_list_append mt_append (pv 1) (pa_cons (C8.pe_mk m_Line hr (by omega) (by rfl) (pa_cons (pe_slice sl_list (pv 0) (po_some (pv 2)) po_none) (pa_cons pe_bl (pa_cons pe_bl pa_nil)))) pa_nil))))
      pss_nil)
      (pss_one (ps_ret (pv 1))))))), ?_⟩
    refine ⟨Nat.zero_le _, fun p np => ?_⟩
    have s0 : Same H (upd H p (.lst [])) := same_upd np
    refine ⟨_, rfl, a, _, rfl, s0.seq hA, for_it (walk_enum (xs := vI t))
      (fun i σ H1 => ∃ (st : Nat) (y1 y2 : Option V) (acc : List (List Int × Bool × Bool)) (as : List Addr), σ = [some (.ref a), some (.ref p), some (.int (st : Int)), y1, y2] ∧ Same H H1 ∧ st ≤ i ∧ (∀ j, st ≤ j → j < i → t[j]? ≠ some 10) ∧ H1 p = some (.lst (as.map V.ref)) ∧ Paired (LineP CL p H H1) as acc ∧ mark (linI t) = acc ++ mark (linI (t.drop st)) ∧ acc.length ≤ st)
      ⟨0, none, none, [], [], rfl, s0, Nat.le_refl _, fun j _ z => absurd z (Nat.not_lt_zero _), upd_same, .nil, by rw [List.drop_zero]; rfl, Nat.le_refl _⟩ (fun i σ H1 _ hP => ?_) (fun i x σ H1 H2 hi hP hY => ?_) (fun σ H1 hP => ?_)⟩
    · obtain ⟨_, _, _, _, _, _, s1, _⟩ := hP
      exact s1.seq hA
    · obtain ⟨st, y1, y2, acc, as, rfl, s1, hst, hno, h1, h2, hm, hal⟩ := hP
      obtain ⟨tp, v1, v2, rfl, nt, rfl, e1, e2⟩ := hY
      obtain rfl := Option.some.inj e1
      have e2' : (vI t)[i]? = some v2 := e2
      rw [vI_get] at e2'
      obtain ⟨c, hc, rfl⟩ := Option.map_eq_some_iff.mp e2'
      rw [vI_len] at hi
      have s2 : Same H1 (upd H1 tp (.tup [.int ((i : Nat) : Int), .int c])) := same_upd nt
      have s12 := s1.trans s2
      refine ⟨tp, _, rfl, SqT.of upd_same, rfl, _, _, rfl, _, _, rfl, rfl, ?_⟩
      generalize upd H1 tp (.tup [.int ((i : Nat) : Int), .int c]) = H2 at s2 s12
      refine ⟨_, rfl, rfl, _, rfl, ite2 (fun g => ?_) (fun g => ?_)⟩
      · have g1 : c = 10 := eq_dec g
        subst g1
        have hA2 := s12.seq hA
        refine ⟨_, rfl, .inl ⟨rfl, _, SqL.of (s2 _ _ h1)⟩, _, rfl, _, rfl, _, rfl, _, rfl, _, rfl, a, _, rfl, hA2, fun na nna => ?_⟩
        rw [cut_nat (by rw [vI_len]; omega) (by rw [vI_len]; omega), vI_drop, vI_take]
        have s3 := same_upd (o := .lst (vI ((t.drop st).take (i - st)))) nna
        have hna : (upd H2 na (.lst (vI ((t.drop st).take (i - st))))) na = some (.lst (vI ((t.drop st).take (i - st)))) := upd_same
        have nnH : H na = none := by
          cases z : H na with
          | none => rfl
          | some o => rw [s12 _ _ z] at nna; cases nna
        have s13 := s12.trans s3
        have hp3 := s3 _ _ (s2 _ _ h1)
        generalize upd H2 na (.lst (vI ((t.drop st).take (i - st)))) = H3 at s3 hna s13 hp3
        refine ⟨_, rfl, _, _, rfl, rfl, _, rfl, a, _, rfl, .inl (s13.seq hA), rfl, fun x dx nx nd ne => ⟨x, dx, [_, _, _], rfl, rfl, upd_same, rfl, ?_⟩⟩
        rw [upd_upd]
        have elast : decide (V.int (((i : Nat) : Int) + 1) = V.int ((vI t).length : Int)) = (linI (t.drop (i + 1))).isEmpty := by
          rw [Bool.eq_iff_iff, decide_eq_true_eq, List.isEmpty_iff, lin_nil, List.drop_eq_nil_iff, vI_len]
          exact ⟨fun z => by have := V.int.inj z; omega, fun z => by congr 1; omega⟩
        rw [elast] at *
        have s4 := made_same (C := CL) (fs := fLine.zip [.ref na, .bl true, .bl (linI (t.drop (i + 1))).isEmpty]) nx nd
        have hp4 := s4 _ _ hp3
        have hx4 : (made H3 x dx CL (fLine.zip [.ref na, .bl true, .bl (linI (t.drop (i + 1))).isEmpty])) x = some _ := made_at
        have hna4 := s4 _ _ hna
        have npx : x ≠ p := fun z => by rw [z, hp3] at nx; cases nx
        have npn : na ≠ p := fun z => by rw [z, s2 _ _ h1] at nna; cases nna
        refine ⟨p, _, _, rfl, rfl, hp4, ?_, ⟨_, rfl, _, _, rfl, rfl, i + 1, _, _, acc ++ [((t.drop st).take (i - st), true, (linI (t.drop (i + 1))).isEmpty)], as ++ [x], rfl, ?_, Nat.le_refl _, fun j z1 z2 => by omega, ?_, ?_, ?_, ?_⟩⟩
        · rw [List.length_map, Paired.length h2]
          have : (900000 : Nat) < sizeLine := by decide
          omega
        · exact same_write np (s13.trans s4)
        · show (upd (made H3 x dx CL (fLine.zip [.ref na, .bl true, .bl (linI (t.drop (i + 1))).isEmpty])) p _) p = _
          rw [upd_same, List.map_append]
          rfl
        · refine paired_snoc (Paired.mapP h2 fun b r z => LineP.upd ((z.same s2).same (s3.trans s4)) hp4) ⟨dx, na, ?_, ?_, nnH, npn⟩
          · rw [upd_ne npx]
            exact hx4
          · rw [upd_ne npn]
            exact hna4
        · rw [hm, lines_end hc hno hst, mark, List.append_assoc]
          rfl
        · rw [List.length_append, List.length_singleton]
          omega
      · have g1 : c ≠ 10 := ne_dec g
        refine ⟨st, _, _, acc, as, rfl, s12, by omega, fun j hj1 hj2 => ?_, s2 _ _ h1, Paired.mapP h2 fun b r z => z.same s2, hm, hal⟩
        by_cases e : j < i
        · exact hno j hj1 e
        · have : j = i := by omega
          subst this
          rw [hc]
          exact fun z => g1 (Option.some.inj z)
    · obtain ⟨st, y1, y2, acc, as, rfl, s1, hst, hno, h1, h2, hm, hal⟩ := hP
      rw [vI_len] at hst hno
      have hA1 := s1.seq hA
      refine ⟨_, rfl, _, rfl, a, _, rfl, .inl hA1, _, _, rfl, rfl, _, rfl, ite2 (fun g => ?_) (fun g => ?_)⟩
      · have g1 : st < t.length := by have := lt_dec g; rw [vI_len] at this; omega
        refine ⟨_, rfl, .inl ⟨rfl, _, SqL.of h1⟩, _, rfl, _, rfl, _, rfl, a, _, rfl, hA1, fun na nna => ?_⟩
        rw [cut_from (by rw [vI_len]; omega), vI_drop]
        have s3 := same_upd (o := .lst (vI (t.drop st))) nna
        have hna : (upd H1 na (.lst (vI (t.drop st)))) na = some (.lst (vI (t.drop st))) := upd_same
        have nnH : H na = none := by
          cases z : H na with
          | none => rfl
          | some o => rw [s1 _ _ z] at nna; cases nna
        have s13 := s1.trans s3
        have hp3 := s3 _ _ h1
        have npn : na ≠ p := fun z => by rw [z, h1] at nna; cases nna
        generalize upd H1 na (.lst (vI (t.drop st))) = H3 at s3 hna s13 hp3
        refine fun x dx nx nd ne => ⟨x, dx, [_, _, _], rfl, rfl, upd_same, rfl, ?_⟩
        rw [upd_upd]
        have s4 := made_same (C := CL) (fs := fLine.zip [.ref na, .bl false, .bl true]) nx nd
        have hp4 := s4 _ _ hp3
        have hx4 : (made H3 x dx CL (fLine.zip [.ref na, .bl false, .bl true])) x = some _ := made_at
        have hna4 := s4 _ _ hna
        have npx : x ≠ p := fun z => by rw [z, hp3] at nx; cases nx
        refine ⟨p, _, _, rfl, rfl, hp4, ?_, ⟨_, rfl, q _ p (same_write np (s13.trans s4)) ⟨as ++ [x], ?_, ?_, np⟩⟩⟩
        · rw [List.length_map, Paired.length h2]
          have : (900000 : Nat) < sizeLine := by decide
          omega
        · rw [upd_same, List.map_append]
          rfl
        · rw [hm, lines_rest g1 hno]
          refine paired_snoc (Paired.mapP h2 fun b r z => (LineP.upd ((z.same s3).same s4) hp4).at) ⟨dx, na, ?_, ?_, nnH⟩
          · rw [upd_ne npx]
            exact hx4
          · rw [upd_ne npn]
            exact hna4
      · have g1 : t.length ≤ st := by have := ge_dec g; rw [vI_len] at this; omega
        refine ⟨_, rfl, q _ p s1 ⟨as, h1, ?_, np⟩⟩
        rw [hm, List.drop_of_length_le g1]
        show Paired _ as (acc ++ [])
        rw [List.append_nil]
        exact Paired.mapP h2 fun b r z => z.at
end
end Td
set_option maxRecDepth 100000
set_option maxHeartbeats 4000000
namespace Td
open PySem PySem.Spec PyProof.Rows L2
open Vatrka (Piece Pending Change)
theorem none_back {H H' : Hp} {a : Addr} (s : Same H H') (h : H' a = none) : H a = none := by
  cases z : H a with
  | none => rfl
  | some o => rw [s _ _ z] at h; cases h
/-- what a reading holds -/
def rdF (d : Addr) (aw ln rs : Int) : List (Str × V) := fRd.zip [.ref d, .int aw, .int ln, .int rs]
theorem lkR0 {d : Addr} {aw ln rs : Int} : (rdF d aw ln rs).lookup ("document" : Str) = some (.ref d) := lk_here
theorem lkR1 {d : Addr} {aw ln rs : Int} : (rdF d aw ln rs).lookup ("awaited" : Str) = some (.int aw) := (lk_past (by decide +kernel)).trans lk_here
theorem lkR2 {d : Addr} {aw ln rs : Int} : (rdF d aw ln rs).lookup ("line" : Str) = some (.int ln) := (lk_past (by decide +kernel)).trans ((lk_past (by decide +kernel)).trans lk_here)
theorem lkR3 {d : Addr} {aw ln rs : Int} : (rdF d aw ln rs).lookup ("reason" : Str) = some (.int rs) := (lk_past (by decide +kernel)).trans ((lk_past (by decide +kernel)).trans ((lk_past (by decide +kernel)).trans lk_here))
theorem putR1 {d : Addr} {aw ln rs x : Int} : putF ("awaited" : Str) (.int x) (rdF d aw ln rs) = rdF d x ln rs := (put_past (by decide +kernel)).trans (congrArg _ put_here)
theorem putR2 {d : Addr} {aw ln rs x : Int} : putF ("line" : Str) (.int x) (rdF d aw ln rs) = rdF d aw x rs := (put_past (by decide +kernel)).trans (congrArg _ ((put_past (by decide +kernel)).trans (congrArg _ put_here)))
theorem putR3 {d : Addr} {aw ln rs x : Int} : putF ("reason" : Str) (.int x) (rdF d aw ln rs) = rdF d aw ln x := (put_past (by decide +kernel)).trans (congrArg _ ((put_past (by decide +kernel)).trans (congrArg _ ((put_past (by decide +kernel)).trans (congrArg _ put_here)))))
section
variable {P : Program} {w : World} {K : PySem.W.Frag} {mg : Str → Option Value} {base : Heap} {CD CI CS CL CR : Addr}
def sp_Reading_init (K : PySem.W.Frag) (CD CR : Addr) : Sp := fun vs H Q _ => ∃ (p dx : Addr), vs = [.ref p] ∧ H p = some (.ins CR dx []) ∧
  ∀ H' d ta ra, Kept p H H' → H' p = some (.ins CR dx (rdF d 0 0 0)) → DocAt K CD H' d ta ra → H' ta = some (.lst []) → H' ra = some (.lst []) → ta ≠ ra → H ta = none → H ra = none → H d = none → Q .non H'
theorem mk_Reading {k : Nat} (G : Glob mg) (TR : CT K CR fRd) (m_Document : C8.Mak P w K mg base 1 "Document" CD (spInit CD fDoc) []) (D : StandsC K mg "Reading" "Reading.__init__" s_Reading_init CR) : C8.Mak P w K mg base (k + 3) "Reading" CR (sp_Reading_init K CD CR) [] := by
  refine mak_of D sc_Reading_init (fun vs H Q E h => ?_) (fun _ _ _ _ _ _ us hl => match us, hl with | [_], _ => rfl) (fun f cdv A outer s H vs Q E hr h => ?_)
  · obtain ⟨p, dx, rfl, _⟩ := h
    rfl
  · obtain ⟨p, dx, rfl, hp, q⟩ := h
    refine ⟨_, (pss_cons (ps_fld (pv 0) (C8.pe_mk m_Document hr (by omega) (by rfl) (pa_cons (pe_lst pa_nil) (pa_cons (pe_lst pa_nil) pa_nil))) rfl)
      (pss_cons (ps_fld (pv 0) (pe_gv G.c_AT_FIRST_LINE) rfl)
      (pss_cons (ps_fld (pv 0) pe_int rfl)
      (pss_one (ps_fld (pv 0) (pe_gv G.c_FINE) rfl))))), ?_⟩
    refine ⟨Nat.zero_le _, fun ta na => ⟨Nat.zero_le _, fun ra nr => fun x dd nx nd ne => ⟨x, dd, [_, _], rfl, rfl, upd_same, rfl, ?_⟩⟩⟩
    rw [upd_upd]
    have s1 : Same H (upd H ta (.lst [])) := same_upd na
    have s2 := same_upd (o := .lst []) nr
    have s3 := made_same (C := CD) (fs := fDoc.zip [.ref ta, .ref ra]) nx nd
    have s13 := (s1.trans s2).trans s3
    have hx : (made (upd (upd H ta (.lst [])) ra (.lst [])) x dd CD (fDoc.zip [.ref ta, .ref ra])) x = some _ := made_at
    have hta := s3 _ _ (s2 _ _ (upd_same (H := H) (a := ta) (o := .lst [])))
    have hra := s3 _ _ (upd_same (H := upd H ta (.lst [])) (a := ra) (o := .lst []))
    have hne : ta ≠ ra := fun z => by rw [← z, upd_same] at nr; cases nr
    have nraH := none_back s1 nr
    have nxH := none_back (s1.trans s2) nx
    have hp3 := s13 _ _ hp
    refine ⟨_, rfl, p, CR, dx, [], rfl, hp3, TR.cl, TR.no _ (by simp), (by show 0 < 1000; decide), ?_⟩
    refine ⟨_, rfl, p, CR, dx, _, rfl, upd_same, TR.cl, TR.no _ (by simp), (by show 1 < 1000; decide), ?_⟩
    rw [upd_upd, show putF "awaited" (.int 0) (putF "document" (.ref x) []) = (List.zip (["document", "awaited"] : List Str) [.ref x, .int 0]) from put_past (by decide +kernel)]
    refine ⟨_, rfl, p, CR, dx, _, rfl, upd_same, TR.cl, TR.no _ (by simp), (by show 2 < 1000; decide), ?_⟩
    rw [upd_upd, show putF "line" (.int 0) (List.zip (["document", "awaited"] : List Str) [.ref x, .int 0]) = (List.zip (["document", "awaited", "line"] : List Str) [.ref x, .int 0, .int 0]) from (put_past (by decide +kernel)).trans (congrArg _ (put_past (by decide +kernel)))]
    refine ⟨_, rfl, p, CR, dx, _, rfl, upd_same, TR.cl, TR.no _ (by simp), (by show 3 < 1000; decide), ?_⟩
    rw [upd_upd, show putF "reason" (.int 0) (List.zip (["document", "awaited", "line"] : List Str) [.ref x, .int 0, .int 0]) = rdF x 0 0 0 from (put_past (by decide +kernel)).trans (congrArg _ ((put_past (by decide +kernel)).trans (congrArg _ (put_past (by decide +kernel)))))]
    have npx : x ≠ p := fun z => by rw [z, (s1.trans s2) _ _ hp] at nx; cases nx
    have npt : ta ≠ p := fun z => by rw [z, hp] at na; cases na
    have npr : ra ≠ p := fun z => by rw [z, hp] at nraH; cases nraH
    refine q _ x ta ra (fun b o hb nb => by rw [upd_ne nb]; exact s13 _ _ hb) upd_same ⟨dd, ?_⟩ ?_ ?_ hne na nraH nxH
    · rw [upd_ne npx]; exact hx
    · rw [upd_ne npt]; exact hta
    · rw [upd_ne npr]; exact hra
/-- a method of a class stands -/
def StandsM (K : PySem.W.Frag) (C : Addr) (m qual : Str) (st : Stmt) : Prop := ∃ f fd, Cls K C ∧ Meth K C m f ∧ Fun K m qual st f fd
theorem met_of {m qual : Str} {C : Addr} {st : Stmt} {N ps : List Str} {k : Nat} {sp : Sp} (D : StandsM K C m qual st) (S : FnScope N ps (defScope st)) (len : ∀ vs H Q E, sp vs H Q E → vs.length = ps.length)
    (hb : ∀ (kV doc pm : Value) (an : Option Addr) (cdv ct : Value) (us : List Value), us.length = ps.length → bindArgs (PySem.W.fnOf m qual (defArgs st) (defBody st) (defScope st) .none kV doc pm an cdv ct) ⟨us, []⟩ = pure (ps.zip us))
    (body : ∀ (f : Addr) (cdv : Value) (A : Around) (outer : List Env) (s : Shared) (H : Hp) (vs : List V) (Q : VK) (E : XK), Room k (A.deeper (envOfC qual (defScope st) s.heap.objs.size f cdv)) → sp vs H Q E →
      ∃ t, PSs (cxOf CX0 P w K mg base N qual (defScope st) f cdv A outer s H E).nox (defBody st) t ∧ t { nx := fun _ H' => Q .non H', rt := Q } (L2.start N vs) H) : C8.Met P w K mg base (k + 1) C m sp [] := by
  obtain ⟨f, fd, c, M, F⟩ := D
  exact ⟨f, fd, ps, [], c, M, F.ok S len (body f), F.binds hb, .nil⟩
def sp_fail (CR : Addr) : Sp := fun vs H Q _ => ∃ (r dx d : Addr) (aw l0 r0 ln rs : Int), vs = [.ref r, .int ln, .int rs] ∧ H r = some (.ins CR dx (rdF d aw l0 r0)) ∧ Q .non (upd H r (.ins CR dx (rdF d aw ln rs)))
theorem mt_fail {k : Nat} (G : Glob mg) (TR : CT K CR fRd) (D : StandsM K CR "fail" "Reading.fail" s_Reading_fail) : C8.Met P w K mg base (k + 1) CR "fail" (sp_fail CR) [] := by
  refine met_of D sc_Reading_fail (fun vs H Q E h => ?_) (fun _ _ _ _ _ _ us hl => match us, hl with | [_, _, _], _ => rfl) (fun f cdv A outer s H vs Q E hr h => ?_)
  · obtain ⟨r, dx, d, aw, l0, r0, ln, rs, rfl, _⟩ := h
    rfl
  · obtain ⟨r, dx, d, aw, l0, r0, ln, rs, rfl, hr0, q⟩ := h
    refine ⟨_, (pss_cons (ps_fld (pv 0) (pv 1) rfl)
      (pss_one (ps_fld (pv 0) (pv 2) rfl))), ?_⟩
    refine ⟨_, rfl, _, rfl, r, CR, dx, _, rfl, hr0, TR.cl, TR.no _ (by simp), (by show 4 < 1000; decide), ?_⟩
    rw [putR2]
    refine ⟨_, rfl, _, rfl, r, CR, dx, _, rfl, upd_same, TR.cl, TR.no _ (by simp), (by show 4 < 1000; decide), ?_⟩
    rw [upd_upd, putR3]
    exact q
end
end Td
set_option maxRecDepth 100000
set_option maxHeartbeats 4000000
namespace Td
open PySem PySem.Spec PyProof.Rows L2
open Vatrka (Piece Pending Change)
/-- all stays but at three places -/
def Kept3 (r ta ra : Addr) (H H' : Hp) : Prop := ∀ b o, H b = some o → b ≠ r → b ≠ ta → b ≠ ra → H' b = some o
theorem nat_vN {l : List Int} (h : ∀ z ∈ l, 32 ≤ z) : vI l = vN (nat l) := by
  unfold vI vN nat
  rw [List.map_map]
  refine List.map_congr_left fun z hz => ?_
  have := h z hz
  show V.int z = V.int ((z.toNat : Nat) : Int)
  rw [show ((z.toNat : Nat) : Int) = z by omega]
theorem not_sound {l : List Int} {e : Bool} (h : ∃ z ∈ l, z < 32 ∨ 126 < z) : Vatrkd.sound (nat l, e) = false := by
  obtain ⟨z, hz, hb⟩ := h
  cases y : Vatrkd.sound (nat l, e) with
  | false => rfl
  | true =>
    unfold Vatrkd.sound at y
    rw [Bool.and_eq_true] at y
    have := List.all_eq_true.mp y.2 z.toNat (List.mem_map.mpr ⟨z, hz, rfl⟩)
    rw [Bool.and_eq_true, decide_eq_true_eq, decide_eq_true_eq] at this
    omega
theorem is_sound {l : List Int} (h : ∀ z ∈ l, 32 ≤ z ∧ z ≤ 126) : Vatrkd.sound (nat l, true) = true := by
  unfold Vatrkd.sound
  rw [Bool.true_and]
  refine List.all_eq_true.mpr fun c hc => ?_
  obtain ⟨z, hz, rfl⟩ := List.mem_map.mp hc
  have := h z hz
  rw [Bool.and_eq_true, decide_eq_true_eq, decide_eq_true_eq]
  omega
theorem rd_unsound {st : Rd} {x : List Nat × Bool} {last : Bool} (h : Vatrkd.sound x = false) : rdStep st x last = .error 1 := by
  unfold rdStep
  rw [if_pos h]
theorem kept_keepT {K : PySem.W.Frag} {p : Addr} {H H' : Hp} {xs : List V} (k : Kept p H H') (hp : H p = some (.lst xs)) : KeepT K H H' := by
  intro a ys q
  rcases q with (q | ⟨ob, q⟩) | q
  · exact .inl (.inl (k _ _ q fun z => by rw [z, hp] at q; cases q))
  · exact .inl (.inr ⟨ob, k _ _ q fun z => by rw [z, hp] at q; cases q⟩)
  · exact .inr q
theorem TabAt.keep {K : PySem.W.Frag} {H H' : Hp} {p : Addr} {tb : List Change} (k : KeepT K H H') (hp : ∀ xs, H p = some (.lst xs) → H' p = some (.lst xs)) (h : TabAt K H p tb) : TabAt K H' p tb := by
  obtain ⟨bs, h1, h2⟩ := h
  exact ⟨bs, hp _ h1, Paired.mapP h2 fun b c z => dp_keep k _ _ (tupD_change c) z⟩
theorem RowAt.keep {K : PySem.W.Frag} {H H' : Hp} {p : Addr} {row : List Piece} (k : KeepT K H H') (hp : ∀ xs, H p = some (.lst xs) → H' p = some (.lst xs)) (h : RowAt K H p row) : RowAt K H' p row := by
  obtain ⟨bs, h1, h2⟩ := h
  exact ⟨bs, hp _ h1, Paired.mapP h2 fun b x z => dp_keep k _ _ (tupD_piece x) z⟩
section
variable {P : Program} {w : World} {K : PySem.W.Frag} {mg : Str → Option Value} {base : Heap} {CD CI CS CL CR : Addr}
def sp_read_line (K : PySem.W.Frag) (CD CL CR : Addr) : Sp := fun vs H Q _ => ∃ (r dr d ta ra ln dl na : Addr) (st : Rd) (x : List Int × Bool × Bool) (l0 r0 : Int), vs = [.ref r, .ref ln] ∧ H r = some (.ins CR dr (rdF d (st.aw : Nat) l0 r0)) ∧ DocAt K CD H d ta ra ∧ TabAt K H ta st.tb ∧ RowAt K H ra st.row ∧ ta ≠ ra ∧
  H ln = some (.ins CL dl (fLine.zip [.ref na, .bl x.2.1, .bl x.2.2])) ∧ H na = some (.lst (vI x.1)) ∧ x.1.length < 900000 ∧ st.tb.length < 900000 ∧ st.row.length < 900000 ∧ st.aw ≤ 2 ∧ (x.1.length + 2 < 4914 ∨ st.tb.length ≤ 650) ∧
  (∀ e, rdStep st (nat x.1, x.2.1) x.2.2 = .error e → ∀ H' (aw' : Int), Kept r H H' → H' r = some (.ins CR dr (rdF d aw' l0 r0)) → Q (.int (e : Nat)) H') ∧
  (∀ st', rdStep st (nat x.1, x.2.1) x.2.2 = .ok st' → ∀ H', Kept3 r ta ra H H' → H' r = some (.ins CR dr (rdF d (st'.aw : Nat) l0 r0)) → TabAt K H' ta st'.tb → RowAt K H' ra st'.row → Q (.int 0) H')
theorem ok_read_line {k : Nat} (G : Glob mg) (T : Cs K CD CI CS CL) (TR : CT K CR fRd) (c_numbers_of : C8.Cal P w K mg base 1 "numbers_of" sp_numbers_of []) (c_cut_at_blanks : C8.Cal P w K mg base 1 "cut_at_blanks" (sp_cut_at_blanks K) [])
    (c_read_paragraph : C8.Cal P w K mg base 8 "read_paragraph" (sp_read_paragraph K CD CL) []) (c_read_change : C8.Cal P w K mg base 4 "read_change" (sp_read_change K) []) (D : Stands K mg "read_line" s_read_line) : C8.Cal P w K mg base (k + 9) "read_line" (sp_read_line K CD CL CR) [] := by
  refine cal_of D sc_read_line (fun vs H Q E h => ?_) (fun _ _ _ _ _ _ us hl => match us, hl with | [_, _], _ => rfl) (fun f cdv A outer s H vs Q E hr h => ?_)
  · obtain ⟨r, dr, d, ta, ra, ln, dl, na, st, x, l0, r0, rfl, _⟩ := h
    rfl
  · obtain ⟨r, dr, d, ta, ra, ln, dl, na, st, ⟨xl, xe, xz⟩, l0, r0, rfl, hr0, hD, hT, hR, hne, hln, hna, b1, b2, b3, b4, b5, q1, q2⟩ := h
    dsimp only at hln hna b1 b5 q1 q2
    refine ⟨_, (pss_cons (ps_set (i := 2) sc_read_line.nd rfl (Or.inl rfl) (pe_fld (pv 1) rfl))
      (pss_cons (ps_if (PW.pt (pw_or (pt_not (pt_val (pe_fld (pv 1) rfl))) (pw_or (pt_cmpR op_lt (pe_callBK (cr_minD rfl hr.units) (by rfl) G.b_min (by decide +kernel) (pa_cons (pv 2) pa_nil) (pk_cons (pe_gv G.c_BLANK) pk_nil)) (pe_gv G.c_BLANK) (nomark _)) (pw_or1 (pt_cmpR op_gt (pe_callBK (cr_maxD rfl hr.units) (by rfl) G.b_max (by decide +kernel) (pa_cons (pv 2) pa_nil) (pk_cons (pe_gv G.c_BLANK) pk_nil)) (pe_gv G.c_LAST_SIGN) (nomark _))))))
      (pss_one (ps_ret (pe_gv G.c_NOT_A_LINE)))
      pss_nil)
      (pss_cons (ps_if (pt_cmpR op_eq (pe_fld (pv 0) rfl) (pe_gv G.c_AT_PARAGRAPHS) (nomark _))
      (pss_one (ps_ret (C8.pe_c c_read_paragraph hr (by omega) (by rfl) (pa_cons (pe_fld (pv 0) rfl) (pa_cons (pv 1) pa_nil)))))
      pss_nil)
      (pss_cons (ps_if (pt_cmpR op_eq (pe_fld (pv 0) rfl) (pe_gv G.c_AT_FIRST_LINE) (nomark _))
      (pss_cons (ps_fld (pv 0) (pe_gv G.c_AT_CHANGES) rfl)
      (pss_one (ps_ret (pe_ifExp (pt_cmpR (op_eqD hr.units) (pv 2) (C8.pe_c c_numbers_of hr (by omega) (by rfl) (pa_cons pe_str pa_nil)) (nomark _)) (pe_gv G.c_FINE) (pe_gv G.c_NOT_THE_SHAPE)))))
      pss_nil)
      (pss_cons (ps_if (pt_cmpR (op_eqD hr.units) (pv 2) (C8.pe_c c_numbers_of hr (by omega) (by rfl) (pa_cons pe_str pa_nil)) (nomark _))
      (pss_cons (ps_fld (pv 0) (pe_gv G.c_AT_PARAGRAPHS) rfl)
      (pss_one (ps_ret (pe_gv G.c_FINE))))
      pss_nil)
      (pss_one (ps_ret (C8.pe_c c_read_change hr (by omega) (by rfl) (pa_cons (pe_fld (pe_fld (pv 0) rfl) rfl) (pa_cons (C8.pe_c c_cut_at_blanks hr (by omega) (by rfl) (pa_cons (pv 2) pa_nil)) pa_nil)))))))))), ?_⟩
    have bad1 : Vatrkd.sound (nat xl, xe) = false → Q (.int 1) H := fun z => q1 1 (rd_unsound z) H _ (fun _ _ h _ => h) hr0
    refine ⟨_, rfl, ln, CL, dl, _, _, rfl, hln, T.l.cl, T.l.no _ (by simp), lkL0, ?_⟩
    refine ⟨_, rfl, ln, CL, dl, _, _, rfl, hln, T.l.cl, T.l.no _ (by simp), lkL1, _, rfl, ?_⟩
    cases hxe : xe with
    | false => exact bad1 (by rw [hxe]; rfl)
    | true =>
      subst hxe
      refine ⟨_, rfl, na, xl, 32, rfl, rfl, SqL.of hna, fun m hm => ?_⟩
      refine ⟨_, _, rfl, rfl, _, rfl, ite2 (fun g => ?_) (fun g => ?_)⟩
      · have g1 : m < 32 := lt_dec g
        rcases hm with ⟨_, rfl⟩ | ⟨h1, _⟩
        · exact absurd g1 (by decide)
        · exact bad1 (not_sound ⟨m, h1, .inl g1⟩)
      · have g1 : 32 ≤ m := ge_dec g
        have hlo : ∀ z ∈ xl, 32 ≤ z := fun z hz => by
          rcases hm with ⟨rfl, _⟩ | ⟨_, h2⟩
          · cases hz
          · have := h2 z hz; omega
        refine ⟨_, rfl, na, xl, 32, rfl, rfl, SqL.of hna, fun m2 hm2 => ?_⟩
        refine ⟨_, _, rfl, rfl, _, rfl, ite2 (fun g2 => ?_) (fun g2 => ?_)⟩
        · have g3 : 126 < m2 := lt_dec g2
          rcases hm2 with ⟨_, rfl⟩ | ⟨h1, _⟩
          · exact absurd g3 (by decide)
          · exact bad1 (not_sound ⟨m2, h1, .inr g3⟩)
        · have g3 : m2 ≤ 126 := ge_dec g2
          have hhi : ∀ z ∈ xl, z ≤ 126 := fun z hz => by
            rcases hm2 with ⟨rfl, _⟩ | ⟨_, h2⟩
            · cases hz
            · have := h2 z hz; omega
          have hso := is_sound fun z hz => ⟨hlo z hz, hhi z hz⟩
          have hns : ¬ Vatrkd.sound (nat xl, true) = false := by rw [hso]; decide
          rw [nat_vN hlo] at hna
          have hnl : (nat xl).length = xl.length := List.length_map _
          unfold rdStep at q1 q2
          rw [if_neg hns] at q1 q2
          clear bad1 hm hm2 g g1 g2 g3
          refine ⟨_, rfl, r, CR, dr, _, _, rfl, hr0, TR.cl, TR.no _ (by simp), lkR1, rfl, _, rfl, ite2 (fun g => ?_) (fun g => ?_)⟩
          · have g1 : st.aw = 2 := by have := eq_dec g; omega
            rw [if_pos g1] at q1 q2
            obtain ⟨dd, hD'⟩ := hD
            refine ⟨_, rfl, r, CR, dr, _, _, rfl, hr0, TR.cl, TR.no _ (by simp), lkR0, _, rfl, d, ta, ra, ln, dl, na, st.tb, st.row, nat xl, xz, rfl, ⟨dd, hD'⟩, hT, hR, hln, SqL.of hna, hso, by omega, b2, b3, by omega, fun e he H' s1 => ?_, fun ps he H' k1 hR' => ?_⟩
            · rw [he] at q1
              exact q1 e rfl H' _ (fun b o h _ => s1 b o h) (s1 _ _ hr0)
            · rw [he] at q2
              obtain ⟨rs, r1, r2⟩ := hR
              refine q2 _ rfl H' (fun b o h _ _ n3 => k1 b o h n3) (k1 _ _ hr0 fun z => by rw [z, r1] at hr0; cases hr0) (hT.keep (kept_keepT k1 r1) fun xs h => k1 _ _ h hne) hR'
          · have g1 : st.aw ≠ 2 := by have := ne_dec g; omega
            rw [if_neg g1] at q1 q2
            obtain ⟨cs, t1, t2⟩ := hT
            obtain ⟨rs, r1, r2⟩ := hR
            have nrt : r ≠ ta := fun z => by rw [z, t1] at hr0; cases hr0
            have nrr : r ≠ ra := fun z => by rw [z, r1] at hr0; cases hr0
            refine ⟨_, rfl, r, CR, dr, _, _, rfl, hr0, TR.cl, TR.no _ (by simp), lkR1, rfl, _, rfl, ite2 (fun g2 => ?_) (fun g2 => ?_)⟩
            · have g3 : st.aw = 0 := by have := eq_dec g2; omega
              rw [if_pos g3] at q1 q2
              refine ⟨_, rfl, r, CR, dr, _, rfl, hr0, TR.cl, TR.no _ (by simp), (by show 4 < 1000; decide), ?_⟩
              rw [putR1]
              have nrn : na ≠ r := fun z => by rw [z, hr0] at hna; cases hna
              have k0 : Kept r H (upd H r (.ins CR dr (rdF d 1 l0 r0))) := fun b o h n => by rw [upd_ne n]; exact h
              have hr1 : (upd H r (.ins CR dr (rdF d 1 l0 r0))) r = some _ := upd_same
              have kt0 : KeepT K H (upd H r (.ins CR dr (rdF d 1 l0 r0))) := keepT_upd hr0 (fun _ z => by cases z) (fun _ _ z => by cases z)
              generalize upd H r (.ins CR dr (rdF d 1 l0 r0)) = H1 at k0 hr1 kt0
              have hna1 := k0 _ _ hna nrn
              refine ⟨_, rfl, "tracked 1", rfl, by decide +kernel, fun H2 c s2 nc hc => ⟨.list (dN (nat xl)), .list (dN (codes "tracked 1")), dp_list (SqL.of (s2 _ _ hna1)), dp_list (SqL.of hc), nums_shaped _, nums_shaped _, _, rfl, ?_⟩⟩
              rw [nums_eqv, show codes "tracked 1" = Vatrkd.word "tracked 1" by decide +kernel]
              have k2 : Kept r H H2 := fun b o h n => s2 _ _ (k0 b o h n)
              have kt2 : KeepT K H H2 := kt0.trans (Same.keepT s2)
              refine ite2 (fun e => ?_) (fun e => ?_)
              · have e1 := of_decide_eq_true e
                rw [if_pos e1] at q2
                exact q2 _ rfl H2 (fun b o h n _ _ => k2 b o h n) (s2 _ _ hr1) (TabAt.keep kt2 (fun xs h => k2 _ _ h nrt.symm) ⟨cs, t1, t2⟩) (RowAt.keep kt2 (fun xs h => k2 _ _ h nrr.symm) ⟨rs, r1, r2⟩)
              · have e1 : ¬ nat xl = Vatrkd.word "tracked 1" := fun z => e (decide_eq_true z)
                rw [if_neg e1] at q1
                exact q1 2 rfl H2 _ k2 (s2 _ _ hr1)
            · have g3 : st.aw ≠ 0 := by have := ne_dec g2; omega
              have g4 : st.aw = 1 := by omega
              rw [if_neg g3] at q1 q2
              refine ⟨_, rfl, "text", rfl, by decide +kernel, fun H2 c s2 nc hc => ⟨.list (dN (nat xl)), .list (dN (codes "text")), dp_list (SqL.of (s2 _ _ hna)), dp_list (SqL.of hc), nums_shaped _, nums_shaped _, _, rfl, ?_⟩⟩
              rw [nums_eqv, show codes "text" = Vatrkd.word "text" by decide +kernel]
              have hr2 := s2 _ _ hr0
              refine ite2 (fun e => ?_) (fun e => ?_)
              · have e1 := of_decide_eq_true e
                rw [if_pos e1] at q2
                refine ⟨_, rfl, r, CR, dr, _, rfl, hr2, TR.cl, TR.no _ (by simp), (by show 4 < 1000; decide), ?_⟩
                rw [putR1]
                have k0 : Kept r H2 (upd H2 r (.ins CR dr (rdF d 2 l0 r0))) := fun b o h n => by rw [upd_ne n]; exact h
                have kt0 : KeepT K H2 (upd H2 r (.ins CR dr (rdF d 2 l0 r0))) := keepT_upd hr2 (fun _ z => by cases z) (fun _ _ z => by cases z)
                have kt2 : KeepT K H (upd H2 r (.ins CR dr (rdF d 2 l0 r0))) := KeepT.trans (Same.keepT s2) kt0
                exact q2 _ rfl _ (fun b o h n _ _ => k0 _ _ (s2 b o h) n) upd_same (TabAt.keep kt2 (fun xs h => k0 _ _ (s2 _ _ h) nrt.symm) ⟨cs, t1, t2⟩) (RowAt.keep kt2 (fun xs h => k0 _ _ (s2 _ _ h) nrr.symm) ⟨rs, r1, r2⟩)
              · have e1 : ¬ nat xl = Vatrkd.word "text" := fun z => e (decide_eq_true z)
                rw [if_neg e1, chLine_is] at q1 q2
                obtain ⟨dd, hD'⟩ := hD
                refine ⟨_, rfl, r, CR, dr, _, _, rfl, hr2, TR.cl, TR.no _ (by simp), lkR0, d, CD, dd, _, _, rfl, s2 _ _ hD', T.d.cl, T.d.no _ (by simp), lkD0, _, rfl, na, nat xl, rfl, SqL.of (s2 _ _ hna), ?_, fun H3 pp s3 np hL => ?_⟩
                · have : (900000 : Nat) < sizeLine := by decide
                  omega
                · have s23 : Same H H3 := fun b o h => s3 _ _ (s2 _ _ h)
                  refine ⟨ta, st.tb, pp, H2, Vatrkd.cutAt 32 (nat xl), rfl, TabAt.same s23 ⟨cs, t1, t2⟩, hL, by omega, fun e he H' s4 => ?_, fun cg he H' k4 hT' => ?_⟩
                  · rw [he] at q1
                    exact q1 e rfl H' _ (fun b o h _ => s4 _ _ (s23 _ _ h)) (s4 _ _ (s23 _ _ hr0))
                  · rw [he] at q2
                    have k5 : Kept ta H H' := fun b o h n => k4 _ _ (s23 _ _ h) n
                    exact q2 _ rfl H' (fun b o h _ n _ => k5 b o h n) (k5 _ _ hr0 nrt) hT' (RowAt.keep (kept_keepT k5 t1) (fun xs h => k5 _ _ h hne.symm) ⟨rs, r1, r2⟩)
end
end Td
set_option maxRecDepth 100000
set_option maxHeartbeats 4000000
namespace Td
open PySem PySem.Spec PyProof.Rows L2
open Vatrka (Piece Pending Change)
theorem used_take (ls : List (List Int × Bool × Bool)) (i : Nat) : used (ls.take i) ≤ used ls := by
  conv => rhs; rw [← List.take_append_drop i ls, used_app]
  exact Nat.le_add_right _ _
theorem used_one (x : List Int × Bool × Bool) : x.1.length ≤ used [x] := by
  unfold used
  simp
theorem rdRun_more {ls : List (List Int × Bool × Bool)} {i : Nat} {x : List Int × Bool × Bool} {st st' : Rd} (hx : ls[i]? = some x) (h : rdRun ⟨0, [], []⟩ 1 (ls.take i) = .ok st) (e : rdStep st (nat x.1, x.2.1) x.2.2 = .ok st') : rdRun ⟨0, [], []⟩ 1 (ls.take (i + 1)) = .ok st' := by
  rw [List.take_add_one, hx, rdRun_app, h]
  show rdRun st _ [x] = _
  rw [rdRun, e]
  rfl
theorem rdRun_stop {ls : List (List Int × Bool × Bool)} {i : Nat} {x : List Int × Bool × Bool} {st : Rd} {k : Nat} (hx : ls[i]? = some x) (h : rdRun ⟨0, [], []⟩ 1 (ls.take i) = .ok st) (e : rdStep st (nat x.1, x.2.1) x.2.2 = .error k) : rdRun ⟨0, [], []⟩ 1 ls = .error (i + 1, k) := by
  have hi := (List.getElem?_eq_some_iff.mp hx)
  have hl : (ls.take i).length = i := by rw [List.length_take]; have := hi.1; omega
  conv => lhs; rw [← List.take_append_drop i ls, List.drop_eq_getElem_cons hi.1, hi.2]
  rw [rdRun_app, h]
  dsimp only
  rw [rdRun, e, hl, Nat.add_comm]
/-! ### reasons are not 0 -/
theorem chLine_pos {i : Nat} {ls : List (List Nat)} {e : Nat} (h : chLine i ls = .error e) : e ≠ 0 := by
  intro z
  subst z
  by_cases h7 : ls.length = 7
  · obtain ⟨x0, x1, x2, x3, x4, x5, x6, rfl⟩ := seven h7
    unfold chLine at h
    dsimp only at h
    split at h
    · cases h
    · split at h
      · split at h <;> cases h
      · cases h
  · rw [chLine_shape (chShape_no h7)] at h
    cases h
theorem parLine_pos {tb : List Change} {l : List Nat} {last : Bool} {e : Nat} (h : parLine tb l last = .error e) : e ≠ 0 := by
  intro z
  subst z
  unfold parLine at h
  cases e : Vatrkd.paragraph tb (l, true) with
  | error k =>
    rw [e] at h
    have : k = 0 := Except.error.inj h
    subst this
    unfold Vatrkd.paragraph at e
    split at e
    · cases e
    · split at e
      · cases e
      · dsimp only at e
        split at e
        · cases e
        · split at e
          · cases e
          · split at e <;> cases e
  | ok ps =>
    rw [e] at h
    dsimp only at h
    split at h <;> cases h
theorem rdStep_pos {st : Rd} {x : List Nat × Bool} {last : Bool} {e : Nat} (h : rdStep st x last = .error e) : e ≠ 0 := by
  unfold rdStep at h
  split at h
  · obtain rfl := Except.error.inj h; decide
  · split at h
    · cases e2 : parLine st.tb x.1 last with
      | error k =>
        rw [e2] at h
        obtain rfl := Except.error.inj h
        exact parLine_pos e2
      | ok ps => rw [e2] at h; cases h
    · split at h
      · split at h
        · cases h
        · obtain rfl := Except.error.inj h; decide
      · split at h
        · cases h
        · cases e2 : Vatrkd.changeLine (st.tb.length + 1) x.1 with
          | error k =>
            rw [e2] at h
            obtain rfl := Except.error.inj h
            exact chLine_pos e2
          | ok c => rw [e2] at h; cases h
theorem rdRun_pos : ∀ {ls : List (List Int × Bool × Bool)} {st : Rd} {i j k : Nat}, rdRun st i ls = .error (j, k) → k ≠ 0
  | [], st, i, j, k, h => by cases h
  | x :: r, st, i, j, k, h => by
    rw [rdRun] at h
    cases e : rdStep st (nat x.1, x.2.1) x.2.2 with
    | error k' =>
      rw [e] at h
      obtain ⟨_, rfl⟩ := Prod.mk.inj (Except.error.inj h)
      exact rdStep_pos e
    | ok st' =>
      rw [e] at h
      exact rdRun_pos h
theorem read_pos {t : List Int} {i k : Nat} (h : Vatrkd.readDoc (nat t) = .error (i, k)) : k ≠ 0 := by
  rw [← run_doc] at h
  cases e : rdRun ⟨0, [], []⟩ 1 (mark (linI t)) with
  | error f =>
    obtain ⟨a, b⟩ := f
    rw [e] at h
    obtain ⟨_, rfl⟩ := Prod.mk.inj (Except.error.inj h)
    exact rdRun_pos e
  | ok st =>
    rw [e] at h
    unfold rdEnd at h
    dsimp only at h
    split at h
    · obtain ⟨_, rfl⟩ := Prod.mk.inj (Except.error.inj h)
      decide
    · cases h
theorem lkFail {d : Addr} {aw ln rs : Int} : (rdF d aw ln rs).lookup ("fail" : Str) = none := (lk_past (by decide +kernel)).trans ((lk_past (by decide +kernel)).trans ((lk_past (by decide +kernel)).trans ((lk_past (by decide +kernel)).trans rfl)))
section
variable {P : Program} {w : World} {K : PySem.W.Frag} {mg : Str → Option Value} {base : Heap} {CD CI CS CL CR : Addr}
def sp_read_text (K : PySem.W.Frag) (CD CR : Addr) : Sp := fun vs H Q _ => ∃ (a : Addr) (t : List Int), vs = [.ref a] ∧ SqL K H a (vI t) ∧ t.length ≤ 17000 ∧
  (∀ (i k : Nat), Vatrkd.readDoc (nat t) = .error (i, k) → ∀ H' r dr d (aw : Int), Same H H' → H' r = some (.ins CR dr (rdF d aw (i : Nat) (k : Nat))) → Q (.ref r) H') ∧
  (∀ doc, Vatrkd.readDoc (nat t) = .ok doc → ∀ H' r dr d ta ra (aw : Int), Same H H' → H' r = some (.ins CR dr (rdF d aw 0 0)) → DocAt K CD H' d ta ra → TabAt K H' ta doc.table → RowAt K H' ra doc.row → H r = none → H d = none → H ta = none → H ra = none → Q (.ref r) H')
theorem ok_read_text {k : Nat} (G : Glob mg) (T : Cs K CD CI CS CL) (TR : CT K CR fRd) (m_Reading : C8.Mak P w K mg base 3 "Reading" CR (sp_Reading_init K CD CR) []) (c_lines_of : C8.Cal P w K mg base 3 "lines_of" (sp_lines_of K CL) []) (c_read_line : C8.Cal P w K mg base 9 "read_line" (sp_read_line K CD CL CR) [])
    (t_fail : C8.Met P w K mg base 1 CR "fail" (sp_fail CR) []) (D : Stands K mg "read_text" s_read_text) : C8.Cal P w K mg base (k + 10) "read_text" (sp_read_text K CD CR) [] := by
  refine cal_of D sc_read_text (fun vs H Q E h => ?_) (fun _ _ _ _ _ _ us hl => match us, hl with | [_], _ => rfl) (fun f cdv A outer s H vs Q E hr h => ?_)
  · obtain ⟨a, t, rfl, _⟩ := h
    rfl
  · obtain ⟨a, t, rfl, hA, hlen, q1, q2⟩ := h
    refine ⟨_, (pss_cons (ps_set (i := 1) sc_read_text.nd rfl (Or.inl rfl) (pe_mk0 m_Reading hr (by omega) (by rfl)))
      (pss_cons (ps_set (i := 2) sc_read_text.nd rfl (Or.inl rfl) (C8.pe_c c_lines_of hr (by omega) (by rfl) (pa_cons (pv 0) pa_nil)))
      (pss_cons (ps_for PassesOwn.never rfl (pi_enumL (by rfl) G.b_enumerate (pa_cons (pv 2) pa_nil)) (pg_tup rfl (pgs_cons (pg_name (i := 3) sc_read_text.nd rfl (Or.inl rfl)) (pgs_cons (pg_name (i := 4) sc_read_text.nd rfl (Or.inl rfl)) pgs_nil)))
      (pss_cons (ps_set (i := 5) sc_read_text.nd rfl (Or.inl rfl) (C8.pe_c c_read_line hr (by omega) (by rfl) (pa_cons (pv 1) (pa_cons (pv 4) pa_nil))))
      (pss_one (ps_if (pt_cmpR op_ne (pv 5) (pe_gv G.c_FINE) (nomark _))
      (pss_cons (ps_expr (C8.pe_mt t_fail hr (by omega) (pv 1) (pa_cons (pv 3) (pa_cons (pv 5) pa_nil))))
      (pss_one (ps_ret (pv 1))))
      pss_nil))))
      (pss_cons (ps_if (pt_cmpR op_eq (pe_callB call_len_seq (by rfl) G.b_len (by decide +kernel) (pa_cons (pe_fld (pe_fld (pv 1) rfl) rfl) pa_nil)) pe_int (nomark _))
      (pss_one (ps_expr (C8.pe_mt t_fail hr (by omega) (pv 1) (pa_cons (pe_op op_add (pe_callB call_len_seq (by rfl) G.b_len (by decide +kernel) (pa_cons (pv 2) pa_nil)) pe_int) (pa_cons (pe_gv G.c_LINE_MISSING) pa_nil)))))
      pss_nil)
      (pss_one (ps_ret (pv 1))))))), ?_⟩
    rw [← run_doc] at q1 q2
    refine fun r dr nr nd ne => ⟨r, dr, rfl, upd_same, fun H1 d ta ra k1 hr1 hD1 hta1 hra1 hne nta nra ndd => ⟨rfl, ?_⟩⟩
    have s1 : Same H H1 := fun b o h => k1 b o (by rw [upd_ne (ne_of_none h nr), upd_ne (ne_of_none h nd)]; exact h) (ne_of_none h nr)
    refine ⟨_, rfl, a, t, rfl, s1.seq hA, by omega, fun H2 p s2 hL => ?_⟩
    have s12 := s1.trans s2
    have nH : ∀ {b : Addr}, (upd (upd H dr (.own r)) r (.ins CR dr [])) b = none → H b = none := fun {b} h => none_back (fun c o e => by rw [upd_ne (ne_of_none e nr), upd_ne (ne_of_none e nd)]; exact e) h
    obtain ⟨as, l1, l2, l3⟩ := hL
    obtain ⟨dd, hdd⟩ := hD1
    have hnr : ∀ {b : Addr} {C' dx : Addr} {fs : List (Str × V)} {Hx : Hp} {aw l0 r0 : Int}, Hx r = some (.ins CR dr (rdF d aw l0 r0)) → Hx b = some (.ins C' dx fs) → fs.length ≠ 4 → b ≠ r := fun {b C' dx fs Hx aw l0 r0} h1 h2 hf z => by
      rw [z, h1] at h2
      obtain ⟨_, _, e⟩ := HO.ins.inj (Option.some.inj h2)
      exact hf (by rw [← e]; rfl)
    have hlen2 : (mark (linI t)).length = (linI t).length := mark_len _
    have hal : as.length = (mark (linI t)).length := Paired.length l2
    refine ⟨_, rfl, p, _, rfl, SqL.of l1, for_it (walk_C (xs := as.map V.ref)) (fun i σ Hx => ∃ (y1 y2 y3 : Option V) (st : Rd), σ = [some (.ref a), some (.ref r), some (.ref p), y1, y2, y3] ∧ Same H Hx ∧ Hx r = some (.ins CR dr (rdF d (st.aw : Nat) 0 0)) ∧ Hx d = some (.ins CD dd (fDoc.zip [.ref ta, .ref ra])) ∧ TabAt K Hx ta st.tb ∧ RowAt K Hx ra st.row ∧
        Hx p = some (.lst (as.map V.ref)) ∧ Paired (LineAt CL H1 Hx) as (mark (linI t)) ∧ rdRun ⟨0, [], []⟩ 1 ((mark (linI t)).take i) = .ok st ∧ Small (used ((mark (linI t)).take i)) st)
      ⟨_, _, _, ⟨0, [], []⟩, rfl, s12, s2 _ _ hr1, s2 _ _ hdd, ⟨[], s2 _ _ hta1, .nil⟩, ⟨[], s2 _ _ hra1, .nil⟩, l1, l2, rfl, ⟨Nat.zero_le _, Nat.zero_le _, by decide⟩⟩ (fun i σ Hx _ hP => ?_) (fun i x σ Hx Hy hi hP hY => ?_) (fun σ Hx hP => ?_)⟩
    · obtain ⟨_, _, _, _, _, _, _, _, _, _, hp, _⟩ := hP
      exact SqL.of hp
    · obtain ⟨y1, y2, y3, st, rfl, sx, hrx, hdx, hTx, hRx, hpx, hLx, hrun, hsm⟩ := hP
      obtain ⟨tp, v1, v2, rfl, nt, rfl, e1, e2⟩ := hY
      obtain rfl := Option.some.inj e1
      have e2' : (as.map V.ref)[i]? = some v2 := e2
      rw [List.getElem?_map] at e2'
      obtain ⟨xa, hxa, rfl⟩ := Option.map_eq_some_iff.mp e2'
      have s3 : Same Hx (upd Hx tp (.tup [.int (1 + (i : Int)), .ref xa])) := same_upd nt
      refine ⟨tp, _, rfl, SqT.of upd_same, rfl, _, _, rfl, _, _, rfl, rfl, ?_⟩
      generalize upd Hx tp (.tup [.int (1 + (i : Int)), .ref xa]) = Hy at s3
      have sy := sx.trans s3
      obtain ⟨x, hx, dl, na, x1, x2, x3⟩ := paired_get hLx hxa
      have hus : used ((mark (linI t)).take i) + used [x] ≤ 17000 := by
        have h1 := used_take (mark (linI t)) (i + 1)
        rw [List.take_add_one, hx, lin_used] at h1
        have h2 := used_app ((mark (linI t)).take i) [x]
        have h3 : used ((mark (linI t)).take i ++ [x]) ≤ t.length := h1
        omega
      have hu1 := used_one x
      have m1 := hsm.tb
      have m2 := hsm.row
      have m3 := hsm.aw
      refine ⟨_, rfl, _, rfl, r, dr, d, ta, ra, xa, dl, na, st, x, 0, 0, rfl, s3 _ _ hrx, ⟨dd, s3 _ _ hdx⟩, hTx.same s3, hRx.same s3, hne, s3 _ _ x1, s3 _ _ x2, by omega, by omega, by omega, m3, by omega, fun e he H' aw' k4 hr4 => ?_, fun st' he H' k4 hr4 hT4 hR4 => ?_⟩
      · have hstop := rdRun_stop hx hrun he
        rw [hstop] at q1
        have epos := rdStep_pos he
        refine ⟨_, rfl, rfl, _, rfl, ite2 (fun g => ?_) (fun g => ?_)⟩
        · have sH : Same H H' := fun b o h => k4 b o (sy _ _ h) (ne_of_none h nr)
          refine ⟨_, rfl, r, dr, _, rfl, hr4, lkFail, _, rfl, _, rfl, r, dr, d, aw', 0, 0, 1 + (i : Int), (e : Nat), rfl, hr4, ?_⟩
          refine ⟨_, rfl, q1 (i + 1) e rfl _ r dr d aw' (same_write nr sH) ?_⟩
          rw [upd_same, show ((i + 1 : Nat) : Int) = 1 + (i : Int) by omega]
        · exact absurd (by rw [decide_eq_false fun z => epos (by have := V.int.inj z; omega)]; rfl) g
      · refine ⟨_, rfl, rfl, _, rfl, ite2 (fun g => ?_) (fun g => ?_)⟩
        · exact absurd g (by decide)
        · have ntaH := nH nta
          have nraH := nH nra
          obtain ⟨cs, hc1, hc2⟩ := hTx
          obtain ⟨rs, hr1', hr2'⟩ := hRx
          have hdy := s3 _ _ hdx
          have hpy := s3 _ _ hpx
          have k5 : ∀ {b : Addr} {o : HO}, Hx b = some o → b ≠ r → b ≠ ta → b ≠ ra → H' b = some o := fun {b o} h n1 n2 n3 => k4 b o (s3 _ _ h) n1 n2 n3
          refine ⟨_, _, _, st', rfl, fun b o h => k4 b o (sy _ _ h) (ne_of_none h nr) (ne_of_none h ntaH) (ne_of_none h nraH), hr4, k5 hdx (hnr hrx hdx (show (2 : Nat) ≠ 4 by decide)) (fun z => by rw [z, hc1] at hdx; cases hdx) (fun z => by rw [z, hr1'] at hdx; cases hdx), hT4, hR4,
            k5 hpx (fun z => by rw [z, hr1] at l3; cases l3) (fun z => by rw [z, hta1] at l3; cases l3) (fun z => by rw [z, hra1] at l3; cases l3), Paired.mapP hLx fun b y z => ?_, rdRun_more hx hrun he, ?_⟩
          · obtain ⟨dl', nb, z1, z2, z3⟩ := z
            exact ⟨dl', nb, k5 z1 (hnr hrx z1 (show (3 : Nat) ≠ 4 by decide)) (fun z => by rw [z, hc1] at z1; cases z1) (fun z => by rw [z, hr1'] at z1; cases z1), k5 z2 (fun z => by rw [z, hr1] at z3; cases z3) (fun z => by rw [z, hta1] at z3; cases z3) (fun z => by rw [z, hra1] at z3; cases z3), z3⟩
          · rw [List.take_add_one, hx, used_app]
            exact small_step hsm he
    · obtain ⟨y1, y2, y3, st, rfl, sx, hrx, hdx, hTx, hRx, hpx, hLx, hrun, hsm⟩ := hP
      rw [List.length_map, hal, List.take_length] at hrun
      rw [hrun] at q1 q2
      have hRx' := hRx
      obtain ⟨rs, hr1', hr2'⟩ := hRx
      have hrl : rs.length = st.row.length := Paired.length hr2'
      refine ⟨_, rfl, r, CR, dr, _, _, rfl, hrx, TR.cl, TR.no _ (by simp), lkR0, d, CD, dd, _, _, rfl, hdx, T.d.cl, T.d.no _ (by simp), lkD1, ra, _, rfl, .inl (SqL.of hr1'), rfl, _, rfl, ite2 (fun g => ?_) (fun g => ?_)⟩
      · have g1 : st.row = [] := by
          have := eq_dec g
          rw [List.length_map, hrl] at this
          exact List.eq_nil_of_length_eq_zero (by omega)
        refine ⟨_, rfl, r, dr, _, rfl, hrx, lkFail, _, rfl, p, _, rfl, .inl (SqL.of hpx), _, _, rfl, rfl, r, dr, d, _, 0, 0, _, 7, rfl, hrx, ?_⟩
        refine ⟨_, rfl, q1 ((linI t).length + 1) 7 ?_ _ r dr d (st.aw : Nat) (same_write nr sx) ?_⟩
        · show (if st.row = [] then Except.error ((linI t).length + 1, 7) else Except.ok ({ table := st.tb, row := st.row } : Vatrkd.Doc)) = _
          rw [if_pos g1]
        · rw [upd_same, List.length_map, hal, hlen2]
          rfl
      · have g1 : st.row ≠ [] := by
          have := ne_dec g
          rw [List.length_map, hrl] at this
          intro z
          rw [z] at this
          exact this rfl
        refine ⟨_, rfl, q2 { table := st.tb, row := st.row } ?_ Hx r dr d ta ra _ sx hrx ⟨dd, hdx⟩ hTx hRx' nr (nH ndd) (nH nta) (nH nra)⟩
        show (if st.row = [] then Except.error ((linI t).length + 1, 7) else Except.ok ({ table := st.tb, row := st.row } : Vatrkd.Doc)) = _
        rw [if_neg g1]
end
end Td
set_option maxRecDepth 100000
set_option maxHeartbeats 4000000
/-! enumerate of one argument, by what its iterator begins with -/
namespace Td
open PySem PySem.Spec PyProof.Rows L2 PySem.W
theorem new_enum1 {v : Value} {o : Obj} {Hh : Heap → Prop} (B : Begins v o Hh) :
    Meets (Builtin.«enumerate.__new__» ⟨[.type "enumerate", v], []⟩) (fun _ R s => Hh s.heap ∧
      R (.ok (.ret (.ref (s.heap.push o).objs.size)))
        { s with heap := (s.heap.push o).push { cls := .type "enumerate", data := .fields #[.none, .bool false, .ref s.heap.objs.size, rawInt 0, .none, .none] } }) := by
  refine .of_wp fun prog w A R s h => ?_
  obtain ⟨hp, g, d, tk, os⟩ := s
  obtain ⟨h1, h⟩ := h
  have hsub := sub_enumerate
  have q1 : ∀ {A' : Around} {E : Value → Shared → Prop} {Q : Value → Shared → Prop}, Q (.ref hp.objs.size) ⟨hp.push o, g, d, tk, os⟩ → wpAny (model prog w) A' (pyIter v) Q E ⟨hp, g, d, tk, os⟩ := fun q => B.iter prog w _ _ ⟨hp, g, d, tk, os⟩ _ h1 q
  wp_walk using q1
  refine wpAny_stack_any fun st => wpAny_pure ?_
  split
  · rename_i c _ _ _ _ _
    cases (c == Value.type "enumerate") <;> (wp_walk using q1; exact ⟨_, rfl, h⟩)
  · wp_walk using q1; exact ⟨_, rfl, h⟩
theorem enum_one {prog : Program} {w : World} {A : Around} {E : Value → Shared → Prop} {s : Shared} {v : Value} {o : Obj} {Hh : Heap → Prop} {Q : Value → Shared → Prop} (B : Begins v o Hh) (h1 : Hh s.heap)
    (h : ∀ h', IsEnum h' (s.heap.objs.size + 1) s.heap.objs.size 0 .none → h'.get? s.heap.objs.size = some o → (∀ b o, s.heap.get? b = some o → h'.get? b = some o) → Q (.ref (s.heap.objs.size + 1)) { s with heap := h' }) :
    wpAny (model prog w) A (call (.type "enumerate") [v]) Q E s := by
  refine callType_new F.called_enumerate (by decide) (F.typeCall_enumerate_1 _) (F.newCall_enumerate_1 _) (fun obj => F.args_object_init_2 obj _) F.entry_enumerate_new (new_enum1 B) ⟨h1, ?_⟩
  have hz : (s.heap.push o).objs.size = s.heap.objs.size + 1 := Heap.size_push ..
  show _ ∧ _
  rw [hz]
  generalize hO : ({ cls := .type "enumerate", data := .fields #[.none, .bool false, .ref s.heap.objs.size, rawInt 0, .none, .none] } : Obj) = oe
  have hg : ((s.heap.push o).push oe).get? (s.heap.objs.size + 1) = some oe := by
    rw [← hz]
    exact Heap.get?_push_size _ (by rw [← hO]; rfl)
  have he : IsEnum ((s.heap.push o).push oe) (s.heap.objs.size + 1) s.heap.objs.size 0 .none := by
    rw [← hO] at hg ⊢
    exact hg
  exact ⟨⟨_, hg, by rw [← hO]⟩, h _ he (Heap.get?_push_of_some _ (Heap.get?_push_size _ B.free)) fun b o x => Heap.get?_push_of_some _ (Heap.get?_push_of_some _ x)⟩
section
variable {X : Cx} {e : Expr} {ta : TA} {p pos tpos : Pos} {elts : List Expr} {kk : Nat}
/-- enumerate(tuple) -/
theorem pi_enumT0 (hg : Gl X "enumerate") (hm : X.mg "enumerate" = none) (ha : PA X [e] ta) (hs : starEach [e] X.env = [(false, eval e X.env)] := by rfl) :
    PI X (.Tuple elts kk tpos) (.Call (.Name "enumerate" p) [e] [] pos) (iEnumC 0 (fun a H xs => SqT X.K H a xs) ta) := by
  refine ⟨fun pins s σ H R I h => ?_⟩
  refine Call_ (ld_blt I hg hm boot_enumerate (PyProof.Rows.callWith_type1 (thn (ha.run pos pins s σ H _ I h) fun us s1 ⟨vs, H1, I1, r1, q1⟩ => ?_) hs rfl))
  obtain ⟨a, xs, ex, hq, q⟩ := q1
  subst ex
  cases r1 with
  | cons r rr =>
    cases rr
    cases r
    obtain ⟨its, rv, his⟩ := (seqK_tup (P := X.prog) (w := X.w) (K := X.K) a).read X rfl rfl rfl pins σ H1 s1 I1 xs hq
    refine enum_one (begins_tuple a its.toArray) his fun h' he ho hk => ?_
    exact enumC_run (seqK_tup a) I1 his (fun h e => ⟨_, e, rfl, rfl⟩) he ho hk q
end
end Td
set_option maxRecDepth 100000
set_option maxHeartbeats 4000000
namespace Td
open PySem PySem.Spec PyProof.Rows L2
open Vatrka (Piece Pending Change)
/-! ### texts by their signs -/
def mkS (l : List Nat) : Str := ⟨l.toArray⟩
theorem codes_mk (l : List Nat) : codes (mkS l) = l := rfl
theorem mk_codes (z : Str) : mkS (codes z) = z := TL.mk_tl z
theorem len_mk (l : List Nat) : (mkS l).length = l.length := by
  show l.toArray.size = _
  exact List.size_toArray
theorem numL_digits : ∀ (k n : Nat), n ≤ k → TL.numL n = Vatrkd.digits n
  | k, n, h => by
    by_cases e : n < 10
    · rw [TL.numL_lt e, Tm.digits_lt e]
    · match k with
      | 0 => omega
      | k + 1 => rw [TL.numL_step (by omega), Tm.digits_ge (by omega), numL_digits k (n / 10) (by omega)]
theorem num_text (n : Nat) : Str.ofString (toString (n : Int)) = mkS (Vatrkd.digits n) := by
  refine TL.ext_tl ?_
  rw [TL.tl_num, numL_digits n n (Nat.le_refl _)]
  rfl
theorem mk_app (l m : List Nat) : mkS l ++ mkS m = mkS (l ++ m) := by
  refine TL.ext_tl ?_
  rw [TL.tl_append]
  rfl
theorem lit_text (s : String) : Str.ofString s = mkS (Vatrkd.word s) := by
  refine TL.ext_tl ?_
  rw [TL.tl_ofString]
  rfl
theorem empty_text : Str.empty = mkS [] := rfl
theorem log_small {n : Nat} (h : n < 10 ^ 18) : ((n : Int)).natAbs.log2 < 1920 := by
  rw [Int.natAbs_natCast]
  by_cases e : n = 0
  · subst e; decide
  · refine (Nat.log2_lt e).mpr (Nat.lt_trans h ?_)
    exact Nat.lt_of_lt_of_le (show (10 : Nat) ^ 18 < 2 ^ 64 by decide) (Nat.pow_le_pow_right (n := 2) (i := 64) (j := 1920) (by decide) (by decide))
theorem digits_len {n : Nat} (h : n < 10 ^ 18) : (Vatrkd.digits n).length ≤ 18 := by
  have key : ∀ (k n : Nat), n < 10 ^ (k + 1) → (Vatrkd.digits n).length ≤ k + 1 := by
    intro k
    induction k with
    | zero =>
      intro n h
      rw [Tm.digits_lt (by omega)]
      exact Nat.le_refl _
    | succ k ih =>
      intro n h
      by_cases e : n < 10
      · rw [Tm.digits_lt e]
        exact Nat.succ_le_succ (Nat.zero_le _)
      · rw [Tm.digits_ge (by omega), List.length_append, List.length_singleton]
        have : n / 10 < 10 ^ (k + 1) := by
          rw [Nat.pow_succ] at h
          omega
        have := ih _ this
        omega
  exact key 17 n h
/-- a piece's numbers, in a table of n changes -/
structure PcOk (n : Nat) (x : Piece) : Prop where
  look : x.look.length = 4
  lookV : ∀ v ∈ x.look, v < 10 ^ 18
  ins : ∀ c ∈ x.ins, c ≤ n
  del : ∀ c ∈ x.del, c ≤ n
  pend : ∀ y ∈ x.pend, y.change ≤ n ∧ y.prop < 4 ∧ y.value < 10 ^ 18
  tags : ∀ t ∈ x.tags, t < 10 ^ 18
  sz : x.ins.length < 1000000 ∧ x.del.length < 1000000 ∧ x.pend.length < 1000000 ∧ x.tags.length < 1000000
/-- the words of a dress -/
def wordsOf (x : Piece) : List (List Nat) := Vatrkd.lookItems 0 x.look ++ (x.ins.map (fun c => 43 :: Vatrkd.digits c) ++ (x.del.map (fun c => 45 :: Vatrkd.digits c) ++ (x.pend.map Vatrkd.pendItem ++ x.tags.map fun t => 35 :: Vatrkd.digits t)))
theorem marks_words (x : Piece) : Vatrkd.marksOf x = Vatrkd.blanks (wordsOf x) := rfl
def vS (ws : List (List Nat)) : List V := ws.map fun l => V.str (mkS l)
theorem vS_app (a b : List (List Nat)) : vS (a ++ b) = vS a ++ vS b := by
  unfold vS
  rw [List.map_append]
theorem vS_len (a : List (List Nat)) : (vS a).length = a.length := by
  unfold vS
  rw [List.length_map]
theorem lookItems_len : ∀ (l : List Nat) (k : Nat), (Vatrkd.lookItems k l).length ≤ l.length
  | [], _ => Nat.le_refl _
  | v :: r, k => by
    rw [Vatrkd.lookItems]
    have := lookItems_len r (k + 1)
    split
    · rw [List.length_cons]; omega
    · rw [List.length_cons, List.length_cons]; omega
theorem lookItems_snoc : ∀ (l : List Nat) (k v : Nat), Vatrkd.lookItems k (l ++ [v]) = Vatrkd.lookItems k l ++ (if v = 0 then [] else [(97 + (k + l.length)) :: Vatrkd.digits v])
  | [], k, v => by
    show Vatrkd.lookItems k [v] = _
    rw [Vatrkd.lookItems, Vatrkd.lookItems]
    split <;> rfl
  | u :: r, k, v => by
    show Vatrkd.lookItems k (u :: (r ++ [v])) = _
    rw [Vatrkd.lookItems, Vatrkd.lookItems, lookItems_snoc r (k + 1) v, List.length_cons, show k + 1 + r.length = k + (r.length + 1) by omega]
    split <;> rfl
theorem joinL_blanks : ∀ ws : List (List Nat), TL.joinL [32] ws = Vatrkd.blanks ws
  | [] => rfl
  | [_] => rfl
  | x :: y :: r => by
    rw [TL.joinL, Vatrkd.blanks, joinL_blanks (y :: r)]
    · rfl
    · exact fun z => by cases z
theorem blanks_len : ∀ ws : List (List Nat), (ws.map List.length).sum + ws.length ≤ (Vatrkd.blanks ws).length + 1
  | [] => Nat.zero_le _
  | [x] => by simp [Vatrkd.blanks]
  | x :: y :: r => by
    have := blanks_len (y :: r)
    rw [Vatrkd.blanks]
    · rw [List.map_cons, List.sum_cons, List.length_cons, List.length_append, List.length_cons (a := 32)]
      omega
    · exact fun z => by cases z
/-- f"p{x}" -/
def tF2 (p : Str) (s : Nat) : TE := fun σ H Q => tJs [tC (.str p), tFmt (tVar s)] Str.empty σ H fun out H1 => Q (.str out) H1
theorem ext_words5 {K : PySem.W.Frag} {H0 H : Hp} {d wl a : Addr} {y2 y3 y4 y5 y6 : Option V} {vs : List V} {j : Int} {ws : List (List Nat)} {l : List Nat} {p : Str} {D : Ends} (hp : p.length ≤ 5) (hd : SqT K H0 d vs) (hj : atI vs j = some (.ref a)) (ha : SqT K H0 a (vN l)) (nw : H0 wl = none) (s0 : Same H0 H) (hw : H wl = some (.lst (vS ws)))
    (hl : ws.length + l.length ≤ sizeLine) (hc : ∀ c ∈ l, c < 10 ^ 18) (q : ∀ H', Same H0 H' → H' wl = some (.lst (vS (ws ++ l.map fun c => codes p ++ Vatrkd.digits c))) → D.nx [some (.ref d), some (.ref wl), y2, y3, y4, y5, y6] H') :
    tDrop (tBM K "list" rExtend (tVar 1) (tCons (tLc (iTup K (tOp (rIxT K) (tVar 0) (tC (.int j)))) (gName 5) tYes (tF2 p 5) [5]) tNil)) D [some (.ref d), some (.ref wl), y2, y3, y4, y5, y6] H := by
  refine ⟨_, rfl, .inl ⟨rfl, _, SqL.of hw⟩, _, rfl, d, _, _, _, rfl, rfl, same_tup s0 hd, hj, a, rfl, ⟨_, same_tup s0 ha⟩, fun Dd nD => ?_⟩
  refine lc_it (walk_tup (xs := vN l)) (fun i Hx => Same H Hx ∧ Hx Dd = some (.lst (vS ((l.take i).map fun c => codes p ++ Vatrkd.digits c)))) ⟨same_upd nD, upd_same⟩ (fun i Hx _ hP => same_tup hP.1 (same_tup s0 ha)) (fun i x Hx Hy hi hP hY => ?_) (fun Hx hP => ?_)
  · obtain ⟨rfl, hx⟩ := hY
    obtain ⟨c, hcx, rfl⟩ := vN_int hx
    have hcl := hc c (List.mem_of_getElem? hcx)
    have hdl := digits_len hcl
    have hi' : i < l.length := (List.getElem?_eq_some_iff.mp hcx).1
    have e6 : (1000 : Nat) < sizeLine := by decide
    have ea : Str.empty ++ p = p := by rw [empty_text, ← mk_codes p, mk_app]; rfl
    have eb : (Str.empty ++ p) ++ Str.ofString (toString ((c : Nat) : Int)) = mkS (codes p ++ Vatrkd.digits c) := by
      rw [ea, num_text]
      conv => lhs; rw [← mk_codes p]
      exact mk_app _ _
    have hpl : (codes p).length ≤ 5 := by show p.cps.toList.length ≤ 5; rw [Array.length_toList]; exact hp
    refine ⟨rfl, p, rfl, by rw [ea]; omega, _, rfl, .inr ⟨_, rfl, log_small hcl, _, rfl, by rw [eb, len_mk, List.length_append]; omega, _, hP.2, ?_, same_write nD hP.1, ?_⟩⟩
    · rw [vS_len, List.length_map, List.length_take]
      omega
    · rw [upd_same, List.take_add_one, hcx, List.map_append, vS_app, eb]
      rfl
  · obtain ⟨s1, hD⟩ := hP
    rw [vN_len, List.take_length] at hD
    refine ⟨wl, Dd, _, _, rfl, rfl, s1 _ _ hw, hD, ?_, q _ (same_write nw (s0.trans s1)) ?_⟩
    · rw [vS_len, vS_len, List.length_map]
      exact hl
    · rw [upd_same, vS_app]
theorem ext_words6 {K : PySem.W.Frag} {H0 H : Hp} {d wl a : Addr} {y2 y3 y4 y5 y6 : Option V} {vs : List V} {j : Int} {ws : List (List Nat)} {l : List Nat} {p : Str} {D : Ends} (hp : p.length ≤ 5) (hd : SqT K H0 d vs) (hj : atI vs j = some (.ref a)) (ha : SqT K H0 a (vN l)) (nw : H0 wl = none) (s0 : Same H0 H) (hw : H wl = some (.lst (vS ws)))
    (hl : ws.length + l.length ≤ sizeLine) (hc : ∀ c ∈ l, c < 10 ^ 18) (q : ∀ H', Same H0 H' → H' wl = some (.lst (vS (ws ++ l.map fun c => codes p ++ Vatrkd.digits c))) → D.nx [some (.ref d), some (.ref wl), y2, y3, y4, y5, y6] H') :
    tDrop (tBM K "list" rExtend (tVar 1) (tCons (tLc (iTup K (tOp (rIxT K) (tVar 0) (tC (.int j)))) (gName 6) tYes (tF2 p 6) [6]) tNil)) D [some (.ref d), some (.ref wl), y2, y3, y4, y5, y6] H := by
  refine ⟨_, rfl, .inl ⟨rfl, _, SqL.of hw⟩, _, rfl, d, _, _, _, rfl, rfl, same_tup s0 hd, hj, a, rfl, ⟨_, same_tup s0 ha⟩, fun Dd nD => ?_⟩
  refine lc_it (walk_tup (xs := vN l)) (fun i Hx => Same H Hx ∧ Hx Dd = some (.lst (vS ((l.take i).map fun c => codes p ++ Vatrkd.digits c)))) ⟨same_upd nD, upd_same⟩ (fun i Hx _ hP => same_tup hP.1 (same_tup s0 ha)) (fun i x Hx Hy hi hP hY => ?_) (fun Hx hP => ?_)
  · obtain ⟨rfl, hx⟩ := hY
    obtain ⟨c, hcx, rfl⟩ := vN_int hx
    have hcl := hc c (List.mem_of_getElem? hcx)
    have hdl := digits_len hcl
    have hi' : i < l.length := (List.getElem?_eq_some_iff.mp hcx).1
    have e6 : (1000 : Nat) < sizeLine := by decide
    have ea : Str.empty ++ p = p := by rw [empty_text, ← mk_codes p, mk_app]; rfl
    have eb : (Str.empty ++ p) ++ Str.ofString (toString ((c : Nat) : Int)) = mkS (codes p ++ Vatrkd.digits c) := by
      rw [ea, num_text]
      conv => lhs; rw [← mk_codes p]
      exact mk_app _ _
    have hpl : (codes p).length ≤ 5 := by show p.cps.toList.length ≤ 5; rw [Array.length_toList]; exact hp
    refine ⟨rfl, p, rfl, by rw [ea]; omega, _, rfl, .inr ⟨_, rfl, log_small hcl, _, rfl, by rw [eb, len_mk, List.length_append]; omega, _, hP.2, ?_, same_write nD hP.1, ?_⟩⟩
    · rw [vS_len, List.length_map, List.length_take]
      omega
    · rw [upd_same, List.take_add_one, hcx, List.map_append, vS_app, eb]
      rfl
  · obtain ⟨s1, hD⟩ := hP
    rw [vN_len, List.take_length] at hD
    refine ⟨wl, Dd, _, _, rfl, rfl, s1 _ _ hw, hD, ?_, q _ (same_write nw (s0.trans s1)) ?_⟩
    · rw [vS_len, vS_len, List.length_map]
      exact hl
    · rw [upd_same, vS_app]
abbrev s_written_marks : Stmt := top 75
abbrev n_written_marks : List Str := ["dress", "words", "place", "value", "letter", "change", "tag"]
abbrev p_written_marks : List Str := ["dress"]
theorem sc_written_marks : FnScope n_written_marks p_written_marks (defScope s_written_marks) := ⟨rfl, rfl, rfl, by decide +kernel, rfl, by decide +kernel, by decide +kernel⟩
section
variable {P : Program} {w : World} {K : PySem.W.Frag} {mg : Str → Option Value} {base : Heap}
def sp_written_marks (K : PySem.W.Frag) : Sp := fun vs H Q _ => ∃ (d : Addr) (x : Piece) (n : Nat), vs = [.ref d] ∧ Dp K H (.ref d) (dressD x) ∧ PcOk n x ∧ n < 10 ^ 18 ∧ (Vatrkd.marksOf x).length + 1 ≤ sizeLine ∧ ∀ H', Same H H' → Q (.str (mkS (Vatrkd.marksOf x))) H'
theorem ok_written_marks {k : Nat} (G : Glob mg) (D : Stands K mg "written_marks" s_written_marks) : C8.Cal P w K mg base (k + 1) "written_marks" (sp_written_marks K) [] := by
  refine cal_of D sc_written_marks (fun vs H Q E h => ?_) (fun _ _ _ _ _ _ us hl => match us, hl with | [_], _ => rfl) (fun f cdv A outer s H vs Q E hr h => ?_)
  · obtain ⟨d, x, n, rfl, _⟩ := h
    rfl
  · obtain ⟨d, x, n, rfl, hd, hok, hn, hlen, q⟩ := h
    obtain ⟨lk, ins, del, pe, tg, h1, h2, h3, h4, ⟨pas, h5, h5p⟩, h6⟩ := dress_at hd
    refine ⟨_, (pss_cons (ps_set (i := 1) sc_written_marks.nd rfl (Or.inl rfl) (pe_lst pa_nil))
      (pss_cons (ps_for PassesOwn.never rfl (pi_enumT0 (by rfl) G.b_enumerate (pa_cons (pe_ix ix_tup (pv 0) (pe_gv G.c_LOOK) (fun _ _ => rfl)) pa_nil)) (pg_tup rfl (pgs_cons (pg_name (i := 2) sc_written_marks.nd rfl (Or.inl rfl)) (pgs_cons (pg_name (i := 3) sc_written_marks.nd rfl (Or.inl rfl)) pgs_nil)))
      (pss_one (ps_if (pt_cmpR op_gt (pv 3) pe_int (nomark _))
      (pss_cons (ps_set (i := 4) sc_written_marks.nd rfl (Or.inl rfl) (pe_ix ix_str (pe_gv G.c_PROPERTIES) (pv 2) (fun _ _ => rfl)))
      (pss_one (ps_expr (pe_bm PySem.F.plainAttrs_list PySem.F.slot_list_append PySem.F.type_list_append mt_append (pv 1) (pa_cons (pe_joined (.cons (pe_fmt (pv 4)) (.cons (pe_fmt (pv 3)) .nil))) pa_nil)))))
      pss_nil)))
      (pss_cons (ps_expr (pe_bm PySem.F.plainAttrs_list PySem.F.slot_list_extend PySem.F.type_list_extend mt_extend (pv 1) (pa_cons (pe_lc (own := [("change", 5)]) (g := (gName 5)) (tt := tYes) (te := _) rfl sc_written_marks.nd (pi_tup (pe_ix ix_tup (pv 0) (pe_gv G.c_INSERTIONS) (fun _ _ => rfl))) (blkOk_by (N := ["dress", "words", "place", "value", "letter", "change", "tag"]) (sc := defScope s_written_marks) (by decide +kernel)) (fun _ _ _ _ _ => (pg_name (i := 5) sc_written_marks.nd rfl (Or.inl rfl))) (fun _ _ _ _ _ => pts_nil) (fun _ _ _ _ _ => (pe_joined (.cons pe_str (.cons (pe_fmt (pv 5)) .nil))))) pa_nil)))
      (pss_cons (ps_expr (pe_bm PySem.F.plainAttrs_list PySem.F.slot_list_extend PySem.F.type_list_extend mt_extend (pv 1) (pa_cons (pe_lc (own := [("change", 5)]) (g := (gName 5)) (tt := tYes) (te := _) rfl sc_written_marks.nd (pi_tup (pe_ix ix_tup (pv 0) (pe_gv G.c_DELETIONS) (fun _ _ => rfl))) (blkOk_by (N := ["dress", "words", "place", "value", "letter", "change", "tag"]) (sc := defScope s_written_marks) (by decide +kernel)) (fun _ _ _ _ _ => (pg_name (i := 5) sc_written_marks.nd rfl (Or.inl rfl))) (fun _ _ _ _ _ => pts_nil) (fun _ _ _ _ _ => (pe_joined (.cons pe_str (.cons (pe_fmt (pv 5)) .nil))))) pa_nil)))
      (pss_cons (ps_for PassesOwn.never rfl (pi_tup (pe_ix ix_tup (pv 0) (pe_gv G.c_PENDING) (fun _ _ => rfl))) (pg_tup rfl (pgs_cons (pg_name (i := 5) sc_written_marks.nd rfl (Or.inl rfl)) (pgs_cons (pg_name (i := 2) sc_written_marks.nd rfl (Or.inl rfl)) (pgs_cons (pg_name (i := 3) sc_written_marks.nd rfl (Or.inl rfl)) pgs_nil))))
      (pss_cons (ps_set (i := 4) sc_written_marks.nd rfl (Or.inl rfl) (pe_ix ix_str (pe_gv G.c_PROPERTIES) (pv 2) (fun _ _ => rfl)))
      (pss_one (ps_expr (pe_bm PySem.F.plainAttrs_list PySem.F.slot_list_append PySem.F.type_list_append mt_append (pv 1) (pa_cons (pe_joined (.cons pe_str (.cons (pe_fmt (pv 5)) (.cons pe_str (.cons (pe_fmt (pv 4)) (.cons (pe_fmt (pv 3)) .nil)))))) pa_nil))))))
      (pss_cons (ps_expr (pe_bm PySem.F.plainAttrs_list PySem.F.slot_list_extend PySem.F.type_list_extend mt_extend (pv 1) (pa_cons (pe_lc (own := [("tag", 6)]) (g := (gName 6)) (tt := tYes) (te := _) rfl sc_written_marks.nd (pi_tup (pe_ix ix_tup (pv 0) (pe_gv G.c_TAGS) (fun _ _ => rfl))) (blkOk_by (N := ["dress", "words", "place", "value", "letter", "change", "tag"]) (sc := defScope s_written_marks) (by decide +kernel)) (fun _ _ _ _ _ => (pg_name (i := 6) sc_written_marks.nd rfl (Or.inl rfl))) (fun _ _ _ _ _ => pts_nil) (fun _ _ _ _ _ => (pe_joined (.cons pe_str (.cons (pe_fmt (pv 6)) .nil))))) pa_nil)))
      (pss_one (ps_ret (pe_join pe_str (pv 1)))))))))), ?_⟩
    have hwl : (wordsOf x).length ≤ sizeLine := by
      have := blanks_len (wordsOf x)
      rw [← marks_words] at this
      omega
    have hwl' : (Vatrkd.lookItems 0 x.look).length + (x.ins.length + (x.del.length + (x.pend.length + x.tags.length))) ≤ sizeLine := by
      unfold wordsOf at hwl
      simp only [List.length_append, List.length_map] at hwl
      exact hwl
    refine ⟨Nat.zero_le _, fun wl nw => ?_⟩
    have s0 : Same H (upd H wl (.lst [])) := same_upd nw
    refine ⟨_, rfl, d, _, _, _, rfl, rfl, same_tup s0 h1, at_of (j := 0) rfl rfl, lk, _, rfl, same_tup s0 h2, for_it (walk_C (c := 0) (xs := vN x.look)) (fun i σ H1 => ∃ y2 y3 y4, σ = [some (.ref d), some (.ref wl), y2, y3, y4, none, none] ∧ Same H H1 ∧ H1 wl = some (.lst (vS (Vatrkd.lookItems 0 (x.look.take i)))))
      ⟨_, _, _, rfl, s0, upd_same⟩ (fun i σ H1 _ hP => ?_) (fun i v σ H1 H2 hi hP hY => ?_) (fun σ H1 hP => ?_)⟩
    · obtain ⟨_, _, _, _, s1, _⟩ := hP
      exact same_tup s1 h2
    · obtain ⟨y2, y3, y4, rfl, s1, hw⟩ := hP
      obtain ⟨t, v1, v2, rfl, nt, rfl, e1, e2⟩ := hY
      obtain rfl := Option.some.inj e1
      have e2' : (vN x.look)[i]? = some v2 := e2
      obtain ⟨c, hc, rfl⟩ := vN_int e2'
      have hcl := hok.lookV c (List.mem_of_getElem? hc)
      have hil : i < 4 := by have := (List.getElem?_eq_some_iff.mp hc).1; rw [hok.look] at this; exact this
      have s2 : Same H1 (upd H1 t (.tup [.int (0 + (i : Int)), .int (c : Int)])) := same_upd nt
      have s12 := s1.trans s2
      refine ⟨t, _, rfl, SqT.of upd_same, rfl, _, _, rfl, _, _, rfl, rfl, ?_⟩
      have hw2 := s2 _ _ hw
      generalize upd H1 t (.tup [.int (0 + (i : Int)), .int (c : Int)]) = H2 at s2 s12 hw2
      have hil' : (x.look.take i).length = i := by rw [List.length_take, hok.look]; omega
      have hsn : Vatrkd.lookItems 0 (x.look.take (i + 1)) = Vatrkd.lookItems 0 (x.look.take i) ++ (if c = 0 then [] else [(97 + i) :: Vatrkd.digits c]) := by
        rw [List.take_add_one, hc]
        show Vatrkd.lookItems 0 (x.look.take i ++ [c]) = _
        rw [lookItems_snoc, hil', Nat.zero_add]
      refine ⟨_, rfl, _, _, rfl, rfl, _, rfl, ite2 (fun g => ?_) (fun g => ?_)⟩
      · have g1 : (0 : Int) < (c : Int) := lt_dec g
        have g2 : c ≠ 0 := by omega
        have hlet : atI (Str.ofString "abcd").cps.toList (0 + (i : Int)) = some (97 + i) := by
          rw [Int.zero_add]
          refine atI_nat ?_
          have : ∀ i, i < 4 → (Str.ofString "abcd").cps.toList[i]? = some (97 + i) := by decide +kernel
          exact this i hil
        refine ⟨_, rfl, _, _, _, rfl, rfl, by decide +kernel, hlet, ?_⟩
        have hdl := digits_len hcl
        have e6 : (1000 : Nat) < sizeLine := by decide
        have e1 : Str.empty ++ (⟨#[97 + i]⟩ : Str) = mkS [97 + i] := mk_app [] [97 + i]
        have e2 : (Str.empty ++ (⟨#[97 + i]⟩ : Str)) ++ Str.ofString (toString ((c : Nat) : Int)) = mkS ((97 + i) :: Vatrkd.digits c) := by
          rw [e1, num_text]
          exact mk_app _ _
        refine ⟨_, rfl, .inl ⟨rfl, _, SqL.of hw2⟩, _, rfl, .inl ⟨_, rfl, by show (1 : Nat) ≤ sizeLine; decide, _, rfl, by rw [e1, len_mk]; show (1 : Nat) ≤ sizeLine; decide, _, rfl, .inr ⟨_, rfl, log_small hcl, _, rfl, by rw [e2, len_mk, List.length_cons]; omega, wl, _, _, rfl, rfl, hw2, ?_, ?_⟩⟩⟩
        · rw [vS_len]
          have := lookItems_len (x.look.take i) 0
          rw [hil'] at this
          omega
        · refine ⟨_, _, _, rfl, same_write nw s12, ?_⟩
          rw [upd_same, hsn, if_neg g2, vS_app, e2]
          rfl
      · have g1 : c = 0 := by have := ge_dec g; omega
        refine ⟨_, _, _, rfl, s12, ?_⟩
        rw [hsn, if_pos g1, List.append_nil]
        exact hw2
    · obtain ⟨y2, y3, y4, rfl, s1, hw⟩ := hP
      rw [vN_len, List.take_length] at hw
      refine ext_words5 (a := ins) (by decide +kernel) h1 (at_of (j := 1) rfl rfl) h3 nw s1 hw (by omega) (fun c hc => Nat.lt_of_le_of_lt (hok.ins c hc) hn) fun H2 s2 hw2 => ?_
      refine ext_words5 (a := del) (by decide +kernel) h1 (at_of (j := 2) rfl rfl) h4 nw s2 hw2 (by rw [List.length_append, List.length_map]; omega) (fun c hc => Nat.lt_of_le_of_lt (hok.del c hc) hn) fun H3 s3 hw3 => ?_
      generalize hws : Vatrkd.lookItems 0 x.look ++ (x.ins.map fun c => codes (Str.ofString "+") ++ Vatrkd.digits c) ++ (x.del.map fun c => codes (Str.ofString "-") ++ Vatrkd.digits c) = ws at hw3
      have hwsl : ws.length = (Vatrkd.lookItems 0 x.look).length + x.ins.length + x.del.length := by rw [← hws]; simp [Nat.add_assoc]
      refine ⟨_, rfl, d, _, _, _, rfl, rfl, same_tup s3 h1, at_of (j := 3) rfl rfl, pe, rfl, ⟨_, same_tup s3 h5⟩, for_it (walk_tup (xs := pas.map V.ref)) (fun i σ H4 => ∃ y2 y3 y4 y5, σ = [some (.ref d), some (.ref wl), y2, y3, y4, y5, none] ∧ Same H H4 ∧ H4 wl = some (.lst (vS (ws ++ (x.pend.take i).map Vatrkd.pendItem))))
        ⟨_, _, _, _, rfl, s3, by rw [List.take_zero, List.map_nil, List.append_nil]; exact hw3⟩ (fun i σ H4 _ hP => ?_) (fun i v σ H4 H5 hi hP hY => ?_) (fun σ H4 hP => ?_)⟩
      · obtain ⟨_, _, _, _, _, s4, _⟩ := hP
        exact same_tup s4 h5
      · obtain ⟨z2, z3, z4, z5, rfl, s4, hw4⟩ := hP
        obtain ⟨rfl, hx⟩ := hY
        rw [List.getElem?_map] at hx
        obtain ⟨xa, hxa, rfl⟩ := Option.map_eq_some_iff.mp hx
        obtain ⟨y, hy, hya⟩ := paired_get h5p hxa
        obtain ⟨o1, o2, o3⟩ := hok.pend y (List.mem_of_getElem? hy)
        have hil : i < x.pend.length := (List.getElem?_eq_some_iff.mp hy).1
        have hlet : atI (Str.ofString "abcd").cps.toList ((y.prop : Nat) : Int) = some (97 + y.prop) := by
          refine atI_nat ?_
          have : ∀ i, i < 4 → (Str.ofString "abcd").cps.toList[i]? = some (97 + i) := by decide +kernel
          exact this _ o2
        have hdl1 := digits_len (Nat.lt_of_le_of_lt o1 hn)
        have hdl2 := digits_len o3
        have e6 : (1000 : Nat) < sizeLine := by decide
        have e1 : Str.empty ++ Str.ofString "*" = mkS [42] := mk_app [] [42]
        have e2 : mkS [42] ++ Str.ofString (toString ((y.change : Nat) : Int)) = mkS (42 :: Vatrkd.digits y.change) := by rw [num_text]; exact mk_app _ _
        have e3 : mkS (42 :: Vatrkd.digits y.change) ++ Str.ofString ":" = mkS (42 :: (Vatrkd.digits y.change ++ [58])) := by
          rw [lit_text]
          exact mk_app _ _
        have e4 : mkS (42 :: (Vatrkd.digits y.change ++ [58])) ++ (⟨#[97 + y.prop]⟩ : Str) = mkS (42 :: (Vatrkd.digits y.change ++ [58]) ++ [97 + y.prop]) := mk_app _ [97 + y.prop]
        have e5 : mkS (42 :: (Vatrkd.digits y.change ++ [58]) ++ [97 + y.prop]) ++ Str.ofString (toString ((y.value : Nat) : Int)) = mkS (Vatrkd.pendItem y) := by
          rw [num_text, mk_app]
          unfold Vatrkd.pendItem
          simp
        refine ⟨xa, _, rfl, same_tup s4 hya, rfl, _, _, rfl, _, _, rfl, _, _, rfl, rfl, ?_⟩
        refine ⟨_, rfl, _, _, _, rfl, rfl, by decide +kernel, hlet, ?_⟩
        refine ⟨_, rfl, .inl ⟨rfl, _, SqL.of hw4⟩, _, rfl, by rw [e1, len_mk]; show (1 : Nat) ≤ sizeLine; decide, _, rfl, .inr ⟨_, rfl, log_small (Nat.lt_of_le_of_lt o1 hn), _, rfl, by rw [e1, e2, len_mk, List.length_cons]; omega, ?_⟩⟩
        rw [e1, e2]
        refine ⟨_, rfl, by rw [e3, len_mk, List.length_cons, List.length_append]; show (Vatrkd.digits y.change).length + 1 + 1 ≤ sizeLine; omega, _, rfl, .inl ⟨_, rfl, by show (1 : Nat) ≤ sizeLine; decide, _, rfl, ?_, ?_⟩⟩
        · rw [e3, e4, len_mk]
          simp
          omega
        · rw [e3, e4]
          refine ⟨_, rfl, .inr ⟨_, rfl, log_small o3, _, rfl, ?_, ?_⟩⟩
          · rw [e5, len_mk]
            unfold Vatrkd.pendItem
            simp
            omega
          · rw [e5]
            refine ⟨wl, _, _, rfl, rfl, hw4, ?_, ⟨_, _, _, _, rfl, same_write nw s4, ?_⟩⟩
            · rw [vS_len, List.length_append, List.length_map, List.length_take]
              omega
            · rw [upd_same, List.take_add_one, hy, List.map_append, ← List.append_assoc, vS_app _ (Option.toList _ |>.map _)]
              rfl
      · obtain ⟨z2, z3, z4, z5, rfl, s4, hw4⟩ := hP
        rw [List.length_map, Paired.length h5p, List.take_length] at hw4
        refine ext_words6 (a := tg) (by decide +kernel) h1 (at_of (j := 4) rfl rfl) h6 nw s4 hw4 (by rw [List.length_append, List.length_map]; omega) hok.tags fun H5 s5 hw5 => ?_
        have ew : ws ++ x.pend.map Vatrkd.pendItem ++ (x.tags.map fun c => codes (Str.ofString "#") ++ Vatrkd.digits c) = wordsOf x := by
          rw [← hws]
          unfold wordsOf
          rw [show codes (Str.ofString "+") = [43] by decide +kernel, show codes (Str.ofString "-") = [45] by decide +kernel, show codes (Str.ofString "#") = [35] by decide +kernel]
          simp only [List.append_assoc]
          rfl
        rw [ew] at hw5
        refine ⟨⟨_, rfl⟩, _, rfl, _, wl, (wordsOf x).map mkS, rfl, rfl, .inl ?_, ?_, ?_⟩
        · have : ((wordsOf x).map mkS).map V.str = vS (wordsOf x) := by
            unfold vS
            rw [List.map_map]
            rfl
          rw [this]
          exact SqL.of hw5
        · have hb := blanks_len (wordsOf x)
          rw [← marks_words] at hb
          rw [List.map_map, List.length_map, show (Str.ofString " ").length = 1 by decide +kernel, Nat.mul_one]
          have e : ((wordsOf x).map ((fun (z : Str) => z.length) ∘ mkS)).sum = ((wordsOf x).map List.length).sum := by
            rw [show (fun (z : Str) => z.length) ∘ mkS = List.length from funext fun l => len_mk l]
          rw [e]
          have : sizeLine = 16777216 := by decide
          omega
        · have : Txt.join (Str.ofString " ") ((wordsOf x).map mkS) = mkS (Vatrkd.marksOf x) := by
            refine TL.ext_tl ?_
            rw [TL.join_eq, TL.tl_join, List.map_map, marks_words, show TL.tl (Str.ofString " ") = [32] by decide +kernel, show TL.tl ∘ mkS = id from rfl, List.map_id, joinL_blanks]
            rfl
          rw [this]
          exact q H5 s5
end
end Td
set_option maxRecDepth 100000
set_option maxHeartbeats 4000000
namespace Td
open PySem PySem.Spec PyProof.Rows L2
open Vatrka (Piece Pending Change)
/-- a change's numbers -/
structure ChOk (c : Change) : Prop where
  author : c.author < 10 ^ 18
  kind : 1 ≤ c.kind ∧ c.kind ≤ 4
/-- the form of a change's line, part by part -/
theorem changeForm_is {i : Nat} {c : Change} {z : Str} (h : ChOk c) (hz : kws[c.kind - 1]? = some z) : Vatrkd.changeForm i c = ((Vatrkd.word "change " ++ Vatrkd.digits i ++ Vatrkd.word " by " ++ Vatrkd.digits c.author ++ Vatrkd.word " at ") ++ Vatrkd.digits c.time) ++ (Vatrkd.word " " ++ codes z ++ [10]) := by
  have hk : Vatrkd.kindWords.getD (c.kind - 1) [] = codes z := by
    have : Vatrkd.kindWords[c.kind - 1]? = some (codes z) := by rw [← kws_words, List.getElem?_map, hz]; rfl
    rw [List.getD_eq_getElem?_getD, this]
    rfl
  unfold Vatrkd.changeForm
  rw [hk]
  simp only [Vatrkd.blanks]
  rw [show Vatrkd.word "change " = Vatrkd.word "change" ++ [32] by decide +kernel, show Vatrkd.word " by " = 32 :: (Vatrkd.word "by" ++ [32]) by decide +kernel, show Vatrkd.word " at " = 32 :: (Vatrkd.word "at" ++ [32]) by decide +kernel, show Vatrkd.word " " = [32] by decide +kernel]
  simp
abbrev s_change_line : Stmt := top 117
abbrev n_change_line : List Str := ["number", "change", "author", "word"]
abbrev p_change_line : List Str := ["number", "change"]
theorem sc_change_line : FnScope n_change_line p_change_line (defScope s_change_line) := ⟨rfl, rfl, rfl, by decide +kernel, rfl, by decide +kernel, by decide +kernel⟩
abbrev s_first_line_apart : Stmt := top 119
abbrev n_first_line_apart : List Str := ["text", "form", "line", "told", "written"]
abbrev p_first_line_apart : List Str := ["text", "form"]
theorem sc_first_line_apart : FnScope n_first_line_apart p_first_line_apart (defScope s_first_line_apart) := ⟨rfl, rfl, rfl, by decide +kernel, rfl, by decide +kernel, by decide +kernel⟩
section
variable {P : Program} {w : World} {K : PySem.W.Frag} {mg : Str → Option Value} {base : Heap}
def sp_change_line (K : PySem.W.Frag) : Sp := fun vs H Q _ => ∃ (n : Nat) (b : Addr) (c : Change), vs = [.int (n : Int), .ref b] ∧ Dp K H (.ref b) (changeD c) ∧ n < 10 ^ 18 ∧ ChOk c ∧ (Vatrkd.changeForm n c).length ≤ sizeLine ∧
  ∀ H' p, Same H H' → H p = none → H' p = some (.lst (vN (Vatrkd.changeForm n c))) → Q (.ref p) H'
theorem ok_change_line {k : Nat} (G : Glob mg) (Wd : Words K mg) (c_numbers_of : C8.Cal P w K mg base 1 "numbers_of" sp_numbers_of []) (D : Stands K mg "change_line" s_change_line) : C8.Cal P w K mg base (k + 2) "change_line" (sp_change_line K) [] := by
  obtain ⟨kw, hkw, hseq⟩ := Wd
  refine cal_of D sc_change_line (fun vs H Q E h => ?_) (fun _ _ _ _ _ _ us hl => match us, hl with | [_, _], _ => rfl) (fun f cdv A outer s H vs Q E hr h => ?_)
  · obtain ⟨n, b, c, rfl, _⟩ := h
    rfl
  · obtain ⟨n, b, c, rfl, hb, hn, hc, hlen, q⟩ := h
    obtain ⟨ta, h1, h2⟩ := change_at hb
    obtain ⟨hk1, hk2⟩ := hc.kind
    obtain ⟨z, hz⟩ : ∃ z, kws[c.kind - 1]? = some z := ⟨kws[c.kind - 1]'(by show c.kind - 1 < 4; omega), List.getElem?_eq_getElem _⟩
    rw [changeForm_is hc hz] at q hlen
    refine ⟨_, (pss_cons (ps_set (i := 2) sc_change_line.nd rfl (Or.inl rfl) (pe_ix ix_tup (pv 1) (pe_gv G.c_AUTHOR) (fun _ _ => rfl)))
      (pss_cons (ps_set (i := 3) sc_change_line.nd rfl (Or.inl rfl) (pe_ix ix_tup (pe_gv hkw) (pe_op op_sub (pe_ix ix_tup (pv 1) (pe_gv G.c_KIND) (fun _ _ => rfl)) pe_int) (fun _ _ => rfl)))
      (pss_one (ps_ret (pe_op op_cat (pe_op op_cat (C8.pe_c c_numbers_of hr (by omega) (by rfl) (pa_cons (pe_joined (.cons pe_str (.cons (pe_fmt (pv 0)) (.cons pe_str (.cons (pe_fmt (pv 2)) (.cons pe_str .nil)))))) pa_nil)) (pe_callTy call_list_of (by rfl) G.b_list (by decide +kernel) (pa_cons (pe_ix ix_tup (pv 1) (pe_gv G.c_NUMERAL) (fun _ _ => rfl)) pa_nil))) (C8.pe_c c_numbers_of hr (by omega) (by rfl) (pa_cons (pe_joined (.cons pe_str (.cons (pe_fmt (pv 3)) (.cons pe_str .nil)))) pa_nil))))))), ?_⟩
    have hkat : atI (kws.map V.str) ((c.kind : Int) - 1) = some (.str z) := by
      rw [show (c.kind : Int) - 1 = ((c.kind - 1 : Nat) : Int) by omega]
      exact atI_nat (by rw [List.getElem?_map, hz]; rfl)
    have hzl : (codes z).length ≤ 5 := by
      have : ∀ z ∈ kws, (codes z).length ≤ 5 := by decide +kernel
      exact this z (List.mem_of_getElem? hz)
    have d1 := digits_len hn
    have d2 := digits_len hc.author
    have e9 : (1000 : Nat) < sizeLine := by decide
    have w1 : (Vatrkd.word "change ").length = 7 := by decide +kernel
    have w2 : (Vatrkd.word " by ").length = 4 := by decide +kernel
    have w3 : (Vatrkd.word " at ").length = 4 := by decide +kernel
    have w4 : (Vatrkd.word " ").length = 1 := by decide +kernel
    have e1 : Str.empty ++ Str.ofString "change " = mkS (Vatrkd.word "change ") := by rw [lit_text]; exact mk_app [] _
    have e2 : mkS (Vatrkd.word "change ") ++ Str.ofString (toString ((n : Nat) : Int)) = mkS (Vatrkd.word "change " ++ Vatrkd.digits n) := by rw [num_text]; exact mk_app _ _
    have e3 : mkS (Vatrkd.word "change " ++ Vatrkd.digits n) ++ Str.ofString " by " = mkS (Vatrkd.word "change " ++ Vatrkd.digits n ++ Vatrkd.word " by ") := by rw [lit_text]; exact mk_app _ _
    have e4 : mkS (Vatrkd.word "change " ++ Vatrkd.digits n ++ Vatrkd.word " by ") ++ Str.ofString (toString ((c.author : Nat) : Int)) = mkS (Vatrkd.word "change " ++ Vatrkd.digits n ++ Vatrkd.word " by " ++ Vatrkd.digits c.author) := by rw [num_text]; exact mk_app _ _
    have e5 : mkS (Vatrkd.word "change " ++ Vatrkd.digits n ++ Vatrkd.word " by " ++ Vatrkd.digits c.author) ++ Str.ofString " at " = mkS (Vatrkd.word "change " ++ Vatrkd.digits n ++ Vatrkd.word " by " ++ Vatrkd.digits c.author ++ Vatrkd.word " at ") := by rw [lit_text]; exact mk_app _ _
    have f1 : Str.empty ++ Str.ofString " " = mkS (Vatrkd.word " ") := by rw [lit_text]; exact mk_app [] _
    have f2 : mkS (Vatrkd.word " ") ++ z = mkS (Vatrkd.word " " ++ codes z) := by
      conv => lhs; rw [← mk_codes z]
      exact mk_app _ _
    have f3 : mkS (Vatrkd.word " " ++ codes z) ++ Str.ofString "\n" = mkS (Vatrkd.word " " ++ codes z ++ [10]) := by rw [lit_text, show Vatrkd.word "\n" = [10] by decide +kernel]; exact mk_app _ _
    refine ⟨_, rfl, b, _, _, _, rfl, rfl, h1, at_of (j := 0) rfl rfl, ?_⟩
    refine ⟨_, rfl, b, _, _, _, rfl, rfl, h1, at_of (j := 2) rfl rfl, _, _, rfl, rfl, kw, _, _, _, rfl, rfl, hseq H, hkat, ?_⟩
    refine ⟨_, rfl, by rw [e1, len_mk]; omega, _, rfl, .inr ⟨_, rfl, log_small hn, _, rfl, ?_, ?_⟩⟩
    · rw [e1, e2, len_mk, List.length_append]; omega
    rw [e1, e2]
    refine ⟨_, rfl, by rw [e3, len_mk, List.length_append, List.length_append]; omega, _, rfl, .inr ⟨_, rfl, log_small hc.author, _, rfl, ?_, ?_⟩⟩
    · rw [e3, e4, len_mk, List.length_append, List.length_append, List.length_append]; omega
    rw [e3, e4]
    refine ⟨_, rfl, ?_, ?_⟩
    · rw [e5, len_mk, List.length_append, List.length_append, List.length_append, List.length_append]; omega
    rw [e5]
    refine ⟨_, rfl, ?_, fun H1 p1 s1 n1 hp1 => ?_⟩
    · rw [codes_mk, List.length_append, List.length_append, List.length_append, List.length_append]; omega
    rw [codes_mk] at hp1
    refine ⟨_, rfl, b, _, _, _, rfl, rfl, same_tup s1 h1, at_of (j := 3) rfl rfl, ta, _, rfl, .inr (same_tup s1 h2), fun p2 n2 => ?_⟩
    have s2 := same_upd (o := .lst (vN (Vatrkd.digits c.time))) n2
    refine ⟨p1, p2, _, _, rfl, rfl, s2 _ _ hp1, upd_same, ?_, fun p3 n3 => ?_⟩
    · rw [vN_len, vN_len]
      simp only [List.length_append] at hlen ⊢
      omega
    rw [← vN_app]
    have s3 := same_upd (o := .lst (vN (Vatrkd.word "change " ++ Vatrkd.digits n ++ Vatrkd.word " by " ++ Vatrkd.digits c.author ++ Vatrkd.word " at " ++ Vatrkd.digits c.time))) n3
    refine ⟨_, rfl, by rw [f1, len_mk]; omega, _, rfl, .inl ⟨_, rfl, ?_, _, rfl, ?_, ?_⟩⟩
    · have : z.length = (codes z).length := TL.len_tl z
      omega
    · rw [f1, f2, len_mk, List.length_append]; omega
    rw [f1, f2]
    refine ⟨_, rfl, ?_, ?_⟩
    · rw [f3, len_mk, List.length_append, List.length_append]; show _ + 1 ≤ _; omega
    rw [f3]
    refine ⟨_, rfl, ?_, fun H4 p4 s4 n4 hp4 => ?_⟩
    · rw [codes_mk, List.length_append, List.length_append]; show _ + 1 ≤ _; omega
    rw [codes_mk] at hp4
    refine ⟨p3, p4, _, _, rfl, rfl, s4 _ _ upd_same, hp4, ?_, fun p5 n5 => ?_⟩
    · rw [vN_len, vN_len, ← List.length_append]
      exact hlen
    have s14 := (s1.trans s2).trans (s3.trans s4)
    refine q _ p5 (s14.trans (same_upd n5)) (none_back s14 n5) ?_
    rw [upd_same, ← vN_app]
/-- the line in which two texts differ first, 0 if they are the same -/
def fla : Nat → List Nat → List Nat → Nat
  | i, c :: r, d :: t => if c = d then fla (if c = 10 then i + 1 else i) r t else i
  | _, [], [] => 0
  | i, _, _ => i
theorem lines_ne (l : List Nat) : ∀ x ∈ Vatrkd.linesOf l, x ≠ ([], false) := by
  induction l with
  | nil => intro x hx; cases hx
  | cons c r ih =>
    intro x hx
    rw [Vatrkd.linesOf] at hx
    split at hx
    · rcases List.mem_cons.mp hx with rfl | hx
      · exact fun z => by cases z
      · exact ih x hx
    · cases e : Vatrkd.linesOf r with
      | nil =>
        rw [e] at hx
        rw [List.mem_singleton.mp hx]
        exact fun z => by cases z
      | cons y ls =>
        rw [e] at hx
        rcases List.mem_cons.mp hx with rfl | hx
        · exact fun z => by cases z
        · exact ih x (by rw [e]; exact List.mem_cons_of_mem _ hx)
theorem lines_nil {l : List Nat} (h : Vatrkd.linesOf l = []) : l = [] := by
  cases l with
  | nil => rfl
  | cons c r =>
    rw [Vatrkd.linesOf] at h
    split at h
    · cases h
    · cases e : Vatrkd.linesOf r with
      | nil => rw [e] at h; cases h
      | cons y ls => rw [e] at h; cases h
theorem differ_cons {c : Nat} (hc : c ≠ 10) (r t : List Nat) (i : Nat) (hne : r ≠ t) : Vatrkd.firstDiffer i (Vatrkd.linesOf (c :: r)) (Vatrkd.linesOf (c :: t)) = Vatrkd.firstDiffer i (Vatrkd.linesOf r) (Vatrkd.linesOf t) := by
  rw [Vatrkd.linesOf, if_neg hc]
  rw [Vatrkd.linesOf, if_neg hc]
  cases e1 : Vatrkd.linesOf r with
  | nil =>
    cases e2 : Vatrkd.linesOf t with
    | nil => exact absurd ((lines_nil e1).trans (lines_nil e2).symm) hne
    | cons y ls =>
      have hy := lines_ne t y (by rw [e2]; exact List.mem_cons_self)
      show (if ([c], false) = (c :: y.1, y.2) then _ else i) = i
      rw [if_neg]
      intro z
      obtain ⟨z1, z2⟩ := Prod.mk.inj z
      exact hy (Prod.ext (List.cons.inj z1).2.symm z2.symm)
  | cons x ks =>
    cases e2 : Vatrkd.linesOf t with
    | nil =>
      have hx := lines_ne r x (by rw [e1]; exact List.mem_cons_self)
      show (if (c :: x.1, x.2) = ([c], false) then _ else i) = i
      rw [if_neg]
      intro z
      obtain ⟨z1, z2⟩ := Prod.mk.inj z
      exact hx (Prod.ext (List.cons.inj z1).2 z2)
    | cons y ls =>
      show (if (c :: x.1, x.2) = (c :: y.1, y.2) then _ else i) = (if x = y then _ else i)
      by_cases h : x = y
      · subst h
        rw [if_pos rfl, if_pos rfl]
      · rw [if_neg h, if_neg]
        intro z
        obtain ⟨z1, z2⟩ := Prod.mk.inj z
        exact h (Prod.ext (List.cons.inj z1).2 z2)
theorem fla_same : ∀ (l : List Nat) (i : Nat), fla i l l = 0
  | [], _ => rfl
  | c :: r, i => by
    rw [fla, if_pos rfl]
    exact fla_same r _
theorem fla_is : ∀ (l t : List Nat) (i : Nat), l ≠ t → fla i l t = Vatrkd.firstDiffer i (Vatrkd.linesOf l) (Vatrkd.linesOf t)
  | [], [], _, h => absurd rfl h
  | [], d :: t, i, _ => by
    show i = Vatrkd.firstDiffer i [] _
    cases Vatrkd.linesOf (d :: t) <;> rfl
  | c :: r, [], i, _ => by
    show i = Vatrkd.firstDiffer i _ []
    cases Vatrkd.linesOf (c :: r) <;> rfl
  | c :: r, d :: t, i, h => by
    rw [fla]
    by_cases hcd : c = d
    · subst hcd
      have hne : r ≠ t := fun z => h (by rw [z])
      rw [if_pos rfl, fla_is r t _ hne]
      by_cases hc : c = 10
      · subst hc
        rw [if_pos rfl, Vatrkd.linesOf, if_pos rfl]
        rw [Vatrkd.linesOf, if_pos rfl]
        show _ = (if (([] : List Nat), true) = ([], true) then _ else i)
        rw [if_pos rfl]
      · rw [if_neg hc, differ_cons hc r t i hne]
    · rw [if_neg hcd]
      -- the first lines differ
      have key : ∀ x ks y ls, Vatrkd.linesOf (c :: r) = x :: ks → Vatrkd.linesOf (d :: t) = y :: ls → x ≠ y := by
        intro x ks y ls e1 e2 z
        subst z
        rw [Vatrkd.linesOf] at e1 e2
        by_cases h1 : c = 10
        · rw [if_pos h1] at e1
          by_cases h2 : d = 10
          · exact hcd (h1.trans h2.symm)
          · rw [if_neg h2] at e2
            have ex := (List.cons.inj e1).1
            cases e3 : Vatrkd.linesOf t with
            | nil => rw [e3] at e2; have := (List.cons.inj e2).1; rw [← ex] at this; cases this
            | cons y ls => rw [e3] at e2; have := (List.cons.inj e2).1; rw [← ex] at this; cases this
        · rw [if_neg h1] at e1
          have hx : ∃ l, x.1 = c :: l := by
            cases e3 : Vatrkd.linesOf r with
            | nil => rw [e3] at e1; exact ⟨[], by rw [← (List.cons.inj e1).1]⟩
            | cons y ls => rw [e3] at e1; exact ⟨_, by rw [← (List.cons.inj e1).1]⟩
          obtain ⟨l, hl⟩ := hx
          by_cases h2 : d = 10
          · rw [if_pos h2] at e2
            rw [← (List.cons.inj e2).1] at hl
            cases hl
          · rw [if_neg h2] at e2
            cases e3 : Vatrkd.linesOf t with
            | nil =>
              rw [e3] at e2
              rw [← (List.cons.inj e2).1] at hl
              exact hcd (List.cons.inj hl).1.symm
            | cons y ls =>
              rw [e3] at e2
              rw [← (List.cons.inj e2).1] at hl
              exact hcd (List.cons.inj hl).1.symm
      cases e1 : Vatrkd.linesOf (c :: r) with
      | nil => rfl
      | cons x ks =>
        cases e2 : Vatrkd.linesOf (d :: t) with
        | nil => rfl
        | cons y ls =>
          show i = (if x = y then _ else i)
          rw [if_neg (key x ks y ls e1 e2)]
def sp_first_line_apart (K : PySem.W.Frag) : Sp := fun vs H Q _ => ∃ (a b : Addr) (l t : List Nat), vs = [.ref a, .ref b] ∧ SqL K H a (vN l) ∧ SqL K H b (vN t) ∧ ∀ H', Same H H' → Q (.int (fla 1 l t : Nat)) H'
theorem ok_first_line_apart {k : Nat} (G : Glob mg) (D : Stands K mg "first_line_apart" s_first_line_apart) : C8.Cal P w K mg base (k + 1) "first_line_apart" (sp_first_line_apart K) [] := by
  refine cal_of D sc_first_line_apart (fun vs H Q E h => ?_) (fun _ _ _ _ _ _ us hl => match us, hl with | [_, _], _ => rfl) (fun f cdv A outer s H vs Q E hr h => ?_)
  · obtain ⟨a, b, l, t, rfl, _⟩ := h
    rfl
  · obtain ⟨a, b, l, t, rfl, ha, hb, q⟩ := h
    refine ⟨_, (pss_cons (ps_set (i := 2) sc_first_line_apart.nd rfl (Or.inl rfl) pe_int)
      (pss_cons (ps_for PassesOwn.never rfl (pi_zip (by rfl) G.b_zip (pa_cons (pv 0) (pa_cons (pv 1) pa_nil))) (pg_tup rfl (pgs_cons (pg_name (i := 3) sc_first_line_apart.nd rfl (Or.inl rfl)) (pgs_cons (pg_name (i := 4) sc_first_line_apart.nd rfl (Or.inl rfl)) pgs_nil)))
      (pss_cons (ps_if (pt_cmpR op_ne (pv 3) (pv 4) (nomark _))
      (pss_one (ps_ret (pv 2)))
      pss_nil)
      (pss_one (ps_if (pt_cmpR op_eq (pv 3) (pe_gv G.c_LINE_END) (nomark _))
      (pss_one (ps_aug (i := 2) sc_first_line_apart.nd rfl (Or.inl rfl) pe_int ip_add))
      pss_nil))))
      (pss_one (ps_ret (pe_ifExp (pt_cmpR op_eq (pe_callB call_len_seq (by rfl) G.b_len (by decide +kernel) (pa_cons (pv 0) pa_nil)) (pe_callB call_len_seq (by rfl) G.b_len (by decide +kernel) (pa_cons (pv 1) pa_nil)) (nomark _)) pe_int (pv 2)))))), ?_⟩
    refine ⟨_, rfl, _, rfl, a, b, _, _, rfl, ha, hb, for_it (walk_zip (xs := vN l) (ys := vN t) rfl) (fun i σ H1 => ∃ (n : Nat) (y1 y2 : Option V), σ = [some (.ref a), some (.ref b), some (.int (n : Int)), y1, y2] ∧ Same H H1 ∧ fla 1 l t = fla n (l.drop i) (t.drop i)) ⟨1, _, _, rfl, Same.refl _, by rw [List.drop_zero, List.drop_zero]⟩
      (fun i σ H1 _ hP => ?_) (fun i x σ H1 H2 hi hP hY => ?_) (fun σ H1 hP => ?_)⟩
    · obtain ⟨_, _, _, _, s1, _⟩ := hP
      exact ⟨s1.seq ha, s1.seq hb⟩
    · obtain ⟨n, y1, y2, rfl, s1, hf⟩ := hP
      obtain ⟨tp, v1, v2, rfl, nt, rfl, e1, e2⟩ := hY
      obtain ⟨c, hc, rfl⟩ := vN_int (l := l) (i := i) e1
      obtain ⟨d, hd, rfl⟩ := vN_int (l := t) (i := i) e2
      have s2 : Same H1 (upd H1 tp (.tup [.int (c : Int), .int (d : Int)])) := same_upd nt
      have s12 := s1.trans s2
      rw [drop_cons hc, drop_cons hd, fla] at hf
      refine ⟨tp, _, rfl, SqT.of upd_same, rfl, _, _, rfl, _, _, rfl, rfl, ?_⟩
      generalize upd H1 tp (.tup [.int (c : Int), .int (d : Int)]) = H2 at s2 s12
      refine ⟨_, rfl, _, rfl, rfl, _, rfl, ite2 (fun g => ?_) (fun g => ?_)⟩
      · have g1 : c ≠ d := fun z => by
          rw [z, decide_eq_true rfl] at g
          cases g
        rw [if_neg g1] at hf
        rw [hf] at q
        exact ⟨_, rfl, q _ s12⟩
      · have g1 : c = d := by
          by_cases z : c = d
          · exact z
          · refine absurd ?_ g
            rw [decide_eq_false fun y => z (by have := V.int.inj y; omega)]
            rfl
        rw [if_pos g1] at hf
        refine ⟨_, rfl, rfl, _, rfl, ite2 (fun g2 => ?_) (fun g2 => ?_)⟩
        · have g3 : c = 10 := by have := eq_dec g2; omega
          rw [if_pos g3] at hf
          refine ⟨_, rfl, _, _, rfl, rfl, n + 1, _, _, rfl, s12, hf⟩
        · have g3 : c ≠ 10 := by have := ne_dec g2; omega
          rw [if_neg g3] at hf
          exact ⟨n, _, _, rfl, s12, hf⟩
    · obtain ⟨n, y1, y2, rfl, s1, hf⟩ := hP
      rw [vN_len, vN_len] at hf
      refine ⟨_, rfl, a, _, rfl, .inl (s1.seq ha), _, rfl, b, _, rfl, .inl (s1.seq hb), rfl, _, rfl, ite2 (fun g => ?_) (fun g => ?_)⟩
      · have g1 : l.length = t.length := by have := eq_dec g; rw [vN_len, vN_len] at this; omega
        rw [g1, Nat.min_self, List.drop_of_length_le (Nat.le_of_eq g1), List.drop_length] at hf
        rw [hf] at q
        exact q _ s1
      · have g1 : l.length ≠ t.length := by have := ne_dec g; rw [vN_len, vN_len] at this; omega
        have : fla n (l.drop (min l.length t.length)) (t.drop (min l.length t.length)) = n := by
          by_cases h : l.length ≤ t.length
          · rw [Nat.min_eq_left h, List.drop_length]
            cases e : t.drop l.length with
            | nil =>
              have := congrArg List.length e
              rw [List.length_drop, List.length_nil] at this
              omega
            | cons d r => rfl
          · rw [Nat.min_eq_right (by omega), List.drop_length]
            cases e : l.drop t.length with
            | nil =>
              have := congrArg List.length e
              rw [List.length_drop, List.length_nil] at this
              omega
            | cons d r => rfl
        rw [this] at hf
        rw [hf] at q
        exact ⟨_, rfl, q _ s1⟩
end
end Td
set_option maxRecDepth 100000
set_option maxHeartbeats 4000000
namespace Td
open PySem PySem.Spec PyProof.Rows L2
open Vatrka (Piece Pending Change)
open Vatrkd (alike runs runForm marksOf escaped)
/-! ### a row's lines -/
theorem alike_iff {x y : Piece} : alike x y = true ↔ x.look = y.look ∧ x.ins = y.ins ∧ x.del = y.del ∧ x.pend = y.pend ∧ x.tags = y.tags := by
  unfold alike
  simp [Bool.and_eq_true]
theorem alike_refl (x : Piece) : alike x x = true := alike_iff.mpr ⟨rfl, rfl, rfl, rfl, rfl⟩
theorem alike_symm {x y : Piece} (h : alike x y = true) : alike y x = true := by
  have := alike_iff.mp h
  exact alike_iff.mpr ⟨this.1.symm, this.2.1.symm, this.2.2.1.symm, this.2.2.2.1.symm, this.2.2.2.2.symm⟩
theorem alike_trans {x y z : Piece} (h : alike x y = true) (k : alike y z = true) : alike x z = true := by
  have h := alike_iff.mp h
  have k := alike_iff.mp k
  exact alike_iff.mpr ⟨h.1.trans k.1, h.2.1.trans k.2.1, h.2.2.1.trans k.2.2.1, h.2.2.2.1.trans k.2.2.2.1, h.2.2.2.2.trans k.2.2.2.2⟩
theorem alike_marks {x y : Piece} (h : alike x y = true) : marksOf x = marksOf y := by
  have h := alike_iff.mp h
  unfold marksOf
  rw [h.1, h.2.1, h.2.2.1, h.2.2.2.1, h.2.2.2.2]
/-- no marks at all -/
def isPl (x : Piece) : Bool := alike x (plainP 10)
theorem isPl_cong {x y : Piece} (h : alike x y = true) : isPl x = isPl y := by
  unfold isPl
  rw [Bool.eq_iff_iff]
  exact ⟨fun z => alike_trans (alike_symm h) z, fun z => alike_trans h z⟩
theorem look_none : ∀ (l : List Nat) (k : Nat), Vatrkd.lookItems k l = [] ↔ ∀ v ∈ l, v = 0
  | [], k => ⟨fun _ v h => (by cases h), fun _ => rfl⟩
  | v :: r, k => by
    rw [Vatrkd.lookItems]
    by_cases h : v = 0
    · rw [if_pos h, look_none r (k + 1)]
      exact ⟨fun z u hu => (by rcases List.mem_cons.mp hu with rfl | hu; exact h; exact z u hu), fun z u hu => z u (List.mem_cons_of_mem _ hu)⟩
    · rw [if_neg h]
      exact ⟨fun z => (by cases z), fun z => absurd (z v List.mem_cons_self) h⟩
theorem words_ne (x : Piece) : ∀ w ∈ wordsOf x, w ≠ [] := by
  have hl : ∀ (l : List Nat) (k : Nat), ∀ w ∈ Vatrkd.lookItems k l, w ≠ [] := by
    intro l
    induction l with
    | nil => intro k w hw; cases hw
    | cons v r ih =>
      intro k w hw
      rw [Vatrkd.lookItems] at hw
      split at hw
      · exact ih _ w hw
      · rcases List.mem_cons.mp hw with rfl | hw
        · exact fun z => by cases z
        · exact ih _ w hw
  intro w hw
  unfold wordsOf at hw
  simp only [List.mem_append, List.mem_map] at hw
  rcases hw with hw | ⟨c, _, rfl⟩ | ⟨c, _, rfl⟩ | ⟨c, _, rfl⟩ | ⟨c, _, rfl⟩
  · exact hl _ _ w hw
  · exact fun z => by cases z
  · exact fun z => by cases z
  · exact fun z => by cases z
  · exact fun z => by cases z
theorem blanks_nil {ws : List (List Nat)} (h : ∀ w ∈ ws, w ≠ []) : Vatrkd.blanks ws = [] ↔ ws = [] := by
  match ws with
  | [] => exact ⟨fun _ => rfl, fun _ => rfl⟩
  | [x] => exact ⟨fun z => absurd z (h x List.mem_cons_self), fun z => by cases z⟩
  | x :: y :: r =>
    refine ⟨fun z => ?_, fun z => by cases z⟩
    rw [Vatrkd.blanks] at z
    · have := congrArg List.length z
      rw [List.length_append, List.length_cons, List.length_nil] at this
      omega
    · exact fun z => by cases z
theorem marks_empty {x : Piece} (hl : x.look.length = 4) : (marksOf x).isEmpty = isPl x := by
  rw [Bool.eq_iff_iff, List.isEmpty_iff, marks_words, blanks_nil (words_ne x)]
  unfold isPl wordsOf
  rw [alike_iff]
  simp only [List.append_eq_nil_iff, List.map_eq_nil_iff]
  rw [look_none]
  constructor
  · rintro ⟨h1, h2, h3, h4, h5⟩
    refine ⟨?_, h2, h3, h4, h5⟩
    show x.look = [0, 0, 0, 0]
    refine (List.eq_replicate_iff.mpr ⟨hl, h1⟩).trans rfl
  · rintro ⟨h1, h2, h3, h4, h5⟩
    refine ⟨fun v hv => ?_, h2, h3, h4, h5⟩
    rw [h1] at hv
    have : ∀ v ∈ ([0, 0, 0, 0] : List Nat), v = 0 := by decide
    exact this v hv
def chg (w x : Piece) : Bool := x.sign == 10 || !alike x w
def emit (w x : Piece) : List Nat := (if chg w x = true then (if isPl w = true then [] else [93]) ++ (if isPl x = true then [] else 91 :: (marksOf x ++ [if x.sign = 10 then 93 else 124])) else []) ++ escaped x.sign
def wnext (w x : Piece) : Piece := if chg w x = true then (if x.sign = 10 then plainP 10 else x) else w
def rowL : Piece → List Piece → List Nat
  | _, [] => []
  | w, x :: r => emit w x ++ rowL (wnext w x) r
def formL (row : List Piece) : List Nat := (runs row).flatMap runForm
/-- what is written behind an open bracket -/
def openL (w : Piece) (row : List Piece) : List Nat := match runs row with
  | (y, s) :: g => if (!(y.sign == 10) && alike w y) = true then s.flatMap escaped ++ (93 :: g.flatMap runForm) else 93 :: ((y, s) :: g).flatMap runForm
  | [] => [93]
theorem runs_head : ∀ {row : List Piece} {y : Piece} {s : List Nat} {g : List (Piece × List Nat)}, runs row = (y, s) :: g → y ∈ row
  | x :: r, y, s, g, h => by
    rw [runs] at h
    cases e : runs r with
    | nil =>
      rw [e] at h
      obtain ⟨rfl, _⟩ := Prod.mk.inj (List.cons.inj h).1
      exact List.mem_cons_self
    | cons z gs =>
      obtain ⟨z1, z2⟩ := z
      rw [e] at h
      dsimp only at h
      split at h
      · obtain ⟨rfl, _⟩ := Prod.mk.inj (List.cons.inj h).1
        exact List.mem_cons_self
      · obtain ⟨rfl, _⟩ := Prod.mk.inj (List.cons.inj h).1
        exact List.mem_cons_self
theorem runs_end {x : Piece} {r : List Piece} (h : x.sign = 10) : runs (x :: r) = (x, [x.sign]) :: runs r := by
  rw [runs]
  cases e : runs r with
  | nil => rfl
  | cons z gs =>
    obtain ⟨y, s⟩ := z
    dsimp only
    rw [if_neg]
    rw [show Vatrka.END = 10 from rfl, h]
    simp
theorem form_end {x : Piece} {r : List Piece} (hl : x.look.length = 4) (h : x.sign = 10) : formL (x :: r) = (if isPl x = true then [10] else 91 :: (marksOf x ++ [93, 10])) ++ formL r := by
  unfold formL
  rw [runs_end h, List.flatMap_cons]
  congr 1
  unfold runForm
  dsimp only
  rw [if_pos (show x.sign = Vatrka.END from h), marks_empty hl]
theorem rows_of (n : Nat) : ∀ (row : List Piece), (∀ x ∈ row, x.look.length = 4) → (row = [] ∨ ∃ i x, row = i ++ [x] ∧ x.sign = 10) →
    (∀ w, isPl w = true → rowL w row = formL row) ∧ (∀ w, isPl w = false → row ≠ [] → rowL w row = openL w row)
  | [], _, _ => ⟨fun _ _ => rfl, fun _ _ h => absurd rfl h⟩
  | x :: r, hl, he => by
    have hx := hl x List.mem_cons_self
    have he' : r = [] ∨ ∃ i y, r = i ++ [y] ∧ y.sign = 10 := by
      rcases he with he | ⟨i, y, e, h⟩
      · cases he
      · cases i with
        | nil => left; exact (List.cons.inj e).2
        | cons a i => right; exact ⟨i, y, (List.cons.inj e).2, h⟩
    obtain ⟨ih1, ih2⟩ := rows_of n r (fun y hy => hl y (List.mem_cons_of_mem _ hy)) he'
    by_cases hs : x.sign = 10
    · -- a paragraph's end
      have hc : ∀ w, chg w x = true := fun w => by unfold chg; rw [hs]; rfl
      have hwn : ∀ w, wnext w x = plainP 10 := fun w => by unfold wnext; rw [if_pos (hc w), if_pos hs]
      have hem : ∀ w, emit w x = (if isPl w = true then [] else [93]) ++ (if isPl x = true then [10] else 91 :: (marksOf x ++ [93, 10])) := fun w => by
        unfold emit
        rw [if_pos (hc w), if_pos hs, hs, show escaped 10 = [10] by decide]
        cases isPl x
        · simp
        · simp
      have hrest : rowL (plainP 10) r = formL r := ih1 _ (by decide)
      refine ⟨fun w hw => ?_, fun w hw _ => ?_⟩
      · rw [rowL, hem, hwn, hrest, hw, if_pos rfl, List.nil_append, form_end hx hs]
      · rw [rowL, hem, hwn, hrest, hw, if_neg (by decide)]
        unfold openL
        rw [runs_end hs]
        dsimp only
        rw [if_neg (show ¬ (!(x.sign == 10) && alike w x) = true by rw [hs]; simp), ← runs_end hs, show (runs (x :: r)).flatMap runForm = formL (x :: r) from rfl, form_end hx hs]
        simp
    · have hr : r ≠ [] := by
        intro z
        subst z
        rcases he with he | ⟨i, y, e, h⟩
        · cases he
        · cases i with
          | nil => exact hs (by rw [(List.cons.inj e).1]; exact h)
          | cons a i => have := congrArg List.length e; simp at this
      have hbs : (x.sign == 10) = false := beq_eq_false_iff_ne.mpr hs
      -- the runs of x :: r
      obtain ⟨y, s, g, hg⟩ : ∃ y s g, runs r = (y, s) :: g := by
        cases r with
        | nil => exact absurd rfl hr
        | cons z r' =>
          rw [runs]
          cases runs r' with
          | nil => exact ⟨_, _, _, rfl⟩
          | cons a b =>
            obtain ⟨a1, a2⟩ := a
            dsimp only
            split <;> exact ⟨_, _, _, rfl⟩
      have hyl : y.look.length = 4 := hl y (List.mem_cons_of_mem _ (runs_head hg))
      have hruns : runs (x :: r) = if (!(y.sign == 10) && alike x y) = true then (x, x.sign :: s) :: g else (x, [x.sign]) :: (y, s) :: g := by
        rw [runs, hg]
        dsimp only
        rw [show Vatrka.END = 10 from rfl, hbs]
        rfl
      have rf : ∀ sg : List Nat, runForm (x, sg) = if isPl x = true then sg.flatMap escaped else 91 :: (marksOf x ++ 124 :: (sg.flatMap escaped ++ [93])) := fun sg => by
        unfold runForm
        dsimp only
        rw [if_neg (show ¬ x.sign = Vatrka.END from hs), marks_empty hx]
      have rfy : isPl y = true → y.sign ≠ 10 → runForm (y, s) = s.flatMap escaped := fun h1 h2 => by
        unfold runForm
        dsimp only
        rw [if_neg (show ¬ y.sign = Vatrka.END from h2), marks_empty hyl, h1, if_pos rfl]
      -- x without marks
      have plainX : isPl x = true → formL (x :: r) = escaped x.sign ++ formL r := fun hp => by
        unfold formL
        rw [hruns, hg]
        by_cases ha : (!(y.sign == 10) && alike x y) = true
        · rw [if_pos ha]
          rw [Bool.and_eq_true] at ha
          have hy10 : y.sign ≠ 10 := fun z => by rw [z] at ha; exact absurd ha.1 (by decide)
          have hpy : isPl y = true := by rw [← isPl_cong ha.2]; exact hp
          rw [List.flatMap_cons, List.flatMap_cons, rf, if_pos hp, rfy hpy hy10, List.flatMap_cons]
          simp
        · rw [if_neg ha, List.flatMap_cons, rf, if_pos hp]
          simp
      -- x with marks, behind its own bracket
      have openX : isPl x = false → formL (x :: r) = 91 :: (marksOf x ++ 124 :: (escaped x.sign ++ openL x r)) := fun hp => by
        unfold formL openL
        rw [hruns, hg]
        dsimp only
        by_cases ha : (!(y.sign == 10) && alike x y) = true
        · rw [if_pos ha, if_pos ha, List.flatMap_cons, rf, hp, if_neg (by decide), List.flatMap_cons]
          simp
        · rw [if_neg ha, if_neg ha, List.flatMap_cons, rf, hp, if_neg (by decide)]
          simp
      -- one more of the same run
      have openSame : ∀ w, alike w x = true → isPl w = false → openL w (x :: r) = escaped x.sign ++ openL w r := fun w hw hp => by
        have haw : ∀ b : Bool, (b && alike w y) = (b && alike x y) := fun b => by
          have : alike w y = alike x y := by
            rw [Bool.eq_iff_iff]
            exact ⟨fun z => alike_trans (alike_symm hw) z, fun z => alike_trans hw z⟩
          rw [this]
        unfold openL
        rw [hruns, hg]
        dsimp only
        rw [haw]
        by_cases ha : (!(y.sign == 10) && alike x y) = true
        · rw [if_pos ha, if_pos ha]
          dsimp only
          rw [hbs, hw, if_pos (by rfl), List.flatMap_cons]
          simp
        · rw [if_neg ha, if_neg ha]
          dsimp only
          rw [hbs, hw, if_pos (by rfl)]
          simp
      have otherX : ∀ w, alike w x = false → openL w (x :: r) = 93 :: formL (x :: r) := fun w hw => by
        unfold openL formL
        rw [hruns]
        by_cases ha : (!(y.sign == 10) && alike x y) = true
        · rw [if_pos ha]
          dsimp only
          rw [hw, Bool.and_false, if_neg (by decide)]
        · rw [if_neg ha]
          dsimp only
          rw [hw, Bool.and_false, if_neg (by decide)]
      have aw : ∀ w, alike x w = alike w x := fun w => by
        rw [Bool.eq_iff_iff]
        exact ⟨alike_symm, alike_symm⟩
      refine ⟨fun w hw => ?_, fun w hw _ => ?_⟩
      · by_cases ha : alike x w = true
        · have hc : chg w x = false := by unfold chg; rw [hbs, ha]; rfl
          have hpx : isPl x = true := by rw [isPl_cong ha]; exact hw
          rw [rowL]
          unfold emit wnext
          rw [hc, if_neg (by decide), if_neg (by decide), List.nil_append, ih1 w hw, plainX hpx]
        · have hc : chg w x = true := by unfold chg; rw [hbs, Bool.eq_false_iff.mpr ha]; rfl
          have hpx : isPl x = false := by
            rw [Bool.eq_false_iff]
            intro z
            exact ha (alike_trans z (alike_symm hw))
          rw [rowL]
          unfold emit wnext
          rw [hc, if_pos rfl, if_pos rfl, hw, if_pos rfl, hpx, if_neg (by decide), if_neg hs, if_neg hs, ih2 x hpx hr, openX hpx]
          simp
      · by_cases ha : alike x w = true
        · have hc : chg w x = false := by unfold chg; rw [hbs, ha]; rfl
          rw [rowL]
          unfold emit wnext
          rw [hc, if_neg (by decide), if_neg (by decide), List.nil_append, ih2 w hw hr, openSame w (by rw [← aw]; exact ha) hw]
        · have hc : chg w x = true := by unfold chg; rw [hbs, Bool.eq_false_iff.mpr ha]; rfl
          rw [rowL, otherX w (by rw [← aw]; exact Bool.eq_false_iff.mpr ha)]
          unfold emit wnext
          rw [hc, if_pos rfl, if_pos rfl, hw, if_neg (by decide), if_neg hs, if_neg hs]
          cases hpx : isPl x with
          | true =>
            rw [if_pos rfl, ih1 x hpx, plainX hpx]
            simp
          | false =>
            rw [if_neg (by decide), ih2 x hpx hr, openX hpx]
            simp
end Td
set_option maxRecDepth 100000
set_option maxHeartbeats 4000000
namespace Td
open PySem PySem.Spec PyProof.Rows L2
open Vatrka (Piece Pending Change)
open Vatrkd (alike runs runForm marksOf escaped)
theorem pendD_inj {a b : Pending} : pendD a = pendD b ↔ a = b := by
  refine ⟨fun h => ?_, fun h => by rw [h]⟩
  unfold pendD at h
  have h1 := PyData.tuple.inj h
  injection h1 with h2 h3
  injection h3 with h4 h5
  injection h5 with h6 _
  have a1 := PyData.int.inj h2
  have a2 := PyData.int.inj h4
  have a3 := PyData.int.inj h6
  obtain ⟨x, y, z⟩ := a
  obtain ⟨x', y', z'⟩ := b
  simp only [Pending.mk.injEq]
  dsimp only at a1 a2 a3
  omega
theorem pends_inj : ∀ {a b : List Pending}, a.map pendD = b.map pendD ↔ a = b := by
  intro a b
  exact List.map_inj_right fun x y h => pendD_inj.mp h
theorem dress_inj {x y : Piece} : dressD x = dressD y ↔ alike x y = true := by
  rw [alike_iff]
  unfold dressD
  constructor
  · intro h
    have h1 := PyData.tuple.inj h
    injection h1 with a1 h1
    injection h1 with a2 h1
    injection h1 with a3 h1
    injection h1 with a4 h1
    injection h1 with a5 h1
    exact ⟨dN_inj.mp (PyData.tuple.inj a1), dN_inj.mp (PyData.tuple.inj a2), dN_inj.mp (PyData.tuple.inj a3), pends_inj.mp (PyData.tuple.inj a4), dN_inj.mp (PyData.tuple.inj a5)⟩
  · rintro ⟨h1, h2, h3, h4, h5⟩
    rw [h1, h2, h3, h4, h5]
theorem pend_flat (y : Pending) : flatD 1 (pendD y) := flatD_tup fun d hd => by
  simp only [List.mem_cons, List.not_mem_nil, or_false] at hd
  rcases hd with rfl | rfl | rfl <;> exact flatD_int _ _
theorem dress_flat (x : Piece) : flatD 3 (dressD x) := flatD_tup fun d hd => by
  simp only [List.mem_cons, List.not_mem_nil, or_false] at hd
  rcases hd with rfl | rfl | rfl | rfl | rfl
  · exact (flatD_tup (dN_flat _)).mono (by decide)
  · exact (flatD_tup (dN_flat _)).mono (by decide)
  · exact (flatD_tup (dN_flat _)).mono (by decide)
  · refine flatD_tup fun d hd => ?_
    obtain ⟨y, _, rfl⟩ := List.mem_map.mp hd
    exact pend_flat y
  · exact (flatD_tup (dN_flat _)).mono (by decide)
theorem dress_shaped (x : Piece) : SeqAt.shaped (dressD x) = true := (dress_flat x).shaped (by decide)
theorem dress_eqv (x y : Piece) : PyData.eqv (dressD x) (dressD y) = alike x y := by
  rw [Bool.eq_iff_iff, (dress_flat x).eq (dress_flat y)]
  exact dress_inj
theorem rowL_drop {row : List Piece} {i : Nat} {x w : Piece} (h : row[i]? = some x) : rowL w (row.drop i) = emit w x ++ rowL (wnext w x) (row.drop (i + 1)) := by
  have hi := List.getElem?_eq_some_iff.mp h
  rw [List.drop_eq_getElem_cons hi.1, hi.2, rowL]
theorem rowL_alike : ∀ (r : List Piece) {x w : Piece}, alike x w = true → rowL x r = rowL w r
  | [], _, _, _ => rfl
  | y :: r, x, w, h => by
    have hc : chg x y = chg w y := by
      unfold chg
      congr 2
      rw [Bool.eq_iff_iff]
      exact ⟨fun z => alike_trans z h, fun z => alike_trans z (alike_symm h)⟩
    have hp := isPl_cong h
    rw [rowL, rowL]
    have he : emit x y = emit w y := by unfold emit; rw [hc, hp]
    rw [he]
    congr 1
    unfold wnext
    rw [hc]
    split
    · rfl
    · exact rowL_alike r h
abbrev s_row_lines : Stmt := top 118
abbrev n_row_lines : List Str := ["row", "lines", "plain", "worn", "sign", "dress", "is_end"]
abbrev p_row_lines : List Str := ["row"]
theorem sc_row_lines : FnScope n_row_lines p_row_lines (defScope s_row_lines) := ⟨rfl, rfl, rfl, by decide +kernel, rfl, by decide +kernel, by decide +kernel⟩
abbrev s_one_form : Stmt := top 116
abbrev n_one_form : List Str := ["document", "form", "number", "change"]
abbrev p_one_form : List Str := ["document"]
theorem sc_one_form : FnScope n_one_form p_one_form (defScope s_one_form) := ⟨rfl, rfl, rfl, by decide +kernel, rfl, by decide +kernel, by decide +kernel⟩
section
variable {P : Program} {w : World} {K : PySem.W.Frag} {mg : Str → Option Value} {base : Heap}
def sp_row_lines (K : PySem.W.Frag) : Sp := fun vs H Q _ => ∃ (a : Addr) (row : List Piece) (n : Nat), vs = [.ref a] ∧ RowAt K H a row ∧ (∀ x ∈ row, PcOk n x) ∧ n < 10 ^ 18 ∧ (rowL (plainP 10) row).length + 1 ≤ sizeLine ∧
  ∀ H' p, Same H H' → H p = none → H' p = some (.lst (vN (rowL (plainP 10) row))) → Q (.ref p) H'
theorem ok_row_lines {k : Nat} (G : Glob mg) (c_plain_dress : C8.Cal P w K mg base 1 "plain_dress" (sp_plain_dress K) []) (c_numbers_of : C8.Cal P w K mg base 1 "numbers_of" sp_numbers_of []) (c_written_marks : C8.Cal P w K mg base 1 "written_marks" (sp_written_marks K) [])
    (D : Stands K mg "row_lines" s_row_lines) : C8.Cal P w K mg base (k + 2) "row_lines" (sp_row_lines K) [] := by
  refine cal_of D sc_row_lines (fun vs H Q E h => ?_) (fun _ _ _ _ _ _ us hl => match us, hl with | [_], _ => rfl) (fun f cdv A outer s H vs Q E hr h => ?_)
  · obtain ⟨a, row, n, rfl, _⟩ := h
    rfl
  · obtain ⟨a, row, n, rfl, ⟨bs, r1, r2⟩, hok, hn, hlen, q⟩ := h
    refine ⟨_, (pss_cons (ps_set (i := 1) sc_row_lines.nd rfl (Or.inl rfl) (pe_lst pa_nil))
      (pss_cons (ps_set (i := 2) sc_row_lines.nd rfl (Or.inl rfl) (pe_c0 c_plain_dress hr (by omega) (by rfl)))
      (pss_cons (ps_set (i := 3) sc_row_lines.nd rfl (Or.inl rfl) (pv 2))
      (pss_cons (ps_for PassesOwn.never rfl (pi_list (pv 0)) (pg_tup rfl (pgs_cons (pg_name (i := 4) sc_row_lines.nd rfl (Or.inl rfl)) (pgs_cons (pg_name (i := 5) sc_row_lines.nd rfl (Or.inl rfl)) pgs_nil)))
      (pss_cons (ps_set (i := 6) sc_row_lines.nd rfl (Or.inl rfl) (pe_cmpR op_eq (pv 4) (pe_gv G.c_LINE_END) (nomark _)))
      (pss_cons (ps_if (PW.pt (pw_or (pt_val (pv 6)) (pw_or1 (pt_cmpR (op_neD hr.units) (pv 5) (pv 3) (nomark _)))))
      (pss_cons (ps_if (pt_cmpR (op_neD hr.units) (pv 3) (pv 2) (nomark _))
      (pss_one (ps_expr (pe_bm PySem.F.plainAttrs_list PySem.F.slot_list_append PySem.F.type_list_append mt_append (pv 1) (pa_cons (pe_gv G.c_RIGHT) pa_nil))))
      pss_nil)
      (pss_one (ps_if (pt_cmpR (op_neD hr.units) (pv 5) (pv 2) (nomark _))
      (pss_one (ps_expr (pe_bm PySem.F.plainAttrs_list PySem.F.slot_list_extend PySem.F.type_list_extend mt_extend (pv 1) (pa_cons (pe_op op_cat (pe_op op_cat (pe_lst (pa_cons (pe_gv G.c_LEFT) pa_nil)) (C8.pe_c c_numbers_of hr (by omega) (by rfl) (pa_cons (C8.pe_c c_written_marks hr (by omega) (by rfl) (pa_cons (pv 5) pa_nil)) pa_nil))) (pe_lst (pa_cons (pe_ifExp (pt_val (pv 6)) (pe_gv G.c_RIGHT) (pe_gv G.c_BAR)) pa_nil))) pa_nil))))
      pss_nil)))
      pss_nil)
      (pss_cons (ps_set (i := 3) sc_row_lines.nd rfl (Or.inl rfl) (pe_ifExp (pt_val (pv 6)) (pv 2) (pv 5)))
      (pss_cons (ps_if (pt_cmpR op_in_seq (pv 4) (pe_tup (pa_cons (pe_gv G.c_LEFT) (pa_cons (pe_gv G.c_RIGHT) (pa_cons (pe_gv G.c_BACKSLASH) pa_nil)))) rfl)
      (pss_one (ps_expr (pe_bm PySem.F.plainAttrs_list PySem.F.slot_list_append PySem.F.type_list_append mt_append (pv 1) (pa_cons (pe_gv G.c_BACKSLASH) pa_nil))))
      pss_nil)
      (pss_one (ps_expr (pe_bm PySem.F.plainAttrs_list PySem.F.slot_list_append PySem.F.type_list_append mt_append (pv 1) (pa_cons (pv 4) pa_nil)))))))))
      (pss_one (ps_ret (pv 1))))))), ?_⟩
    refine ⟨Nat.zero_le _, fun p np => ⟨rfl, fun H1 pl s1 hpl => ⟨_, rfl, ?_⟩⟩⟩
    have s0 : Same H (upd H p (.lst [])) := same_upd np
    have s01 := s0.trans s1
    have hbl : bs.length = row.length := Paired.length r2
    refine ⟨_, rfl, a, rfl, ⟨_, SqL.of (s01 _ _ r1)⟩, for_list (xs := bs.map V.ref) (fun i σ H2 => ∃ (wa : Addr) (wp : Piece) (done : List Nat) (y1 y2 y3 : Option V), σ = [some (.ref a), some (.ref p), some (.ref pl), some (.ref wa), y1, y2, y3] ∧ Same H H2 ∧ Dp K H2 (.ref pl) (dressD (plainP 10)) ∧ Dp K H2 (.ref wa) (dressD wp) ∧ H2 p = some (.lst (vN done)) ∧ rowL (plainP 10) row = done ++ rowL wp (row.drop i))
      ⟨pl, plainP 10, [], _, _, _, rfl, s01, hpl, hpl, s1 _ _ upd_same, by rw [List.drop_zero]; rfl⟩ (fun i σ H2 _ hP => ?_) (fun i v σ H2 hx hP => ?_) (fun σ H2 hP => ?_)⟩
    · obtain ⟨_, _, _, _, _, _, _, s2, _⟩ := hP
      exact SqL.of (s2 _ _ r1)
    · obtain ⟨wa, wp, done, y1, y2, y3, rfl, s2, hp2, hw2, hd2, hrow⟩ := hP
      rw [List.getElem?_map] at hx
      obtain ⟨xa, hxa, rfl⟩ := Option.map_eq_some_iff.mp hx
      obtain ⟨x, hxr, hxd⟩ := paired_get r2 hxa
      obtain ⟨da, x1, x2⟩ := piece_at hxd
      have hxok := hok x (List.mem_of_getElem? hxr)
      rw [rowL_drop hxr] at hrow
      refine ⟨xa, _, rfl, same_tup s2 x1, rfl, _, _, rfl, _, _, rfl, rfl, ?_⟩
      refine ⟨_, rfl, rfl, ?_⟩
      have eend : decide (V.int ((x.sign : Nat) : Int) = V.int 10) = (x.sign == 10) := by
        rw [Bool.eq_iff_iff, decide_eq_true_eq, beq_iff_eq]
        exact ⟨fun z => by have := V.int.inj z; omega, fun z => by rw [z]; rfl⟩
      rw [eend]
      have hx2 := dp_same s2 _ _ x2
      -- the sign itself
      have tail : ∀ (wa' : Addr) (wp' : Piece) (done' : List Nat) (H3 : Hp), Same H H3 → Dp K H3 (.ref pl) (dressD (plainP 10)) → Dp K H3 (.ref wa') (dressD wp') → H3 p = some (.lst (vN done')) → rowL (plainP 10) row = done' ++ (escaped x.sign ++ rowL wp' (row.drop (i + 1))) → ∀ Dn : Ends,
          (Dn.nx = fun σ H2 => ∃ (wa : Addr) (wp : Piece) (done : List Nat) (y1 y2 y3 : Option V), σ = [some (.ref a), some (.ref p), some (.ref pl), some (.ref wa), y1, y2, y3] ∧ Same H H2 ∧ Dp K H2 (.ref pl) (dressD (plainP 10)) ∧ Dp K H2 (.ref wa) (dressD wp) ∧ H2 p = some (.lst (vN done)) ∧ rowL (plainP 10) row = done ++ rowL wp (row.drop (i + 1))) →
          tSeq (tIfS (tTest (tOp (rIn K false) (tVar 4) (tTup (tCons (tC (.int 91)) (tCons (tC (.int 93)) (tCons (tC (.int 92)) tNil)))))) (tDrop (tBM K "list" rAppend (tVar 1) (tCons (tC (.int 92)) tNil))) tNext) (tDrop (tBM K "list" rAppend (tVar 1) (tCons (tVar 4) tNil))) Dn
            [some (.ref a), some (.ref p), some (.ref pl), some (.ref wa'), some (.int ((x.sign : Nat) : Int)), some (.ref da), some (.bl (x.sign == 10))] H3 := by
        intro wa' wp' done' H3 t1 t2 t3 t4 t5 Dn hDn
        have hl1 : done'.length + (escaped x.sign).length + 1 ≤ sizeLine := by
          rw [t5, List.length_append, List.length_append] at hlen
          omega
        -- the last of it
        have last : ∀ (done2 : List Nat) (H4 : Hp), Same H H4 → Dp K H4 (.ref pl) (dressD (plainP 10)) → Dp K H4 (.ref wa') (dressD wp') → H4 p = some (.lst (vN done2)) → done2.length < sizeLine → rowL (plainP 10) row = done2 ++ (x.sign :: rowL wp' (row.drop (i + 1))) →
            tDrop (tBM K "list" rAppend (tVar 1) (tCons (tVar 4) tNil)) Dn [some (.ref a), some (.ref p), some (.ref pl), some (.ref wa'), some (.int ((x.sign : Nat) : Int)), some (.ref da), some (.bl (x.sign == 10))] H4 := by
          intro done2 H4 u1 u2 u3 u4 u5 u6
          refine ⟨_, rfl, .inl ⟨rfl, _, SqL.of u4⟩, _, rfl, p, _, _, rfl, rfl, u4, by rw [vN_len]; exact u5, ?_⟩
          show Dn.nx _ _
          rw [hDn]
          have kt : KeepT K H4 (upd H4 p (.lst (vN done2 ++ [.int ((x.sign : Nat) : Int)]))) := keepT_upd u4 (fun _ z => by cases z) (fun _ _ z => by cases z)
          refine ⟨wa', wp', done2 ++ [x.sign], _, _, _, rfl, same_write np u1, dp_keep kt _ _ (tupD_dress _) u2, dp_keep kt _ _ (tupD_dress _) u3, ?_, ?_⟩
          · rw [upd_same, vN_app]
            rfl
          · rw [u6, List.append_assoc]
            rfl
        refine ⟨_, rfl, (by show 3 ≤ sizeLine; decide), fun tp ntp => ⟨tp, _, rfl, .inr (SqT.of upd_same), rfl, rfl, _, rfl, ?_⟩⟩
        have st : Same H3 (upd H3 tp (.tup [.int 91, .int 93, .int 92])) := same_upd ntp
        show if inV (.int ((x.sign : Nat) : Int)) [.int 91, .int 93, .int 92] = true then _ else _
        rw [in3]
        refine ite2 (fun g => ?_) (fun g => ?_)
        · have g1 := of_decide_eq_true g
          have hesc : escaped x.sign = [92, x.sign] := by
            unfold escaped
            rw [if_pos (by omega)]
          rw [hesc] at t5 hl1
          have t4' := st _ _ t4
          refine ⟨_, rfl, .inl ⟨rfl, _, SqL.of t4'⟩, p, _, _, rfl, rfl, t4', by rw [vN_len]; omega, ?_⟩
          have kt : KeepT K H3 (upd (upd H3 tp (.tup [.int 91, .int 93, .int 92])) p (.lst (vN done' ++ [.int 92]))) := KeepT.trans (Same.keepT st) (keepT_upd t4' (fun _ z => by cases z) (fun _ _ z => by cases z))
          refine last (done' ++ [92]) _ (same_write np (t1.trans st)) (dp_keep kt _ _ (tupD_dress _) t2) (dp_keep kt _ _ (tupD_dress _) t3) ?_ ?_ ?_
          · rw [upd_same, vN_app]
            rfl
          · rw [List.length_append]
            show done'.length + 1 < _
            have : ([92, x.sign] : List Nat).length = 2 := rfl
            omega
          · rw [t5]
            simp
        · have g1 : ¬ (((x.sign : Nat) : Int) = 91 ∨ ((x.sign : Nat) : Int) = 93 ∨ ((x.sign : Nat) : Int) = 92) := fun z => g (decide_eq_true z)
          have hesc : escaped x.sign = [x.sign] := by
            unfold escaped
            rw [if_neg (by omega)]
          rw [hesc] at t5 hl1
          exact last done' _ (t1.trans st) (dp_same st _ _ t2) (dp_same st _ _ t3) (st _ _ t4) (by have : ([x.sign] : List Nat).length = 1 := rfl; omega) t5
      -- worn = plain if is_end else dress
      have wornS : ∀ (done' : List Nat) (H3 : Hp), Same H H3 → Dp K H3 (.ref pl) (dressD (plainP 10)) → Dp K H3 (.ref da) (dressD x) → H3 p = some (.lst (vN done')) → rowL (plainP 10) row = done' ++ (escaped x.sign ++ rowL (if x.sign = 10 then plainP 10 else x) (row.drop (i + 1))) → ∀ Dn : Ends,
          (Dn.nx = fun σ H2 => ∃ (wa : Addr) (wp : Piece) (done : List Nat) (y1 y2 y3 : Option V), σ = [some (.ref a), some (.ref p), some (.ref pl), some (.ref wa), y1, y2, y3] ∧ Same H H2 ∧ Dp K H2 (.ref pl) (dressD (plainP 10)) ∧ Dp K H2 (.ref wa) (dressD wp) ∧ H2 p = some (.lst (vN done)) ∧ rowL (plainP 10) row = done ++ rowL wp (row.drop (i + 1))) →
          tSeq (tAsg (tIf (tB (tVar 6)) (tVar 2) (tVar 5)) (gName 3)) (tSeq (tIfS (tTest (tOp (rIn K false) (tVar 4) (tTup (tCons (tC (.int 91)) (tCons (tC (.int 93)) (tCons (tC (.int 92)) tNil)))))) (tDrop (tBM K "list" rAppend (tVar 1) (tCons (tC (.int 92)) tNil))) tNext) (tDrop (tBM K "list" rAppend (tVar 1) (tCons (tVar 4) tNil)))) Dn
            [some (.ref a), some (.ref p), some (.ref pl), some (.ref wa), some (.int ((x.sign : Nat) : Int)), some (.ref da), some (.bl (x.sign == 10))] H3 := by
        intro done' H3 u1 u2 u3 u4 u5 Dn hDn
        refine ⟨_, rfl, _, rfl, ite2 (fun g => ?_) (fun g => ?_)⟩
        · rw [if_pos (beq_iff_eq.mp g)] at u5
          exact ⟨_, rfl, tail pl (plainP 10) done' H3 u1 u2 u2 u4 u5 _ hDn⟩
        · rw [if_neg fun z => g (beq_iff_eq.mpr z)] at u5
          exact ⟨_, rfl, tail da x done' H3 u1 u2 u3 u4 u5 _ hDn⟩
      -- a change of dress
      have body : chg wp x = true → ∀ Dn : Ends, (∀ (done' : List Nat) (H3 : Hp), Same H H3 → Dp K H3 (.ref pl) (dressD (plainP 10)) → Dp K H3 (.ref da) (dressD x) → H3 p = some (.lst (vN done')) → rowL (plainP 10) row = done' ++ (escaped x.sign ++ rowL (if x.sign = 10 then plainP 10 else x) (row.drop (i + 1))) →
            Dn.nx [some (.ref a), some (.ref p), some (.ref pl), some (.ref wa), some (.int ((x.sign : Nat) : Int)), some (.ref da), some (.bl (x.sign == 10))] H3) →
          tSeq (tIfS (tTest (tOp (rNeD K) (tVar 3) (tVar 2))) (tDrop (tBM K "list" rAppend (tVar 1) (tCons (tC (.int 93)) tNil))) tNext)
            (tIfS (tTest (tOp (rNeD K) (tVar 5) (tVar 2))) (tDrop (tBM K "list" rExtend (tVar 1) (tCons (tOp rCat (tOp rCat (tLst (tCons (tC (.int 91)) tNil)) (tCall sp_numbers_of [] C8.E0 (tCons (tCall (sp_written_marks K) [] C8.E0 (tCons (tVar 5) tNil)) tNil))) (tLst (tCons (tIf (tB (tVar 6)) (tC (.int 93)) (tC (.int 124))) tNil))) tNil))) tNext) Dn
            [some (.ref a), some (.ref p), some (.ref pl), some (.ref wa), some (.int ((x.sign : Nat) : Int)), some (.ref da), some (.bl (x.sign == 10))] H2 := by
        intro hch Dn hDn
        have hem : emit wp x = ((if isPl wp = true then [] else [93]) ++ (if isPl x = true then [] else 91 :: (marksOf x ++ [if x.sign = 10 then 93 else 124]))) ++ escaped x.sign := by
          unfold emit
          rw [if_pos hch]
        have hwn : wnext wp x = if x.sign = 10 then plainP 10 else x := by
          unfold wnext
          rw [if_pos hch]
        rw [hem, hwn, List.append_assoc, List.append_assoc] at hrow
        -- the marks
        have marks : ∀ (done' : List Nat) (H3 : Hp), Same H H3 → Dp K H3 (.ref pl) (dressD (plainP 10)) → Dp K H3 (.ref da) (dressD x) → H3 p = some (.lst (vN done')) → rowL (plainP 10) row = done' ++ ((if isPl x = true then [] else 91 :: (marksOf x ++ [if x.sign = 10 then 93 else 124])) ++ (escaped x.sign ++ rowL (if x.sign = 10 then plainP 10 else x) (row.drop (i + 1)))) →
            tIfS (tTest (tOp (rNeD K) (tVar 5) (tVar 2))) (tDrop (tBM K "list" rExtend (tVar 1) (tCons (tOp rCat (tOp rCat (tLst (tCons (tC (.int 91)) tNil)) (tCall sp_numbers_of [] C8.E0 (tCons (tCall (sp_written_marks K) [] C8.E0 (tCons (tVar 5) tNil)) tNil))) (tLst (tCons (tIf (tB (tVar 6)) (tC (.int 93)) (tC (.int 124))) tNil))) tNil))) tNext Dn [some (.ref a), some (.ref p), some (.ref pl), some (.ref wa), some (.int ((x.sign : Nat) : Int)), some (.ref da), some (.bl (x.sign == 10))] H3 := by
          intro done' H3 u1 u2 u3 u4 u5
          refine ⟨_, rfl, _, rfl, dressD x, dressD (plainP 10), u3, u2, dress_shaped _, dress_shaped _, _, rfl, ?_⟩
          rw [dress_eqv]
          cases hpx : alike x (plainP 10) with
          | true =>
            rw [show isPl x = true from hpx, if_pos rfl, List.nil_append] at u5
            exact hDn done' H3 u1 u2 u3 u4 u5
          | false =>
            rw [show isPl x = false from hpx, if_neg (by decide)] at u5
            have hl2 : done'.length + ((marksOf x).length + 2) + 1 ≤ sizeLine := by
              rw [u5] at hlen
              simp only [List.length_append, List.length_cons, List.length_nil] at hlen
              omega
            refine ⟨_, rfl, .inl ⟨rfl, _, SqL.of u4⟩, (by show 1 ≤ sizeLine; decide), fun t1 n1 => ?_⟩
            have m1 := same_upd (o := .lst [.int 91]) n1
            refine ⟨_, rfl, da, x, n, rfl, dp_same m1 _ _ u3, hxok, hn, by omega, fun H4 m2 => ⟨_, rfl, by rw [codes_mk]; omega, fun H5 t2 m3 n3 ht2 => ?_⟩⟩
            rw [codes_mk] at ht2
            have m23 := m2.trans m3
            refine ⟨t1, t2, _, _, rfl, rfl, m23 _ _ upd_same, ht2, by rw [vN_len]; show 1 + _ ≤ _; omega, fun t3 n4 => ?_⟩
            have m4 := same_upd (o := .lst ([.int 91] ++ vN (marksOf x))) n4
            have ht3 : (upd H5 t3 (.lst ([.int 91] ++ vN (marksOf x)))) t3 = some (.lst ([.int 91] ++ vN (marksOf x))) := upd_same
            have mA := (m1.trans m23).trans m4
            generalize upd H5 t3 (.lst ([.int 91] ++ vN (marksOf x))) = H6 at m4 ht3 mA
            have fin : ∀ z : Nat, (z = if x.sign = 10 then 93 else 124) → ∀ t4, H6 t4 = none → rCat (.ref t3) (.ref t4) (upd H6 t4 (.lst [.int (z : Int)])) fun v H7 => rExtend (.ref p) [v] H7 fun _ H8 => Dn.nx [some (.ref a), some (.ref p), some (.ref pl), some (.ref wa), some (.int ((x.sign : Nat) : Int)), some (.ref da), some (.bl (x.sign == 10))] H8 := by
              intro z hz t4 n5
              have m5 := same_upd (o := .lst [.int (z : Int)]) n5
              refine ⟨t3, t4, _, _, rfl, rfl, m5 _ _ ht3, upd_same, ?_, fun t5 n6 => ?_⟩
              · rw [List.length_append, vN_len]
                show 1 + _ + 1 ≤ _
                omega
              have m6 := same_upd (o := .lst ([.int 91] ++ vN (marksOf x) ++ [.int (z : Int)])) n6
              have mB := mA.trans (m5.trans m6)
              have hp8 := mB _ _ u4
              refine ⟨p, t5, _, _, rfl, rfl, hp8, upd_same, ?_, ?_⟩
              · rw [vN_len, List.length_append, List.length_append, vN_len]
                show _ + (1 + _ + 1) ≤ _
                omega
              have kt : KeepT K H3 (upd (upd (upd H6 t4 (.lst [.int (z : Int)])) t5 (.lst ([.int 91] ++ vN (marksOf x) ++ [.int (z : Int)]))) p (.lst (vN done' ++ ([.int 91] ++ vN (marksOf x) ++ [.int (z : Int)])))) := KeepT.trans (Same.keepT mB) (keepT_upd hp8 (fun _ z => by cases z) (fun _ _ z => by cases z))
              refine hDn (done' ++ 91 :: (marksOf x ++ [z])) _ (same_write np (u1.trans mB)) (dp_keep kt _ _ (tupD_dress _) u2) (dp_keep kt _ _ (tupD_dress _) u3) ?_ ?_
              · rw [upd_same, vN_app]
                unfold vN
                simp
              · rw [u5, hz, List.append_assoc]
            refine ⟨_, rfl, _, rfl, ite2 (fun g => ?_) (fun g => ?_)⟩
            · exact ⟨by show 1 ≤ sizeLine; decide, fun t4 n5 => fin 93 (by rw [if_pos (beq_iff_eq.mp g)]) t4 n5⟩
            · exact ⟨by show 1 ≤ sizeLine; decide, fun t4 n5 => fin 124 (by rw [if_neg fun z => g (beq_iff_eq.mpr z)]) t4 n5⟩
        refine ⟨_, rfl, _, rfl, dressD wp, dressD (plainP 10), hw2, hp2, dress_shaped _, dress_shaped _, _, rfl, ?_⟩
        rw [dress_eqv]
        cases hpw : alike wp (plainP 10) with
        | true =>
          rw [show isPl wp = true from hpw, if_pos rfl, List.nil_append] at hrow
          exact marks done H2 s2 hp2 hx2 hd2 hrow
        | false =>
          rw [show isPl wp = false from hpw, if_neg (by decide)] at hrow
          have hl2 : done.length + 1 + 1 ≤ sizeLine := by
            rw [hrow] at hlen
            simp only [List.length_append, List.length_cons, List.length_nil] at hlen
            omega
          refine ⟨_, rfl, .inl ⟨rfl, _, SqL.of hd2⟩, p, _, _, rfl, rfl, hd2, by rw [vN_len]; omega, ?_⟩
          have kt : KeepT K H2 (upd H2 p (.lst (vN done ++ [.int 93]))) := keepT_upd hd2 (fun _ z => by cases z) (fun _ _ z => by cases z)
          refine marks (done ++ [93]) _ (same_write np s2) (dp_keep kt _ _ (tupD_dress _) hp2) (dp_keep kt _ _ (tupD_dress _) hx2) ?_ ?_
          · rw [upd_same, vN_app]
            rfl
          · rw [hrow, List.append_assoc]
      refine ⟨_, rfl, _, rfl, ite2 (fun g => ?_) (fun g => ?_)⟩
      · have hs : x.sign = 10 := beq_iff_eq.mp g
        exact body (by unfold chg; rw [hs]; rfl) _ fun done' H3 t1 t2 t3 t4 t5 => wornS done' H3 t1 t2 t3 t4 t5 _ rfl
      · have hs : x.sign ≠ 10 := fun z => g (beq_iff_eq.mpr z)
        refine ⟨_, rfl, _, rfl, dressD x, dressD wp, hx2, hw2, dress_shaped _, dress_shaped _, _, rfl, ?_⟩
        rw [dress_eqv]
        cases hax : alike x wp with
        | false => exact body (by unfold chg; rw [hax, Bool.not_false, Bool.or_true]) _ fun done' H3 t1 t2 t3 t4 t5 => wornS done' H3 t1 t2 t3 t4 t5 _ rfl
        | true =>
          have hch : chg wp x = false := by unfold chg; rw [hax, beq_eq_false_iff_ne.mpr hs]; rfl
          refine wornS done H2 s2 hp2 hx2 hd2 ?_ _ rfl
          rw [hrow, if_neg hs, rowL_alike _ hax]
          unfold emit wnext
          rw [hch, if_neg (by decide), if_neg (by decide), List.nil_append]
    · obtain ⟨wa, wp, done, y1, y2, y3, rfl, s2, hp2, hw2, hd2, hrow⟩ := hP
      rw [List.length_map, hbl, List.drop_length] at hrow
      have : rowL (plainP 10) row = done := by rw [hrow]; show done ++ [] = done; rw [List.append_nil]
      rw [← this] at hd2
      exact ⟨_, rfl, q _ p s2 np hd2⟩
end
end Td
set_option maxRecDepth 100000
set_option maxHeartbeats 4000000
namespace Td
open PySem PySem.Spec PyProof.Rows L2
open Vatrka (Piece Pending Change)
/-- what is true of every document held -/
structure DocOk (d : Vatrkd.Doc) : Prop where
  tb : ∀ c ∈ d.table, ChOk c
  row : ∀ x ∈ d.row, PcOk d.table.length x
  last : ∃ i x, d.row = i ++ [x] ∧ x.sign = 10 ∧ x.ins = [] ∧ x.del = []
  tl : d.table.length < 1000000
  rl : d.row.length < 10000000
theorem tableForm_snoc : ∀ (tb : List Change) (k : Nat) (c : Change), Vatrkd.tableForm k (tb ++ [c]) = Vatrkd.tableForm k tb ++ Vatrkd.changeForm (k + tb.length) c
  | [], k, c => by
    show Vatrkd.changeForm k c ++ [] = [] ++ Vatrkd.changeForm (k + 0) c
    simp
  | d :: r, k, c => by
    show Vatrkd.changeForm k d ++ Vatrkd.tableForm (k + 1) (r ++ [c]) = (Vatrkd.changeForm k d ++ Vatrkd.tableForm (k + 1) r) ++ _
    rw [tableForm_snoc r (k + 1) c, List.append_assoc, List.length_cons, show k + 1 + r.length = k + (r.length + 1) by omega]
theorem tableForm_take {tb : List Change} {i : Nat} {c : Change} (h : tb[i]? = some c) : Vatrkd.tableForm 1 (tb.take (i + 1)) = Vatrkd.tableForm 1 (tb.take i) ++ Vatrkd.changeForm (i + 1) c := by
  have hi := (List.getElem?_eq_some_iff.mp h).1
  have hl : (tb.take i).length = i := by rw [List.length_take]; omega
  rw [List.take_add_one, h]
  show Vatrkd.tableForm 1 (tb.take i ++ [c]) = _
  rw [tableForm_snoc, hl, Nat.add_comm 1 i]
theorem tableForm_le (tb : List Change) (i : Nat) : (Vatrkd.tableForm 1 (tb.take i)).length ≤ (Vatrkd.tableForm 1 tb).length := by
  have key : ∀ (a b : List Change) (k : Nat), (Vatrkd.tableForm k a).length ≤ (Vatrkd.tableForm k (a ++ b)).length := by
    intro a
    induction a with
    | nil => intro b k; exact Nat.zero_le _
    | cons c r ih =>
      intro b k
      show (Vatrkd.changeForm k c ++ Vatrkd.tableForm (k + 1) r).length ≤ (Vatrkd.changeForm k c ++ Vatrkd.tableForm (k + 1) (r ++ b)).length
      rw [List.length_append, List.length_append]
      have := ih b (k + 1)
      omega
  have := key (tb.take i) (tb.drop i) 1
  rw [List.take_append_drop] at this
  exact this
theorem form_rows {d : Vatrkd.Doc} (h : DocOk d) : Vatrkd.form d = Vatrkd.word "tracked 1\n" ++ Vatrkd.tableForm 1 d.table ++ Vatrkd.word "text\n" ++ rowL (plainP 10) d.row := by
  obtain ⟨i, x, e, h10, _⟩ := h.last
  have := (rows_of 0 d.row (fun y hy => (h.row y hy).look) (.inr ⟨i, x, e, h10⟩)).1 (plainP 10) (by decide)
  unfold Vatrkd.form
  rw [this, show Vatrkd.word "tracked 1\n" = Vatrkd.word "tracked 1" ++ [10] by decide +kernel, show Vatrkd.word "text\n" = Vatrkd.word "text" ++ [10] by decide +kernel]
  unfold formL
  simp
section
variable {P : Program} {w : World} {K : PySem.W.Frag} {mg : Str → Option Value} {base : Heap} {CD : Addr}
def sp_one_form (K : PySem.W.Frag) (CD : Addr) : Sp := fun vs H Q _ => ∃ (d ta ra : Addr) (doc : Vatrkd.Doc), vs = [.ref d] ∧ DocAt K CD H d ta ra ∧ TabAt K H ta doc.table ∧ RowAt K H ra doc.row ∧ DocOk doc ∧ (Vatrkd.form doc).length + 1 ≤ sizeLine ∧
  ∀ H' p, Same H H' → H p = none → H' p = some (.lst (vN (Vatrkd.form doc))) → Q (.ref p) H'
theorem ok_one_form {k : Nat} (G : Glob mg) (TD : CT K CD fDoc) (c_numbers_of : C8.Cal P w K mg base 1 "numbers_of" sp_numbers_of []) (c_change_line : C8.Cal P w K mg base 2 "change_line" (sp_change_line K) []) (c_row_lines : C8.Cal P w K mg base 2 "row_lines" (sp_row_lines K) [])
    (D : Stands K mg "one_form" s_one_form) : C8.Cal P w K mg base (k + 3) "one_form" (sp_one_form K CD) [] := by
  refine cal_of D sc_one_form (fun vs H Q E h => ?_) (fun _ _ _ _ _ _ us hl => match us, hl with | [_], _ => rfl) (fun f cdv A outer s H vs Q E hr h => ?_)
  · obtain ⟨d, ta, ra, doc, rfl, _⟩ := h
    rfl
  · obtain ⟨d, ta, ra, doc, rfl, ⟨dd, hD⟩, hT, hR, hok, hlen, q⟩ := h
    rw [form_rows hok] at hlen q
    simp only [List.length_append] at hlen
    refine ⟨_, (pss_cons (ps_set (i := 1) sc_one_form.nd rfl (Or.inl rfl) (C8.pe_c c_numbers_of hr (by omega) (by rfl) (pa_cons pe_str pa_nil)))
      (pss_cons (ps_for PassesOwn.never rfl (pi_enumL (by rfl) G.b_enumerate (pa_cons (pe_fld (pv 0) rfl) pa_nil)) (pg_tup rfl (pgs_cons (pg_name (i := 2) sc_one_form.nd rfl (Or.inl rfl)) (pgs_cons (pg_name (i := 3) sc_one_form.nd rfl (Or.inl rfl)) pgs_nil)))
      (pss_one (ps_expr (pe_bm PySem.F.plainAttrs_list PySem.F.slot_list_extend PySem.F.type_list_extend mt_extend (pv 1) (pa_cons (C8.pe_c c_change_line hr (by omega) (by rfl) (pa_cons (pv 2) (pa_cons (pv 3) pa_nil))) pa_nil)))))
      (pss_cons (ps_expr (pe_bm PySem.F.plainAttrs_list PySem.F.slot_list_extend PySem.F.type_list_extend mt_extend (pv 1) (pa_cons (C8.pe_c c_numbers_of hr (by omega) (by rfl) (pa_cons pe_str pa_nil)) pa_nil)))
      (pss_cons (ps_expr (pe_bm PySem.F.plainAttrs_list PySem.F.slot_list_extend PySem.F.type_list_extend mt_extend (pv 1) (pa_cons (C8.pe_c c_row_lines hr (by omega) (by rfl) (pa_cons (pe_fld (pv 0) rfl) pa_nil)) pa_nil)))
      (pss_one (ps_ret (pv 1))))))), ?_⟩
    refine ⟨"tracked 1\n", rfl, by decide +kernel, fun H1 p s1 np hp => ?_⟩
    rw [show codes "tracked 1\n" = Vatrkd.word "tracked 1\n" by decide +kernel] at hp
    obtain ⟨cs, t1, t2⟩ := hT
    have hcl : cs.length = doc.table.length := Paired.length t2
    have htl := hok.tl
    refine ⟨_, rfl, d, CD, dd, _, _, rfl, s1 _ _ hD, TD.cl, TD.no _ (by simp), lkD0, ta, _, rfl, SqL.of (s1 _ _ t1), for_it (walk_C (xs := cs.map V.ref)) (fun i σ H2 => ∃ y1 y2, σ = [some (.ref d), some (.ref p), y1, y2] ∧ Same H H2 ∧ H2 p = some (.lst (vN (Vatrkd.word "tracked 1\n" ++ Vatrkd.tableForm 1 (doc.table.take i)))))
      ⟨_, _, rfl, s1, by rw [List.take_zero]; show _ = some (HO.lst (vN (_ ++ []))); rw [List.append_nil]; exact hp⟩ (fun i σ H2 _ hP => ?_) (fun i v σ H2 H3 hi hP hY => ?_) (fun σ H2 hP => ?_)⟩
    · obtain ⟨_, _, _, s2, _⟩ := hP
      exact SqL.of (s2 _ _ t1)
    · obtain ⟨y1, y2, rfl, s2, hp2⟩ := hP
      obtain ⟨tp, v1, v2, rfl, nt, rfl, e1, e2⟩ := hY
      obtain rfl := Option.some.inj e1
      have e2' : (cs.map V.ref)[i]? = some v2 := e2
      rw [List.getElem?_map] at e2'
      obtain ⟨ca, hca, rfl⟩ := Option.map_eq_some_iff.mp e2'
      obtain ⟨c, hc, hcd⟩ := paired_get t2 hca
      have hil : i < doc.table.length := (List.getElem?_eq_some_iff.mp hc).1
      have s3 : Same H2 (upd H2 tp (.tup [.int (1 + (i : Int)), .ref ca])) := same_upd nt
      have s23 := s2.trans s3
      refine ⟨tp, _, rfl, SqT.of upd_same, rfl, _, _, rfl, _, _, rfl, rfl, ?_⟩
      have hp3 := s3 _ _ hp2
      generalize upd H2 tp (.tup [.int (1 + (i : Int)), .ref ca]) = H3 at s3 s23 hp3
      have hft := tableForm_take hc
      have hle := tableForm_le doc.table (i + 1)
      rw [hft, List.length_append] at hle
      refine ⟨_, rfl, .inl ⟨rfl, _, SqL.of hp3⟩, _, rfl, _, rfl, i + 1, ca, c, ?_, dp_same s23 _ _ hcd, by omega, hok.tb c (List.mem_of_getElem? hc), by omega, fun H4 l s4 nl hl => ?_⟩
      · rw [show ((i + 1 : Nat) : Int) = 1 + (i : Int) by omega]
        rfl
      · refine ⟨p, l, _, _, rfl, rfl, s4 _ _ hp3, hl, ?_, ⟨_, _, rfl, same_write np (s23.trans s4), ?_⟩⟩
        · rw [vN_len, vN_len, List.length_append]
          omega
        · rw [upd_same, ← vN_app, hft, List.append_assoc]
    · obtain ⟨y1, y2, rfl, s2, hp2⟩ := hP
      rw [List.length_map, hcl, List.take_length] at hp2
      refine ⟨_, rfl, .inl ⟨rfl, _, SqL.of hp2⟩, "text\n", rfl, by decide +kernel, fun H3 l s3 nl hl => ?_⟩
      rw [show codes "text\n" = Vatrkd.word "text\n" by decide +kernel] at hl
      have hp3 := s3 _ _ hp2
      refine ⟨p, l, _, _, rfl, rfl, hp3, hl, by rw [vN_len, vN_len, List.length_append]; omega, ?_⟩
      rw [← vN_app]
      have s23 := s2.trans s3
      have k4 : Same H (upd H3 p (.lst (vN (Vatrkd.word "tracked 1\n" ++ Vatrkd.tableForm 1 doc.table ++ Vatrkd.word "text\n")))) := same_write np s23
      have hp4 : (upd H3 p (.lst (vN (Vatrkd.word "tracked 1\n" ++ Vatrkd.tableForm 1 doc.table ++ Vatrkd.word "text\n")))) p = some _ := upd_same
      generalize upd H3 p (.lst (vN (Vatrkd.word "tracked 1\n" ++ Vatrkd.tableForm 1 doc.table ++ Vatrkd.word "text\n"))) = H4 at k4 hp4
      refine ⟨_, rfl, .inl ⟨rfl, _, SqL.of hp4⟩, _, rfl, d, CD, dd, _, _, rfl, k4 _ _ hD, TD.cl, TD.no _ (by simp), lkD1, ra, doc.row, doc.table.length, rfl, hR.same k4, hok.row, by omega, by omega, fun H5 l2 s5 nl2 hl2 => ?_⟩
      refine ⟨p, l2, _, _, rfl, rfl, s5 _ _ hp4, hl2, by rw [vN_len, vN_len, List.length_append, List.length_append]; omega, ⟨_, rfl, q _ p (same_write np (k4.trans s5)) np ?_⟩⟩
      rw [upd_same, ← vN_app]
end
end Td
set_option maxRecDepth 100000
set_option maxHeartbeats 4000000
namespace PySem
open Sem (wp)
/-- list.extend of any tuple -/
theorem td_extend_tup (l : Addr) (items : Array Value) (n : Nat) (b : Addr) (o : Obj) (items2 : Array Value) (n2 : Nat) (hc : o.cls = .type "tuple") (hdat : o.data = .seq items2 n2) (hs0 : ¬(!items.isEmpty && Builtin.List.listTooLong (items.size + items2.size)) = true) (hs1 : items.size ≤ sizeLine) (hs2 : items.size + items2.size ≤ sizeLine + 1) :
    Meets (Builtin.«list.extend» ⟨[.ref l, .ref b], []⟩) (fun _ R s => s.heap.get? l = some { cls := .type "list", dict := none, data := .seq items n, slots := #[] } ∧ s.heap.get? b = some o ∧ R (.ok (.ret Value.none)) { s with heap := s.heap.update l (Obj.mapSeq fun x => x ++ items2), toks := s.toks }) :=
  .of_wp fun prog w A R s h => by
    obtain ⟨h1, h2, h3⟩ := h
    obtain ⟨cls, dict, data, slots⟩ := o
    dsimp only at hc hdat
    subst hc hdat
    have t1 := AutoSeq1.sub_tuple_tuple
    have t2 := AutoSeq1.sub_tuple_list
    have t3 := AutoSeq1.sub_list_tuple
    have t4 := AutoSeq1.sub_list_list
    obtain ⟨hp, gg, dd, tt, os⟩ := s
    have hfit : (items ++ items2).size ≤ sizeLine + 1 := by
      rw [Array.size_append]
      exact hs2
    wp_walk using (wpAny_updateSeq h1 rfl (hz := hs1) (_hz' := hfit)), AutoSeq1.wpAny_loadPart' h1, AutoSeq1.wpAny_loadPart' h2
    exact ⟨_, rfl, h3⟩
end PySem
namespace Td
open PySem PySem.Spec PyProof.Rows L2
section
variable {X : Cx}
def rExtendT (K : PySem.W.Frag) : V → List V → Hp → VK → Prop := fun x vs H Q => ∃ l b xs zs, x = .ref l ∧ vs = [.ref b] ∧ H l = some (.lst xs) ∧ SqT K H b zs ∧ xs.length + zs.length ≤ sizeLine ∧ Q .non (upd H l (.lst (xs ++ zs)))
theorem mt_extendT : MtM X "list.extend" (rExtendT X.K) := by
  intro pins s σ H x vs v us Q I rx rv h
  obtain ⟨l, b, xs, zs, rfl, rfl, hH, hB, hz, q⟩ := h
  cases rx
  obtain ⟨u, rfl, ru⟩ := rv.one
  cases ru
  obtain ⟨z, its, n, r, hl, e⟩ := I.lstM hH
  obtain ⟨its2, r2, ⟨o, ho, hc, n2, hd⟩, z2⟩ := I.tuple hB
  have hl2 := r2.length
  have hsz : its.toArray.size + its2.toArray.size ≤ sizeLine := by rw [List.size_toArray, List.size_toArray]; omega
  have hlong : ¬ (!its.toArray.isEmpty && Builtin.List.listTooLong (its.toArray.size + its2.toArray.size)) = true := by
    rw [notLongL hsz, Bool.and_false]
    exact Bool.false_ne_true
  refine call_meets F.slot_list_extend ⟨_, e, rfl⟩ F.entry_list_extend (F.args_list_extend_2 _ _)
    (td_extend_tup l its.toArray n b o its2.toArray n2 hc hd hlong (by rw [List.size_toArray]; omega) (by omega)) ⟨e, ho, ?_⟩
  refine ⟨.non, _, I.lset (its' := its ++ its2) hH e (by simp) (r.append r2) ?_, rfl, q⟩
  rw [List.length_append]
  omega
end
end Td
set_option maxRecDepth 100000
set_option maxHeartbeats 4000000
namespace Td
open PySem PySem.Spec PyProof.Rows L2
open Vatrka (Piece Pending Change)
open Vatrkd (renumber)
/-- the changes up to n by other numbers, as a list tells them -/
def Fresh (n : Nat) (fr : List Nat) (g : Nat → Nat) : Prop := ∀ c, c ≤ n → fr[c]? = some (g c)
theorem rn_ins (g : Nat → Nat) (x : Piece) : (renumber g x).ins = x.ins.map g := rfl
theorem rn_del (g : Nat → Nat) (x : Piece) : (renumber g x).del = x.del.map g := rfl
theorem rn_pend (g : Nat → Nat) (x : Piece) : (renumber g x).pend = x.pend.map fun y => { y with change := g y.change } := rfl
abbrev s_renumbered_dress : Stmt := top 59
abbrev n_renumbered_dress : List Str := ["dress", "fresh", "insertions", "change", "deletions", "pending", "place", "value"]
abbrev p_renumbered_dress : List Str := ["dress", "fresh"]
theorem sc_renumbered_dress : FnScope n_renumbered_dress p_renumbered_dress (defScope s_renumbered_dress) := ⟨rfl, rfl, rfl, by decide +kernel, rfl, by decide +kernel, by decide +kernel⟩
abbrev s_renumbered_row : Stmt := top 58
abbrev n_renumbered_row : List Str := ["row", "fresh", "renumbered", "worn", "dress", "sign", "old"]
abbrev p_renumbered_row : List Str := ["row", "fresh"]
theorem sc_renumbered_row : FnScope n_renumbered_row p_renumbered_row (defScope s_renumbered_row) := ⟨rfl, rfl, rfl, by decide +kernel, rfl, by decide +kernel, by decide +kernel⟩
abbrev s_joined : Stmt := top 54
abbrev n_joined : List Str := ["first", "second", "by", "fresh"]
abbrev p_joined : List Str := ["first", "second"]
theorem sc_joined : FnScope n_joined p_joined (defScope s_joined) := ⟨rfl, rfl, rfl, by decide +kernel, rfl, by decide +kernel, by decide +kernel⟩
abbrev s_paragraph_ends : Stmt := top 46
abbrev n_paragraph_ends : List Str := ["row", "at", "piece"]
abbrev p_paragraph_ends : List Str := ["row"]
theorem sc_paragraph_ends : FnScope n_paragraph_ends p_paragraph_ends (defScope s_paragraph_ends) := ⟨rfl, rfl, rfl, by decide +kernel, rfl, by decide +kernel, by decide +kernel⟩
section
variable {P : Program} {w : World} {K : PySem.W.Frag} {mg : Str → Option Value} {base : Heap} {CD : Addr}
def sp_renumbered_dress (K : PySem.W.Frag) : Sp := fun vs H Q _ => ∃ (d fa : Addr) (x : Piece) (n : Nat) (fr : List Nat) (g : Nat → Nat), vs = [.ref d, .ref fa] ∧ Dp K H (.ref d) (dressD x) ∧ PcOk n x ∧ SqL K H fa (vN fr) ∧ Fresh n fr g ∧ ∀ H' p, Same H H' → Dp K H' (.ref p) (dressD (renumber g x)) → Q (.ref p) H'
theorem ok_renumbered_dress {k : Nat} (G : Glob mg) (D : Stands K mg "renumbered_dress" s_renumbered_dress) : C8.Cal P w K mg base (k + 1) "renumbered_dress" (sp_renumbered_dress K) [] := by
  refine cal_of D sc_renumbered_dress (fun vs H Q E h => ?_) (fun _ _ _ _ _ _ us hl => match us, hl with | [_, _], _ => rfl) (fun f cdv A outer s H vs Q E hr h => ?_)
  · obtain ⟨d, fa, x, n, fr, g, rfl, _⟩ := h
    rfl
  · obtain ⟨d, fa, x, n, fr, g, rfl, hd, hok, hfa, hfr, q⟩ := h
    have hat : ∀ c, c ≤ n → atI (vN fr) (c : Int) = some (.int (g c : Nat)) := fun c hc => atI_nat (by rw [vN_get, hfr c hc]; rfl)
    obtain ⟨lk, ins, del, pe, tg, h1, h2, h3, h4, ⟨pas, h5, h5p⟩, h6⟩ := dress_at hd
    refine ⟨_, (pss_cons (ps_set (i := 2) sc_renumbered_dress.nd rfl (Or.inl rfl) (pe_callTy call_tuple_of (by rfl) G.b_tuple (by decide +kernel) (pa_cons (pe_lc (own := [("change", 3)]) (g := (gName 3)) (tt := tYes) (te := (tOp (rIxL K) (tVar 1) (tVar 3))) rfl sc_renumbered_dress.nd (pi_tup (pe_ix ix_tup (pv 0) (pe_gv G.c_INSERTIONS) (fun _ _ => rfl))) (blkOk_by (N := ["dress", "fresh", "insertions", "change", "deletions", "pending", "place", "value"]) (sc := defScope s_renumbered_dress) (by decide +kernel)) (fun _ _ _ _ _ => (pg_name (i := 3) sc_renumbered_dress.nd rfl (Or.inl rfl))) (fun _ _ _ _ _ => pts_nil) (fun _ _ _ _ _ => (pe_ix ix_list (pv 1) (pv 3) (fun _ _ => rfl)))) pa_nil)))
      (pss_cons (ps_set (i := 4) sc_renumbered_dress.nd rfl (Or.inl rfl) (pe_callTy call_tuple_of (by rfl) G.b_tuple (by decide +kernel) (pa_cons (pe_lc (own := [("change", 3)]) (g := (gName 3)) (tt := tYes) (te := (tOp (rIxL K) (tVar 1) (tVar 3))) rfl sc_renumbered_dress.nd (pi_tup (pe_ix ix_tup (pv 0) (pe_gv G.c_DELETIONS) (fun _ _ => rfl))) (blkOk_by (N := ["dress", "fresh", "insertions", "change", "deletions", "pending", "place", "value"]) (sc := defScope s_renumbered_dress) (by decide +kernel)) (fun _ _ _ _ _ => (pg_name (i := 3) sc_renumbered_dress.nd rfl (Or.inl rfl))) (fun _ _ _ _ _ => pts_nil) (fun _ _ _ _ _ => (pe_ix ix_list (pv 1) (pv 3) (fun _ _ => rfl)))) pa_nil)))
      (pss_cons (ps_set (i := 5) sc_renumbered_dress.nd rfl (Or.inl rfl) (pe_callTy call_tuple_of (by rfl) G.b_tuple (by decide +kernel) (pa_cons (pe_lc (own := [("change", 3), ("place", 6), ("value", 7)]) (g := (gTup _ 3 (gCons (gName 3) (gCons (gName 6) (gCons (gName 7) gNil))))) (tt := tYes) (te := (tTup (tCons (tOp (rIxL K) (tVar 1) (tVar 3)) (tCons (tVar 6) (tCons (tVar 7) tNil))))) rfl sc_renumbered_dress.nd (pi_tup (pe_ix ix_tup (pv 0) (pe_gv G.c_PENDING) (fun _ _ => rfl))) (blkOk_by (N := ["dress", "fresh", "insertions", "change", "deletions", "pending", "place", "value"]) (sc := defScope s_renumbered_dress) (by decide +kernel)) (fun _ _ _ _ _ => (pg_tup rfl (pgs_cons (pg_name (i := 3) sc_renumbered_dress.nd rfl (Or.inl rfl)) (pgs_cons (pg_name (i := 6) sc_renumbered_dress.nd rfl (Or.inl rfl)) (pgs_cons (pg_name (i := 7) sc_renumbered_dress.nd rfl (Or.inl rfl)) pgs_nil))))) (fun _ _ _ _ _ => pts_nil) (fun _ _ _ _ _ => (pe_tup (pa_cons (pe_ix ix_list (pv 1) (pv 3) (fun _ _ => rfl)) (pa_cons (pv 6) (pa_cons (pv 7) pa_nil)))))) pa_nil)))
      (pss_one (ps_ret (pe_tup (pa_cons (pe_ix ix_tup (pv 0) (pe_gv G.c_LOOK) (fun _ _ => rfl)) (pa_cons (pv 2) (pa_cons (pv 4) (pa_cons (pv 5) (pa_cons (pe_ix ix_tup (pv 0) (pe_gv G.c_TAGS) (fun _ _ => rfl)) pa_nil))))))))))), ?_⟩
    refine ⟨_, rfl, d, _, _, _, rfl, rfl, h1, at_of (j := 1) rfl rfl, ins, rfl, ⟨_, h3⟩, fun D1 n1 => ?_⟩
    obtain ⟨z1, z2, z3, z4⟩ := hok.sz
    have e9 : (1000000 : Nat) < sizeLine := by decide
    refine lc_it (walk_tup (xs := vN x.ins)) (fun i Hx => Same H Hx ∧ Hx D1 = some (.lst (vN ((x.ins.take i).map g)))) ⟨same_upd n1, upd_same⟩ (fun i Hx _ hP => same_tup hP.1 h3) (fun i v Hx Hy hi hP hY => ?_) (fun Hx hP => ?_)
    · obtain ⟨rfl, hx⟩ := hY
      obtain ⟨c, hc, rfl⟩ := vN_int hx
      have hil : i < x.ins.length := (List.getElem?_eq_some_iff.mp hc).1
      refine ⟨rfl, _, rfl, _, rfl, fa, _, _, _, rfl, rfl, hP.1.seq hfa, hat c (hok.ins c (List.mem_of_getElem? hc)), _, hP.2, ?_, same_write n1 hP.1, ?_⟩
      · rw [vN_len, List.length_map, List.length_take]; omega
      · rw [upd_same, List.take_add_one, hc, List.map_append, vN_app]
        rfl
    obtain ⟨s1, hD1⟩ := hP
    rw [vN_len, List.take_length, ← rn_ins] at hD1
    refine ⟨D1, _, rfl, .inl ⟨SqL.of hD1, fun ti nti => ?_⟩⟩
    have sI := s1.trans (same_upd (o := .tup (vN (renumber g x).ins)) nti)
    have hti : (upd Hx ti (.tup (vN (renumber g x).ins))) ti = some _ := upd_same
    generalize upd Hx ti (.tup (vN (renumber g x).ins)) = H2 at sI hti
    refine ⟨_, rfl, d, _, _, _, rfl, rfl, same_tup sI h1, at_of (j := 2) rfl rfl, del, rfl, ⟨_, same_tup sI h4⟩, fun D2 n2 => ?_⟩
    refine lc_it (walk_tup (xs := vN x.del)) (fun i Hx => Same H2 Hx ∧ Hx D2 = some (.lst (vN ((x.del.take i).map g)))) ⟨same_upd n2, upd_same⟩ (fun i Hx _ hP => same_tup hP.1 (same_tup sI h4)) (fun i v Hx Hy hi hP hY => ?_) (fun Hx hP => ?_)
    · obtain ⟨rfl, hx⟩ := hY
      obtain ⟨c, hc, rfl⟩ := vN_int hx
      have hil : i < x.del.length := (List.getElem?_eq_some_iff.mp hc).1
      refine ⟨rfl, _, rfl, _, rfl, fa, _, _, _, rfl, rfl, (sI.trans hP.1).seq hfa, hat c (hok.del c (List.mem_of_getElem? hc)), _, hP.2, ?_, same_write n2 hP.1, ?_⟩
      · rw [vN_len, List.length_map, List.length_take]; omega
      · rw [upd_same, List.take_add_one, hc, List.map_append, vN_app]
        rfl
    obtain ⟨s2, hD2⟩ := hP
    rw [vN_len, List.take_length, ← rn_del] at hD2
    refine ⟨D2, _, rfl, .inl ⟨SqL.of hD2, fun td ntd => ?_⟩⟩
    have s23 := s2.trans (same_upd (o := .tup (vN (renumber g x).del)) ntd)
    have hti3 := s23 _ _ hti
    have sD := sI.trans s23
    have htd : (upd Hx td (.tup (vN (renumber g x).del))) td = some _ := upd_same
    generalize upd Hx td (.tup (vN (renumber g x).del)) = H3 at sD htd hti3 s23
    refine ⟨_, rfl, d, _, _, _, rfl, rfl, same_tup sD h1, at_of (j := 3) rfl rfl, pe, rfl, ⟨_, same_tup sD h5⟩, fun D3 n3 => ?_⟩
    refine lc_it (walk_tup (xs := pas.map V.ref)) (fun i Hx => Same H3 Hx ∧ ∃ bs : List Addr, Hx D3 = some (.lst (bs.map V.ref)) ∧ Paired (fun a (y : Pending) => Hx a = some (.tup [.int (y.change : Nat), .int (y.prop : Nat), .int (y.value : Nat)])) bs ((x.pend.take i).map fun y => { y with change := g y.change }))
      ⟨same_upd n3, [], upd_same, .nil⟩ (fun i Hx _ hP => same_tup hP.1 (same_tup sD h5)) (fun i v Hx Hy hi hP hY => ?_) (fun Hx hP => ?_)
    · obtain ⟨rfl, hx⟩ := hY
      obtain ⟨sx, bs, b1, b2⟩ := hP
      rw [List.getElem?_map] at hx
      obtain ⟨xa, hxa, rfl⟩ := Option.map_eq_some_iff.mp hx
      obtain ⟨y, hy, hya⟩ := paired_get h5p hxa
      have hil : i < x.pend.length := (List.getElem?_eq_some_iff.mp hy).1
      have hya' := same_tup (sD.trans sx) hya
      refine ⟨xa, _, rfl, hya', rfl, _, _, rfl, _, _, rfl, _, _, rfl, rfl, ?_⟩
      refine ⟨rfl, _, rfl, _, rfl, fa, _, _, _, rfl, rfl, (sD.trans sx).seq hfa, hat _ (hok.pend y (List.mem_of_getElem? hy)).1, _, rfl, _, rfl, (by show 3 ≤ sizeLine; decide), fun tp ntp => ?_⟩
      have st := same_upd (o := .tup [.int (g y.change : Nat), .int (y.prop : Nat), .int (y.value : Nat)]) ntp
      have ntD : tp ≠ D3 := fun z => by rw [z, b1] at ntp; cases ntp
      refine ⟨_, st _ _ b1, ?_, same_write n3 (sx.trans st), bs ++ [tp], ?_, ?_⟩
      · rw [List.length_map, Paired.length b2, List.length_map, List.length_take]; omega
      · rw [upd_same, List.map_append]
        rfl
      · rw [List.take_add_one, hy, List.map_append]
        refine paired_snoc (Paired.mapP b2 fun c y z => ?_) ?_
        · have nb : c ≠ D3 := fun z2 => by rw [z2, b1] at z; cases z
          rw [upd_ne nb]
          exact st _ _ z
        · rw [upd_ne ntD, upd_same]
    obtain ⟨s4, bs, b1, b2⟩ := hP
    rw [List.length_map, Paired.length h5p, List.take_length, ← rn_pend] at b2
    refine ⟨D3, _, rfl, .inl ⟨SqL.of b1, fun tq ntq => ?_⟩⟩
    have s34 := s4.trans (same_upd (o := .tup (bs.map V.ref)) ntq)
    have htq : (upd Hx tq (.tup (bs.map V.ref))) tq = some _ := upd_same
    have b2' : Paired (fun a (y : Pending) => (upd Hx tq (.tup (bs.map V.ref))) a = some (.tup [.int (y.change : Nat), .int (y.prop : Nat), .int (y.value : Nat)])) bs (renumber g x).pend := Paired.mapP b2 fun c y z => same_upd ntq _ _ z
    have sA := sD.trans s34
    have hti4 := s34 _ _ hti3
    have htd4 := s34 _ _ htd
    generalize upd Hx tq (.tup (bs.map V.ref)) = H4 at sA hti4 htd4 htq b2'
    refine ⟨_, rfl, d, _, _, _, rfl, rfl, same_tup sA h1, at_of (j := 0) rfl rfl, _, rfl, _, rfl, _, rfl, _, rfl, d, _, _, _, rfl, rfl, same_tup sA h1, at_of (j := 4) rfl rfl, (by show 5 ≤ sizeLine; decide), fun r nr => ?_⟩
    have sR := same_upd (o := .tup [.ref lk, .ref ti, .ref td, .ref tq, .ref tg]) nr
    refine q _ r (sA.trans sR) (.tup (SqT.of upd_same) (.cons (dp_tup (same_tup (sA.trans sR) h2)) (.cons (dp_tup (SqT.of (sR _ _ hti4))) (.cons (dp_tup (SqT.of (sR _ _ htd4))) (.cons (.tup (SqT.of (sR _ _ htq)) ?_) (.cons (dp_tup (same_tup (sA.trans sR) h6)) .nil))))))
    have key : ∀ {as : List Addr} {ys : List Pending}, Paired (fun a (y : Pending) => H4 a = some (.tup [.int (y.change : Nat), .int (y.prop : Nat), .int (y.value : Nat)])) as ys → DpAll K (upd H4 r (.tup [.ref lk, .ref ti, .ref td, .ref tq, .ref tg])) (as.map V.ref) (ys.map pendD) := by
      intro as ys h
      induction h with
      | nil => exact .nil
      | cons r _ ih => exact .cons (.tup (SqT.of (sR _ _ r)) (.cons (.int _) (.cons (.int _) (.cons (.int _) .nil)))) ih
    exact key b2'
end
end Td
set_option maxRecDepth 100000
set_option maxHeartbeats 4000000
namespace Td
open PySem PySem.Spec PyProof.Rows L2
open Vatrka (Piece Pending Change)
open Vatrkd (renumber)
theorem rn_alike {g : Nat → Nat} {x y : Piece} (h : Vatrkd.alike x y = true) : Vatrkd.alike (renumber g x) (renumber g y) = true := by
  have h := alike_iff.mp h
  refine alike_iff.mpr ⟨h.1, ?_, ?_, ?_, h.2.2.2.2⟩
  · rw [rn_ins, rn_ins, h.2.1]
  · rw [rn_del, rn_del, h.2.2.1]
  · rw [rn_pend, rn_pend, h.2.2.2.1]
/-- a dress and what became of it, or None twice -/
def DrOr (K : PySem.W.Frag) (H : Hp) (v u : V) (m : Piece → Piece) : Prop := (v = .non ∧ u = .non) ∨ ∃ wa da wp, v = .ref wa ∧ u = .ref da ∧ Dp K H (.ref wa) (dressD wp) ∧ Dp K H (.ref da) (dressD (m wp))
theorem none_eqv (x : Piece) : PyData.eqv (dressD x) .none = false := by
  cases h : PyData.eqv (dressD x) .none with
  | false => rfl
  | true =>
    have := ((dress_flat x).eq (flatD_none 0)).mp h
    unfold dressD at this
    cases this
section
variable {P : Program} {w : World} {K : PySem.W.Frag} {mg : Str → Option Value} {base : Heap} {CD : Addr}
def sp_renumbered_row (K : PySem.W.Frag) : Sp := fun vs H Q _ => ∃ (a fa : Addr) (row : List Piece) (n : Nat) (fr : List Nat) (g : Nat → Nat), vs = [.ref a, .ref fa] ∧ RowAt K H a row ∧ (∀ x ∈ row, PcOk n x) ∧ row.length < 10000000 ∧ SqL K H fa (vN fr) ∧ Fresh n fr g ∧ ∀ H' p, Same H H' → H p = none → RowAt K H' p (row.map (renumber g)) → Q (.ref p) H'
theorem ok_renumbered_row {k : Nat} (G : Glob mg) (c_renumbered_dress : C8.Cal P w K mg base 1 "renumbered_dress" (sp_renumbered_dress K) []) (D : Stands K mg "renumbered_row" s_renumbered_row) : C8.Cal P w K mg base (k + 2) "renumbered_row" (sp_renumbered_row K) [] := by
  refine cal_of D sc_renumbered_row (fun vs H Q E h => ?_) (fun _ _ _ _ _ _ us hl => match us, hl with | [_, _], _ => rfl) (fun f cdv A outer s H vs Q E hr h => ?_)
  · obtain ⟨a, fa, row, n, fr, g, rfl, _⟩ := h
    rfl
  · obtain ⟨a, fa, row, n, fr, g, rfl, ⟨bs, r1, r2⟩, hok, hlen, hfa, hfr, q⟩ := h
    refine ⟨_, (pss_cons (ps_set (i := 2) sc_renumbered_row.nd rfl (Or.inl rfl) (pe_lst pa_nil))
      (pss_cons (ps_set (i := 3) sc_renumbered_row.nd rfl (Or.inl rfl) pe_non)
      (pss_cons (ps_set (i := 4) sc_renumbered_row.nd rfl (Or.inl rfl) pe_non)
      (pss_cons (ps_for PassesOwn.never rfl (pi_list (pv 0)) (pg_tup rfl (pgs_cons (pg_name (i := 5) sc_renumbered_row.nd rfl (Or.inl rfl)) (pgs_cons (pg_name (i := 6) sc_renumbered_row.nd rfl (Or.inl rfl)) pgs_nil)))
      (pss_cons (ps_if (pt_cmpR (op_neD hr.units) (pv 6) (pv 3) (nomark _))
      (pss_one (ps_set (i := 4) sc_renumbered_row.nd rfl (Or.inl rfl) (C8.pe_c c_renumbered_dress hr (by omega) (by rfl) (pa_cons (pv 6) (pa_cons (pv 1) pa_nil)))))
      pss_nil)
      (pss_cons (ps_set (i := 3) sc_renumbered_row.nd rfl (Or.inl rfl) (pv 6))
      (pss_one (ps_expr (pe_bm PySem.F.plainAttrs_list PySem.F.slot_list_append PySem.F.type_list_append mt_append (pv 2) (pa_cons (pe_tup (pa_cons (pv 5) (pa_cons (pv 4) pa_nil))) pa_nil)))))))
      (pss_one (ps_ret (pv 2))))))), ?_⟩
    refine ⟨Nat.zero_le _, fun p np => ?_⟩
    have s0 : Same H (upd H p (.lst [])) := same_upd np
    have hbl : bs.length = row.length := Paired.length r2
    have e9 : (10000000 : Nat) < sizeLine := by decide
    refine ⟨_, rfl, a, rfl, ⟨_, SqL.of (s0 _ _ r1)⟩, for_list (xs := bs.map V.ref) (fun i σ H2 => ∃ (v u : V) (y1 y2 : Option V), σ = [some (.ref a), some (.ref fa), some (.ref p), some v, some u, y1, y2] ∧ Same H H2 ∧ DrOr K H2 v u (renumber g) ∧ RowAt K H2 p ((row.take i).map (renumber g)))
      ⟨.non, .non, none, none, rfl, s0, .inl ⟨rfl, rfl⟩, [], upd_same, .nil⟩ (fun i σ H2 _ hP => ?_) (fun i v σ H2 hx hP => ?_) (fun σ H2 hP => ?_)⟩
    · obtain ⟨_, _, _, _, _, s2, _⟩ := hP
      exact SqL.of (s2 _ _ r1)
    · obtain ⟨v, u, y1, y2, rfl, s2, hdr, cs, c1, c2⟩ := hP
      rw [List.getElem?_map] at hx
      obtain ⟨xa, hxa, rfl⟩ := Option.map_eq_some_iff.mp hx
      obtain ⟨x, hxr, hxd⟩ := paired_get r2 hxa
      obtain ⟨da, x1, x2⟩ := piece_at hxd
      have hxok := hok x (List.mem_of_getElem? hxr)
      have hil : i < row.length := (List.getElem?_eq_some_iff.mp hxr).1
      -- worn = old; renumbered.append((sign, dress))
      have fin : ∀ (v : V) (da2 : Addr) (H3 : Hp), Same H H3 → Dp K H3 (.ref da2) (dressD (renumber g x)) → H3 p = some (.lst (cs.map V.ref)) → Paired (fun b x => Dp K H3 (.ref b) (pieceD x)) cs ((row.take i).map (renumber g)) → ∀ Dn : Ends,
          (Dn.nx = fun σ H2 => ∃ (v u : V) (y1 y2 : Option V), σ = [some (.ref a), some (.ref fa), some (.ref p), some v, some u, y1, y2] ∧ Same H H2 ∧ DrOr K H2 v u (renumber g) ∧ RowAt K H2 p ((row.take (i + 1)).map (renumber g))) →
          tSeq (tAsg (tVar 6) (gName 3)) (tDrop (tBM K "list" rAppend (tVar 2) (tCons (tTup (tCons (tVar 5) (tCons (tVar 4) tNil))) tNil))) Dn [some (.ref a), some (.ref fa), some (.ref p), some v, some (.ref da2), some (.int ((x.sign : Nat) : Int)), some (.ref da)] H3 := by
        intro v da2 H3 t1 t3 t5 t6 Dn hDn
        refine ⟨_, rfl, _, rfl, .inl ⟨rfl, _, SqL.of t5⟩, _, rfl, _, rfl, (by show 2 ≤ sizeLine; decide), fun tp ntp => ?_⟩
        have st := same_upd (o := .tup [.int ((x.sign : Nat) : Int), .ref da2]) ntp
        have t5' := st _ _ t5
        refine ⟨p, _, _, rfl, rfl, t5', by rw [List.length_map, Paired.length t6, List.length_map, List.length_take]; omega, ?_⟩
        show Dn.nx _ _
        rw [hDn]
        have kt : KeepT K H3 (upd (upd H3 tp (.tup [.int ((x.sign : Nat) : Int), .ref da2])) p (.lst (cs.map V.ref ++ [.ref tp]))) := KeepT.trans (Same.keepT st) (keepT_upd t5' (fun _ z => by cases z) (fun _ _ z => by cases z))
        have ntp' : tp ≠ p := fun z => by rw [z, t5] at ntp; cases ntp
        have hd2 := dp_keep kt _ _ (tupD_dress _) t3
        refine ⟨_, _, _, _, rfl, same_write np (t1.trans st), .inr ⟨da, da2, x, rfl, rfl, dp_keep kt _ _ (tupD_dress _) (dp_same t1 _ _ x2), hd2⟩, cs ++ [tp], ?_, ?_⟩
        · rw [upd_same, List.map_append]
          rfl
        · rw [List.take_add_one, hxr, List.map_append]
          exact paired_snoc (Paired.mapP t6 fun b x z => dp_keep kt _ _ (tupD_piece x) z) (.tup (SqT.of (by rw [upd_ne ntp']; exact upd_same)) (.cons (.int _) (.cons hd2 .nil)))
      -- a dress that isn't the one worn
      have neu : ∀ (H3 : Hp), Same H H3 → H3 p = some (.lst (cs.map V.ref)) → Paired (fun b x => Dp K H3 (.ref b) (pieceD x)) cs ((row.take i).map (renumber g)) → ∀ Dn : Ends,
          (Dn.nx = fun σ H2 => ∃ (v u : V) (y1 y2 : Option V), σ = [some (.ref a), some (.ref fa), some (.ref p), some v, some u, y1, y2] ∧ Same H H2 ∧ DrOr K H2 v u (renumber g) ∧ RowAt K H2 p ((row.take (i + 1)).map (renumber g))) →
          tSeq (tAsg (tCall (sp_renumbered_dress K) [] C8.E0 (tCons (tVar 6) (tCons (tVar 1) tNil))) (gName 4)) (tSeq (tAsg (tVar 6) (gName 3)) (tDrop (tBM K "list" rAppend (tVar 2) (tCons (tTup (tCons (tVar 5) (tCons (tVar 4) tNil))) tNil)))) Dn
            [some (.ref a), some (.ref fa), some (.ref p), some v, some u, some (.int ((x.sign : Nat) : Int)), some (.ref da)] H3 := by
        intro H3 t1 t5 t6 Dn hDn
        refine ⟨_, rfl, _, rfl, da, fa, x, n, fr, g, rfl, dp_same t1 _ _ x2, hxok, t1.seq hfa, hfr, fun H4 d2 s4 hd2 => ?_⟩
        exact fin v d2 H4 (t1.trans s4) hd2 (s4 _ _ t5) (Paired.mapP t6 fun b x z => dp_same s4 _ _ z) Dn hDn
      have hx2 := dp_same s2 _ _ x2
      refine ⟨xa, _, rfl, same_tup s2 x1, rfl, _, _, rfl, _, _, rfl, rfl, ?_⟩
      rcases hdr with ⟨rfl, rfl⟩ | ⟨wa, da2, wp, rfl, rfl, w1, w2⟩
      · refine ⟨_, rfl, _, rfl, dressD x, .none, hx2, .non, dress_shaped _, (flatD_none 0).shaped (by decide), _, rfl, ?_⟩
        rw [none_eqv]
        exact neu H2 s2 c1 c2 _ rfl
      · refine ⟨_, rfl, _, rfl, dressD x, dressD wp, hx2, w1, dress_shaped _, dress_shaped _, _, rfl, ?_⟩
        rw [dress_eqv]
        cases hax : Vatrkd.alike x wp with
        | false => exact neu H2 s2 c1 c2 _ rfl
        | true =>
          refine fin _ da2 H2 s2 ?_ c1 c2 _ rfl
          rw [show dressD (renumber g x) = dressD (renumber g wp) from dress_inj.mpr (rn_alike hax)]
          exact w2
    · obtain ⟨v, u, y1, y2, rfl, s2, _, hR⟩ := hP
      rw [List.length_map, hbl, List.take_length] at hR
      exact ⟨_, rfl, q _ p s2 np hR⟩
def sp_joined (K : PySem.W.Frag) (CD : Addr) : Sp := fun vs H Q _ => ∃ (d ta ra e tb rb : Addr) (A B : Vatrkd.Doc), vs = [.ref d, .ref e] ∧ DocAt K CD H d ta ra ∧ TabAt K H ta A.table ∧ RowAt K H ra A.row ∧ DocAt K CD H e tb rb ∧ TabAt K H tb B.table ∧ RowAt K H rb B.row ∧ (∀ x ∈ B.row, PcOk B.table.length x) ∧
  A.table.length + B.table.length < 1000000 ∧ A.row.length + B.row.length < 10000000 ∧ ∀ H' r dr tc rc, Same H H' → H tc = none → H' r = some (.ins CD dr (fDoc.zip [.ref tc, .ref rc])) → TabAt K H' tc (Vatrkd.joined A B).table → RowAt K H' rc (Vatrkd.joined A B).row → Q (.ref r) H'
theorem ok_joined {k : Nat} (G : Glob mg) (TD : CT K CD fDoc) (m_Document : C8.Mak P w K mg base 1 "Document" CD (spInit CD fDoc) []) (c_renumbered_row : C8.Cal P w K mg base 2 "renumbered_row" (sp_renumbered_row K) []) (D : Stands K mg "joined" s_joined) : C8.Cal P w K mg base (k + 3) "joined" (sp_joined K CD) [] := by
  refine cal_of D sc_joined (fun vs H Q E h => ?_) (fun _ _ _ _ _ _ us hl => match us, hl with | [_, _], _ => rfl) (fun f cdv A outer s H vs Q E hr h => ?_)
  · obtain ⟨d, ta, ra, e, tb, rb, A, B, rfl, _⟩ := h
    rfl
  · obtain ⟨d, ta, ra, e, tb, rb, A, B, rfl, ⟨dd, hd⟩, ⟨cs, t1, t2⟩, ⟨bs, r1, r2⟩, ⟨de, he⟩, ⟨cs', u1, u2⟩, hRB, hok, l1, l2, q⟩ := h
    refine ⟨_, (pss_cons (ps_set (i := 2) sc_joined.nd rfl (Or.inl rfl) (pe_callB call_len_seq (by rfl) G.b_len (by decide +kernel) (pa_cons (pe_fld (pv 0) rfl) pa_nil)))
      (pss_cons (ps_set (i := 3) sc_joined.nd rfl (Or.inl rfl) (pe_listRg rfl (by rfl) G.b_list (prg_2 (by rfl) G.b_range (pv 2) (pe_op op_add (pe_op op_add (pv 2) (pe_callB call_len_seq (by rfl) G.b_len (by decide +kernel) (pa_cons (pe_fld (pv 1) rfl) pa_nil))) pe_int))))
      (pss_one (ps_ret (C8.pe_mk m_Document hr (by omega) (by rfl) (pa_cons (pe_op op_cat (pe_fld (pv 0) rfl) (pe_fld (pv 1) rfl)) (pa_cons (pe_op op_cat (pe_fld (pv 0) rfl) (C8.pe_c c_renumbered_row hr (by omega) (by rfl) (pa_cons (pe_fld (pv 1) rfl) (pa_cons (pv 3) pa_nil)))) pa_nil))))))), ?_⟩
    have e9 : (10000000 : Nat) < sizeLine := by decide
    have lc : cs.length = A.table.length := Paired.length t2
    have lc' : cs'.length = B.table.length := Paired.length u2
    have lb : bs.length = A.row.length := Paired.length r2
    refine ⟨_, rfl, d, CD, dd, _, _, rfl, hd, TD.cl, TD.no _ (by simp), lkD0, ta, _, rfl, .inl (SqL.of t1), ?_⟩
    rw [List.length_map, lc]
    have erg : rgV (A.table.length : Int) ((A.table.length : Int) + (cs'.length : Int) + 1) = vN ((List.range (B.table.length + 1)).map fun i => A.table.length + i) := by
      unfold rgV vN
      rw [show ((A.table.length : Int) + (cs'.length : Int) + 1 - (A.table.length : Int)).toNat = B.table.length + 1 by omega, List.map_map]
      rfl
    have hfr : Fresh B.table.length ((List.range (B.table.length + 1)).map fun i => A.table.length + i) (fun c => c + A.table.length) := fun c hc => by
      rw [List.getElem?_map, List.getElem?_range (by omega)]
      show some (A.table.length + c) = some (c + A.table.length)
      rw [Nat.add_comm]
    refine ⟨_, rfl, _, rfl, _, rfl, e, CD, de, _, _, rfl, he, TD.cl, TD.no _ (by simp), lkD0, tb, _, rfl, .inl (SqL.of u1), _, _, rfl, rfl, _, _, rfl, rfl, _, _, rfl, rfl, ?_, fun fl nfl => ?_⟩
    · rw [List.length_map]
      exact RgOk.of_le (by omega) (by omega) (by omega) (by omega)
    rw [List.length_map, erg]
    have m0 := same_upd (o := .lst (vN ((List.range (B.table.length + 1)).map fun i => A.table.length + i))) nfl
    have hfl : SqL K (upd H fl (.lst (vN ((List.range (B.table.length + 1)).map fun i => A.table.length + i)))) fl (vN ((List.range (B.table.length + 1)).map fun i => A.table.length + i)) := SqL.of upd_same
    generalize upd H fl (.lst (vN ((List.range (B.table.length + 1)).map fun i => A.table.length + i))) = H1 at m0 hfl
    refine ⟨_, rfl, d, CD, dd, _, _, rfl, m0 _ _ hd, TD.cl, TD.no _ (by simp), lkD0, _, rfl, e, CD, de, _, _, rfl, m0 _ _ he, TD.cl, TD.no _ (by simp), lkD0, ta, tb, _, _, rfl, rfl, m0 _ _ t1, m0 _ _ u1, by rw [List.length_map, List.length_map]; omega, fun tc ntc => ?_⟩
    have m1' := same_upd (o := .lst (cs.map V.ref ++ cs'.map V.ref)) ntc
    have m1 := m0.trans m1'
    refine ⟨_, rfl, d, CD, dd, _, _, rfl, m1 _ _ hd, TD.cl, TD.no _ (by simp), lkD1, _, rfl, e, CD, de, _, _, rfl, m1 _ _ he, TD.cl, TD.no _ (by simp), lkD1, _, rfl, rb, fl, B.row, B.table.length, _, _, rfl, hRB.same m1, hok, by omega, m1'.seq hfl, hfr, fun H2 rr s2 nrr hrr => ?_⟩
    obtain ⟨es, e1, e2⟩ := hrr
    have m12 := m1.trans s2
    have le : es.length = B.row.length := by rw [Paired.length e2, List.length_map]
    refine ⟨ra, rr, _, _, rfl, rfl, m12 _ _ r1, e1, by rw [List.length_map, List.length_map]; omega, fun rc nrc => ?_⟩
    have m3 := same_upd (o := .lst (bs.map V.ref ++ es.map V.ref)) nrc
    refine fun x dx nx nd ne => ⟨x, dx, [_, _], rfl, rfl, upd_same, rfl, ?_⟩
    rw [upd_upd]
    have m4 := made_same (C := CD) (fs := fDoc.zip [.ref tc, .ref rc]) nx nd
    have m34 := m3.trans m4
    have mA := m12.trans m34
    refine q _ x dx tc rc mA (none_back m0 ntc) made_at ⟨cs ++ cs', ?_, ?_⟩ ⟨bs ++ es, ?_, ?_⟩
    · rw [List.map_append]
      exact m34 _ _ (s2 _ _ upd_same)
    · exact paired_app (Paired.mapP t2 fun b c z => dp_same mA _ _ z) (Paired.mapP u2 fun b c z => dp_same mA _ _ z)
    · rw [List.map_append]
      exact m4 _ _ upd_same
    · exact paired_app (Paired.mapP r2 fun b c z => dp_same mA _ _ z) (Paired.mapP e2 fun b c z => dp_same m34 _ _ z)
/-- the places of the paragraphs' ends -/
def endsAt (row : List Piece) : List Nat := (List.range row.length).filter fun i => (row[i]?.map fun x => x.sign) == some 10
end
end Td
set_option maxRecDepth 100000
set_option maxHeartbeats 4000000
namespace Td
open PySem PySem.Spec PyProof.Rows L2
open Vatrka (Piece Pending Change)
/-! ### what is true of a document that was read -/
theorem look_vals : ∀ (its : List Vatrkd.Item) (n : Nat) (l : List Nat), its.all (Vatrkd.inRange n) = true → (∀ v ∈ l, v ≤ 99) → ∀ v ∈ its.foldl Tm.lookS l, v ≤ 99
  | [], _, l, _, h => h
  | it :: r, n, l, hin, h => by
    rw [List.all_cons, Bool.and_eq_true] at hin
    rw [List.foldl_cons]
    refine look_vals r n _ hin.2 ?_
    cases it with
    | look k v =>
      have hv : v ≤ 99 := of_decide_eq_true hin.1
      intro u hu
      show u ≤ 99
      rcases List.mem_or_eq_of_mem_set (show u ∈ l.set k v from hu) with hu | rfl
      · exact h u hu
      · exact hv
    | ins _ => exact h
    | del _ => exact h
    | pend _ _ _ => exact h
    | tag _ => exact h
theorem tags_vals : ∀ (ts acc : List Nat), (∀ t ∈ ts, t ≤ 999) → (∀ t ∈ acc, t ≤ 999) → ∀ t ∈ ts.foldl (fun a t => Vatrka.withTag t a) acc, t ≤ 999
  | [], acc, _, h => h
  | t :: r, acc, h1, h2 => by
    rw [List.foldl_cons]
    refine tags_vals r _ (fun u hu => h1 u (List.mem_cons_of_mem _ hu)) fun u hu => ?_
    rcases Tm.withTag_mem hu with rfl | hu
    · exact h1 _ List.mem_cons_self
    · exact h2 u hu
theorem withTag_len (t : Nat) : ∀ l : List Nat, (Vatrka.withTag t l).length ≤ l.length + 1
  | [] => Nat.le_refl _
  | u :: r => by
    unfold Vatrka.withTag
    have := withTag_len t r
    split
    · simp
    · split
      · simp
      · simp; omega
theorem tags_len : ∀ (ts acc : List Nat), (ts.foldl (fun a t => Vatrka.withTag t a) acc).length ≤ acc.length + ts.length
  | [], acc => Nat.le_refl _
  | t :: r, acc => by
    rw [List.foldl_cons, List.length_cons]
    have h1 := tags_len r (Vatrka.withTag t acc)
    have h2 := withTag_len t acc
    omega
theorem pc_dressed {m : List Nat} {c n : Nat} (hin : (Vatrkd.told m).all (Vatrkd.inRange n) = true) (hm : m.length < 500000) : PcOk n (Vatrkd.dressed m c) := by
  obtain ⟨h1, h2, h3, h4, h5, h6⟩ := Tm.wear_all (Vatrkd.told m) { sign := c, look := Vatrka.zeroLook }
  have hl := Tm.told_len m
  have hpl := Tm.told_place m
  have mem : ∀ {it}, it ∈ Vatrkd.told m → Vatrkd.inRange n it = true := fun {it} h => List.all_eq_true.mp hin it h
  unfold Vatrkd.dressed
  refine ⟨?_, fun v hv => ?_, fun v hv => ?_, fun v hv => ?_, fun y hy => ?_, fun t ht => ?_, ?_, ?_, ?_, ?_⟩
  · rw [h2, look_len]; rfl
  · rw [h2] at hv
    have := look_vals _ n _ hin (fun v hv => by have : ∀ v ∈ ([0, 0, 0, 0] : List Nat), v ≤ 99 := by decide
                                                exact this v hv) v hv
    omega
  · rw [h3, List.nil_append] at hv
    obtain ⟨it, hit, e⟩ := List.mem_filterMap.mp hv
    cases it with
    | ins c' =>
      obtain rfl := Option.some.inj e
      have : (decide (1 ≤ c') && decide (c' ≤ n)) = true := mem hit
      rw [Bool.and_eq_true, decide_eq_true_eq, decide_eq_true_eq] at this
      exact this.2
    | _ => cases e
  · rw [h4, List.nil_append] at hv
    obtain ⟨it, hit, e⟩ := List.mem_filterMap.mp hv
    cases it with
    | del c' =>
      obtain rfl := Option.some.inj e
      have : (decide (1 ≤ c') && decide (c' ≤ n)) = true := mem hit
      rw [Bool.and_eq_true, decide_eq_true_eq, decide_eq_true_eq] at this
      exact this.2
    | _ => cases e
  · rw [h5, List.nil_append] at hy
    obtain ⟨it, hit, e⟩ := List.mem_filterMap.mp hy
    cases it with
    | pend c' k v =>
      obtain rfl := Option.some.inj e
      have : (decide (1 ≤ c') && (decide (c' ≤ n) && decide (v ≤ 99))) = true := mem hit
      rw [Bool.and_eq_true, Bool.and_eq_true, decide_eq_true_eq, decide_eq_true_eq, decide_eq_true_eq] at this
      have hk : k < 4 := of_decide_eq_true (hpl _ hit)
      refine ⟨this.2.1, hk, ?_⟩
      show v < 10 ^ 18
      omega
    | _ => cases e
  · rw [h6] at ht
    have := tags_vals (Tm.tagN (Vatrkd.told m)) [] (fun t ht => by
      obtain ⟨it, hit, e⟩ := List.mem_filterMap.mp ht
      cases it with
      | tag c' =>
        obtain rfl := Option.some.inj e
        have : (decide (1 ≤ c') && decide (c' ≤ 999)) = true := mem hit
        rw [Bool.and_eq_true, decide_eq_true_eq, decide_eq_true_eq] at this
        exact this.2
      | _ => cases e) (fun t ht => by cases ht) t ht
    omega
  · rw [h3, List.nil_append]
    exact Nat.lt_of_le_of_lt (List.length_filterMap_le _ _) (by omega)
  · rw [h4, List.nil_append]
    exact Nat.lt_of_le_of_lt (List.length_filterMap_le _ _) (by omega)
  · rw [h5, List.nil_append]
    exact Nat.lt_of_le_of_lt (List.length_filterMap_le _ _) (by omega)
  · rw [h6]
    have h7 := tags_len (Tm.tagN (Vatrkd.told m)) []
    have h8 : (Tm.tagN (Vatrkd.told m)).length ≤ (Vatrkd.told m).length := List.length_filterMap_le _ _
    rw [List.length_nil] at h7
    exact Nat.lt_of_le_of_lt h7 (by omega)
/-- what a paragraph's line gives -/
theorem par_ok {tb : List Change} {x : List Nat × Bool} {ps : List Piece} (h : Vatrkd.paragraph tb x = .ok ps) (hx : x.1.length < 400000) :
    ∃ ss, Tm.spansOf x.1 = some ss ∧ ps = (ss.flatMap fun r => r.2.map (Vatrkd.dressed r.1)) ∧ (∀ s ∈ ss, (Vatrkd.told s.1).all (Vatrkd.inRange tb.length) = true) ∧ Vatrkd.sound x = true := by
  have hs : Vatrkd.sound x = true := by
    cases z : Vatrkd.sound x with
    | true => rfl
    | false => rw [par_sound z] at h; cases h
  obtain ⟨l, e⟩ := x
  have he : e = true := by
    unfold Vatrkd.sound at hs
    rw [Bool.and_eq_true] at hs
    exact hs.1
  subst he
  rw [Tm.paragraph_spans tb l hs] at h
  cases hq : Tm.spansOf l with
  | none => rw [hq] at h; cases h
  | some ss =>
    rw [hq] at h
    dsimp only at h
    split at h
    · cases h
    · split at h
      · cases h
      · rename_i h2
        split at h
        · cases h
        · have h2' : (ss.all fun r => (Vatrkd.told r.1).all (Vatrkd.inRange tb.length)) = true := by
            cases z : (ss.all fun r => (Vatrkd.told r.1).all (Vatrkd.inRange tb.length)) with
            | true => rfl
            | false => exact absurd z h2
          exact ⟨ss, rfl, (Except.ok.inj h).symm, List.all_eq_true.mp h2', hs⟩
theorem par_pieces {tb : List Change} {x : List Nat × Bool} {ps : List Piece} (h : Vatrkd.paragraph tb x = .ok ps) (hx : x.1.length < 400000) : (∀ y ∈ ps, PcOk tb.length y) ∧ ∃ i y, ps = i ++ [y] ∧ y.sign = 10 := by
  obtain ⟨ss, hq, rfl, hr, hs⟩ := par_ok h hx
  have hsum := Tm.spansOf_sum hq
  refine ⟨fun y hy => ?_, ?_⟩
  · obtain ⟨s, hs', hy⟩ := List.mem_flatMap.mp hy
    obtain ⟨c, _, rfl⟩ := List.mem_map.mp hy
    have := Tm.sumS_mem hs'
    exact pc_dressed (hr s hs') (by omega)
  · obtain ⟨m, i, e⟩ := Tm.spansOf_last hq
    refine ⟨i.flatMap fun r => r.2.map (Vatrkd.dressed r.1), Vatrkd.dressed m 10, ?_, ?_⟩
    · rw [e, List.flatMap_append]
      rfl
    · exact (Tm.wear_all (Vatrkd.told m) { sign := 10, look := Vatrka.zeroLook }).1
theorem body_ok : ∀ (ls : List (List Nat × Bool)) (tb : List Change) (i : Nat) (row : List Piece), (∀ x ∈ ls, x.1.length < 400000) → Vatrkd.readBody tb i ls = .ok row → (∀ y ∈ row, PcOk tb.length y) ∧ (ls ≠ [] → ∃ i y, row = i ++ [y] ∧ y.sign = 10 ∧ y.ins = [] ∧ y.del = [])
  | [], tb, i, row, _, h => by
    obtain rfl := Except.ok.inj h
    exact ⟨fun y hy => (by cases hy), fun z => absurd rfl z⟩
  | x :: r, tb, i, row, hl, h => by
    rw [Vatrkd.readBody] at h
    cases e : Vatrkd.paragraph tb x with
    | error k => rw [e] at h; cases h
    | ok ps =>
      rw [e] at h
      dsimp only at h
      obtain ⟨p1, i1, y1, e1, e2⟩ := par_pieces e (hl x List.mem_cons_self)
      split at h
      · cases h
      · rename_i hcl
        cases e3 : Vatrkd.readBody tb (i + 1) r with
        | error f => rw [e3] at h; cases h
        | ok qs =>
          rw [e3] at h
          obtain rfl := Except.ok.inj h
          obtain ⟨q1, q2⟩ := body_ok r tb (i + 1) qs (fun y hy => hl y (List.mem_cons_of_mem _ hy)) e3
          refine ⟨fun y hy => ?_, fun _ => ?_⟩
          · rcases List.mem_append.mp hy with hy | hy
            · exact p1 y hy
            · exact q1 y hy
          · cases r with
            | nil =>
              obtain rfl := Except.ok.inj e3
              refine ⟨i1, y1, by rw [List.append_nil]; exact e1, e2, ?_⟩
              have hc : Vatrkd.endsClean ps = true := by
                cases z : Vatrkd.endsClean ps with
                | true => rfl
                | false => exact absurd (by rw [z]; rfl) hcl
              have : ps.getLast? = some y1 := by rw [e1]; simp
              rw [ends_clean this] at hc
              unfold putCut at hc
              rw [Bool.not_not, Bool.and_eq_true, List.isEmpty_iff, List.isEmpty_iff] at hc
              exact hc
            | cons z r =>
              obtain ⟨i2, y2, f1, f2⟩ := q2 (fun z => by cases z)
              exact ⟨ps ++ i2, y2, by rw [f1, List.append_assoc], f2⟩
theorem blanks_cut : ∀ l : List Nat, Vatrkd.blanks (Vatrkd.cutAt 32 l) = l
  | [] => rfl
  | c :: r => by
    have ih := blanks_cut r
    rw [Vatrkd.cutAt]
    by_cases h : c = 32
    · rw [if_pos h, h]
      cases e : Vatrkd.cutAt 32 r with
      | nil => exact absurd e (Tm.cutAt_ne 32 r)
      | cons w ws =>
        rw [e] at ih
        rw [Vatrkd.blanks, ih]
        · rfl
        · exact fun z => by cases z
    · rw [if_neg h]
      cases e : Vatrkd.cutAt 32 r with
      | nil => exact absurd e (Tm.cutAt_ne 32 r)
      | cons w ws =>
        rw [e] at ih
        dsimp only
        cases ws with
        | nil =>
          have ih' : w = r := ih
          rw [ih']
          rfl
        | cons v ws =>
          rw [Vatrkd.blanks] at ih ⊢
          · rw [List.cons_append, ih]
          · exact fun z => by cases z
          · exact fun z => by cases z
theorem change_ok {i : Nat} {l : List Nat} {c : Change} (h : Vatrkd.changeLine i l = .ok c) : ChOk c ∧ Vatrkd.changeForm i c = l ++ [10] := by
  rw [chLine_is] at h
  have hb := blanks_cut l
  by_cases h7 : (Vatrkd.cutAt 32 l).length = 7
  · obtain ⟨x0, x1, x2, x3, x4, x5, x6, e⟩ := seven h7
    rw [e] at h hb
    cases hsh : chShape [x0, x1, x2, x3, x4, x5, x6] with
    | false => rw [chLine_shape hsh] at h; cases h
    | true =>
      have e1 : chShape [x0, x1, x2, x3, x4, x5, x6] = (x0 == Vatrkd.word "change" && (x2 == Vatrkd.word "by" && (x4 == Vatrkd.word "at" && Vatrkd.kindWords.any fun z => z == x6))) := rfl
      rw [e1, Bool.and_eq_true, Bool.and_eq_true, Bool.and_eq_true, beq_iff_eq, beq_iff_eq, beq_iff_eq] at hsh
      obtain ⟨h0, h2, h4, h6⟩ := hsh
      have ech : chLine i [x0, x1, x2, x3, x4, x5, x6] = (match Vatrkd.numeral x1, Vatrkd.numeral x3, Vatrkd.numeral x5 with
        | some n, some a, some t => if (n == i && (decide (1 ≤ a) && decide (a ≤ 99))) = true then .ok { author := a, time := t, kind := (Vatrkd.kindWords.findIdx fun z => z == x6) + 1 } else .error 4
        | _, _, _ => .error 3) := by
        have h' : ¬ (x0 == Vatrkd.word "change" && (x2 == Vatrkd.word "by" && (x4 == Vatrkd.word "at" && Vatrkd.kindWords.any fun z => z == x6))) = false := by
          rw [h0, h2, h4, h6]
          decide
        exact if_neg h'
      rw [ech] at h
      cases n1 : Vatrkd.numeral x1 with
      | none => rw [n1] at h; cases h
      | some a1 => cases n3 : Vatrkd.numeral x3 with
        | none => rw [n1, n3] at h; cases h
        | some a3 => cases n5 : Vatrkd.numeral x5 with
          | none => rw [n1, n3, n5] at h; cases h
          | some a5 =>
            rw [n1, n3, n5] at h
            dsimp only at h
            split at h
            · rename_i hc
              obtain rfl := Except.ok.inj h
              rw [Bool.and_eq_true, Bool.and_eq_true, beq_iff_eq, decide_eq_true_eq, decide_eq_true_eq] at hc
              obtain ⟨rfl, c1, c2⟩ := hc
              have hfl : (Vatrkd.kindWords.findIdx fun z => z == x6) < Vatrkd.kindWords.length := by
                obtain ⟨z, hz, e⟩ := List.any_eq_true.mp h6
                exact List.findIdx_lt_length_of_exists ⟨z, hz, e⟩
              have hk4 : Vatrkd.kindWords.length = 4 := rfl
              refine ⟨⟨by show a3 < 10 ^ 18; omega, by show 1 ≤ _ + 1; omega, by show _ + 1 ≤ 4; omega⟩, ?_⟩
              unfold Vatrkd.changeForm
              dsimp only
              rw [Tm.numeral_digits n1, Tm.numeral_digits n3, Tm.numeral_digits n5, Nat.add_sub_cancel]
              have hg : Vatrkd.kindWords.getD (Vatrkd.kindWords.findIdx fun z => z == x6) [] = x6 := by
                have := List.findIdx_getElem (w := hfl)
                rw [List.getD_eq_getElem?_getD, List.getElem?_eq_getElem hfl]
                exact beq_iff_eq.mp this
              rw [hg, ← h0, ← h2, ← h4, hb]
            · cases h
  · rw [chLine_shape (chShape_no h7)] at h
    cases h
theorem head_ok : ∀ (ls : List (List Nat × Bool)) (tb : List Change) (i : Nat) (d : Vatrkd.Doc), (∀ x ∈ ls, x.1.length < 400000) → (∀ c ∈ tb, ChOk c) → Vatrkd.readHead i tb ls = .ok d →
    (∀ c ∈ d.table, ChOk c) ∧ (∀ y ∈ d.row, PcOk d.table.length y) ∧ ∃ i y, d.row = i ++ [y] ∧ y.sign = 10 ∧ y.ins = [] ∧ y.del = []
  | [], tb, i, d, _, _, h => by cases h
  | x :: r, tb, i, d, hl, ht, h => by
    rw [Vatrkd.readHead] at h
    split at h
    · cases h
    · split at h
      · split at h
        · cases h
        · rename_i hr
          cases e : Vatrkd.readBody tb (i + 1) r with
          | error f => rw [e] at h; cases h
          | ok row =>
            rw [e] at h
            obtain rfl := Except.ok.inj h
            obtain ⟨b1, b2⟩ := body_ok r tb (i + 1) row (fun y hy => hl y (List.mem_cons_of_mem _ hy)) e
            refine ⟨ht, b1, b2 fun z => ?_⟩
            rw [z] at hr
            exact hr rfl
      · cases e : Vatrkd.changeLine (tb.length + 1) x.1 with
        | error k => rw [e] at h; cases h
        | ok c =>
          rw [e] at h
          refine head_ok r (tb ++ [c]) (i + 1) d (fun y hy => hl y (List.mem_cons_of_mem _ hy)) (fun c' hc => ?_) h
          rcases List.mem_append.mp hc with hc | hc
          · exact ht c' hc
          · rw [List.mem_singleton.mp hc]
            exact (change_ok e).1
end Td
set_option maxRecDepth 100000
set_option maxHeartbeats 4000000
namespace Td
open PySem PySem.Spec PyProof.Rows L2
open Vatrka (Piece Pending Change)
open Vatrkd (alike marksOf escaped)
/-! ### how long a form may be -/
theorem small_run : ∀ {ls : List (List Int × Bool × Bool)} {st st' : Rd} {i u : Nat}, rdRun st i ls = .ok st' → Small u st → Small (u + used ls) st'
  | [], st, st', i, u, h, k => by
    obtain rfl := Except.ok.inj h
    exact k
  | x :: r, st, st', i, u, h, k => by
    rw [rdRun] at h
    cases e : rdStep st (nat x.1, x.2.1) x.2.2 with
    | error f => rw [e] at h; cases h
    | ok st2 =>
      rw [e] at h
      have := small_run h (small_step k e)
      rw [show used (x :: r) = used [x] + used r from used_app [x] r, ← Nat.add_assoc]
      exact this
def wEnd : Piece → List Piece → Piece
  | w, [] => w
  | w, x :: r => wEnd (wnext w x) r
theorem rowL_app : ∀ (a b : List Piece) (w : Piece), rowL w (a ++ b) = rowL w a ++ rowL (wEnd w a) b
  | [], b, w => rfl
  | x :: a, b, w => by
    show emit w x ++ rowL (wnext w x) (a ++ b) = (emit w x ++ rowL (wnext w x) a) ++ rowL (wEnd (wnext w x) a) b
    rw [rowL_app a b, List.append_assoc]
theorem esc_len (c : Nat) : (escaped c).length ≤ 2 := by
  unfold escaped
  split <;> simp
theorem emit_len (w x : Piece) : (emit w x).length ≤ (marksOf x).length + 5 := by
  unfold emit
  have := esc_len x.sign
  split
  · rw [List.length_append, List.length_append]
    split <;> split <;> simp <;> omega
  · rw [List.length_append, List.length_nil]
    omega
theorem rowL_same : ∀ (r : List Piece) (w : Piece), (∀ x ∈ r, x.sign ≠ 10 ∧ alike x w = true) → (rowL w r).length ≤ 2 * r.length
  | [], _, _ => Nat.zero_le _
  | x :: r, w, h => by
    obtain ⟨h1, h2⟩ := h x List.mem_cons_self
    have hc : chg w x = false := by unfold chg; rw [beq_eq_false_iff_ne.mpr h1, h2]; rfl
    have he : emit w x = escaped x.sign := by unfold emit; rw [hc, if_neg (by decide), List.nil_append]
    have hw : wnext w x = w := by unfold wnext; rw [hc, if_neg (by decide)]
    rw [rowL, he, hw, List.length_append, List.length_cons]
    have := rowL_same r w fun y hy => h y (List.mem_cons_of_mem _ hy)
    have := esc_len x.sign
    omega
theorem dressed_sign (m : List Nat) (c : Nat) : (Vatrkd.dressed m c).sign = c := (Tm.wear_all (Vatrkd.told m) { sign := c, look := Vatrka.zeroLook }).1
theorem dressed_alike (m : List Nat) (c d : Nat) : alike (Vatrkd.dressed m c) (Vatrkd.dressed m d) = true := by
  rw [dressed_is, dressed_is]
  exact alike_iff.mpr ⟨rfl, rfl, rfl, rfl, rfl⟩
theorem block_len {m s : List Nat} (w : Piece) (h : 10 ∉ s ∨ s = [10]) : (rowL w (s.map (Vatrkd.dressed m))).length ≤ (marksOf (Vatrkd.dressed m 10)).length + 5 + 2 * s.length := by
  cases s with
  | nil => exact Nat.zero_le _
  | cons c r =>
    rw [List.map_cons, rowL, List.length_append]
    have h1 := emit_len w (Vatrkd.dressed m c)
    rw [alike_marks (dressed_alike m c 10)] at h1
    have h2 : (rowL (wnext w (Vatrkd.dressed m c)) (r.map (Vatrkd.dressed m))).length ≤ 2 * r.length := by
      rcases h with h | h
      · have hr : ∀ x ∈ r.map (Vatrkd.dressed m), x.sign ≠ 10 ∧ alike x (wnext w (Vatrkd.dressed m c)) = true := by
          intro x hx
          obtain ⟨d, hd, rfl⟩ := List.mem_map.mp hx
          refine ⟨fun z => h ?_, ?_⟩
          · rw [dressed_sign] at z
            rw [← z]
            exact List.mem_cons_of_mem _ hd
          · have hc : c ≠ 10 := fun z => h (by rw [z]; exact List.mem_cons_self)
            unfold wnext
            by_cases hch : chg w (Vatrkd.dressed m c) = true
            · rw [if_pos hch, if_neg (by rw [dressed_sign]; exact hc)]
              exact dressed_alike m d c
            · rw [if_neg hch]
              unfold chg at hch
              have hal : alike (Vatrkd.dressed m c) w = true := by
                cases z : alike (Vatrkd.dressed m c) w with
                | true => rfl
                | false => rw [z, Bool.not_false, Bool.or_true] at hch; exact absurd rfl hch
              exact alike_trans (dressed_alike m d c) hal
        have := rowL_same _ _ hr
        rw [List.length_map] at this
        exact this
      · injection h with h1 h2
        subst h2
        exact Nat.zero_le _
    rw [List.length_cons]
    omega
theorem blanks_le : ∀ (ws : List (List Nat)) (k : Nat), (∀ w ∈ ws, w.length ≤ k) → (Vatrkd.blanks ws).length ≤ ws.length * (k + 1)
  | [], _, _ => Nat.zero_le _
  | [x], k, h => by
    have := h x List.mem_cons_self
    show x.length ≤ 1 * (k + 1)
    omega
  | x :: y :: r, k, h => by
    have h1 := h x List.mem_cons_self
    have h2 := blanks_le (y :: r) k fun w hw => h w (List.mem_cons_of_mem _ hw)
    rw [Vatrkd.blanks]
    · rw [List.length_append, List.length_cons (a := 32), List.length_cons (a := x), Nat.succ_mul]
      omega
    · exact fun z => by cases z
theorem words_len {n : Nat} {x : Piece} (h : PcOk n x) (hn : n < 10 ^ 18) : ∀ w ∈ wordsOf x, w.length ≤ 39 := by
  have hl : ∀ (l : List Nat) (k : Nat), (∀ v ∈ l, v < 10 ^ 18) → ∀ w ∈ Vatrkd.lookItems k l, w.length ≤ 39 := by
    intro l
    induction l with
    | nil => intro k _ w hw; cases hw
    | cons v r ih =>
      intro k hv w hw
      rw [Vatrkd.lookItems] at hw
      split at hw
      · exact ih _ (fun u hu => hv u (List.mem_cons_of_mem _ hu)) w hw
      · rcases List.mem_cons.mp hw with rfl | hw
        · have := digits_len (hv v List.mem_cons_self)
          rw [List.length_cons]
          omega
        · exact ih _ (fun u hu => hv u (List.mem_cons_of_mem _ hu)) w hw
  intro w hw
  unfold wordsOf at hw
  simp only [List.mem_append, List.mem_map] at hw
  rcases hw with hw | ⟨c, hc, rfl⟩ | ⟨c, hc, rfl⟩ | ⟨c, hc, rfl⟩ | ⟨c, hc, rfl⟩
  · exact hl _ _ h.lookV w hw
  · have := digits_len (Nat.lt_of_le_of_lt (h.ins c hc) hn)
    rw [List.length_cons]; omega
  · have := digits_len (Nat.lt_of_le_of_lt (h.del c hc) hn)
    rw [List.length_cons]; omega
  · obtain ⟨o1, o2, o3⟩ := h.pend c hc
    have h1 := digits_len (Nat.lt_of_le_of_lt o1 hn)
    have h2 := digits_len o3
    unfold Vatrkd.pendItem
    simp
    omega
  · have := digits_len (h.tags c hc)
    rw [List.length_cons]; omega
theorem marks_len {m : List Nat} {c n : Nat} (hin : (Vatrkd.told m).all (Vatrkd.inRange n) = true) (hm : m.length < 500000) (hn : n < 10 ^ 18) : (marksOf (Vatrkd.dressed m c)).length ≤ 160 * m.length + 320 := by
  have hok := pc_dressed (c := c) hin hm
  have h1 := blanks_le _ _ (words_len hok hn)
  have h2 : (wordsOf (Vatrkd.dressed m c)).length ≤ 4 + 4 * (m.length + 1) := by
    obtain ⟨_, w2, w3, w4, w5, w6⟩ := Tm.wear_all (Vatrkd.told m) { sign := c, look := Vatrka.zeroLook }
    have hl := Tm.told_len m
    have a1 := lookItems_len (Vatrkd.dressed m c).look 0
    rw [hok.look] at a1
    have a2 : (Vatrkd.dressed m c).ins.length ≤ (Vatrkd.told m).length := by
      unfold Vatrkd.dressed
      rw [w3, List.nil_append]
      exact List.length_filterMap_le _ _
    have a3 : (Vatrkd.dressed m c).del.length ≤ (Vatrkd.told m).length := by
      unfold Vatrkd.dressed
      rw [w4, List.nil_append]
      exact List.length_filterMap_le _ _
    have a4 : (Vatrkd.dressed m c).pend.length ≤ (Vatrkd.told m).length := by
      unfold Vatrkd.dressed
      rw [w5, List.nil_append]
      exact List.length_filterMap_le _ _
    have a5 : (Vatrkd.dressed m c).tags.length ≤ (Vatrkd.told m).length := by
      unfold Vatrkd.dressed
      rw [w6]
      have h7 := tags_len (Tm.tagN (Vatrkd.told m)) []
      have h8 : (Tm.tagN (Vatrkd.told m)).length ≤ (Vatrkd.told m).length := List.length_filterMap_le _ _
      rw [List.length_nil, Nat.zero_add] at h7
      exact Nat.le_trans h7 h8
    unfold wordsOf
    simp only [List.length_append, List.length_map]
    omega
  rw [← marks_words] at h1
  omega
theorem spans_signs {l : List Nat} {ss : List (List Nat × List Nat)} (h10 : 10 ∉ l) (h : Tm.spansOf l = some ss) : ∀ s ∈ ss, 10 ∉ s.2 ∨ s.2 = [10] := by
  unfold Tm.spansOf at h
  obtain ⟨s0, e, rfl⟩ := Option.map_eq_some_iff.mp h
  obtain ⟨rs, m, ss0, a1, a2, a3, a4⟩ := (Tm.spans_ok l.length l (Nat.le_refl _) h10).2 s0 e
  rw [Tm.finish_ok a3 a4]
  intro s hs
  rcases List.mem_append.mp hs with hs | hs
  · exact .inl (a3 s hs)
  · rw [List.mem_singleton.mp hs]
    exact .inr rfl
theorem par_form {tb : List Change} {x : List Nat × Bool} {ps : List Piece} (h : Vatrkd.paragraph tb x = .ok ps) (hx : x.1.length < 400000) (hn : tb.length < 10 ^ 18) (w : Piece) : (rowL w ps).length ≤ 485 * (x.1.length + 1) := by
  obtain ⟨ss, hq, rfl, hr, hs⟩ := par_ok h hx
  have h10 : 10 ∉ x.1 := fun z => by
    unfold Vatrkd.sound at hs
    rw [Bool.and_eq_true] at hs
    exact absurd (List.all_eq_true.mp hs.2 10 z) (by decide)
  have hsum := Tm.spansOf_sum hq
  have hlen := spansOf_len hq
  have hsg := spans_signs h10 hq
  have key : ∀ (ss : List (List Nat × List Nat)) (w : Piece), (∀ s ∈ ss, s.1.length < 500000 ∧ (Vatrkd.told s.1).all (Vatrkd.inRange tb.length) = true ∧ (10 ∉ s.2 ∨ s.2 = [10])) → (rowL w (ss.flatMap fun r => r.2.map (Vatrkd.dressed r.1))).length ≤ 160 * Tm.sumS ss + 325 * ss.length := by
    intro ss
    induction ss with
    | nil => intro w _; exact Nat.zero_le _
    | cons s r ih =>
      intro w hw
      obtain ⟨k1, k2, k3⟩ := hw s List.mem_cons_self
      rw [List.flatMap_cons, rowL_app, List.length_append]
      have i1 := ih (wEnd w (s.2.map (Vatrkd.dressed s.1))) fun y hy => hw y (List.mem_cons_of_mem _ hy)
      have i2 := block_len (m := s.1) w k3
      have i3 := marks_len (c := 10) k2 k1 hn
      have i4 : Tm.sumS (s :: r) = s.1.length + s.2.length + Tm.sumS r := by
        unfold Tm.sumS
        rw [List.map_cons, List.sum_cons]
      rw [i4, List.length_cons]
      omega
  have := key ss w fun s hs' => ⟨by have := Tm.sumS_mem hs'; omega, hr s hs', hsg s hs'⟩
  exact Nat.le_trans this (by omega)
/-- the form of what is read so far -/
structure Sized (u : Nat) (st : Rd) : Prop where
  tb : (Vatrkd.tableForm 1 st.tb).length ≤ u
  row : (rowL (plainP 10) st.row).length ≤ 485 * u
theorem sized_step {u v : Nat} {st st' : Rd} {x : List Int × Bool × Bool} (h : Sized u st) (k : Small v st) (hx : x.1.length < 400000) (hv : v < 10 ^ 18) (e : rdStep st (nat x.1, x.2.1) x.2.2 = .ok st') : Sized (u + used [x]) st' := by
  have hu : used [x] = x.1.length + (if x.2.1 = true then 1 else 0) := by unfold used; simp
  unfold rdStep at e
  split at e
  · cases e
  · rename_i hs
    have hs' : Vatrkd.sound (nat x.1, x.2.1) = true := by
      cases z : Vatrkd.sound (nat x.1, x.2.1) with
      | true => rfl
      | false => exact absurd z hs
    have hxe : x.2.1 = true := by
      unfold Vatrkd.sound at hs'
      rw [Bool.and_eq_true] at hs'
      exact hs'.1
    rw [if_pos hxe] at hu
    have hl : (nat x.1).length = x.1.length := List.length_map _
    have t1 := h.tb
    have t2 := h.row
    split at e
    · cases e2 : parLine st.tb (nat x.1) x.2.2 with
      | error k => rw [e2] at e; cases e
      | ok ps =>
        rw [e2] at e
        obtain rfl := Except.ok.inj e
        refine ⟨by show (Vatrkd.tableForm 1 st.tb).length ≤ _; omega, ?_⟩
        show (rowL (plainP 10) (st.row ++ ps)).length ≤ _
        have : ∀ w, (rowL w ps).length ≤ 485 * ((nat x.1).length + 1) := by
          unfold parLine at e2
          cases e3 : Vatrkd.paragraph st.tb (nat x.1, true) with
          | error k => rw [e3] at e2; cases e2
          | ok qs =>
            rw [e3] at e2
            dsimp only at e2
            split at e2
            · cases e2
            · obtain rfl := Except.ok.inj e2
              exact par_form e3 (by show (nat x.1).length < _; omega) (by have := k.tb; omega)
        rw [rowL_app, List.length_append]
        have := this (wEnd (plainP 10) st.row)
        omega
    · split at e
      · split at e
        · obtain rfl := Except.ok.inj e
          exact ⟨by show (Vatrkd.tableForm 1 st.tb).length ≤ _; omega, by show (rowL (plainP 10) st.row).length ≤ _; omega⟩
        · cases e
      · split at e
        · obtain rfl := Except.ok.inj e
          exact ⟨by show (Vatrkd.tableForm 1 st.tb).length ≤ _; omega, by show (rowL (plainP 10) st.row).length ≤ _; omega⟩
        · cases e2 : Vatrkd.changeLine (st.tb.length + 1) (nat x.1) with
          | error k => rw [e2] at e; cases e
          | ok c =>
            rw [e2] at e
            obtain rfl := Except.ok.inj e
            refine ⟨?_, by show (rowL (plainP 10) st.row).length ≤ _; omega⟩
            show (Vatrkd.tableForm 1 (st.tb ++ [c])).length ≤ _
            rw [tableForm_snoc, List.length_append, Nat.add_comm 1, (change_ok e2).2, List.length_append, hl]
            show _ + (x.1.length + 1) ≤ _
            omega
theorem sized_run : ∀ {ls : List (List Int × Bool × Bool)} {st st' : Rd} {i u v : Nat}, rdRun st i ls = .ok st' → Sized u st → Small v st → (v + used ls < 400000) → Sized (u + used ls) st'
  | [], st, st', i, u, v, h, k, _, _ => by
    obtain rfl := Except.ok.inj h
    exact k
  | x :: r, st, st', i, u, v, h, k, m, hv => by
    have hu : used (x :: r) = used [x] + used r := used_app [x] r
    have h1 := used_one x
    rw [hu] at hv
    rw [rdRun] at h
    cases e : rdStep st (nat x.1, x.2.1) x.2.2 with
    | error f => rw [e] at h; cases h
    | ok st2 =>
      rw [e] at h
      have := sized_run h (sized_step k m (by omega) (by omega) e) (small_step m e) (by omega)
      rw [hu, ← Nat.add_assoc]
      exact this
theorem line_len : ∀ (t : List Int), ∀ x ∈ linI t, x.1.length ≤ t.length
  | [], x, h => by cases h
  | c :: r, x, h => by
    rw [linI] at h
    have ih := line_len r
    rw [List.length_cons]
    split at h
    · rcases List.mem_cons.mp h with rfl | h
      · exact Nat.zero_le _
      · have := ih x h; omega
    · cases e : linI r with
      | nil =>
        rw [e] at h
        rw [List.mem_singleton.mp h]
        show 1 ≤ _
        omega
      | cons y ls =>
        rw [e] at h ih
        rcases List.mem_cons.mp h with rfl | h
        · have := ih y List.mem_cons_self
          show y.1.length + 1 ≤ _
          omega
        · have := ih x (List.mem_cons_of_mem _ h); omega
/-- all of it -/
theorem read_ok {t : List Int} {d : Vatrkd.Doc} (ht : t.length ≤ 17000) (h : Vatrkd.readDoc (nat t) = .ok d) : DocOk d ∧ d.table.length * 23 ≤ t.length ∧ d.row.length ≤ t.length ∧ (Vatrkd.form d).length + 1 ≤ sizeLine := by
  have h' := h
  rw [← run_doc] at h
  cases e : rdRun ⟨0, [], []⟩ 1 (mark (linI t)) with
  | error f => rw [e] at h; cases h
  | ok st =>
    rw [e] at h
    unfold rdEnd at h
    dsimp only at h
    split at h
    · cases h
    · obtain rfl := Except.ok.inj h
      have sm := small_run e (u := 0) ⟨Nat.zero_le _, Nat.zero_le _, by decide⟩
      have sz := sized_run e (u := 0) (v := 0) ⟨Nat.zero_le _, Nat.zero_le _⟩ ⟨Nat.zero_le _, Nat.zero_le _, by decide⟩ (by rw [lin_used]; omega)
      rw [lin_used, Nat.zero_add] at sm sz
      have hdoc : (∀ c ∈ st.tb, ChOk c) ∧ (∀ y ∈ st.row, PcOk st.tb.length y) ∧ ∃ i y, st.row = i ++ [y] ∧ y.sign = 10 ∧ y.ins = [] ∧ y.del = [] := by
        unfold Vatrkd.readDoc at h'
        rw [lin_nat] at h'
        cases e2 : linI t with
        | nil => rw [e2] at h'; cases h'
        | cons x r =>
          rw [e2] at h'
          rw [List.map_cons] at h'
          dsimp only at h'
          split at h'
          · cases h'
          · split at h'
            · refine head_ok (r.map fun x => (nat x.1, x.2)) [] 2 { table := st.tb, row := st.row } (fun y hy => ?_) (fun c hc => by cases hc) h'
              obtain ⟨z, hz, rfl⟩ := List.mem_map.mp hy
              have := line_len t z (by rw [e2]; exact List.mem_cons_of_mem _ hz)
              show (nat z.1).length < _
              rw [show (nat z.1).length = z.1.length from List.length_map _]
              omega
            · cases h'
      have m1 := sm.tb
      have m2 := sm.row
      have ok : DocOk { table := st.tb, row := st.row } := ⟨hdoc.1, hdoc.2.1, hdoc.2.2, by show st.tb.length < _; omega, by show st.row.length < _; omega⟩
      refine ⟨ok, m1, m2, ?_⟩
      rw [form_rows ok]
      simp only [List.length_append]
      have s1 := sz.tb
      have s2 := sz.row
      have w1 : (Vatrkd.word "tracked 1\n").length = 10 := by decide +kernel
      have w2 : (Vatrkd.word "text\n").length = 5 := by decide +kernel
      have w3 : sizeLine = 16777216 := by decide
      rw [w1, w2, w3]
      omega
end Td
set_option maxRecDepth 100000
set_option maxHeartbeats 4000000
namespace Td
open PySem PySem.Spec PyProof.Rows L2
open Vatrka (Piece Pending Change)
/-! ### what is true of a document stays so -/
theorem PcOk.mono {n m : Nat} {x : Piece} (h : PcOk n x) (k : n ≤ m) : PcOk m x :=
  ⟨h.look, h.lookV, fun c hc => Nat.le_trans (h.ins c hc) k, fun c hc => Nat.le_trans (h.del c hc) k, fun y hy => ⟨Nat.le_trans (h.pend y hy).1 k, (h.pend y hy).2⟩, h.tags, h.sz⟩
theorem PcOk.renumber {n m : Nat} {x : Piece} {f : Nat → Nat} (h : PcOk n x) (hf : ∀ c, c ≤ n → f c ≤ m) : PcOk m (Vatrkd.renumber f x) := by
  refine ⟨h.look, h.lookV, fun c hc => ?_, fun c hc => ?_, fun y hy => ?_, h.tags, ?_⟩
  · obtain ⟨d, hd, rfl⟩ := List.mem_map.mp (show c ∈ x.ins.map f from hc)
    exact hf d (h.ins d hd)
  · obtain ⟨d, hd, rfl⟩ := List.mem_map.mp (show c ∈ x.del.map f from hc)
    exact hf d (h.del d hd)
  · obtain ⟨d, hd, rfl⟩ := List.mem_map.mp (show y ∈ x.pend.map fun y => { y with change := f y.change } from hy)
    exact ⟨hf _ (h.pend d hd).1, (h.pend d hd).2⟩
  · show (x.ins.map f).length < _ ∧ (x.del.map f).length < _ ∧ (x.pend.map fun y => { y with change := f y.change }).length < _ ∧ x.tags.length < _
    rw [List.length_map, List.length_map, List.length_map]
    exact h.sz
theorem join_ok {A B : Vatrkd.Doc} (ha : DocOk A) (hb : DocOk B) (h1 : A.table.length + B.table.length < 1000000) (h2 : A.row.length + B.row.length < 10000000) : DocOk (Vatrkd.joined A B) := by
  have htl : (Vatrkd.joined A B).table.length = A.table.length + B.table.length := List.length_append
  have hrl : (Vatrkd.joined A B).row.length = A.row.length + B.row.length := by
    show (A.row ++ B.row.map _).length = _
    rw [List.length_append, List.length_map]
  refine ⟨fun c hc => ?_, fun x hx => ?_, ?_, by rw [htl]; exact h1, by rw [hrl]; exact h2⟩
  · rcases List.mem_append.mp (show c ∈ A.table ++ B.table from hc) with hc | hc
    · exact ha.tb c hc
    · exact hb.tb c hc
  · rw [htl]
    rcases List.mem_append.mp (show x ∈ A.row ++ B.row.map (Vatrkd.renumber fun c => c + A.table.length) from hx) with hx | hx
    · exact (ha.row x hx).mono (Nat.le_add_right _ _)
    · obtain ⟨y, hy, rfl⟩ := List.mem_map.mp hx
      exact (hb.row y hy).renumber fun c hc => by omega
  · obtain ⟨i, x, e, e1, e2, e3⟩ := hb.last
    refine ⟨A.row ++ i.map (Vatrkd.renumber fun c => c + A.table.length), Vatrkd.renumber (fun c => c + A.table.length) x, ?_, e1, ?_, ?_⟩
    · show A.row ++ B.row.map _ = _
      rw [e, List.map_append, List.append_assoc]
      rfl
    · show x.ins.map _ = []
      rw [e2]
      rfl
    · show x.del.map _ = []
      rw [e3]
      rfl
theorem shown_vals {n : Nat} {x : Piece} (h : PcOk n x) : ∀ k, Vatrka.shownValue x k < 10 ^ 18 := by
  intro k
  unfold Vatrka.shownValue
  split
  · rename_i y hy
    have hm := List.mem_of_getLast? hy
    exact (h.pend y (List.mem_filter.mp hm).1).2.2
  · rw [List.getD_eq_getElem?_getD]
    cases e : x.look[k]? with
    | none => show (0 : Nat) < 10 ^ 18; decide
    | some v => exact h.lookV v (List.mem_of_getElem? e)
theorem PcOk.accept {n m : Nat} {x : Piece} (h : PcOk n x) : PcOk m (Vatrka.acceptPiece x) := by
  refine ⟨rfl, fun v hv => ?_, fun c hc => (by cases hc), fun c hc => (by cases hc), fun y hy => (by cases hy), h.tags, by show 0 < _; decide, by show 0 < _; decide, by show 0 < _; decide, h.sz.2.2.2⟩
  obtain ⟨k, _, rfl⟩ := List.mem_map.mp (show v ∈ Vatrka.props.map (Vatrka.shownValue x) from hv)
  exact shown_vals h k
theorem PcOk.reject {n m : Nat} {x : Piece} (h : PcOk n x) : PcOk m (Vatrka.rejectPiece x) :=
  ⟨h.look, h.lookV, fun c hc => (by cases hc), fun c hc => (by cases hc), fun y hy => (by cases hy), h.tags, by show 0 < _; decide, by show 0 < _; decide, by show 0 < _; decide, h.sz.2.2.2⟩
theorem accept_ok {d : Vatrkd.Doc} (h : DocOk d) : DocOk { d with row := Vatrka.acceptRow d.row } := by
  refine ⟨h.tb, fun x hx => ?_, ?_, h.tl, ?_⟩
  · obtain ⟨y, hy, rfl⟩ := List.mem_map.mp (show x ∈ (d.row.filter Vatrka.shown).map Vatrka.acceptPiece from hx)
    exact (h.row y (List.mem_filter.mp hy).1).accept
  · obtain ⟨i, x, e, e1, e2, e3⟩ := h.last
    refine ⟨(i.filter Vatrka.shown).map Vatrka.acceptPiece, Vatrka.acceptPiece x, ?_, e1, rfl, rfl⟩
    show (d.row.filter Vatrka.shown).map Vatrka.acceptPiece = _
    have : Vatrka.shown x = true := by unfold Vatrka.shown; rw [e3]; rfl
    rw [e, List.filter_append, List.filter_cons, if_pos this, List.map_append]
    rfl
  · show ((d.row.filter Vatrka.shown).map Vatrka.acceptPiece).length < _
    rw [List.length_map]
    exact Nat.lt_of_le_of_lt (List.length_filter_le _ _) h.rl
theorem reject_ok {d : Vatrkd.Doc} (h : DocOk d) : DocOk { d with row := Vatrka.rejectRow d.row } := by
  refine ⟨h.tb, fun x hx => ?_, ?_, h.tl, ?_⟩
  · obtain ⟨y, hy, rfl⟩ := List.mem_map.mp (show x ∈ (d.row.filter Vatrka.stood).map Vatrka.rejectPiece from hx)
    exact (h.row y (List.mem_filter.mp hy).1).reject
  · obtain ⟨i, x, e, e1, e2, e3⟩ := h.last
    refine ⟨(i.filter Vatrka.stood).map Vatrka.rejectPiece, Vatrka.rejectPiece x, ?_, e1, rfl, rfl⟩
    show (d.row.filter Vatrka.stood).map Vatrka.rejectPiece = _
    have : Vatrka.stood x = true := by unfold Vatrka.stood; rw [e2]; rfl
    rw [e, List.filter_append, List.filter_cons, if_pos this, List.map_append]
    rfl
  · show ((d.row.filter Vatrka.stood).map Vatrka.rejectPiece).length < _
    rw [List.length_map]
    exact Nat.lt_of_le_of_lt (List.length_filter_le _ _) h.rl
theorem borne_range {d : Vatrkd.Doc} {c : Nat} (h : c ∈ Vatrkd.borne d) : 1 ≤ c ∧ c ≤ d.table.length := by
  unfold Vatrkd.borne at h
  obtain ⟨h1, _⟩ := List.mem_filter.mp h
  obtain ⟨i, hi, rfl⟩ := List.mem_map.mp h1
  have := List.mem_range.mp hi
  omega
theorem borne_len (d : Vatrkd.Doc) : (Vatrkd.borne d).length ≤ d.table.length := by
  unfold Vatrkd.borne
  refine Nat.le_trans (List.length_filter_le _ _) ?_
  rw [List.length_map, List.length_range]
  exact Nat.le_refl _
theorem tidy_table {d : Vatrkd.Doc} : (Vatrkd.tidied d).table.length = (Vatrkd.borne d).length := by
  show ((Vatrkd.borne d).filterMap fun c => d.table[c - 1]?).length = _
  have key : ∀ l : List Nat, (∀ c ∈ l, 1 ≤ c ∧ c ≤ d.table.length) → (l.filterMap fun c => d.table[c - 1]?).length = l.length := by
    intro l
    induction l with
    | nil => intro _; rfl
    | cons c r ih =>
      intro h
      have hc := h c List.mem_cons_self
      rw [List.filterMap_cons, List.getElem?_eq_getElem (by omega)]
      dsimp only
      rw [List.length_cons, List.length_cons, ih fun e he => h e (List.mem_cons_of_mem _ he)]
  exact key _ fun c hc => borne_range hc
theorem tidy_ok {d : Vatrkd.Doc} (h : DocOk d) : DocOk (Vatrkd.tidied d) := by
  refine ⟨fun c hc => ?_, fun x hx => ?_, ?_, ?_, ?_⟩
  · obtain ⟨e, _, he⟩ := List.mem_filterMap.mp (show c ∈ (Vatrkd.borne d).filterMap fun c => d.table[c - 1]? from hc)
    exact h.tb c (List.mem_of_getElem? he)
  · rw [tidy_table]
    obtain ⟨y, hy, rfl⟩ := List.mem_map.mp (show x ∈ d.row.map (Vatrkd.renumber fun c => ((Vatrkd.borne d).filter fun e => decide (e ≤ c)).length) from hx)
    exact (h.row y hy).renumber fun c _ => List.length_filter_le _ _
  · obtain ⟨i, x, e, e1, e2, e3⟩ := h.last
    refine ⟨i.map (Vatrkd.renumber fun c => ((Vatrkd.borne d).filter fun e => decide (e ≤ c)).length), Vatrkd.renumber (fun c => ((Vatrkd.borne d).filter fun e => decide (e ≤ c)).length) x, ?_, e1, ?_, ?_⟩
    · show d.row.map _ = _
      rw [e, List.map_append]
      rfl
    · show x.ins.map _ = []
      rw [e2]
      rfl
    · show x.del.map _ = []
      rw [e3]
      rfl
  · rw [tidy_table]
    have := borne_len d
    have := h.tl
    omega
  · show (d.row.map _).length < _
    rw [List.length_map]
    exact h.rl
theorem new_ok : DocOk Vatrkd.emptyDoc := by
  refine ⟨fun c hc => (by cases hc), fun x hx => ?_, ⟨[], _, rfl, rfl, rfl, rfl⟩, by show 0 < _; decide, by show 1 < _; decide⟩
  rw [List.mem_singleton.mp (show x ∈ [_] from hx)]
  refine ⟨rfl, ?_, fun c hc => (by cases hc), fun c hc => (by cases hc), fun c hc => (by cases hc), fun c hc => (by cases hc), by show 0 < _; decide, by show 0 < _; decide, by show 0 < _; decide, by show 0 < _; decide⟩
  show ∀ v ∈ ([0, 0, 0, 0] : List Nat), v < 10 ^ 18
  decide
end Td
set_option maxRecDepth 100000
set_option maxHeartbeats 4000000
namespace Td
open PySem PySem.Spec PyProof.Rows L2
open Vatrka (Piece Pending Change)
open Vatrkd (paragraphsOf)
/-! ### paragraphs -/
/-- the places of the paragraphs' ends -/
def endsF : Nat → List Piece → List Nat
  | _, [] => []
  | k, x :: r => if x.sign = 10 then k :: endsF (k + 1) r else endsF (k + 1) r
theorem ends_snoc : ∀ (l : List Piece) (k : Nat) (x : Piece), endsF k (l ++ [x]) = endsF k l ++ (if x.sign = 10 then [k + l.length] else [])
  | [], k, x => by
    show endsF k [x] = _
    rw [endsF, endsF, endsF]
    split <;> rfl
  | y :: r, k, x => by
    show endsF k (y :: (r ++ [x])) = _
    rw [endsF, endsF, ends_snoc r (k + 1) x, List.length_cons, show k + 1 + r.length = k + (r.length + 1) by omega]
    split
    · rw [List.cons_append]
    · rfl
theorem ends_len : ∀ (l : List Piece) (k : Nat), (endsF k l).length ≤ l.length
  | [], _ => Nat.le_refl _
  | x :: r, k => by
    rw [endsF, List.length_cons]
    have := ends_len r (k + 1)
    split
    · rw [List.length_cons]; omega
    · omega
theorem pars_flat : ∀ row : List Piece, (paragraphsOf row).flatMap (fun p => p) = row
  | [] => rfl
  | x :: r => by
    have ih := pars_flat r
    rw [paragraphsOf]
    split
    · rw [List.flatMap_cons, ih]
      rfl
    · cases e : paragraphsOf r with
      | nil =>
        rw [e] at ih
        have : r = [] := ih.symm
        subst this
        rfl
      | cons p ps =>
        rw [e] at ih
        dsimp only
        rw [List.flatMap_cons] at ih ⊢
        rw [List.cons_append, ih]
theorem pars_nil {row : List Piece} (h : paragraphsOf row = []) : row = [] := by
  have := pars_flat row
  rw [h] at this
  exact this.symm
/-- how many pieces the first paragraphs have -/
def parLen (row : List Piece) (j : Nat) : Nat := (((paragraphsOf row).take j).flatMap fun p => p).length
theorem ends_pars : ∀ (row : List Piece) (k : Nat), (row = [] ∨ ∃ i x, row = i ++ [x] ∧ x.sign = 10) → (endsF k row).length = (paragraphsOf row).length ∧ ∀ j, j < (paragraphsOf row).length → (endsF k row)[j]? = some (k + parLen row (j + 1) - 1) ∧ 1 ≤ parLen row (j + 1)
  | [], k, _ => ⟨rfl, fun j h => absurd h (Nat.not_lt_zero _)⟩
  | x :: r, k, he => by
    have he' : r = [] ∨ ∃ i y, r = i ++ [y] ∧ y.sign = 10 := by
      rcases he with he | ⟨i, y, e, h⟩
      · cases he
      · cases i with
        | nil => left; exact (List.cons.inj e).2
        | cons a i => right; exact ⟨i, y, (List.cons.inj e).2, h⟩
    obtain ⟨i1, i2⟩ := ends_pars r (k + 1) he'
    by_cases hs : x.sign = 10
    · have hp : paragraphsOf (x :: r) = [x] :: paragraphsOf r := by rw [paragraphsOf, if_pos (show x.sign = Vatrka.END from hs)]
      have hl : ∀ j, parLen (x :: r) (j + 1) = 1 + parLen r j := fun j => by
        unfold parLen
        rw [hp, List.take_succ_cons, List.flatMap_cons, List.length_append]
        rfl
      rw [endsF, if_pos hs, hp]
      refine ⟨by rw [List.length_cons, List.length_cons, i1], fun j hj => ?_⟩
      cases j with
      | zero =>
        rw [hl]
        have : parLen r 0 = 0 := rfl
        rw [this]
        refine ⟨?_, by omega⟩
        rw [List.getElem?_cons_zero]
        congr 1
      | succ j =>
        rw [List.length_cons] at hj
        obtain ⟨a1, a2⟩ := i2 j (by omega)
        rw [hl, List.getElem?_cons_succ, a1]
        refine ⟨?_, by omega⟩
        congr 1
        omega
    · have hr : r ≠ [] := by
        intro z
        subst z
        rcases he with he | ⟨i, y, e, h⟩
        · cases he
        · cases i with
          | nil => exact hs (by rw [(List.cons.inj e).1]; exact h)
          | cons a i => have := congrArg List.length e; simp at this
      cases e : paragraphsOf r with
      | nil => exact absurd (pars_nil e) hr
      | cons p ps =>
        have hp : paragraphsOf (x :: r) = (x :: p) :: ps := by rw [paragraphsOf, if_neg (show ¬ x.sign = Vatrka.END from hs), e]
        have hl : ∀ j, parLen (x :: r) (j + 1) = 1 + parLen r (j + 1) := fun j => by
          unfold parLen
          rw [hp, e, List.take_succ_cons, List.take_succ_cons, List.flatMap_cons, List.flatMap_cons, List.length_append, List.length_append, List.length_cons]
          omega
        rw [endsF, if_neg hs, hp, i1, e]
        refine ⟨rfl, fun j hj => ?_⟩
        obtain ⟨a1, a2⟩ := i2 j (by rw [e]; exact hj)
        rw [hl, a1]
        refine ⟨?_, by omega⟩
        congr 1
        omega
theorem pars_take (row : List Piece) (j : Nat) : ((paragraphsOf row).take j).flatMap (fun p => p) = row.take (parLen row j) := by
  have h := pars_flat row
  rw [← List.take_append_drop j (paragraphsOf row), List.flatMap_append] at h
  unfold parLen
  conv => rhs; arg 2; rw [← h]
  rw [List.take_left]
theorem pars_part (row : List Piece) {i j : Nat} (h : i ≤ j) : (((paragraphsOf row).take j).drop i).flatMap (fun p => p) = (row.take (parLen row j)).drop (parLen row i) := by
  rw [← pars_take]
  have e : (paragraphsOf row).take j = (paragraphsOf row).take i ++ ((paragraphsOf row).take j).drop i := by
    conv => lhs; rw [← List.take_append_drop i ((paragraphsOf row).take j)]
    rw [List.take_take, Nat.min_eq_left h]
  conv => rhs; rw [e, List.flatMap_append]
  show _ = List.drop (parLen row i) _
  unfold parLen
  rw [List.drop_left]
section
variable {P : Program} {w : World} {K : PySem.W.Frag} {mg : Str → Option Value} {base : Heap}
def sp_paragraph_ends (K : PySem.W.Frag) : Sp := fun vs H Q _ => ∃ (a : Addr) (row : List Piece), vs = [.ref a] ∧ RowAt K H a row ∧ row.length < 10000000 ∧ ∀ H' p, Same H H' → H p = none → H' p = some (.lst (vN (endsF 0 row))) → Q (.ref p) H'
theorem ok_paragraph_ends {k : Nat} (G : Glob mg) (D : Stands K mg "paragraph_ends" s_paragraph_ends) : C8.Cal P w K mg base (k + 1) "paragraph_ends" (sp_paragraph_ends K) [] := by
  refine cal_of D sc_paragraph_ends (fun vs H Q E h => ?_) (fun _ _ _ _ _ _ us hl => match us, hl with | [_], _ => rfl) (fun f cdv A outer s H vs Q E hr h => ?_)
  · obtain ⟨a, row, rfl, _⟩ := h
    rfl
  · obtain ⟨a, row, rfl, ⟨bs, r1, r2⟩, hlen, q⟩ := h
    refine ⟨_, (pss_one (ps_ret (pe_lc (own := [("at", 1), ("piece", 2)]) (g := (gTup _ 2 (gCons (gName 1) (gCons (gName 2) gNil)))) (tt := (tTest (tOp rEq (tOp (rIxT K) (tVar 2) (tC (.int 0))) (tC (.int 10))))) (te := (tVar 1)) rfl sc_paragraph_ends.nd (pi_enum (by rfl) G.b_enumerate (pa_cons (pv 0) pa_nil)) (blkOk_by (N := ["row", "at", "piece"]) (sc := defScope s_paragraph_ends) (by decide +kernel)) (fun _ _ _ _ _ => (pg_tup rfl (pgs_cons (pg_name (i := 1) sc_paragraph_ends.nd rfl (Or.inl rfl)) (pgs_cons (pg_name (i := 2) sc_paragraph_ends.nd rfl (Or.inl rfl)) pgs_nil)))) (fun _ _ _ _ _ => (pts_one (pt_cmpR op_eq (pe_ix ix_tup (pv 2) (pe_gv G.c_SIGN) (fun _ _ => rfl)) (pe_gv G.c_LINE_END) (nomark _)))) (fun _ _ _ _ _ => (pv 1))))), ?_⟩
    have hbl : bs.length = row.length := Paired.length r2
    have e9 : (10000000 : Nat) < sizeLine := by decide
    refine ⟨_, rfl, a, _, rfl, SqL.of r1, fun Dd nD => ?_⟩
    refine lc_it (walk_enum (xs := bs.map V.ref)) (fun i Hx => Same H Hx ∧ Hx Dd = some (.lst (vN (endsF 0 (row.take i))))) ⟨same_upd nD, upd_same⟩ (fun i Hx _ hP => SqL.of (hP.1 _ _ r1)) (fun i v Hx Hy hi hP hY => ?_) (fun Hx hP => ?_)
    · obtain ⟨s1, hD⟩ := hP
      obtain ⟨tp, v1, v2, rfl, nt, rfl, e1, e2⟩ := hY
      obtain rfl := Option.some.inj e1
      have e2' : (bs.map V.ref)[i]? = some v2 := e2
      rw [List.getElem?_map] at e2'
      obtain ⟨xa, hxa, rfl⟩ := Option.map_eq_some_iff.mp e2'
      obtain ⟨x, hxr, hxd⟩ := paired_get r2 hxa
      obtain ⟨da, x1, x2⟩ := piece_at hxd
      have hil : i < row.length := (List.getElem?_eq_some_iff.mp hxr).1
      have hti : (row.take i).length = i := by rw [List.length_take]; omega
      have hsn : endsF 0 (row.take (i + 1)) = endsF 0 (row.take i) ++ (if x.sign = 10 then [i] else []) := by
        rw [List.take_add_one, hxr]
        show endsF 0 (row.take i ++ [x]) = _
        rw [ends_snoc, hti, Nat.zero_add]
      have s2 : Same Hx (upd Hx tp (.tup [.int ((i : Nat) : Int), .ref xa])) := same_upd nt
      have s12 := s1.trans s2
      have hD2 := s2 _ _ hD
      refine ⟨tp, _, rfl, SqT.of upd_same, rfl, _, _, rfl, _, _, rfl, rfl, rfl, ?_⟩
      generalize upd Hx tp (.tup [.int ((i : Nat) : Int), .ref xa]) = Hy at s2 s12 hD2
      refine ⟨_, rfl, xa, _, _, _, rfl, rfl, same_tup s12 x1, at_of (j := 0) rfl rfl, rfl, _, rfl, ite2 (fun g => ?_) (fun g => ?_)⟩
      · have g1 : x.sign = 10 := by have := eq_dec g; omega
        refine ⟨_, rfl, _, hD2, ?_, same_write nD s12, ?_⟩
        · rw [vN_len]
          have := ends_len (row.take i) 0
          omega
        · rw [upd_same, hsn, if_pos g1, vN_app]
          rfl
      · have g1 : x.sign ≠ 10 := by have := ne_dec g; omega
        refine ⟨s12, ?_⟩
        rw [hsn, if_neg g1, List.append_nil]
        exact hD2
    · obtain ⟨s1, hD⟩ := hP
      rw [List.length_map, hbl, List.take_length] at hD
      exact q Hx Dd s1 nD hD
end
end Td
set_option maxRecDepth 100000
set_option maxHeartbeats 4000000
namespace Td
open PySem PySem.Spec PyProof.Rows L2
open Vatrka (Piece Pending Change)
open Vatrkd (paragraphsOf)
abbrev s_counted : Stmt := top 50
abbrev n_counted : List Str := ["numbers"]
abbrev p_counted : List Str := ["numbers"]
theorem sc_counted : FnScope n_counted p_counted (defScope s_counted) := ⟨rfl, rfl, rfl, by decide +kernel, rfl, by decide +kernel, by decide +kernel⟩
abbrev s_listed_table : Stmt := top 51
abbrev n_listed_table : List Str := ["table", "listed", "change"]
abbrev p_listed_table : List Str := ["table"]
theorem sc_listed_table : FnScope n_listed_table p_listed_table (defScope s_listed_table) := ⟨rfl, rfl, rfl, by decide +kernel, rfl, by decide +kernel, by decide +kernel⟩
abbrev s_listed_paragraphs : Stmt := top 52
abbrev n_listed_paragraphs : List Str := ["row", "lengths", "start", "end"]
abbrev p_listed_paragraphs : List Str := ["row"]
theorem sc_listed_paragraphs : FnScope n_listed_paragraphs p_listed_paragraphs (defScope s_listed_paragraphs) := ⟨rfl, rfl, rfl, by decide +kernel, rfl, by decide +kernel, by decide +kernel⟩
abbrev s_listed_dress : Stmt := top 49
abbrev n_listed_dress : List Str := ["dress", "pending", "entry"]
abbrev p_listed_dress : List Str := ["dress"]
theorem sc_listed_dress : FnScope n_listed_dress p_listed_dress (defScope s_listed_dress) := ⟨rfl, rfl, rfl, by decide +kernel, rfl, by decide +kernel, by decide +kernel⟩
abbrev s_listed_pieces : Stmt := top 48
abbrev n_listed_pieces : List Str := ["row", "listed", "worn", "told", "sign", "dress"]
abbrev p_listed_pieces : List Str := ["row"]
theorem sc_listed_pieces : FnScope n_listed_pieces p_listed_pieces (defScope s_listed_pieces) := ⟨rfl, rfl, rfl, by decide +kernel, rfl, by decide +kernel, by decide +kernel⟩
section
variable {P : Program} {w : World} {K : PySem.W.Frag} {mg : Str → Option Value} {base : Heap} {CD : Addr}
def sp_counted (K : PySem.W.Frag) : Sp := fun vs H Q _ => ∃ (a : Addr) (xs : List V), vs = [.ref a] ∧ (SqL K H a xs ∨ SqT K H a xs) ∧ xs.length + 1 ≤ sizeLine ∧ ∀ H' p, Same H H' → H p = none → H' p = some (.lst (.int (xs.length : Int) :: xs)) → Q (.ref p) H'
theorem ok_counted {k : Nat} (G : Glob mg) (D : Stands K mg "counted" s_counted) : C8.Cal P w K mg base (k + 1) "counted" (sp_counted K) [] := by
  refine cal_of D sc_counted (fun vs H Q E h => ?_) (fun _ _ _ _ _ _ us hl => match us, hl with | [_], _ => rfl) (fun f cdv A outer s H vs Q E hr h => ?_)
  · obtain ⟨a, xs, rfl, _⟩ := h
    rfl
  · obtain ⟨a, xs, rfl, ha, hlen, q⟩ := h
    refine ⟨_, (pss_one (ps_ret (pe_op op_cat (pe_lst (pa_cons (pe_callB call_len_seq (by rfl) G.b_len (by decide +kernel) (pa_cons (pv 0) pa_nil)) pa_nil)) (pe_callTy call_list_of (by rfl) G.b_list (by decide +kernel) (pa_cons (pv 0) pa_nil))))), ?_⟩
    refine ⟨_, rfl, a, xs, rfl, ha, by show 1 ≤ sizeLine; decide, fun l nl => ?_⟩
    have m1 := same_upd (o := .lst [.int (xs.length : Int)]) nl
    have ha1 : SqL K (upd H l (.lst [.int (xs.length : Int)])) a xs ∨ SqT K (upd H l (.lst [.int (xs.length : Int)])) a xs := ha.imp (fun z => m1.seq z) fun z => same_tup m1 z
    refine ⟨_, rfl, a, xs, rfl, ha1, fun c nc => ⟨l, c, _, _, rfl, rfl, same_upd nc _ _ upd_same, upd_same, by show 1 + _ ≤ _; omega, fun r nr => ?_⟩⟩
    have m2 := same_upd (o := .lst xs) nc
    have m3 := same_upd (o := .lst ([.int (xs.length : Int)] ++ xs)) nr
    have m := m1.trans (m2.trans m3)
    refine q _ r m (none_back m1 (none_back m2 nr)) upd_same
end
end Td
set_option maxRecDepth 100000
set_option maxHeartbeats 4000000
namespace Td
open PySem PySem.Spec PyProof.Rows L2
open Vatrka (Piece Pending Change)
abbrev fDesk : List Str := ["document"]
def dkF (d : Addr) : List (Str × V) := [("document", .ref d)]
theorem lkK {d : Addr} : (dkF d).lookup ("document" : Str) = some (.ref d) := lk_here
theorem putK {d e : Addr} : putF ("document" : Str) (.ref e) (dkF d) = dkF e := put_here
/-- the desk, with a document that it holds -/
def DeskAt (K : PySem.W.Frag) (CK CD : Addr) (H : Hp) (k : Addr) (doc : Vatrkd.Doc) : Prop := ∃ dk d ta ra, H k = some (.ins CK dk (dkF d)) ∧ DocAt K CD H d ta ra ∧ TabAt K H ta doc.table ∧ RowAt K H ra doc.row
theorem DeskAt.same {K : PySem.W.Frag} {CK CD : Addr} {H H' : Hp} {k : Addr} {doc : Vatrkd.Doc} (h : DeskAt K CK CD H k doc) (s : Same H H') : DeskAt K CK CD H' k doc := by
  obtain ⟨dk, d, ta, ra, h1, ⟨dd, h2⟩, h3, h4⟩ := h
  exact ⟨dk, d, ta, ra, s _ _ h1, ⟨dd, s _ _ h2⟩, h3.same s, h4.same s⟩
/-- the table's list of the desk's document -/
def TaIs (CK CD : Addr) (H : Hp) (k ta : Addr) : Prop := ∃ dk d dd ra, H k = some (.ins CK dk (dkF d)) ∧ H d = some (.ins CD dd (fDoc.zip [.ref ta, .ref ra]))
/-- the desk, with a document whose table's list is new since H or was the desk's then -/
def DeskN (K : PySem.W.Frag) (CK CD : Addr) (H0 H : Hp) (k : Addr) (doc : Vatrkd.Doc) : Prop := ∃ dk d ta ra, H k = some (.ins CK dk (dkF d)) ∧ DocAt K CD H d ta ra ∧ TabAt K H ta doc.table ∧ RowAt K H ra doc.row ∧ (H0 ta = none ∨ TaIs CK CD H0 k ta)
theorem DeskN.same {K : PySem.W.Frag} {CK CD : Addr} {H0 H H' : Hp} {k : Addr} {doc : Vatrkd.Doc} (h : DeskN K CK CD H0 H k doc) (s : Same H H') : DeskN K CK CD H0 H' k doc := by
  obtain ⟨dk, d, ta, ra, h1, ⟨dd, h2⟩, h3, h4, h5⟩ := h
  exact ⟨dk, d, ta, ra, s _ _ h1, ⟨dd, s _ _ h2⟩, h3.same s, h4.same s, h5⟩
theorem DeskAt.keepN {K : PySem.W.Frag} {CK CD : Addr} {H H' : Hp} {k : Addr} {doc : Vatrkd.Doc} (h : DeskAt K CK CD H k doc) (s : Same H H') : DeskN K CK CD H H' k doc := by
  obtain ⟨dk, d, ta, ra, h1, ⟨dd, h2⟩, h3, h4⟩ := h
  exact ⟨dk, d, ta, ra, s _ _ h1, ⟨dd, s _ _ h2⟩, h3.same s, h4.same s, .inr ⟨dk, d, dd, ra, h1, h2⟩⟩
/-- what a call on the desk gives -/
def Gives (K : PySem.W.Frag) (CK CD : Addr) (k : Addr) (doc : Vatrkd.Doc) (c : Vatrkd.Call) (H : Hp) (Q : VK) : Prop :=
  ∀ H' p, Kept k H H' → DeskN K CK CD H H' k (Vatrkd.step ⟨doc⟩ c).1.doc → H' p = some (.lst (vI (VatrkdNeutral.encode (Vatrkd.step ⟨doc⟩ c).2))) → H p = none → Q (.ref p) H'
/-- a desk with another document -/
theorem desk_set {K : PySem.W.Frag} {CK CD : Addr} {H0 H : Hp} {k dk d0 e te re : Addr} {doc : Vatrkd.Doc} (hk : H k = some (.ins CK dk (dkF d0))) (he : DocAt K CD H e te re) (ht : TabAt K H te doc.table) (hr : RowAt K H re doc.row) (hn : H0 te = none ∨ TaIs CK CD H0 k te) :
    DeskN K CK CD H0 (upd H k (.ins CK dk (dkF e))) k doc ∧ Kept k H (upd H k (.ins CK dk (dkF e))) := by
  have kt : KeepT K H (upd H k (.ins CK dk (dkF e))) := keepT_upd hk (fun _ z => by cases z) (fun _ _ z => by cases z)
  obtain ⟨dd, he⟩ := he
  have nl : ∀ {b : Addr} {xs : List V}, H b = some (.lst xs) → b ≠ k := fun {b xs} h z => by rw [z, hk] at h; cases h
  refine ⟨⟨dk, e, te, re, upd_same, ⟨dd, ?_⟩, ht.keep kt fun xs h => by rw [upd_ne (nl h)]; exact h, hr.keep kt fun xs h => by rw [upd_ne (nl h)]; exact h, hn⟩, fun b o h n => by rw [upd_ne n]; exact h⟩
  rw [upd_ne fun z => ?_]
  · exact he
  · rw [z, hk] at he
    obtain ⟨_, _, e2⟩ := HO.ins.inj (Option.some.inj he)
    have := congrArg List.length e2
    exact absurd this (show ¬ (1 : Nat) = 2 by decide)
abbrev s_Desk_init : Stmt := inClass (top 122) 0
abbrev n_Desk_init : List Str := ["self"]
abbrev p_Desk_init : List Str := ["self"]
theorem sc_Desk_init : FnScope n_Desk_init p_Desk_init (defScope s_Desk_init) := ⟨rfl, rfl, rfl, by decide +kernel, rfl, by decide +kernel, by decide +kernel⟩
abbrev s_Desk_read : Stmt := inClass (top 122) 1
abbrev n_Desk_read : List Str := ["self", "text", "reading"]
abbrev p_Desk_read : List Str := ["self", "text"]
theorem sc_Desk_read : FnScope n_Desk_read p_Desk_read (defScope s_Desk_read) := ⟨rfl, rfl, rfl, by decide +kernel, rfl, by decide +kernel, by decide +kernel⟩
abbrev s_Desk_strict : Stmt := inClass (top 122) 2
abbrev n_Desk_strict : List Str := ["self", "text", "reading", "line"]
abbrev p_Desk_strict : List Str := ["self", "text"]
theorem sc_Desk_strict : FnScope n_Desk_strict p_Desk_strict (defScope s_Desk_strict) := ⟨rfl, rfl, rfl, by decide +kernel, rfl, by decide +kernel, by decide +kernel⟩
abbrev s_Desk_form : Stmt := inClass (top 122) 3
abbrev n_Desk_form : List Str := ["self"]
abbrev p_Desk_form : List Str := ["self"]
theorem sc_Desk_form : FnScope n_Desk_form p_Desk_form (defScope s_Desk_form) := ⟨rfl, rfl, rfl, by decide +kernel, rfl, by decide +kernel, by decide +kernel⟩
abbrev s_Desk_same : Stmt := inClass (top 122) 4
abbrev n_Desk_same : List Str := ["self", "text", "reading", "told", "is_same"]
abbrev p_Desk_same : List Str := ["self", "text"]
theorem sc_Desk_same : FnScope n_Desk_same p_Desk_same (defScope s_Desk_same) := ⟨rfl, rfl, rfl, by decide +kernel, rfl, by decide +kernel, by decide +kernel⟩
abbrev s_Desk_join : Stmt := inClass (top 122) 5
abbrev n_Desk_join : List Str := ["self", "text", "reading"]
abbrev p_Desk_join : List Str := ["self", "text"]
theorem sc_Desk_join : FnScope n_Desk_join p_Desk_join (defScope s_Desk_join) := ⟨rfl, rfl, rfl, by decide +kernel, rfl, by decide +kernel, by decide +kernel⟩
abbrev s_Desk_part : Stmt := inClass (top 122) 6
abbrev n_Desk_part : List Str := ["self", "first", "behind", "row", "ends", "last", "start", "kept"]
abbrev p_Desk_part : List Str := ["self", "first", "behind"]
theorem sc_Desk_part : FnScope n_Desk_part p_Desk_part (defScope s_Desk_part) := ⟨rfl, rfl, rfl, by decide +kernel, rfl, by decide +kernel, by decide +kernel⟩
abbrev s_Desk_tidy : Stmt := inClass (top 122) 7
abbrev n_Desk_tidy : List Str := ["self", "before"]
abbrev p_Desk_tidy : List Str := ["self"]
theorem sc_Desk_tidy : FnScope n_Desk_tidy p_Desk_tidy (defScope s_Desk_tidy) := ⟨rfl, rfl, rfl, by decide +kernel, rfl, by decide +kernel, by decide +kernel⟩
abbrev s_Desk_settle : Stmt := inClass (top 122) 8
abbrev n_Desk_settle : List Str := ["self", "view", "before"]
abbrev p_Desk_settle : List Str := ["self", "view"]
theorem sc_Desk_settle : FnScope n_Desk_settle p_Desk_settle (defScope s_Desk_settle) := ⟨rfl, rfl, rfl, by decide +kernel, rfl, by decide +kernel, by decide +kernel⟩
abbrev s_Desk_plain : Stmt := inClass (top 122) 9
abbrev n_Desk_plain : List Str := ["self", "view", "piece"]
abbrev p_Desk_plain : List Str := ["self", "view"]
theorem sc_Desk_plain : FnScope n_Desk_plain p_Desk_plain (defScope s_Desk_plain) := ⟨rfl, rfl, rfl, by decide +kernel, rfl, by decide +kernel, by decide +kernel⟩
abbrev s_Desk_pieces : Stmt := inClass (top 122) 10
abbrev n_Desk_pieces : List Str := ["self"]
abbrev p_Desk_pieces : List Str := ["self"]
theorem sc_Desk_pieces : FnScope n_Desk_pieces p_Desk_pieces (defScope s_Desk_pieces) := ⟨rfl, rfl, rfl, by decide +kernel, rfl, by decide +kernel, by decide +kernel⟩
abbrev s_Desk_changes : Stmt := inClass (top 122) 11
abbrev n_Desk_changes : List Str := ["self"]
abbrev p_Desk_changes : List Str := ["self"]
theorem sc_Desk_changes : FnScope n_Desk_changes p_Desk_changes (defScope s_Desk_changes) := ⟨rfl, rfl, rfl, by decide +kernel, rfl, by decide +kernel, by decide +kernel⟩
abbrev s_Desk_paragraphs : Stmt := inClass (top 122) 12
abbrev n_Desk_paragraphs : List Str := ["self"]
abbrev p_Desk_paragraphs : List Str := ["self"]
theorem sc_Desk_paragraphs : FnScope n_Desk_paragraphs p_Desk_paragraphs (defScope s_Desk_paragraphs) := ⟨rfl, rfl, rfl, by decide +kernel, rfl, by decide +kernel, by decide +kernel⟩
section
variable {P : Program} {w : World} {K : PySem.W.Frag} {mg : Str → Option Value} {base : Heap} {CD CR CK : Addr}
def sp_read (K : PySem.W.Frag) (CK CD : Addr) : Sp := fun vs H Q _ => ∃ (k a : Addr) (t : List Int) (doc : Vatrkd.Doc), vs = [.ref k, .ref a] ∧ DeskAt K CK CD H k doc ∧ SqL K H a (vI t) ∧ t.length ≤ 17000 ∧ Gives K CK CD k doc (.read (nat t)) H Q
theorem mt_read {k : Nat} (G : Glob mg) (TK : CT K CK fDesk) (TR : CT K CR fRd) (c_read_text : C8.Cal P w K mg base 10 "read_text" (sp_read_text K CD CR) []) (D : StandsM K CK "read" "Desk.read" s_Desk_read) : C8.Met P w K mg base (k + 11) CK "read" (sp_read K CK CD) [] := by
  refine met_of D sc_Desk_read (fun vs H Q E h => ?_) (fun _ _ _ _ _ _ us hl => match us, hl with | [_, _], _ => rfl) (fun f cdv A outer s H vs Q E hr h => ?_)
  · obtain ⟨k, a, t, doc, rfl, _⟩ := h
    rfl
  · obtain ⟨kk, a, t, doc, rfl, hK, hA, hlen, q⟩ := h
    refine ⟨_, (pss_cons (ps_set (i := 2) sc_Desk_read.nd rfl (Or.inl rfl) (C8.pe_c c_read_text hr (by omega) (by rfl) (pa_cons (pv 1) pa_nil)))
      (pss_cons (ps_if (pt_cmpR op_eq (pe_fld (pv 2) rfl) (pe_gv G.c_FINE) (nomark _))
      (pss_one (ps_fld (pv 0) (pe_fld (pv 2) rfl) rfl))
      pss_nil)
      (pss_one (ps_ret (pe_lst (pa_cons (pe_fld (pv 2) rfl) (pa_cons (pe_fld (pv 2) rfl) pa_nil))))))), ?_⟩
    refine ⟨_, rfl, a, t, rfl, hA, hlen, fun i j he H1 r dr d aw s1 hr1 => ?_, fun doc' he H1 r dr d ta ra aw s1 hr1 hd1 ht1 hrow1 nr nd nta nra => ?_⟩
    · have hst : Vatrkd.step ⟨doc⟩ (.read (nat t)) = (⟨doc⟩, .told [i, j]) := by
        show Vatrkd.taken ⟨doc⟩ _ (Vatrkd.readDoc (nat t)) = _
        rw [he]
        rfl
      have hj := read_pos he
      unfold Gives at q
      rw [hst] at q
      refine ⟨_, rfl, r, CR, dr, _, _, rfl, hr1, TR.cl, TR.no _ (by simp), lkR3, rfl, _, rfl, ite2 (fun g => ?_) (fun g => ?_)⟩
      · exact absurd (by have := eq_dec g; omega) hj
      · refine ⟨_, rfl, r, CR, dr, _, _, rfl, hr1, TR.cl, TR.no _ (by simp), lkR2, _, rfl, r, CR, dr, _, _, rfl, hr1, TR.cl, TR.no _ (by simp), lkR3, by show 2 ≤ sizeLine; decide, fun p np => ?_⟩
        exact q _ p (fun b o h _ => same_upd np _ _ (s1 _ _ h)) (hK.keepN (s1.trans (same_upd np))) upd_same (none_back s1 np)
    · have hst : Vatrkd.step ⟨doc⟩ (.read (nat t)) = (⟨doc'⟩, .told [0, 0]) := by
        show Vatrkd.taken ⟨doc⟩ _ (Vatrkd.readDoc (nat t)) = _
        rw [he]
        rfl
      unfold Gives at q
      rw [hst] at q
      obtain ⟨dk, d0, ta0, ra0, k1, _⟩ := hK
      have k1' := s1 _ _ k1
      have hrk : r ≠ kk := fun z => by rw [← z] at k1; rw [nr] at k1; cases k1
      obtain ⟨g1, g2⟩ := desk_set (H0 := H) k1' hd1 ht1 hrow1 (.inl nta)
      refine ⟨_, rfl, r, CR, dr, _, _, rfl, hr1, TR.cl, TR.no _ (by simp), lkR3, rfl, _, rfl, ite2 (fun g => ?_) (fun g => ?_)⟩
      · refine ⟨_, rfl, r, CR, dr, _, _, rfl, hr1, TR.cl, TR.no _ (by simp), lkR0, _, rfl, kk, CK, dk, _, rfl, k1', TK.cl, TK.no _ (by simp), (by show 1 < 1000; decide), ?_⟩
        rw [putK]
        have hr2 := g2 _ _ hr1 hrk
        refine ⟨_, rfl, r, CR, dr, _, _, rfl, hr2, TR.cl, TR.no _ (by simp), lkR2, _, rfl, r, CR, dr, _, _, rfl, hr2, TR.cl, TR.no _ (by simp), lkR3, by show 2 ≤ sizeLine; decide, fun p np => ?_⟩
        refine q _ p (fun b o h n => same_upd np _ _ (g2 _ _ (s1 _ _ h) n)) (g1.same (same_upd np)) upd_same ?_
        cases z : H p with
        | none => rfl
        | some o =>
          by_cases e : p = kk
          · rw [e, upd_same] at np; cases np
          · rw [g2 _ _ (s1 _ _ z) e] at np; cases np
      · exact absurd (decide_eq_true rfl) g
end
end Td
set_option maxRecDepth 100000
set_option maxHeartbeats 4000000
namespace Td
open PySem PySem.Spec PyProof.Rows L2
open Vatrka (Piece Pending Change)
/-! ### documents as data -/
theorem change_flat (c : Change) : flatD 2 (changeD c) := flatD_tup fun d hd => by
  simp only [List.mem_cons, List.not_mem_nil, or_false] at hd
  rcases hd with rfl | rfl | rfl | rfl
  · exact flatD_int _ _
  · exact flatD_int _ _
  · exact flatD_int _ _
  · exact flatD_tup (dN_flat _)
theorem change_inj {a b : Change} : changeD a = changeD b ↔ a = b := by
  refine ⟨fun h => ?_, fun h => by rw [h]⟩
  unfold changeD at h
  have h1 := PyData.tuple.inj h
  injection h1 with h2 h3
  injection h3 with h4 h5
  injection h5 with h6 _
  have a1 := PyData.int.inj h2
  have a2 := PyData.int.inj h4
  have a3 := PyData.int.inj h6
  obtain ⟨x, y, z⟩ := a
  obtain ⟨x', y', z'⟩ := b
  simp only [Change.mk.injEq]
  dsimp only at a1 a2 a3
  omega
theorem piece_flat (x : Piece) : flatD 4 (pieceD x) := flatD_tup fun d hd => by
  simp only [List.mem_cons, List.not_mem_nil, or_false] at hd
  rcases hd with rfl | rfl
  · exact flatD_int _ _
  · exact dress_flat x
theorem piece_inj {x y : Piece} : pieceD x = pieceD y ↔ x = y := by
  refine ⟨fun h => ?_, fun h => by rw [h]⟩
  unfold pieceD at h
  have h1 := PyData.tuple.inj h
  injection h1 with h2 h3
  injection h3 with h4 _
  have a1 := PyData.int.inj h2
  have a2 := alike_iff.mp (dress_inj.mp h4)
  obtain ⟨a, b, c, d, e, f⟩ := x
  obtain ⟨a', b', c', d', e', f'⟩ := y
  dsimp only at a1 a2
  obtain ⟨rfl, rfl, rfl, rfl, rfl⟩ := a2
  have : a = a' := by omega
  rw [this]
theorem tab_flat (tb : List Change) : flatD 3 (.list (tb.map changeD)) := flatD_lst fun d hd => by
  obtain ⟨c, _, rfl⟩ := List.mem_map.mp hd
  exact change_flat c
theorem row_flat (row : List Piece) : flatD 5 (.list (row.map pieceD)) := flatD_lst fun d hd => by
  obtain ⟨c, _, rfl⟩ := List.mem_map.mp hd
  exact piece_flat c
theorem tab_eqv (a b : List Change) : PyData.eqv (.list (a.map changeD)) (.list (b.map changeD)) = decide (a = b) := by
  rw [Bool.eq_iff_iff, (tab_flat a).eq (tab_flat b), decide_eq_true_eq]
  exact ⟨fun h => (List.map_inj_right fun x y h => change_inj.mp h).mp (PyData.list.inj h), fun h => by rw [h]⟩
theorem row_eqv (a b : List Piece) : PyData.eqv (.list (a.map pieceD)) (.list (b.map pieceD)) = decide (a = b) := by
  rw [Bool.eq_iff_iff, (row_flat a).eq (row_flat b), decide_eq_true_eq]
  exact ⟨fun h => (List.map_inj_right fun x y h => piece_inj.mp h).mp (PyData.list.inj h), fun h => by rw [h]⟩
theorem dpAll_of {α : Type} {K : PySem.W.Frag} {H : Hp} {f : α → PyData} : ∀ {bs : List Addr} {l : List α}, Paired (fun b x => Dp K H (.ref b) (f x)) bs l → DpAll K H (bs.map V.ref) (l.map f)
  | _, _, .nil => .nil
  | _, _, .cons r t => .cons r (dpAll_of t)
theorem TabAt.dp {K : PySem.W.Frag} {H : Hp} {p : Addr} {tb : List Change} (h : TabAt K H p tb) : Dp K H (.ref p) (.list (tb.map changeD)) := by
  obtain ⟨bs, h1, h2⟩ := h
  exact .lst (SqL.of h1) (dpAll_of h2)
theorem RowAt.dp {K : PySem.W.Frag} {H : Hp} {p : Addr} {row : List Piece} (h : RowAt K H p row) : Dp K H (.ref p) (.list (row.map pieceD)) := by
  obtain ⟨bs, h1, h2⟩ := h
  exact .lst (SqL.of h1) (dpAll_of h2)
/-- an answer told, as values -/
theorem told_V (n : Nat) (l : List Nat) : vI (VatrkdNeutral.encode (.told (n :: l))) = .int (n : Int) :: vN l := by
  show vI ((n :: l).map Int.ofNat) = _
  rw [List.map_cons]
  unfold vN vI
  rw [List.map_cons, List.map_map]
  rfl
section
variable {P : Program} {w : World} {K : PySem.W.Frag} {mg : Str → Option Value} {base : Heap} {CD CR CK : Addr}
def sp_form (K : PySem.W.Frag) (CK CD : Addr) : Sp := fun vs H Q _ => ∃ (k : Addr) (doc : Vatrkd.Doc), vs = [.ref k] ∧ DeskAt K CK CD H k doc ∧ DocOk doc ∧ (Vatrkd.form doc).length + 1 ≤ sizeLine ∧ Gives K CK CD k doc .form H Q
theorem mt_form {k : Nat} (G : Glob mg) (TK : CT K CK fDesk) (c_one_form : C8.Cal P w K mg base 3 "one_form" (sp_one_form K CD) []) (c_counted : C8.Cal P w K mg base 1 "counted" (sp_counted K) []) (D : StandsM K CK "form" "Desk.form" s_Desk_form) : C8.Met P w K mg base (k + 4) CK "form" (sp_form K CK CD) [] := by
  refine met_of D sc_Desk_form (fun vs H Q E h => ?_) (fun _ _ _ _ _ _ us hl => match us, hl with | [_], _ => rfl) (fun f cdv A outer s H vs Q E hr h => ?_)
  · obtain ⟨k, doc, rfl, _⟩ := h
    rfl
  · obtain ⟨kk, doc, rfl, hK, hok, hlen, q⟩ := h
    have hK0 := hK
    obtain ⟨dk, d, ta, ra, k1, hd, ht, hrow⟩ := hK
    refine ⟨_, (pss_one (ps_ret (C8.pe_c c_counted hr (by omega) (by rfl) (pa_cons (C8.pe_c c_one_form hr (by omega) (by rfl) (pa_cons (pe_fld (pv 0) rfl) pa_nil)) pa_nil)))), ?_⟩
    refine ⟨_, rfl, kk, CK, dk, _, _, rfl, k1, TK.cl, TK.no _ (by simp), lkK, d, ta, ra, doc, rfl, hd, ht, hrow, hok, hlen, fun H1 p s1 np hp => ?_⟩
    refine ⟨p, _, rfl, .inl (SqL.of hp), by rw [vN_len]; omega, fun H2 r s2 nr hr2 => ?_⟩
    have m := s1.trans s2
    refine q _ r (fun b o h _ => m _ _ h) (hK0.keepN m) ?_ (none_back s1 nr)
    rw [hr2, vN_len]
    exact congrArg some (congrArg HO.lst (told_V _ _).symm)
def sp_same (K : PySem.W.Frag) (CK CD : Addr) : Sp := fun vs H Q _ => ∃ (k a : Addr) (t : List Int) (doc : Vatrkd.Doc), vs = [.ref k, .ref a] ∧ DeskAt K CK CD H k doc ∧ SqL K H a (vI t) ∧ t.length ≤ 17000 ∧ Gives K CK CD k doc (.same (nat t)) H Q
theorem mt_same {k : Nat} (G : Glob mg) (TD : CT K CD fDoc) (TK : CT K CK fDesk) (TR : CT K CR fRd) (c_read_text : C8.Cal P w K mg base 10 "read_text" (sp_read_text K CD CR) []) (D : StandsM K CK "same" "Desk.same" s_Desk_same) : C8.Met P w K mg base (k + 11) CK "same" (sp_same K CK CD) [] := by
  refine met_of D sc_Desk_same (fun vs H Q E h => ?_) (fun _ _ _ _ _ _ us hl => match us, hl with | [_, _], _ => rfl) (fun f cdv A outer s H vs Q E hr h => ?_)
  · obtain ⟨k, a, t, doc, rfl, _⟩ := h
    rfl
  · obtain ⟨kk, a, t, doc, rfl, hK, hA, hlen, q⟩ := h
    refine ⟨_, (pss_cons (ps_set (i := 2) sc_Desk_same.nd rfl (Or.inl rfl) (C8.pe_c c_read_text hr (by omega) (by rfl) (pa_cons (pv 1) pa_nil)))
      (pss_cons (ps_if (pt_cmpR op_ne (pe_fld (pv 2) rfl) (pe_gv G.c_FINE) (nomark _))
      (pss_one (ps_ret (pe_lst (pa_cons (pe_un un_neg pe_int) pa_nil))))
      pss_nil)
      (pss_cons (ps_set (i := 3) sc_Desk_same.nd rfl (Or.inl rfl) (pe_fld (pv 2) rfl))
      (pss_cons (ps_set (i := 4) sc_Desk_same.nd rfl (Or.inl rfl) (pe_and (pe_cmpR (op_eqD hr.units) (pe_fld (pv 3) rfl) (pe_fld (pe_fld (pv 0) rfl) rfl) (nomark _)) (pe_one (pe_cmpR (op_eqD hr.units) (pe_fld (pv 3) rfl) (pe_fld (pe_fld (pv 0) rfl) rfl) (nomark _)))))
      (pss_one (ps_ret (pe_lst (pa_cons (pe_ifExp (pt_val (pv 4)) pe_int pe_int) pa_nil)))))))), ?_⟩
    have hK0 := hK
    obtain ⟨dk, d0, ta0, ra0, k1, ⟨dd0, hd0⟩, ht0, hrow0⟩ := hK
    refine ⟨_, rfl, a, t, rfl, hA, hlen, fun i j he H1 r dr d aw s1 hr1 => ?_, fun doc' he H1 r dr d ta ra aw s1 hr1 hd1 ht1 hrow1 nr nd nta nra => ?_⟩
    · have hst : Vatrkd.step ⟨doc⟩ (.same (nat t)) = (⟨doc⟩, .refused 1) := by
        show (_, match Vatrkd.readDoc (nat t) with | .ok d => _ | .error _ => _) = _
        rw [he]
      have hj := read_pos he
      unfold Gives at q
      rw [hst] at q
      refine ⟨_, rfl, r, CR, dr, _, _, rfl, hr1, TR.cl, TR.no _ (by simp), lkR3, rfl, _, rfl, ite2 (fun g => ?_) (fun g => ?_)⟩
      · refine ⟨_, rfl, by show 1 ≤ sizeLine; decide, fun p np => ?_⟩
        exact q _ p (fun b o h _ => same_upd np _ _ (s1 _ _ h)) (hK0.keepN (s1.trans (same_upd np))) upd_same (none_back s1 np)
      · exact absurd (by rw [decide_eq_false fun z => hj (by have := V.int.inj z; omega)]; rfl) g
    · have hst : Vatrkd.step ⟨doc⟩ (.same (nat t)) = (⟨doc⟩, .told [if doc' = doc then 1 else 0]) := by
        show (_, match Vatrkd.readDoc (nat t) with | .ok d => _ | .error _ => _) = _
        rw [he]
      unfold Gives at q
      rw [hst] at q
      obtain ⟨dd1, hd1⟩ := hd1
      refine ⟨_, rfl, r, CR, dr, _, _, rfl, hr1, TR.cl, TR.no _ (by simp), lkR3, rfl, _, rfl, ite2 (fun g => ?_) (fun g => ?_)⟩
      · exact absurd g (by rw [decide_eq_true rfl]; decide)
      · have fin : ∀ b : Bool, b = decide (doc' = doc) → ∀ Dn : Ends, Dn.rt = Q → tRet (tLst (tCons (tIf (tB (tVar 4)) (tC (.int 1)) (tC (.int 0))) tNil)) Dn [some (.ref kk), some (.ref a), some (.ref r), some (.ref d), some (.bl b)] H1 := by
          intro b hb Dn hDn
          have qq : ∀ z : Nat, (z = if doc' = doc then 1 else 0) → ∀ p, H1 p = none → Q (.ref p) (upd H1 p (.lst [.int (z : Int)])) := fun z hz p np => by
            rw [← hz] at q
            exact q _ p (fun b o h _ => same_upd np _ _ (s1 _ _ h)) (hK0.keepN (s1.trans (same_upd np))) upd_same (none_back s1 np)
          refine ⟨_, rfl, _, rfl, ite2 (fun g => ?_) (fun g => ?_)⟩
          · refine ⟨by show 1 ≤ sizeLine; decide, fun p np => ?_⟩
            rw [hDn]
            rw [g] at hb
            exact qq 1 (by rw [if_pos (of_decide_eq_true hb.symm)]) p np
          · refine ⟨by show 1 ≤ sizeLine; decide, fun p np => ?_⟩
            rw [hDn]
            have hn : ¬ doc' = doc := fun z => g (by rw [hb]; exact decide_eq_true z)
            exact qq 0 (by rw [if_neg hn]) p np
        have hdoc : decide (doc' = doc) = (decide (doc'.table = doc.table) && decide (doc'.row = doc.row)) := by
          rw [Bool.eq_iff_iff, Bool.and_eq_true, decide_eq_true_eq, decide_eq_true_eq, decide_eq_true_eq]
          obtain ⟨x1, x2⟩ := doc'
          obtain ⟨y1, y2⟩ := doc
          simp
        refine ⟨_, rfl, r, CR, dr, _, _, rfl, hr1, TR.cl, TR.no _ (by simp), lkR0, ?_⟩
        refine ⟨_, rfl, d, CD, dd1, _, _, rfl, hd1, TD.cl, TD.no _ (by simp), lkD0, _, rfl, kk, CK, dk, _, _, rfl, s1 _ _ k1, TK.cl, TK.no _ (by simp), lkK, d0, CD, dd0, _, _, rfl, s1 _ _ hd0, TD.cl, TD.no _ (by simp), lkD0, _, _, ht1.dp, (ht0.same s1).dp, (tab_flat _).shaped (by decide), (tab_flat _).shaped (by decide), _, rfl, ?_⟩
        rw [tab_eqv]
        refine ite2 (fun g1 => ?_) (fun g1 => ?_)
        · refine ⟨_, rfl, d, CD, dd1, _, _, rfl, hd1, TD.cl, TD.no _ (by simp), lkD1, _, rfl, kk, CK, dk, _, _, rfl, s1 _ _ k1, TK.cl, TK.no _ (by simp), lkK, d0, CD, dd0, _, _, rfl, s1 _ _ hd0, TD.cl, TD.no _ (by simp), lkD1, _, _, hrow1.dp, (hrow0.same s1).dp, (row_flat _).shaped (by decide), (row_flat _).shaped (by decide), ?_⟩
          rw [row_eqv]
          exact fin _ (by rw [hdoc, g1, Bool.true_and]) _ rfl
        · exact fin _ (by rw [hdoc, Bool.eq_false_iff.mpr g1, Bool.false_and]) _ rfl
def sp_join (K : PySem.W.Frag) (CK CD : Addr) : Sp := fun vs H Q _ => ∃ (k a : Addr) (t : List Int) (doc : Vatrkd.Doc), vs = [.ref k, .ref a] ∧ DeskAt K CK CD H k doc ∧ SqL K H a (vI t) ∧ t.length ≤ 17000 ∧ doc.table.length + t.length < 1000000 ∧ doc.row.length + t.length < 10000000 ∧ Gives K CK CD k doc (.join (nat t)) H Q
theorem mt_join {k : Nat} (G : Glob mg) (TK : CT K CK fDesk) (TR : CT K CR fRd) (c_read_text : C8.Cal P w K mg base 10 "read_text" (sp_read_text K CD CR) []) (c_joined : C8.Cal P w K mg base 3 "joined" (sp_joined K CD) []) (D : StandsM K CK "join" "Desk.join" s_Desk_join) : C8.Met P w K mg base (k + 11) CK "join" (sp_join K CK CD) [] := by
  refine met_of D sc_Desk_join (fun vs H Q E h => ?_) (fun _ _ _ _ _ _ us hl => match us, hl with | [_, _], _ => rfl) (fun f cdv A outer s H vs Q E hr h => ?_)
  · obtain ⟨k, a, t, doc, rfl, _⟩ := h
    rfl
  · obtain ⟨kk, a, t, doc, rfl, hK, hA, hlen, l1, l2, q⟩ := h
    refine ⟨_, (pss_cons (ps_set (i := 2) sc_Desk_join.nd rfl (Or.inl rfl) (C8.pe_c c_read_text hr (by omega) (by rfl) (pa_cons (pv 1) pa_nil)))
      (pss_cons (ps_if (pt_cmpR op_eq (pe_fld (pv 2) rfl) (pe_gv G.c_FINE) (nomark _))
      (pss_one (ps_fld (pv 0) (C8.pe_c c_joined hr (by omega) (by rfl) (pa_cons (pe_fld (pv 0) rfl) (pa_cons (pe_fld (pv 2) rfl) pa_nil))) rfl))
      pss_nil)
      (pss_one (ps_ret (pe_lst (pa_cons (pe_fld (pv 2) rfl) (pa_cons (pe_fld (pv 2) rfl) pa_nil))))))), ?_⟩
    refine ⟨_, rfl, a, t, rfl, hA, hlen, fun i j he H1 r dr d aw s1 hr1 => ?_, fun doc' he H1 r dr d ta ra aw s1 hr1 hd1 ht1 hrow1 nr nd nta nra => ?_⟩
    · have hst : Vatrkd.step ⟨doc⟩ (.join (nat t)) = (⟨doc⟩, .told [i, j]) := by
        show Vatrkd.taken ⟨doc⟩ _ (Vatrkd.readDoc (nat t)) = _
        rw [he]
        rfl
      have hj := read_pos he
      unfold Gives at q
      rw [hst] at q
      refine ⟨_, rfl, r, CR, dr, _, _, rfl, hr1, TR.cl, TR.no _ (by simp), lkR3, rfl, _, rfl, ite2 (fun g => ?_) (fun g => ?_)⟩
      · exact absurd (by have := eq_dec g; omega) hj
      · refine ⟨_, rfl, r, CR, dr, _, _, rfl, hr1, TR.cl, TR.no _ (by simp), lkR2, _, rfl, r, CR, dr, _, _, rfl, hr1, TR.cl, TR.no _ (by simp), lkR3, by show 2 ≤ sizeLine; decide, fun p np => ?_⟩
        exact q _ p (fun b o h _ => same_upd np _ _ (s1 _ _ h)) (hK.keepN (s1.trans (same_upd np))) upd_same (none_back s1 np)
    · have hst : Vatrkd.step ⟨doc⟩ (.join (nat t)) = (⟨Vatrkd.joined doc doc'⟩, .told [0, 0]) := by
        show Vatrkd.taken ⟨doc⟩ _ (Vatrkd.readDoc (nat t)) = _
        rw [he]
        rfl
      unfold Gives at q
      rw [hst] at q
      obtain ⟨ok', m1, m2, _⟩ := read_ok hlen he
      obtain ⟨dk, d0, ta0, ra0, k1, hd0, ht0, hrow0⟩ := hK
      have k1' := s1 _ _ k1
      have hrk : r ≠ kk := fun z => by rw [← z] at k1; rw [nr] at k1; cases k1
      obtain ⟨dd0, hd0⟩ := hd0
      refine ⟨_, rfl, r, CR, dr, _, _, rfl, hr1, TR.cl, TR.no _ (by simp), lkR3, rfl, _, rfl, ite2 (fun g => ?_) (fun g => ?_)⟩
      · refine ⟨_, rfl, kk, CK, dk, _, _, rfl, k1', TK.cl, TK.no _ (by simp), lkK, _, rfl, r, CR, dr, _, _, rfl, hr1, TR.cl, TR.no _ (by simp), lkR0, d0, ta0, ra0, d, ta, ra, doc, doc', rfl, ⟨dd0, s1 _ _ hd0⟩, ht0.same s1, hrow0.same s1, hd1, ht1, hrow1, ok'.row, by omega, by omega, fun H2 e de te re s2 nte he2 ht2 hr2 => ?_⟩
        have k2 := s2 _ _ k1'
        obtain ⟨g1, g2⟩ := desk_set (H0 := H) k2 ⟨de, he2⟩ ht2 hr2 (.inl (none_back s1 nte))
        refine ⟨_, rfl, kk, CK, dk, _, rfl, k2, TK.cl, TK.no _ (by simp), (by show 1 < 1000; decide), ?_⟩
        rw [putK]
        have hr3 := g2 _ _ (s2 _ _ hr1) hrk
        refine ⟨_, rfl, r, CR, dr, _, _, rfl, hr3, TR.cl, TR.no _ (by simp), lkR2, _, rfl, r, CR, dr, _, _, rfl, hr3, TR.cl, TR.no _ (by simp), lkR3, by show 2 ≤ sizeLine; decide, fun p np => ?_⟩
        refine q _ p (fun b o h n => same_upd np _ _ (g2 _ _ (s2 _ _ (s1 _ _ h)) n)) (g1.same (same_upd np)) upd_same ?_
        cases z : H p with
        | none => rfl
        | some o =>
          by_cases e : p = kk
          · rw [e, upd_same] at np; cases np
          · rw [g2 _ _ (s2 _ _ (s1 _ _ z)) e] at np; cases np
      · exact absurd (decide_eq_true rfl) g
end
end Td
set_option maxRecDepth 100000
set_option maxHeartbeats 4000000
namespace Td
open PySem PySem.Spec PyProof.Rows L2
open Vatrka (Piece Pending Change)
/-! ### a text that was read has no number below 0 -/
theorem lin_mem : ∀ (t : List Int) (z : Int), z ∈ t → z = 10 ∨ ∃ x ∈ linI t, z ∈ x.1
  | [], _, h => by cases h
  | c :: r, z, h => by
    rw [linI]
    by_cases hc : c = 10
    · rw [if_pos hc]
      rcases List.mem_cons.mp h with rfl | h
      · exact .inl hc
      · rcases lin_mem r z h with h | ⟨x, h1, h2⟩
        · exact .inl h
        · exact .inr ⟨x, List.mem_cons_of_mem _ h1, h2⟩
    · rw [if_neg hc]
      cases e : linI r with
      | nil =>
        have := lin_nil.mp e
        subst this
        rcases List.mem_cons.mp h with rfl | h
        · exact .inr ⟨_, List.mem_cons_self, List.mem_cons_self⟩
        · cases h
      | cons y ls =>
        rcases List.mem_cons.mp h with rfl | h
        · exact .inr ⟨_, List.mem_cons_self, List.mem_cons_self⟩
        · rcases lin_mem r z h with h | ⟨x, h1, h2⟩
          · exact .inl h
          · rw [e] at h1
            rcases List.mem_cons.mp h1 with rfl | h1
            · exact .inr ⟨_, List.mem_cons_self, List.mem_cons_of_mem _ h2⟩
            · exact .inr ⟨x, List.mem_cons_of_mem _ h1, h2⟩
theorem mark_mem : ∀ {ls : List (List Int × Bool)} {x : List Int × Bool}, x ∈ ls → ∃ y ∈ mark ls, y.1 = x.1 ∧ y.2.1 = x.2
  | a :: r, x, h => by
    rw [mark]
    rcases List.mem_cons.mp h with rfl | h
    · exact ⟨_, List.mem_cons_self, rfl, rfl⟩
    · obtain ⟨y, h1, h2⟩ := mark_mem h
      exact ⟨y, List.mem_cons_of_mem _ h1, h2⟩
theorem run_sound : ∀ {ls : List (List Int × Bool × Bool)} {st st' : Rd} {i : Nat}, rdRun st i ls = .ok st' → ∀ x ∈ ls, Vatrkd.sound (nat x.1, x.2.1) = true
  | [], _, _, _, _, x, hx => by cases hx
  | y :: r, st, st', i, h, x, hx => by
    rw [rdRun] at h
    cases e : rdStep st (nat y.1, y.2.1) y.2.2 with
    | error f => rw [e] at h; cases h
    | ok st2 =>
      rw [e] at h
      rcases List.mem_cons.mp hx with rfl | hx
      · cases z : Vatrkd.sound (nat x.1, x.2.1) with
        | true => rfl
        | false => rw [rd_unsound z] at e; cases e
      · exact run_sound h x hx
theorem read_nat {t : List Int} {d : Vatrkd.Doc} (h : Vatrkd.readDoc (nat t) = .ok d) : vI t = vN (nat t) := by
  rw [← run_doc] at h
  have key : ∀ z ∈ t, 0 ≤ z := by
    intro z hz
    cases e : rdRun ⟨0, [], []⟩ 1 (mark (linI t)) with
    | error f => rw [e] at h; cases h
    | ok st =>
      rcases lin_mem t z hz with rfl | ⟨x, h1, h2⟩
      · decide
      · obtain ⟨y, y1, y2, y3⟩ := mark_mem h1
        have hs := run_sound e y y1
        unfold Vatrkd.sound at hs
        rw [Bool.and_eq_true] at hs
        have := List.all_eq_true.mp hs.2 z.toNat (List.mem_map.mpr ⟨z, by rw [y2]; exact h2, rfl⟩)
        rw [Bool.and_eq_true, decide_eq_true_eq, decide_eq_true_eq] at this
        omega
  unfold vI vN nat
  rw [List.map_map]
  refine List.map_congr_left fun z hz => ?_
  have := key z hz
  show V.int z = V.int ((z.toNat : Nat) : Int)
  rw [show ((z.toNat : Nat) : Int) = z by omega]
theorem fla_pos {l t : List Nat} (h : l ≠ t) : ∀ i, 1 ≤ i → 1 ≤ fla i l t := by
  intro i hi
  rw [fla_is l t i h]
  have key : ∀ (a b : List (List Nat × Bool)) (i : Nat), 1 ≤ i → 1 ≤ Vatrkd.firstDiffer i a b := by
    intro a
    induction a with
    | nil => intro b i hi; exact hi
    | cons x r ih =>
      intro b i hi
      cases b with
      | nil => exact hi
      | cons y s =>
        show 1 ≤ (if x = y then Vatrkd.firstDiffer (i + 1) r s else i)
        split
        · exact ih s (i + 1) (by omega)
        · exact hi
  exact key _ _ i hi
section
variable {P : Program} {w : World} {K : PySem.W.Frag} {mg : Str → Option Value} {base : Heap} {CD CR CK : Addr}
def sp_strict (K : PySem.W.Frag) (CK CD : Addr) : Sp := fun vs H Q _ => ∃ (k a : Addr) (t : List Int) (doc : Vatrkd.Doc), vs = [.ref k, .ref a] ∧ DeskAt K CK CD H k doc ∧ SqL K H a (vI t) ∧ t.length ≤ 17000 ∧ Gives K CK CD k doc (.strict (nat t)) H Q
theorem mt_strict {k : Nat} (G : Glob mg) (TK : CT K CK fDesk) (TR : CT K CR fRd) (c_read_text : C8.Cal P w K mg base 10 "read_text" (sp_read_text K CD CR) []) (c_one_form : C8.Cal P w K mg base 3 "one_form" (sp_one_form K CD) []) (c_first_line_apart : C8.Cal P w K mg base 1 "first_line_apart" (sp_first_line_apart K) [])
    (D : StandsM K CK "strict" "Desk.strict" s_Desk_strict) : C8.Met P w K mg base (k + 11) CK "strict" (sp_strict K CK CD) [] := by
  refine met_of D sc_Desk_strict (fun vs H Q E h => ?_) (fun _ _ _ _ _ _ us hl => match us, hl with | [_, _], _ => rfl) (fun f cdv A outer s H vs Q E hr h => ?_)
  · obtain ⟨k, a, t, doc, rfl, _⟩ := h
    rfl
  · obtain ⟨kk, a, t, doc, rfl, hK, hA, hlen, q⟩ := h
    refine ⟨_, (pss_cons (ps_set (i := 2) sc_Desk_strict.nd rfl (Or.inl rfl) (C8.pe_c c_read_text hr (by omega) (by rfl) (pa_cons (pv 1) pa_nil)))
      (pss_cons (ps_if (pt_cmpR op_ne (pe_fld (pv 2) rfl) (pe_gv G.c_FINE) (nomark _))
      (pss_one (ps_ret (pe_lst (pa_cons (pe_fld (pv 2) rfl) (pa_cons (pe_fld (pv 2) rfl) pa_nil)))))
      pss_nil)
      (pss_cons (ps_set (i := 3) sc_Desk_strict.nd rfl (Or.inl rfl) (C8.pe_c c_first_line_apart hr (by omega) (by rfl) (pa_cons (pv 1) (pa_cons (C8.pe_c c_one_form hr (by omega) (by rfl) (pa_cons (pe_fld (pv 2) rfl) pa_nil)) pa_nil))))
      (pss_cons (ps_if (pt_cmpR op_gt (pv 3) pe_int (nomark _))
      (pss_one (ps_ret (pe_lst (pa_cons (pv 3) (pa_cons (pe_gv G.c_NOT_THE_ONE_FORM) pa_nil)))))
      pss_nil)
      (pss_cons (ps_fld (pv 0) (pe_fld (pv 2) rfl) rfl)
      (pss_one (ps_ret (pe_lst (pa_cons (pe_fld (pv 2) rfl) (pa_cons (pe_fld (pv 2) rfl) pa_nil)))))))))), ?_⟩
    refine ⟨_, rfl, a, t, rfl, hA, hlen, fun i j he H1 r dr d aw s1 hr1 => ?_, fun doc' he H1 r dr d ta ra aw s1 hr1 hd1 ht1 hrow1 nr nd nta nra => ?_⟩
    · have hst : Vatrkd.step ⟨doc⟩ (.strict (nat t)) = (⟨doc⟩, .told [i, j]) := by
        show Vatrkd.taken ⟨doc⟩ _ (Vatrkd.readStrict (nat t)) = _
        unfold Vatrkd.readStrict
        rw [he]
        rfl
      have hj := read_pos he
      unfold Gives at q
      rw [hst] at q
      refine ⟨_, rfl, r, CR, dr, _, _, rfl, hr1, TR.cl, TR.no _ (by simp), lkR3, rfl, _, rfl, ite2 (fun g => ?_) (fun g => ?_)⟩
      · refine ⟨_, rfl, r, CR, dr, _, _, rfl, hr1, TR.cl, TR.no _ (by simp), lkR2, _, rfl, r, CR, dr, _, _, rfl, hr1, TR.cl, TR.no _ (by simp), lkR3, by show 2 ≤ sizeLine; decide, fun p np => ?_⟩
        exact q _ p (fun b o h _ => same_upd np _ _ (s1 _ _ h)) (hK.keepN (s1.trans (same_upd np))) upd_same (none_back s1 np)
      · exact absurd (by rw [decide_eq_false fun z => hj (by have := V.int.inj z; omega)]; rfl) g
    · obtain ⟨ok', m1, m2, m3⟩ := read_ok hlen he
      rw [read_nat he] at hA
      obtain ⟨dk, d0, ta0, ra0, k1, hrest⟩ := hK
      have hK0 : DeskAt K CK CD H kk doc := ⟨dk, d0, ta0, ra0, k1, hrest⟩
      have hrk : r ≠ kk := fun z => by rw [← z] at k1; rw [nr] at k1; cases k1
      refine ⟨_, rfl, r, CR, dr, _, _, rfl, hr1, TR.cl, TR.no _ (by simp), lkR3, rfl, _, rfl, ite2 (fun g => ?_) (fun g => ?_)⟩
      · exact absurd g (by rw [decide_eq_true rfl]; decide)
      refine ⟨_, rfl, _, rfl, r, CR, dr, _, _, rfl, hr1, TR.cl, TR.no _ (by simp), lkR0, d, ta, ra, doc', rfl, hd1, ht1, hrow1, ok', m3, fun H2 fp s2 nf hf => ?_⟩
      refine ⟨a, fp, nat t, Vatrkd.form doc', rfl, (s1.trans s2).seq hA, SqL.of hf, fun H3 s3 => ?_⟩
      have s13 := (s1.trans s2).trans s3
      have s23 := s2.trans s3
      have hr3 := s23 _ _ hr1
      by_cases heq : nat t = Vatrkd.form doc'
      · have hst : Vatrkd.step ⟨doc⟩ (.strict (nat t)) = (⟨doc'⟩, .told [0, 0]) := by
          show Vatrkd.taken ⟨doc⟩ _ (Vatrkd.readStrict (nat t)) = _
          unfold Vatrkd.readStrict
          rw [he]
          dsimp only
          rw [if_pos heq]
          rfl
        unfold Gives at q
        rw [hst] at q
        rw [← heq, fla_same]
        have k3 := s13 _ _ k1
        obtain ⟨dd1, hd1⟩ := hd1
        obtain ⟨g1, g2⟩ := desk_set (H0 := H) k3 ⟨dd1, s23 _ _ hd1⟩ (ht1.same s23) (hrow1.same s23) (.inl nta)
        refine ⟨_, rfl, _, _, rfl, rfl, _, rfl, ite2 (fun g => ?_) (fun g => ?_)⟩
        · exact absurd g (by decide)
        refine ⟨_, rfl, r, CR, dr, _, _, rfl, hr3, TR.cl, TR.no _ (by simp), lkR0, _, rfl, kk, CK, dk, _, rfl, k3, TK.cl, TK.no _ (by simp), (by show 1 < 1000; decide), ?_⟩
        rw [putK]
        have hr4 := g2 _ _ hr3 hrk
        refine ⟨_, rfl, r, CR, dr, _, _, rfl, hr4, TR.cl, TR.no _ (by simp), lkR2, _, rfl, r, CR, dr, _, _, rfl, hr4, TR.cl, TR.no _ (by simp), lkR3, by show 2 ≤ sizeLine; decide, fun p np => ?_⟩
        refine q _ p (fun b o h n => same_upd np _ _ (g2 _ _ (s13 _ _ h) n)) (g1.same (same_upd np)) upd_same ?_
        cases z : H p with
        | none => rfl
        | some o =>
          by_cases e : p = kk
          · rw [e, upd_same] at np; cases np
          · rw [g2 _ _ (s13 _ _ z) e] at np; cases np
      · have hst : Vatrkd.step ⟨doc⟩ (.strict (nat t)) = (⟨doc⟩, .told [fla 1 (nat t) (Vatrkd.form doc'), 8]) := by
          show Vatrkd.taken ⟨doc⟩ _ (Vatrkd.readStrict (nat t)) = _
          unfold Vatrkd.readStrict
          rw [he]
          dsimp only
          rw [if_neg heq, ← fla_is _ _ _ heq]
          rfl
        unfold Gives at q
        rw [hst] at q
        have hpos := fla_pos heq 1 (by decide)
        refine ⟨_, rfl, _, _, rfl, rfl, _, rfl, ite2 (fun g => ?_) (fun g => ?_)⟩
        · refine ⟨_, rfl, by show 2 ≤ sizeLine; decide, fun p np => ?_⟩
          exact q _ p (fun b o h _ => same_upd np _ _ (s13 _ _ h)) (hK0.keepN (s13.trans (same_upd np))) upd_same (none_back s13 np)
        · exact absurd (decide_eq_true (by omega)) g
end
end Td
set_option maxRecDepth 100000
set_option maxHeartbeats 4000000
namespace Td
open PySem PySem.Spec PyProof.Rows L2
open Vatrka (Piece Pending Change)
open Vatrkd (paragraphsOf)
theorem ends_sign : ∀ (row : List Piece) (k i : Nat), i ∈ endsF k row → k ≤ i ∧ ∃ x, row[i - k]? = some x ∧ x.sign = 10
  | [], _, _, h => by cases h
  | x :: r, k, i, h => by
    rw [endsF] at h
    have key : i ∈ endsF (k + 1) r → k ≤ i ∧ ∃ y, (x :: r)[i - k]? = some y ∧ y.sign = 10 := fun h => by
      obtain ⟨h1, y, h2, h3⟩ := ends_sign r (k + 1) i h
      refine ⟨by omega, y, ?_, h3⟩
      rw [show i - k = (i - (k + 1)) + 1 by omega, List.getElem?_cons_succ]
      exact h2
    split at h
    · rename_i hs
      rcases List.mem_cons.mp h with rfl | h
      · exact ⟨Nat.le_refl _, x, by rw [Nat.sub_self]; rfl, hs⟩
      · exact key h
    · exact key h
/-- what part makes of a row -/
theorem part_row {row : List Piece} (he : ∃ i x, row = i ++ [x] ∧ x.sign = 10) {i j : Nat} (h1 : i < j) (h2 : j ≤ (paragraphsOf row).length) :
    ∃ last x, (endsF 0 row)[j - 1]? = some last ∧ row[last]? = some x ∧ x.sign = 10 ∧ (i = 0 → parLen row i = 0) ∧ (0 < i → ∃ e, (endsF 0 row)[i - 1]? = some e ∧ parLen row i = e + 1) ∧ parLen row i ≤ last ∧
      (((paragraphsOf row).take j).drop i).flatMap (fun p => p) = (row.drop (parLen row i)).take (last + 1 - parLen row i) ∧ ((((paragraphsOf row).take j).drop i).flatMap fun p => p).getLast? = some x := by
  obtain ⟨n1, n2⟩ := ends_pars row 0 (.inr he)
  obtain ⟨a1, a2⟩ := n2 (j - 1) (by omega)
  rw [show j - 1 + 1 = j by omega] at a1 a2
  rw [Nat.zero_add] at a1
  obtain ⟨_, x, b1, b2⟩ := ends_sign row 0 _ (List.mem_of_getElem? a1)
  rw [Nat.sub_zero] at b1
  have hpl : ∀ a b, a ≤ b → parLen row a ≤ parLen row b := fun a b hab => by
    unfold parLen
    rw [show (paragraphsOf row).take a = ((paragraphsOf row).take b).take a by rw [List.take_take, Nat.min_eq_left hab]]
    conv => rhs; rw [← List.take_append_drop a ((paragraphsOf row).take b), List.flatMap_append, List.length_append]
    exact Nat.le_add_right _ _
  -- each paragraph has a piece
  have hlt : parLen row i < parLen row j := by
    have hi : parLen row i ≤ parLen row (j - 1) := hpl i (j - 1) (by omega)
    cases hj : j - 1 with
    | zero =>
      have : parLen row (j - 1) = 0 := by rw [hj]; rfl
      omega
    | succ m =>
      have e1 := (n2 m (by omega)).1
      have e2 := a1
      rw [hj] at e2
      -- the places of the ends rise
      have hmono : ∀ (row : List Piece) (k m a b : Nat), (endsF k row)[m]? = some a → (endsF k row)[m + 1]? = some b → a < b := by
        intro row
        induction row with
        | nil => intro k m a b h; cases h
        | cons y r ih =>
          intro k m a b h h'
          rw [endsF] at h h'
          split at h
          · rename_i hs
            rw [if_pos hs] at h'
            cases m with
            | zero =>
              rw [List.getElem?_cons_zero] at h
              rw [List.getElem?_cons_succ] at h'
              obtain rfl := Option.some.inj h
              have := (ends_sign r (k + 1) b (List.mem_of_getElem? h')).1
              omega
            | succ m =>
              rw [List.getElem?_cons_succ] at h h'
              exact ih (k + 1) m a b h h'
          · rename_i hs
            rw [if_neg hs] at h'
            exact ih (k + 1) m a b h h'
      have := hmono row 0 m _ _ e1 e2
      rw [show m + 1 = j - 1 by omega] at this
      have hp1 := (n2 m (by omega)).2
      rw [show m + 1 = j - 1 by omega] at hp1
      omega
  have hrl : parLen row j - 1 < row.length := (List.getElem?_eq_some_iff.mp b1).1
  refine ⟨parLen row j - 1, x, a1, b1, b2, fun z => by rw [z]; rfl, fun hi => ?_, by omega, ?_, ?_⟩
  · obtain ⟨c1, c2⟩ := n2 (i - 1) (by omega)
    rw [show i - 1 + 1 = i by omega] at c1 c2
    rw [Nat.zero_add] at c1
    exact ⟨_, c1, by omega⟩
  · rw [pars_part row (by omega), List.drop_take, show parLen row j - 1 + 1 = parLen row j by omega]
  · rw [pars_part row (by omega), List.getLast?_drop, List.length_take, Nat.min_eq_left (by omega), if_neg (by omega), List.getLast?_take, if_neg (by omega), b1]
    rfl
theorem part_ok {d : Vatrkd.Doc} (h : DocOk d) {r : List Piece} {x : Piece} (hs : ∀ y ∈ r, y ∈ d.row) (hl : r.length ≤ d.row.length) (hx : r.getLast? = some x) (h10 : x.sign = 10) (hc : Vatrkd.endsClean r = true) : DocOk { d with row := r } := by
  refine ⟨h.tb, fun y hy => h.row y (hs y hy), ?_, h.tl, Nat.lt_of_le_of_lt hl h.rl⟩
  rw [ends_clean hx] at hc
  unfold putCut at hc
  rw [Bool.not_not, Bool.and_eq_true, List.isEmpty_iff, List.isEmpty_iff] at hc
  have hne : r ≠ [] := fun z => by rw [z] at hx; cases hx
  refine ⟨r.dropLast, x, ?_, h10, hc⟩
  rw [List.getLast?_eq_some_getLast hne] at hx
  rw [← Option.some.inj hx]
  exact (List.dropLast_concat_getLast hne).symm
end Td
set_option maxRecDepth 100000
set_option maxHeartbeats 4000000
namespace Td
open PySem PySem.Spec PyProof.Rows L2
open Vatrka (Piece Pending Change)
open Vatrkd (paragraphsOf)
section
variable {P : Program} {w : World} {K : PySem.W.Frag} {mg : Str → Option Value} {base : Heap} {CD CR CK : Addr}
def sp_Desk_init (K : PySem.W.Frag) (CK CD : Addr) : Sp := fun vs H Q _ => ∃ (p dx : Addr), vs = [.ref p] ∧ H p = some (.ins CK dx []) ∧ ∀ H', Kept p H H' → DeskAt K CK CD H' p Vatrkd.emptyDoc → Q .non H'
theorem mk_Desk {k : Nat} (G : Glob mg) (TK : CT K CK fDesk) (c_new_document : C8.Cal P w K mg base 3 "new_document" (sp_new_document K CD) []) (D : StandsC K mg "Desk" "Desk.__init__" s_Desk_init CK) : C8.Mak P w K mg base (k + 4) "Desk" CK (sp_Desk_init K CK CD) [] := by
  refine mak_of D sc_Desk_init (fun vs H Q E h => ?_) (fun _ _ _ _ _ _ us hl => match us, hl with | [_], _ => rfl) (fun f cdv A outer s H vs Q E hr h => ?_)
  · obtain ⟨p, dx, rfl, _⟩ := h
    rfl
  · obtain ⟨p, dx, rfl, hp, q⟩ := h
    refine ⟨_, (pss_one (ps_fld (pv 0) (pe_c0 c_new_document hr (by omega) (by rfl)) rfl)), ?_⟩
    refine ⟨rfl, fun H1 e de te re s1 he ht hrow => ⟨_, rfl, p, CK, dx, [], rfl, s1 _ _ hp, TK.cl, TK.no _ (by simp), (by show 0 < 1000; decide), ?_⟩⟩
    have hp1 := s1 _ _ hp
    have kt : KeepT K H1 (upd H1 p (.ins CK dx (dkF e))) := keepT_upd hp1 (fun _ z => by cases z) (fun _ _ z => by cases z)
    have nl : ∀ {b : Addr} {xs : List V}, H1 b = some (.lst xs) → b ≠ p := fun {b xs} h z => by rw [z, hp1] at h; cases h
    refine q _ (fun b o h n => by rw [upd_ne n]; exact s1 _ _ h) ⟨dx, e, te, re, upd_same, ⟨de, ?_⟩, ht.keep kt fun xs h => by rw [upd_ne (nl h)]; exact h, hrow.keep kt fun xs h => by rw [upd_ne (nl h)]; exact h⟩
    rw [upd_ne fun z => ?_]
    · exact he
    · rw [z, hp1] at he
      obtain ⟨_, _, e2⟩ := HO.ins.inj (Option.some.inj he)
      cases e2
def sp_part (K : PySem.W.Frag) (CK CD : Addr) : Sp := fun vs H Q _ => ∃ (k : Addr) (i j : Int) (doc : Vatrkd.Doc), vs = [.ref k, .int i, .int j] ∧ DeskAt K CK CD H k doc ∧ DocOk doc ∧ Gives K CK CD k doc (.part i j) H Q
theorem mt_part {k : Nat} (G : Glob mg) (TD : CT K CD fDoc) (TK : CT K CK fDesk) (m_Document : C8.Mak P w K mg base 1 "Document" CD (spInit CD fDoc) []) (c_paragraph_ends : C8.Cal P w K mg base 1 "paragraph_ends" (sp_paragraph_ends K) []) (c_is_put_or_cut : C8.Cal P w K mg base 1 "is_put_or_cut" (sp_is_put_or_cut K) [])
    (D : StandsM K CK "part" "Desk.part" s_Desk_part) : C8.Met P w K mg base (k + 4) CK "part" (sp_part K CK CD) [] := by
  refine met_of D sc_Desk_part (fun vs H Q E h => ?_) (fun _ _ _ _ _ _ us hl => match us, hl with | [_, _, _], _ => rfl) (fun f cdv A outer s H vs Q E hr h => ?_)
  · obtain ⟨k, i, j, doc, rfl, _⟩ := h
    rfl
  · obtain ⟨kk, i, j, doc, rfl, hK, hok, q⟩ := h
    have hK0 := hK
    obtain ⟨dk, d, ta, ra, k1, ⟨dd, hd⟩, ht, hrow⟩ := hK
    obtain ⟨li, lx, le1, le2, le3, le4⟩ := hok.last
    have hlast : ∃ i x, doc.row = i ++ [x] ∧ x.sign = 10 := ⟨li, lx, le1, le2⟩
    obtain ⟨n1, n2⟩ := ends_pars doc.row 0 (.inr hlast)
    refine ⟨_, (pss_cons (ps_set (i := 3) sc_Desk_part.nd rfl (Or.inl rfl) (pe_fld (pe_fld (pv 0) rfl) rfl))
      (pss_cons (ps_set (i := 4) sc_Desk_part.nd rfl (Or.inl rfl) (C8.pe_c c_paragraph_ends hr (by omega) (by rfl) (pa_cons (pv 3) pa_nil)))
      (pss_cons (ps_if (pt_not (pt_chain3 op_le op_lt op_le pe_int (pv 1) (pv 2) (pe_callB call_len_seq (by rfl) G.b_len (by decide +kernel) (pa_cons (pv 4) pa_nil))))
      (pss_one (ps_ret (pe_lst (pa_cons (pe_un un_neg pe_int) pa_nil))))
      pss_nil)
      (pss_cons (ps_set (i := 5) sc_Desk_part.nd rfl (Or.inl rfl) (pe_ix ix_list (pv 4) (pe_op op_sub (pv 2) pe_int) (fun _ _ => rfl)))
      (pss_cons (ps_if (pt_val (C8.pe_c c_is_put_or_cut hr (by omega) (by rfl) (pa_cons (pe_ix ix_tup (pe_ix ix_list (pv 3) (pv 5) (fun _ _ => rfl)) (pe_gv G.c_DRESS) (fun _ _ => rfl)) pa_nil)))
      (pss_one (ps_ret (pe_lst (pa_cons (pe_un un_neg pe_int) pa_nil))))
      pss_nil)
      (pss_cons (ps_set (i := 6) sc_Desk_part.nd rfl (Or.inl rfl) (pe_ifExp (pt_cmpR op_gt (pv 1) pe_int (nomark _)) (pe_op op_add (pe_ix ix_list (pv 4) (pe_op op_sub (pv 1) pe_int) (fun _ _ => rfl)) pe_int) pe_int))
      (pss_cons (ps_set (i := 7) sc_Desk_part.nd rfl (Or.inl rfl) (pe_slice sl_list (pv 3) (po_some (pv 6)) (po_some (pe_op op_add (pv 5) pe_int))))
      (pss_cons (ps_fld (pv 0) (C8.pe_mk m_Document hr (by omega) (by rfl) (pa_cons (pe_fld (pe_fld (pv 0) rfl) rfl) (pa_cons (pv 7) pa_nil))) rfl)
      (pss_one (ps_ret (pe_lst (pa_cons (pe_op op_sub (pe_callB call_len_seq (by rfl) G.b_len (by decide +kernel) (pa_cons (pv 3) pa_nil)) (pe_callB call_len_seq (by rfl) G.b_len (by decide +kernel) (pa_cons (pv 7) pa_nil))) pa_nil)))))))))))), ?_⟩
    refine ⟨_, rfl, kk, CK, dk, _, _, rfl, k1, TK.cl, TK.no _ (by simp), lkK, d, CD, dd, _, _, rfl, hd, TD.cl, TD.no _ (by simp), lkD1, ?_⟩
    refine ⟨_, rfl, ra, doc.row, rfl, hrow, hok.rl, fun H1 ea s1 ne he => ?_⟩
    have hst : Vatrkd.step ⟨doc⟩ (.part i j) = Vatrkd.stepPart ⟨doc⟩ i j := rfl
    unfold Gives at q
    rw [hst] at q
    unfold Vatrkd.stepPart at q
    dsimp only at q
    have bad1 : ¬ (0 ≤ i ∧ i < j ∧ j ≤ ((paragraphsOf doc.row).length : Int)) → ∀ p, H1 p = none → Q (.ref p) (upd H1 p (.lst [.int (-1)])) := fun z p np => by
      have hb : (decide (0 ≤ i) && (decide (i < j) && decide (j ≤ ((paragraphsOf doc.row).length : Int)))) = false := by
        rw [Bool.eq_false_iff]
        intro y
        rw [Bool.and_eq_true, Bool.and_eq_true, decide_eq_true_eq, decide_eq_true_eq, decide_eq_true_eq] at y
        exact z y
      rw [if_pos hb] at q
      exact q _ p (fun b o h _ => same_upd np _ _ (s1 _ _ h)) (hK0.keepN (s1.trans (same_upd np))) upd_same (none_back s1 np)
    refine ⟨_, rfl, _, _, rfl, rfl, _, rfl, ite2 (fun g1 => ?_) (fun g1 => ?_)⟩
    · have c1 : 0 ≤ i := of_decide_eq_true g1
      refine ⟨_, rfl, _, _, rfl, rfl, _, rfl, ite2 (fun g2 => ?_) (fun g2 => ?_)⟩
      · have c2 : i < j := of_decide_eq_true g2
        refine ⟨_, rfl, ea, _, rfl, .inl (SqL.of he), _, _, rfl, rfl, _, rfl, ite2 (fun g3 => ?_) (fun g3 => ?_)⟩
        · have c3 : ¬ j ≤ ((endsF 0 doc.row).length : Int) := fun z => by
            rw [vN_len, decide_eq_true z] at g3
            cases g3
          rw [n1] at c3
          exact ⟨_, rfl, by show 1 ≤ sizeLine; decide, fun p np => bad1 (fun z => c3 z.2.2) p np⟩
        · have c3 : j ≤ ((paragraphsOf doc.row).length : Int) := by
            rw [← n1]
            by_cases z : j ≤ ((endsF 0 doc.row).length : Int)
            · exact z
            · refine absurd ?_ g3
              rw [vN_len, decide_eq_false z]
              rfl
          have hb : ¬ (decide (0 ≤ i) && (decide (i < j) && decide (j ≤ ((paragraphsOf doc.row).length : Int)))) = false := by
            rw [decide_eq_true c1, decide_eq_true c2, decide_eq_true c3]
            decide
          rw [if_neg hb] at q
          obtain ⟨last, x, p1, p2, p3, p4, p5, p6, p7, p8⟩ := part_row hlast (i := i.toNat) (j := j.toNat) (by omega) (by omega)
          rw [p7] at q p8
          have hll : last < doc.row.length := (List.getElem?_eq_some_iff.mp p2).1
          obtain ⟨bs, r1, r2⟩ := hrow.same s1
          have hbl : bs.length = doc.row.length := Paired.length r2
          obtain ⟨xa, hxa, hxd⟩ := paired_get2 r2 p2
          obtain ⟨dr, x1, x2⟩ := piece_at hxd
          have hatl : atI (vN (endsF 0 doc.row)) (j - 1) = some (.int (last : Int)) := by
            rw [show j - 1 = ((j.toNat - 1 : Nat) : Int) by omega]
            exact atI_nat (by rw [vN_get, p1]; rfl)
          refine ⟨_, rfl, _, rfl, _, _, rfl, rfl, ea, _, _, _, rfl, rfl, SqL.of he, hatl, ?_⟩
          refine ⟨_, rfl, _, rfl, ra, _, _, _, rfl, rfl, SqL.of r1, atI_nat (by rw [List.getElem?_map, hxa]; rfl), xa, _, _, _, rfl, rfl, x1, at_of (j := 1) rfl rfl, dr, x, rfl, x2, _, rfl, ?_⟩
          have hcl := ends_clean p8
          cases hpc : putCut x with
          | true =>
            rw [hpc] at hcl
            rw [if_pos (by rw [hcl]; rfl)] at q
            refine ⟨_, rfl, by show 1 ≤ sizeLine; decide, fun p np => ?_⟩
            exact q _ p (fun b o h _ => same_upd np _ _ (s1 _ _ h)) (hK0.keepN (s1.trans (same_upd np))) upd_same (none_back s1 np)
          | false =>
            rw [hpc] at hcl
            rw [if_neg (by rw [hcl]; decide)] at q
            -- kept = row[start:last + 1] and what follows
            have fin : ∀ Dn : Ends, Dn.rt = Q → ∀ e1 e2 e3 : Option V, tSeq (tAsg (tSl (rSlL K) (tVar 3) (tPart (tVar 6)) (tPart (tOp (rI0 fun i j => .int (i + j)) (tVar 5) (tC (.int 1))))) (gName 7))
                (tSeq (sFld K (tVar 0) (tMake CD (spInit CD fDoc) [] C8.E0 (tCons (tFld K (tFld K (tVar 0) "document") "table") (tCons (tVar 7) tNil))) "document")
                  (tRet (tLst (tCons (tOp (rI0 fun i j => .int (i - j)) (tCB (fun xs H Q => ∃ p ys, xs = [V.ref p] ∧ (SqL K H p ys ∨ SqT K H p ys) ∧ Q (.int ys.length) H) (tCons (tVar 3) tNil)) (tCB (fun xs H Q => ∃ p ys, xs = [V.ref p] ∧ (SqL K H p ys ∨ SqT K H p ys) ∧ Q (.int ys.length) H) (tCons (tVar 7) tNil))) tNil)))) Dn
                [some (.ref kk), some (.int i), some (.int j), some (.ref ra), some (.ref ea), some (.int (last : Int)), some (.int ((parLen doc.row i.toNat : Nat) : Int)), none] H1 := by
              intro Dn hDn _ _ _
              refine ⟨_, rfl, _, rfl, _, rfl, _, rfl, _, _, rfl, rfl, _, rfl, ra, _, rfl, SqL.of r1, fun kp nkp => ?_⟩
              rw [show (last : Int) + 1 = ((last + 1 : Nat) : Int) from rfl, cut_nat (by rw [List.length_map]; omega) (by rw [List.length_map]; omega), ← List.map_drop, ← List.map_take]
              generalize hcs : (bs.drop (parLen doc.row i.toNat)).take (last + 1 - parLen doc.row i.toNat) = cs at nkp
              generalize hrr : (doc.row.drop (parLen doc.row i.toNat)).take (last + 1 - parLen doc.row i.toNat) = rr at q p8 hcl
              have hpr : ∀ {α β : Type} {F : α → β → Prop} {as : List α} {bs : List β} (n m : Nat), Paired F as bs → Paired F ((as.drop n).take m) ((bs.drop n).take m) := by
                intro α β F as bs n m h
                induction h generalizing n m with
                | nil => rw [List.drop_nil, List.drop_nil, List.take_nil, List.take_nil]; exact .nil
                | cons r t ih =>
                  cases n with
                  | zero =>
                    cases m with
                    | zero => exact .nil
                    | succ m => exact .cons r (ih 0 m)
                  | succ n => exact ih n m
              have hcr : Paired (fun b x => Dp K H1 (.ref b) (pieceD x)) cs rr := by
                rw [← hcs, ← hrr]
                exact hpr _ _ r2
              have hcl' : cs.length = rr.length := Paired.length hcr
              have m1 := same_upd (o := .lst (cs.map V.ref)) nkp
              have hk1 := m1 _ _ (s1 _ _ k1)
              have hd1 := m1 _ _ (s1 _ _ hd)
              refine ⟨_, rfl, kk, CK, dk, _, _, rfl, hk1, TK.cl, TK.no _ (by simp), lkK, d, CD, dd, _, _, rfl, hd1, TD.cl, TD.no _ (by simp), lkD0, _, rfl, fun nx dx n3 n4 n5 => ⟨nx, dx, [_, _], rfl, rfl, upd_same, rfl, ?_⟩⟩
              rw [upd_upd]
              have m2 := made_same (C := CD) (fs := fDoc.zip [.ref ta, .ref kp]) n3 n4
              have m12 := m1.trans m2
              have sA := s1.trans m12
              obtain ⟨g1, g2⟩ := desk_set (H0 := H) (CD := CD) (doc := { doc with row := rr }) (m2 _ _ hk1) ⟨dx, made_at⟩ (ht.same sA) ⟨cs, m2 _ _ upd_same, Paired.mapP hcr fun b x z => dp_same m12 _ _ z⟩ (.inr ⟨dk, d, dd, ra, k1, hd⟩)
              refine ⟨_, rfl, kk, CK, dk, _, rfl, m2 _ _ hk1, TK.cl, TK.no _ (by simp), (by show 1 < 1000; decide), ?_⟩
              rw [putK]
              have nl : ∀ {b : Addr} {xs : List V}, (made (upd H1 kp (.lst (cs.map V.ref))) nx dx CD (fDoc.zip [.ref ta, .ref kp])) b = some (.lst xs) → b ≠ kk := fun {b xs} h z => by
                rw [z] at h
                rw [m2 _ _ hk1] at h
                cases h
              have hra := m12 _ _ r1
              have hkp := m2 _ _ (upd_same (H := H1) (a := kp) (o := .lst (cs.map V.ref)))
              refine ⟨_, rfl, ra, _, rfl, .inl (SqL.of (g2 _ _ hra (nl hra))), _, rfl, kp, _, rfl, .inl (SqL.of (g2 _ _ hkp (nl hkp))), _, _, rfl, rfl, by show 1 ≤ sizeLine; decide, fun p np => ?_⟩
              rw [hDn]
              refine q _ p (fun b o h n => same_upd np _ _ (g2 _ _ (sA _ _ h) n)) (g1.same (same_upd np)) ?_ ?_
              · rw [upd_same, List.length_map, List.length_map, hbl, hcl']
                have hle : rr.length ≤ doc.row.length := by rw [← hrr, List.length_take, List.length_drop]; omega
                congr 3
                show V.int ((doc.row.length : Int) - (rr.length : Int)) = V.int (Int.ofNat (doc.row.length - rr.length))
                congr 1
                show _ = ((doc.row.length - rr.length : Nat) : Int)
                omega
              · cases z : H p with
                | none => rfl
                | some o =>
                  by_cases e : p = kk
                  · rw [e, upd_same] at np; cases np
                  · exact absurd ((g2 _ _ (sA _ _ z) e).symm.trans np) (fun y => by cases y)
            refine ⟨_, rfl, _, _, rfl, rfl, _, rfl, ite2 (fun g4 => ?_) (fun g4 => ?_)⟩
            · have c4 : 0 < i := of_decide_eq_true g4
              obtain ⟨e, f1, f2⟩ := p5 (by omega)
              have hate : atI (vN (endsF 0 doc.row)) (i - 1) = some (.int (e : Int)) := by
                rw [show i - 1 = ((i.toNat - 1 : Nat) : Int) by omega]
                exact atI_nat (by rw [vN_get, f1]; rfl)
              refine ⟨_, rfl, _, rfl, _, _, rfl, rfl, ea, _, _, _, rfl, rfl, SqL.of he, hate, _, _, rfl, rfl, ?_⟩
              have f3 : ((parLen doc.row i.toNat : Nat) : Int) = (e : Int) + 1 := by omega
              have fin' := fin
              rw [f3] at fin'
              exact fin' _ rfl none none none
            · have c4 : i = 0 := by have := ge_dec g4; omega
              have f2 := p4 (by omega)
              have := fin
              rw [f2] at this
              exact this _ rfl none none none
      · have c2 : ¬ i < j := fun z => g2 (decide_eq_true z)
        exact ⟨_, rfl, _, rfl, by show 1 ≤ sizeLine; decide, fun p np => bad1 (fun z => c2 z.2.1) p np⟩
    · have c1 : ¬ 0 ≤ i := fun z => g1 (decide_eq_true z)
      exact ⟨_, rfl, _, rfl, by show 1 ≤ sizeLine; decide, fun p np => bad1 (fun z => c1 z.1) p np⟩
end
end Td
set_option maxRecDepth 100000
set_option maxHeartbeats 4000000
namespace Td
open PySem PySem.Spec PyProof.Rows L2
open Vatrka (Piece Pending Change toldPiece toldMarks toldPend)
open Vatrkd (paragraphsOf)
/-! ### listings -/
theorem flatMap_snoc {α β : Type} (g : α → List β) {l : List α} {i : Nat} {c : α} (h : l[i]? = some c) : (l.take (i + 1)).flatMap g = (l.take i).flatMap g ++ g c := by
  rw [List.take_add_one, h, List.flatMap_append]
  show _ ++ [c].flatMap g = _
  rw [List.flatMap_cons, List.flatMap_nil, List.append_nil]
theorem flatMap_le {α β : Type} (g : α → List β) (l : List α) (i : Nat) : ((l.take i).flatMap g).length ≤ (l.flatMap g).length := by
  conv => rhs; rw [← List.take_append_drop i l, List.flatMap_append, List.length_append]
  exact Nat.le_add_right _ _
def tabL (c : Change) : List Nat := [c.author, c.time, c.kind]
theorem tabL_len (tb : List Change) : (tb.flatMap tabL).length = 3 * tb.length := by
  induction tb with
  | nil => rfl
  | cons c r ih =>
    rw [List.flatMap_cons, List.length_append, ih, List.length_cons]
    show 3 + _ = _
    omega
section
variable {P : Program} {w : World} {K : PySem.W.Frag} {mg : Str → Option Value} {base : Heap} {CD : Addr}
def sp_listed_table (K : PySem.W.Frag) : Sp := fun vs H Q _ => ∃ (a : Addr) (tb : List Change), vs = [.ref a] ∧ TabAt K H a tb ∧ tb.length < 1000000 ∧ ∀ H' p, Same H H' → H p = none → H' p = some (.lst (.int (tb.length : Int) :: vN (tb.flatMap tabL))) → Q (.ref p) H'
theorem ok_listed_table {k : Nat} (G : Glob mg) (D : Stands K mg "listed_table" s_listed_table) : C8.Cal P w K mg base (k + 1) "listed_table" (sp_listed_table K) [] := by
  refine cal_of D sc_listed_table (fun vs H Q E h => ?_) (fun _ _ _ _ _ _ us hl => match us, hl with | [_], _ => rfl) (fun f cdv A outer s H vs Q E hr h => ?_)
  · obtain ⟨a, tb, rfl, _⟩ := h
    rfl
  · obtain ⟨a, tb, rfl, ⟨cs, t1, t2⟩, hlen, q⟩ := h
    refine ⟨_, (pss_cons (ps_set (i := 1) sc_listed_table.nd rfl (Or.inl rfl) (pe_lst (pa_cons (pe_callB call_len_seq (by rfl) G.b_len (by decide +kernel) (pa_cons (pv 0) pa_nil)) pa_nil)))
      (pss_cons (ps_for PassesOwn.never rfl (pi_list (pv 0)) (pg_name (i := 2) sc_listed_table.nd rfl (Or.inl rfl))
      (pss_one (ps_expr (pe_bm PySem.F.plainAttrs_list PySem.F.slot_list_extend PySem.F.type_list_extend mt_extend (pv 1) (pa_cons (pe_lst (pa_cons (pe_ix ix_tup (pv 2) (pe_gv G.c_AUTHOR) (fun _ _ => rfl)) (pa_cons (pe_ix ix_tup (pv 2) (pe_gv G.c_TIME) (fun _ _ => rfl)) (pa_cons (pe_ix ix_tup (pv 2) (pe_gv G.c_KIND) (fun _ _ => rfl)) pa_nil)))) pa_nil)))))
      (pss_one (ps_ret (pv 1))))), ?_⟩
    have lc : cs.length = tb.length := Paired.length t2
    have e9 : (5000000 : Nat) < sizeLine := by decide
    refine ⟨_, rfl, a, _, rfl, .inl (SqL.of t1), by show 1 ≤ sizeLine; decide, fun p np => ?_⟩
    rw [List.length_map, lc]
    have s0 := same_upd (o := .lst [.int (tb.length : Int)]) np
    refine ⟨_, rfl, a, rfl, ⟨_, SqL.of (s0 _ _ t1)⟩, for_list (xs := cs.map V.ref) (fun i σ H1 => ∃ y : Option V, σ = [some (.ref a), some (.ref p), y] ∧ Same H H1 ∧ H1 p = some (.lst (.int (tb.length : Int) :: vN ((tb.take i).flatMap tabL)))) ⟨none, rfl, s0, upd_same⟩
      (fun i σ H1 _ hP => ?_) (fun i v σ H1 hx hP => ?_) (fun σ H1 hP => ?_)⟩
    · obtain ⟨_, _, s1, _⟩ := hP
      exact SqL.of (s1 _ _ t1)
    · obtain ⟨y, rfl, s1, hp⟩ := hP
      rw [List.getElem?_map] at hx
      obtain ⟨ca, hca, rfl⟩ := Option.map_eq_some_iff.mp hx
      obtain ⟨c, hc, hcd⟩ := paired_get t2 hca
      obtain ⟨ta, c1, c2⟩ := change_at (dp_same s1 _ _ hcd)
      have hil : i < tb.length := (List.getElem?_eq_some_iff.mp hc).1
      refine ⟨_, rfl, .inl ⟨rfl, _, SqL.of hp⟩, _, rfl, ca, _, _, _, rfl, rfl, c1, at_of (j := 0) rfl rfl, _, rfl, ca, _, _, _, rfl, rfl, c1, at_of (j := 1) rfl rfl, _, rfl, ca, _, _, _, rfl, rfl, c1, at_of (j := 2) rfl rfl, by show 3 ≤ sizeLine; decide, fun l nl => ?_⟩
      have m1 := same_upd (o := .lst [.int (c.author : Nat), .int (c.time : Nat), .int (c.kind : Nat)]) nl
      refine ⟨p, l, _, _, rfl, rfl, m1 _ _ hp, upd_same, ?_, _, rfl, same_write np (s1.trans m1), ?_⟩
      · have := tabL_len (tb.take i)
        rw [List.length_take] at this
        rw [List.length_cons, vN_len]
        show _ + 3 ≤ _
        omega
      · rw [upd_same, flatMap_snoc tabL hc, vN_app]
        rfl
    · obtain ⟨y, rfl, s1, hp⟩ := hP
      rw [List.length_map, lc, List.take_length] at hp
      exact ⟨_, rfl, q _ p s1 np hp⟩
/-- how far apart the ends are -/
def lensF : Nat → List Nat → List Nat
  | _, [] => []
  | st, e :: r => (e + 1 - st) :: lensF (e + 1) r
theorem lens_pars : ∀ (row : List Piece) (k st : Nat), st ≤ k → (row = [] ∨ ∃ i x, row = i ++ [x] ∧ x.sign = 10) → lensF st (endsF k row) = (match (paragraphsOf row).map fun p => p.length with
    | [] => []
    | n :: r => (n + (k - st)) :: r)
  | [], k, st, _, _ => rfl
  | x :: r, k, st, hst, he => by
    have he' : r = [] ∨ ∃ i y, r = i ++ [y] ∧ y.sign = 10 := by
      rcases he with he | ⟨i, y, e, h⟩
      · cases he
      · cases i with
        | nil => left; exact (List.cons.inj e).2
        | cons a i => right; exact ⟨i, y, (List.cons.inj e).2, h⟩
    by_cases hs : x.sign = 10
    · have hp : paragraphsOf (x :: r) = [x] :: paragraphsOf r := by rw [paragraphsOf, if_pos (show x.sign = Vatrka.END from hs)]
      rw [endsF, if_pos hs, hp, lensF, lens_pars r (k + 1) (k + 1) (Nat.le_refl _) he', List.map_cons]
      dsimp only
      rw [show k + 1 - st = [x].length + (k - st) by rw [List.length_singleton]; omega]
      congr 1
      cases (paragraphsOf r).map fun p => p.length with
      | nil => rfl
      | cons n t =>
        dsimp only
        rw [Nat.sub_self, Nat.add_zero]
    · have hr : r ≠ [] := by
        intro z
        subst z
        rcases he with he | ⟨i, y, e, h⟩
        · cases he
        · cases i with
          | nil => exact hs (by rw [(List.cons.inj e).1]; exact h)
          | cons a i => have := congrArg List.length e; simp at this
      rw [endsF, if_neg hs, lens_pars r (k + 1) st (by omega) he']
      cases e : paragraphsOf r with
      | nil => exact absurd (pars_nil e) hr
      | cons p ps =>
        have hp : paragraphsOf (x :: r) = (x :: p) :: ps := by rw [paragraphsOf, if_neg (show ¬ x.sign = Vatrka.END from hs), e]
        rw [hp, List.map_cons, List.map_cons]
        dsimp only
        rw [List.length_cons, show p.length + (k + 1 - st) = p.length + 1 + (k - st) by omega]
theorem lens_row {row : List Piece} (h : row = [] ∨ ∃ i x, row = i ++ [x] ∧ x.sign = 10) : lensF 0 (endsF 0 row) = (paragraphsOf row).map fun p => p.length := by
  rw [lens_pars row 0 0 (Nat.le_refl _) h]
  cases (paragraphsOf row).map fun p => p.length with
  | nil => rfl
  | cons n t => rfl
theorem ends_step : ∀ (row : List Piece) (k : Nat) (i e : Nat), (endsF k row)[i]? = some e → k ≤ e
  | [], k, i, e, h => by cases h
  | x :: r, k, i, e, h => by
    rw [endsF] at h
    split at h
    · cases i with
      | zero => rw [List.getElem?_cons_zero] at h; exact Nat.le_of_eq (Option.some.inj h)
      | succ i => rw [List.getElem?_cons_succ] at h; have := ends_step r (k + 1) i e h; omega
    · have := ends_step r (k + 1) i e h
      omega
theorem ends_up : ∀ (row : List Piece) (k : Nat) (i e e' : Nat), (endsF k row)[i]? = some e → (endsF k row)[i + 1]? = some e' → e < e'
  | [], k, i, e, e', h, _ => by cases h
  | x :: r, k, i, e, e', h, h' => by
    rw [endsF] at h h'
    split at h
    · rename_i hs
      rw [if_pos hs] at h'
      rw [List.getElem?_cons_succ] at h'
      cases i with
      | zero =>
        rw [List.getElem?_cons_zero] at h
        obtain rfl := Option.some.inj h
        have := ends_step r (k + 1) 0 e' h'
        omega
      | succ i =>
        rw [List.getElem?_cons_succ] at h
        exact ends_up r (k + 1) i e e' h h'
    · rename_i hs
      rw [if_neg hs] at h'
      exact ends_up r (k + 1) i e e' h h'
def sp_listed_paragraphs (K : PySem.W.Frag) : Sp := fun vs H Q _ => ∃ (a : Addr) (row : List Piece), vs = [.ref a] ∧ RowAt K H a row ∧ row.length < 10000000 ∧ (row = [] ∨ ∃ i x, row = i ++ [x] ∧ x.sign = 10) ∧ ∀ H' p, Same H H' → H p = none → H' p = some (.lst (.int ((paragraphsOf row).length : Int) :: vN ((paragraphsOf row).map fun p => p.length))) → Q (.ref p) H'
theorem ok_listed_paragraphs {k : Nat} (G : Glob mg) (c_paragraph_ends : C8.Cal P w K mg base 1 "paragraph_ends" (sp_paragraph_ends K) []) (c_counted : C8.Cal P w K mg base 1 "counted" (sp_counted K) []) (D : Stands K mg "listed_paragraphs" s_listed_paragraphs) : C8.Cal P w K mg base (k + 2) "listed_paragraphs" (sp_listed_paragraphs K) [] := by
  refine cal_of D sc_listed_paragraphs (fun vs H Q E h => ?_) (fun _ _ _ _ _ _ us hl => match us, hl with | [_], _ => rfl) (fun f cdv A outer s H vs Q E hr h => ?_)
  · obtain ⟨a, row, rfl, _⟩ := h
    rfl
  · obtain ⟨a, row, rfl, hrow, hlen, hend, q⟩ := h
    refine ⟨_, (pss_cons (ps_set (i := 1) sc_listed_paragraphs.nd rfl (Or.inl rfl) (pe_lst pa_nil))
      (pss_cons (ps_set (i := 2) sc_listed_paragraphs.nd rfl (Or.inl rfl) pe_int)
      (pss_cons (ps_for PassesOwn.never rfl (pi_list (C8.pe_c c_paragraph_ends hr (by omega) (by rfl) (pa_cons (pv 0) pa_nil))) (pg_name (i := 3) sc_listed_paragraphs.nd rfl (Or.inl rfl))
      (pss_cons (ps_expr (pe_bm PySem.F.plainAttrs_list PySem.F.slot_list_append PySem.F.type_list_append mt_append (pv 1) (pa_cons (pe_op op_sub (pe_op op_add (pv 3) pe_int) (pv 2)) pa_nil)))
      (pss_one (ps_set (i := 2) sc_listed_paragraphs.nd rfl (Or.inl rfl) (pe_op op_add (pv 3) pe_int)))))
      (pss_one (ps_ret (C8.pe_c c_counted hr (by omega) (by rfl) (pa_cons (pv 1) pa_nil))))))), ?_⟩
    have e9 : (10000001 : Nat) < sizeLine := by decide
    refine ⟨Nat.zero_le _, fun p np => ?_⟩
    have s0 := same_upd (o := .lst []) np
    refine ⟨_, rfl, a, row, rfl, hrow.same s0, hlen, fun H1 ea s1 ne he => ?_⟩
    have s01 := s0.trans s1
    have hel := ends_len row 0
    have hep : ea ≠ p := fun z => by rw [z, upd_same] at ne; cases ne
    generalize hes : endsF 0 row = es at he hel
    have hup : ∀ i e e', es[i]? = some e → es[i + 1]? = some e' → e < e' := by rw [← hes]; exact fun i e e' => ends_up row 0 i e e'
    refine ⟨ea, rfl, ⟨_, SqL.of he⟩, for_list (xs := vN es) (fun i σ H2 => ∃ (st : Nat) (y : Option V) (acc : List Nat), σ = [some (.ref a), some (.ref p), some (.int (st : Int)), y] ∧ Same H H2 ∧ H2 ea = some (.lst (vN es)) ∧ H2 p = some (.lst (vN acc)) ∧ acc.length = i ∧ (∀ e, es[i]? = some e → st ≤ e) ∧ lensF 0 es = acc ++ lensF st (es.drop i)) ⟨0, none, [], rfl, s01, he, s1 _ _ upd_same, rfl, fun _ _ => Nat.zero_le _, by rw [List.drop_zero]; rfl⟩
      (fun i σ H2 _ hP => ?_) (fun i v σ H2 hx hP => ?_) (fun σ H2 hP => ?_)⟩
    · obtain ⟨_, _, _, _, _, h2, _⟩ := hP
      exact SqL.of h2
    · obtain ⟨st, y, acc, rfl, s2, h2, hp2, hal, hst, hl⟩ := hP
      obtain ⟨e, he', rfl⟩ := vN_int hx
      have hle := hst e he'
      have hil : i < es.length := (List.getElem?_eq_some_iff.mp he').1
      have hse : (e : Int) + 1 - (st : Int) = ((e + 1 - st : Nat) : Int) := by omega
      refine ⟨_, rfl, .inl ⟨rfl, _, SqL.of hp2⟩, _, rfl, _, _, rfl, rfl, _, rfl, _, _, rfl, rfl, p, _, _, rfl, rfl, hp2, by rw [vN_len]; omega, ?_⟩
      refine ⟨_, rfl, _, _, rfl, rfl, e + 1, _, acc ++ [e + 1 - st], rfl, same_write np s2, ?_, ?_, ?_, fun e' he2 => hup i e e' he' he2, ?_⟩
      · rw [upd_ne hep]
        exact h2
      · rw [upd_same, vN_app]
        show some (HO.lst (vN acc ++ [V.int ((e : Int) + 1 - (st : Int))])) = _
        rw [hse]
        rfl
      · rw [List.length_append, hal]
        rfl
      · rw [hl, drop_cons he', lensF, List.append_assoc]
        rfl
    · obtain ⟨st, y, acc, rfl, s2, h2, hp2, hal, hst, hl⟩ := hP
      rw [vN_len, List.drop_length] at hl
      have hl' : lensF 0 es = acc := by rw [hl]; show acc ++ [] = acc; rw [List.append_nil]
      rw [← hes, lens_row hend] at hl'
      rw [vN_len] at hal
      refine ⟨_, rfl, p, _, rfl, .inl (SqL.of hp2), by rw [vN_len]; omega, fun H3 r s3 nr hr3 => ?_⟩
      refine q _ r (s2.trans s3) (none_back s2 nr) ?_
      rw [hr3, vN_len, ← hl', List.length_map]
end
end Td
set_option maxRecDepth 100000
set_option maxHeartbeats 4000000
namespace Td
open PySem PySem.Spec PyProof.Rows L2
open Vatrka (Piece Pending Change toldPiece toldMarks toldPend)
/-- what is told of a piece but its sign -/
def dressL (x : Piece) : List Nat := x.look ++ (toldMarks x ++ Vatrka.counted x.tags)
theorem told_dress (x : Piece) : toldPiece x = x.sign :: dressL x := rfl
theorem dressL_alike {x y : Piece} (h : Vatrkd.alike x y = true) : dressL x = dressL y := by
  obtain ⟨h1, h2, h3, h4, h5⟩ := alike_iff.mp h
  unfold dressL toldMarks
  rw [h1, h2, h3, h4, h5]
def pendL (y : Pending) : List Nat := [y.change, y.prop, y.value]
theorem pendL_len (l : List Pending) : (l.flatMap pendL).length = 3 * l.length := by
  induction l with
  | nil => rfl
  | cons c r ih =>
    rw [List.flatMap_cons, List.length_append, ih, List.length_cons]
    show 3 + _ = _
    omega
theorem dressL_is (x : Piece) : dressL x = (((x.look ++ (x.ins.length :: x.ins)) ++ (x.del.length :: x.del)) ++ (x.pend.length :: x.pend.flatMap pendL)) ++ (x.tags.length :: x.tags) := by
  unfold dressL toldMarks toldPend Vatrka.counted
  simp only [List.append_assoc]
  rfl
theorem vN_cons (n : Nat) (l : List Nat) : vN (n :: l) = .int (n : Int) :: vN l := rfl
section
variable {P : Program} {w : World} {K : PySem.W.Frag} {mg : Str → Option Value} {base : Heap} {CD : Addr}
def sp_listed_dress (K : PySem.W.Frag) : Sp := fun vs H Q _ => ∃ (d : Addr) (x : Piece) (n : Nat), vs = [.ref d] ∧ Dp K H (.ref d) (dressD x) ∧ PcOk n x ∧ ∀ H' p, Same H H' → H p = none → H' p = some (.lst (vN (dressL x))) → Q (.ref p) H'
theorem ok_listed_dress {k : Nat} (G : Glob mg) (c_counted : C8.Cal P w K mg base 1 "counted" (sp_counted K) []) (D : Stands K mg "listed_dress" s_listed_dress) : C8.Cal P w K mg base (k + 2) "listed_dress" (sp_listed_dress K) [] := by
  refine cal_of D sc_listed_dress (fun vs H Q E h => ?_) (fun _ _ _ _ _ _ us hl => match us, hl with | [_], _ => rfl) (fun f cdv A outer s H vs Q E hr h => ?_)
  · obtain ⟨d, x, n, rfl, _⟩ := h
    rfl
  · obtain ⟨d, x, n, rfl, hd, hok, q⟩ := h
    obtain ⟨lk, ins, del, pe, tg, h1, h2, h3, h4, ⟨pas, h5, h5p⟩, h6⟩ := dress_at hd
    rw [dressL_is] at q
    obtain ⟨z1, z2, z3, z4⟩ := hok.sz
    have e9 : (10000000 : Nat) < sizeLine := by decide
    have hpl : pas.length = x.pend.length := Paired.length h5p
    refine ⟨_, (pss_cons (ps_set (i := 1) sc_listed_dress.nd rfl (Or.inl rfl) (pe_lst (pa_cons (pe_callB call_len_seq (by rfl) G.b_len (by decide +kernel) (pa_cons (pe_ix ix_tup (pv 0) (pe_gv G.c_PENDING) (fun _ _ => rfl)) pa_nil)) pa_nil)))
      (pss_cons (ps_for PassesOwn.never rfl (pi_tup (pe_ix ix_tup (pv 0) (pe_gv G.c_PENDING) (fun _ _ => rfl))) (pg_name (i := 2) sc_listed_dress.nd rfl (Or.inl rfl))
      (pss_one (ps_expr (pe_bm PySem.F.plainAttrs_list PySem.F.slot_list_extend PySem.F.type_list_extend mt_extendT (pv 1) (pa_cons (pv 2) pa_nil)))))
      (pss_one (ps_ret (pe_op op_cat (pe_op op_cat (pe_op op_cat (pe_op op_cat (pe_callTy call_list_of (by rfl) G.b_list (by decide +kernel) (pa_cons (pe_ix ix_tup (pv 0) (pe_gv G.c_LOOK) (fun _ _ => rfl)) pa_nil)) (C8.pe_c c_counted hr (by omega) (by rfl) (pa_cons (pe_ix ix_tup (pv 0) (pe_gv G.c_INSERTIONS) (fun _ _ => rfl)) pa_nil))) (C8.pe_c c_counted hr (by omega) (by rfl) (pa_cons (pe_ix ix_tup (pv 0) (pe_gv G.c_DELETIONS) (fun _ _ => rfl)) pa_nil))) (pv 1)) (C8.pe_c c_counted hr (by omega) (by rfl) (pa_cons (pe_ix ix_tup (pv 0) (pe_gv G.c_TAGS) (fun _ _ => rfl)) pa_nil))))))), ?_⟩
    refine ⟨_, rfl, d, _, _, _, rfl, rfl, h1, at_of (j := 3) rfl rfl, pe, _, rfl, .inr h5, by show 1 ≤ sizeLine; decide, fun p np => ?_⟩
    rw [List.length_map, hpl]
    have s0 := same_upd (o := .lst [.int (x.pend.length : Int)]) np
    refine ⟨_, rfl, d, _, _, _, rfl, rfl, same_tup s0 h1, at_of (j := 3) rfl rfl, pe, rfl, ⟨_, same_tup s0 h5⟩, for_it (walk_tup (xs := pas.map V.ref)) (fun i σ H1 => ∃ y : Option V, σ = [some (.ref d), some (.ref p), y] ∧ Same H H1 ∧ H1 p = some (.lst (vN (x.pend.length :: (x.pend.take i).flatMap pendL))))
      ⟨none, rfl, s0, upd_same⟩ (fun i σ H1 _ hP => ?_) (fun i v σ H1 H2 hi hP hY => ?_) (fun σ H1 hP => ?_)⟩
    · obtain ⟨_, _, s1, _⟩ := hP
      exact same_tup s1 h5
    · obtain ⟨y, rfl, s1, hp⟩ := hP
      obtain ⟨rfl, hx⟩ := hY
      rw [List.getElem?_map] at hx
      obtain ⟨xa, hxa, rfl⟩ := Option.map_eq_some_iff.mp hx
      obtain ⟨y, hy, hya⟩ := paired_get h5p hxa
      have hil : i < x.pend.length := (List.getElem?_eq_some_iff.mp hy).1
      have := pendL_len (x.pend.take i)
      rw [List.length_take] at this
      refine ⟨_, rfl, .inl ⟨rfl, _, SqL.of hp⟩, _, rfl, p, xa, _, _, rfl, rfl, hp, same_tup s1 hya, ?_, _, rfl, same_write np s1, ?_⟩
      · rw [vN_len, List.length_cons]
        show _ + 3 ≤ _
        omega
      · rw [upd_same, flatMap_snoc pendL hy, vN_cons, vN_cons, vN_app]
        rfl
    obtain ⟨y, rfl, s1, hp⟩ := hP
    rw [List.length_map, hpl, List.take_length] at hp
    have lp := pendL_len x.pend
    have hlk := hok.look
    refine ⟨_, rfl, d, _, _, _, rfl, rfl, same_tup s1 h1, at_of (j := 0) rfl rfl, lk, _, rfl, .inr (same_tup s1 h2), fun l1 n1 => ?_⟩
    have m1 := same_upd (o := .lst (vN x.look)) n1
    have s2 := s1.trans m1
    refine ⟨_, rfl, d, _, _, _, rfl, rfl, same_tup s2 h1, at_of (j := 1) rfl rfl, ins, _, rfl, .inr (same_tup s2 h3), by rw [vN_len]; omega, fun H3 l2 m2 n2 hl2 => ?_⟩
    rw [vN_len, ← vN_cons] at hl2
    refine ⟨l1, l2, _, _, rfl, rfl, m2 _ _ upd_same, hl2, by rw [vN_len, vN_len, List.length_cons]; omega, fun l3 n3 => ?_⟩
    rw [← vN_app]
    have m3 := same_upd (o := .lst (vN (x.look ++ (x.ins.length :: x.ins)))) n3
    have s3 := s2.trans (m2.trans m3)
    refine ⟨_, rfl, d, _, _, _, rfl, rfl, same_tup s3 h1, at_of (j := 2) rfl rfl, del, _, rfl, .inr (same_tup s3 h4), by rw [vN_len]; omega, fun H4 l4 m4 n4 hl4 => ?_⟩
    rw [vN_len, ← vN_cons] at hl4
    refine ⟨l3, l4, _, _, rfl, rfl, m4 _ _ upd_same, hl4, by rw [vN_len, vN_len, List.length_append, List.length_cons, List.length_cons]; omega, fun l5 n5 => ?_⟩
    rw [← vN_app]
    have m5 := same_upd (o := .lst (vN (x.look ++ (x.ins.length :: x.ins) ++ (x.del.length :: x.del)))) n5
    have s4 := s3.trans (m4.trans m5)
    have hp4 := m5 _ _ (m4 _ _ (m3 _ _ (m2 _ _ (m1 _ _ hp))))
    refine ⟨_, rfl, l5, p, _, _, rfl, rfl, upd_same, hp4, ?_, fun l6 n6 => ?_⟩
    · simp only [vN_len, List.length_append, List.length_cons]
      omega
    rw [← vN_app]
    have m6 := same_upd (o := .lst (vN (x.look ++ (x.ins.length :: x.ins) ++ (x.del.length :: x.del) ++ (x.pend.length :: x.pend.flatMap pendL)))) n6
    have s5 := s4.trans m6
    refine ⟨_, rfl, d, _, _, _, rfl, rfl, same_tup s5 h1, at_of (j := 4) rfl rfl, tg, _, rfl, .inr (same_tup s5 h6), by rw [vN_len]; omega, fun H6 l7 m7 n7 hl7 => ?_⟩
    rw [vN_len, ← vN_cons] at hl7
    refine ⟨l6, l7, _, _, rfl, rfl, m7 _ _ upd_same, hl7, ?_, fun l8 n8 => ?_⟩
    · simp only [vN_len, List.length_append, List.length_cons]
      omega
    have m8 := s5.trans m7
    refine q _ l8 (m8.trans (same_upd n8)) (none_back m8 n8) ?_
    rw [upd_same, vN_app _ (x.tags.length :: x.tags)]
end
end Td
set_option maxRecDepth 100000
set_option maxHeartbeats 4000000
namespace Td
open PySem PySem.Spec PyProof.Rows L2
open Vatrka (Piece Pending Change toldPiece toldMarks toldPend)
section
variable {P : Program} {w : World} {K : PySem.W.Frag} {mg : Str → Option Value} {base : Heap} {CD : Addr}
/-- a dress worn, and what is told of it -/
def WornT (K : PySem.W.Frag) (H : Hp) (v : V) (ta : Addr) : Prop := v = .non ∨ ∃ wa wp, v = .ref wa ∧ Dp K H (.ref wa) (dressD wp) ∧ H ta = some (.lst (vN (dressL wp)))
def sp_listed_pieces (K : PySem.W.Frag) : Sp := fun vs H Q _ => ∃ (a : Addr) (row : List Piece) (n : Nat), vs = [.ref a] ∧ RowAt K H a row ∧ (∀ x ∈ row, PcOk n x) ∧ (row.flatMap toldPiece).length + 1 ≤ sizeLine ∧ ∀ H' p, Same H H' → H p = none → H' p = some (.lst (vN (row.length :: row.flatMap toldPiece))) → Q (.ref p) H'
theorem ok_listed_pieces {k : Nat} (G : Glob mg) (c_listed_dress : C8.Cal P w K mg base 2 "listed_dress" (sp_listed_dress K) []) (D : Stands K mg "listed_pieces" s_listed_pieces) : C8.Cal P w K mg base (k + 3) "listed_pieces" (sp_listed_pieces K) [] := by
  refine cal_of D sc_listed_pieces (fun vs H Q E h => ?_) (fun _ _ _ _ _ _ us hl => match us, hl with | [_], _ => rfl) (fun f cdv A outer s H vs Q E hr h => ?_)
  · obtain ⟨a, row, n, rfl, _⟩ := h
    rfl
  · obtain ⟨a, row, n, rfl, ⟨bs, r1, r2⟩, hok, hlen, q⟩ := h
    refine ⟨_, (pss_cons (ps_set (i := 1) sc_listed_pieces.nd rfl (Or.inl rfl) (pe_lst (pa_cons (pe_callB call_len_seq (by rfl) G.b_len (by decide +kernel) (pa_cons (pv 0) pa_nil)) pa_nil)))
      (pss_cons (ps_set (i := 2) sc_listed_pieces.nd rfl (Or.inl rfl) pe_non)
      (pss_cons (ps_set (i := 3) sc_listed_pieces.nd rfl (Or.inl rfl) (pe_lst pa_nil))
      (pss_cons (ps_for PassesOwn.never rfl (pi_list (pv 0)) (pg_tup rfl (pgs_cons (pg_name (i := 4) sc_listed_pieces.nd rfl (Or.inl rfl)) (pgs_cons (pg_name (i := 5) sc_listed_pieces.nd rfl (Or.inl rfl)) pgs_nil)))
      (pss_cons (ps_if (pt_cmpR (op_neD hr.units) (pv 5) (pv 2) (nomark _))
      (pss_one (ps_set (i := 3) sc_listed_pieces.nd rfl (Or.inl rfl) (C8.pe_c c_listed_dress hr (by omega) (by rfl) (pa_cons (pv 5) pa_nil))))
      pss_nil)
      (pss_cons (ps_set (i := 2) sc_listed_pieces.nd rfl (Or.inl rfl) (pv 5))
      (pss_cons (ps_expr (pe_bm PySem.F.plainAttrs_list PySem.F.slot_list_append PySem.F.type_list_append mt_append (pv 1) (pa_cons (pv 4) pa_nil)))
      (pss_one (ps_expr (pe_bm PySem.F.plainAttrs_list PySem.F.slot_list_extend PySem.F.type_list_extend mt_extend (pv 1) (pa_cons (pv 3) pa_nil))))))))
      (pss_one (ps_ret (pv 1))))))), ?_⟩
    have hbl : bs.length = row.length := Paired.length r2
    refine ⟨_, rfl, a, _, rfl, .inl (SqL.of r1), by show 1 ≤ sizeLine; decide, fun p np => ?_⟩
    rw [List.length_map, hbl]
    have s0 := same_upd (o := .lst [.int (row.length : Int)]) np
    refine ⟨Nat.zero_le _, fun t0 nt0 => ?_⟩
    have s1 := same_upd (o := .lst []) nt0
    have s01 := s0.trans s1
    have ht0 : t0 ≠ p := fun z => by rw [z, upd_same] at nt0; cases nt0
    refine ⟨_, rfl, a, rfl, ⟨_, SqL.of (s01 _ _ r1)⟩, for_list (xs := bs.map V.ref) (fun i σ H2 => ∃ (v : V) (ta : Addr) (y1 y2 : Option V), σ = [some (.ref a), some (.ref p), some v, some (.ref ta), y1, y2] ∧ Same H H2 ∧ ta ≠ p ∧ WornT K H2 v ta ∧ H2 p = some (.lst (vN (row.length :: (row.take i).flatMap toldPiece))))
      ⟨.non, t0, none, none, rfl, s01, ht0, .inl rfl, s1 _ _ upd_same⟩ (fun i σ H2 _ hP => ?_) (fun i v σ H2 hx hP => ?_) (fun σ H2 hP => ?_)⟩
    · obtain ⟨_, _, _, _, _, s2, _⟩ := hP
      exact SqL.of (s2 _ _ r1)
    · obtain ⟨v, ta, y1, y2, rfl, s2, hta, hwo, hp⟩ := hP
      rw [List.getElem?_map] at hx
      obtain ⟨xa, hxa, rfl⟩ := Option.map_eq_some_iff.mp hx
      obtain ⟨x, hxr, hxd⟩ := paired_get r2 hxa
      obtain ⟨da, x1, x2⟩ := piece_at hxd
      have hxok := hok x (List.mem_of_getElem? hxr)
      have hle := flatMap_le toldPiece row (i + 1)
      rw [flatMap_snoc toldPiece hxr, List.length_append, told_dress, List.length_cons] at hle
      -- worn = dress, and the piece listed
      have fin : ∀ (v : V) (ta : Addr) (H3 : Hp), Same H H3 → ta ≠ p → H3 ta = some (.lst (vN (dressL x))) → H3 p = some (.lst (vN (row.length :: (row.take i).flatMap toldPiece))) → ∀ Dn : Ends,
          (Dn.nx = fun σ H2 => ∃ (v : V) (ta : Addr) (y1 y2 : Option V), σ = [some (.ref a), some (.ref p), some v, some (.ref ta), y1, y2] ∧ Same H H2 ∧ ta ≠ p ∧ WornT K H2 v ta ∧ H2 p = some (.lst (vN (row.length :: (row.take (i + 1)).flatMap toldPiece)))) →
          tSeq (tAsg (tVar 5) (gName 2)) (tSeq (tDrop (tBM K "list" rAppend (tVar 1) (tCons (tVar 4) tNil))) (tDrop (tBM K "list" rExtend (tVar 1) (tCons (tVar 3) tNil)))) Dn [some (.ref a), some (.ref p), some v, some (.ref ta), some (.int ((x.sign : Nat) : Int)), some (.ref da)] H3 := by
        intro v ta H3 t1 t2 t3 t4 Dn hDn
        refine ⟨_, rfl, _, rfl, .inl ⟨rfl, _, SqL.of t4⟩, _, rfl, p, _, _, rfl, rfl, t4, by rw [vN_len, List.length_cons]; omega, ?_⟩
        refine ⟨_, rfl, .inl ⟨rfl, _, SqL.of upd_same⟩, _, rfl, p, ta, _, _, rfl, rfl, upd_same, by rw [upd_ne t2]; exact t3, ?_, ?_⟩
        · rw [List.length_append, vN_len, vN_len, List.length_cons, List.length_singleton]
          omega
        show Dn.nx _ _
        rw [hDn, upd_upd]
        have kt : KeepT K H3 (upd H3 p (.lst (vN (row.length :: (row.take i).flatMap toldPiece) ++ [.int ((x.sign : Nat) : Int)] ++ vN (dressL x)))) := keepT_upd t4 (fun _ z => by cases z) (fun _ _ z => by cases z)
        refine ⟨_, ta, _, _, rfl, same_write np t1, t2, .inr ⟨da, x, rfl, dp_keep kt _ _ (tupD_dress _) (dp_same t1 _ _ x2), by rw [upd_ne t2]; exact t3⟩, ?_⟩
        rw [upd_same, flatMap_snoc toldPiece hxr, told_dress, vN_cons, vN_cons, vN_app, vN_cons]
        simp
      -- a dress that isn't the one worn
      have neu : ∀ (H3 : Hp), Same H H3 → H3 p = some (.lst (vN (row.length :: (row.take i).flatMap toldPiece))) → ∀ Dn : Ends,
          (Dn.nx = fun σ H2 => ∃ (v : V) (ta : Addr) (y1 y2 : Option V), σ = [some (.ref a), some (.ref p), some v, some (.ref ta), y1, y2] ∧ Same H H2 ∧ ta ≠ p ∧ WornT K H2 v ta ∧ H2 p = some (.lst (vN (row.length :: (row.take (i + 1)).flatMap toldPiece)))) →
          tSeq (tAsg (tCall (sp_listed_dress K) [] C8.E0 (tCons (tVar 5) tNil)) (gName 3)) (tSeq (tAsg (tVar 5) (gName 2)) (tSeq (tDrop (tBM K "list" rAppend (tVar 1) (tCons (tVar 4) tNil))) (tDrop (tBM K "list" rExtend (tVar 1) (tCons (tVar 3) tNil))))) Dn
            [some (.ref a), some (.ref p), some v, some (.ref ta), some (.int ((x.sign : Nat) : Int)), some (.ref da)] H3 := by
        intro H3 t1 t4 Dn hDn
        refine ⟨_, rfl, da, x, n, rfl, dp_same t1 _ _ x2, hxok, fun H4 l s4 nl hl => ?_⟩
        exact fin v l H4 (t1.trans s4) (fun z => by rw [z, t4] at nl; cases nl) hl (s4 _ _ t4) Dn hDn
      have hx2 := dp_same s2 _ _ x2
      refine ⟨xa, _, rfl, same_tup s2 x1, rfl, _, _, rfl, _, _, rfl, rfl, ?_⟩
      rcases hwo with rfl | ⟨wa, wp, rfl, w1, w2⟩
      · refine ⟨_, rfl, _, rfl, dressD x, .none, hx2, .non, dress_shaped _, (flatD_none 0).shaped (by decide), _, rfl, ?_⟩
        rw [none_eqv]
        exact neu H2 s2 hp _ rfl
      · refine ⟨_, rfl, _, rfl, dressD x, dressD wp, hx2, w1, dress_shaped _, dress_shaped _, _, rfl, ?_⟩
        rw [dress_eqv]
        cases hax : Vatrkd.alike x wp with
        | false => exact neu H2 s2 hp _ rfl
        | true =>
          refine fin _ ta H2 s2 hta ?_ hp _ rfl
          rw [dressL_alike hax]
          exact w2
    · obtain ⟨v, ta, y1, y2, rfl, s2, hta, hwo, hp⟩ := hP
      rw [List.length_map, hbl, List.take_length] at hp
      exact ⟨_, rfl, q _ p s2 np hp⟩
end
end Td
set_option maxRecDepth 100000
set_option maxHeartbeats 4000000
namespace Td
open PySem PySem.Spec PyProof.Rows L2
open Vatrka (Piece Pending Change acceptPiece rejectPiece shown stood)
/-- whether a piece belongs to a view -/
def viewB (v : Int) (x : Piece) : Bool := if v = 1 then shown x else if v = 2 then stood x else true
/-- what a piece is settled to -/
def settleP (v : Int) (x : Piece) : Piece := if v = 1 then acceptPiece x else rejectPiece x
theorem empty_len (l : List Nat) : decide (V.int ((vN l).length : Int) = V.int 0) = l.isEmpty := by
  rw [vN_len, Bool.eq_iff_iff, decide_eq_true_eq, List.isEmpty_iff]
  refine ⟨fun z => List.eq_nil_of_length_eq_zero (by have := V.int.inj z; omega), fun z => by rw [z]; rfl⟩
abbrev s_is_viewed : Stmt := top 111
abbrev n_is_viewed : List Str := ["dress", "view"]
abbrev p_is_viewed : List Str := ["dress", "view"]
theorem sc_is_viewed : FnScope n_is_viewed p_is_viewed (defScope s_is_viewed) := ⟨rfl, rfl, rfl, by decide +kernel, rfl, by decide +kernel, by decide +kernel⟩
abbrev s_viewed_row : Stmt := top 110
abbrev n_viewed_row : List Str := ["row", "view", "piece"]
abbrev p_viewed_row : List Str := ["row", "view"]
theorem sc_viewed_row : FnScope n_viewed_row p_viewed_row (defScope s_viewed_row) := ⟨rfl, rfl, rfl, by decide +kernel, rfl, by decide +kernel, by decide +kernel⟩
abbrev s_look_as_shown : Stmt := top 114
abbrev n_look_as_shown : List Str := ["dress", "look", "change", "place", "value"]
abbrev p_look_as_shown : List Str := ["dress"]
theorem sc_look_as_shown : FnScope n_look_as_shown p_look_as_shown (defScope s_look_as_shown) := ⟨rfl, rfl, rfl, by decide +kernel, rfl, by decide +kernel, by decide +kernel⟩
abbrev s_settled_dress : Stmt := top 113
abbrev n_settled_dress : List Str := ["dress", "view", "look"]
abbrev p_settled_dress : List Str := ["dress", "view"]
theorem sc_settled_dress : FnScope n_settled_dress p_settled_dress (defScope s_settled_dress) := ⟨rfl, rfl, rfl, by decide +kernel, rfl, by decide +kernel, by decide +kernel⟩
abbrev s_settled : Stmt := top 112
abbrev n_settled : List Str := ["document", "view", "row", "worn", "dress", "sign", "old"]
abbrev p_settled : List Str := ["document", "view"]
theorem sc_settled : FnScope n_settled p_settled (defScope s_settled) := ⟨rfl, rfl, rfl, by decide +kernel, rfl, by decide +kernel, by decide +kernel⟩
section
variable {P : Program} {w : World} {K : PySem.W.Frag} {mg : Str → Option Value} {base : Heap} {CD : Addr}
def sp_is_viewed (K : PySem.W.Frag) : Sp := fun vs H Q _ => ∃ (d : Addr) (x : Piece) (v : Int), vs = [.ref d, .int v] ∧ Dp K H (.ref d) (dressD x) ∧ Q (.bl (viewB v x)) H
theorem ok_is_viewed {k : Nat} (G : Glob mg) (D : Stands K mg "is_viewed" s_is_viewed) : C8.Cal P w K mg base (k + 1) "is_viewed" (sp_is_viewed K) [] := by
  refine cal_of D sc_is_viewed (fun vs H Q E h => ?_) (fun _ _ _ _ _ _ us hl => match us, hl with | [_, _], _ => rfl) (fun f cdv A outer s H vs Q E hr h => ?_)
  · obtain ⟨d, x, v, rfl, _⟩ := h
    rfl
  · obtain ⟨d, x, v, rfl, hd, q⟩ := h
    obtain ⟨lk, ins, del, pe, tg, h1, h2, h3, h4, ⟨pas, h5, h5p⟩, h6⟩ := dress_at hd
    refine ⟨_, (pss_cons (ps_if (pt_cmpR op_eq (pv 1) (pe_gv G.c_SHOWN) (nomark _))
      (pss_one (ps_ret (pe_cmpR op_eq (pe_callB call_len_seq (by rfl) G.b_len (by decide +kernel) (pa_cons (pe_ix ix_tup (pv 0) (pe_gv G.c_DELETIONS) (fun _ _ => rfl)) pa_nil)) pe_int (nomark _))))
      pss_nil)
      (pss_cons (ps_if (pt_cmpR op_eq (pv 1) (pe_gv G.c_BEFORE) (nomark _))
      (pss_one (ps_ret (pe_cmpR op_eq (pe_callB call_len_seq (by rfl) G.b_len (by decide +kernel) (pa_cons (pe_ix ix_tup (pv 0) (pe_gv G.c_INSERTIONS) (fun _ _ => rfl)) pa_nil)) pe_int (nomark _))))
      pss_nil)
      (pss_one (ps_ret pe_bl)))), ?_⟩
    unfold viewB at q
    refine ⟨_, rfl, rfl, _, rfl, ite2 (fun g => ?_) (fun g => ?_)⟩
    · have g1 : v = 1 := eq_dec g
      rw [if_pos g1] at q
      refine ⟨_, rfl, d, _, _, _, rfl, rfl, h1, at_of (j := 2) rfl rfl, del, _, rfl, .inr h4, rfl, ?_⟩
      rw [empty_len]
      exact q
    · have g1 : v ≠ 1 := ne_dec g
      rw [if_neg g1] at q
      refine ⟨_, rfl, rfl, _, rfl, ite2 (fun g => ?_) (fun g => ?_)⟩
      · have g2 : v = 2 := eq_dec g
        rw [if_pos g2] at q
        refine ⟨_, rfl, d, _, _, _, rfl, rfl, h1, at_of (j := 1) rfl rfl, ins, _, rfl, .inr h3, rfl, ?_⟩
        rw [empty_len]
        exact q
      · have g2 : v ≠ 2 := ne_dec g
        rw [if_neg g2] at q
        exact q
theorem filt_snoc {α : Type} (g : α → Bool) {l : List α} {i : Nat} {c : α} (h : l[i]? = some c) : (l.take (i + 1)).filter g = (l.take i).filter g ++ (if g c = true then [c] else []) := by
  rw [List.take_add_one, h, List.filter_append]
  show _ ++ [c].filter g = _
  rw [List.filter_cons, List.filter_nil]
def sp_viewed_row (K : PySem.W.Frag) : Sp := fun vs H Q _ => ∃ (a : Addr) (row : List Piece) (v : Int), vs = [.ref a, .int v] ∧ RowAt K H a row ∧ row.length < 10000000 ∧ ∀ H' p, Same H H' → H p = none → RowAt K H' p (row.filter (viewB v)) → Q (.ref p) H'
theorem ok_viewed_row {k : Nat} (G : Glob mg) (c_is_viewed : C8.Cal P w K mg base 1 "is_viewed" (sp_is_viewed K) []) (D : Stands K mg "viewed_row" s_viewed_row) : C8.Cal P w K mg base (k + 2) "viewed_row" (sp_viewed_row K) [] := by
  refine cal_of D sc_viewed_row (fun vs H Q E h => ?_) (fun _ _ _ _ _ _ us hl => match us, hl with | [_, _], _ => rfl) (fun f cdv A outer s H vs Q E hr h => ?_)
  · obtain ⟨a, row, v, rfl, _⟩ := h
    rfl
  · obtain ⟨a, row, vw, rfl, ⟨bs, r1, r2⟩, hlen, q⟩ := h
    refine ⟨_, (pss_one (ps_ret (pe_lc (own := [("piece", 2)]) (g := (gName 2)) (tt := (tB (tCall _ [] _ (tCons (tOp (rIxT K) (tVar 2) (tC (.int 1))) (tCons (tVar 1) tNil))))) (te := (tVar 2)) rfl sc_viewed_row.nd (pi_list (pv 0)) (blkOk_by (N := ["row", "view", "piece"]) (sc := defScope s_viewed_row) (by decide +kernel)) (fun _ _ _ _ _ => (pg_name (i := 2) sc_viewed_row.nd rfl (Or.inl rfl))) (fun _ _ _ _ _ => (pts_one (pt_val (C8.pe_c c_is_viewed hr (by omega) (by rfl) (pa_cons (pe_ix ix_tup (pv 2) (pe_gv G.c_DRESS) (fun _ _ => rfl)) (pa_cons (pv 1) pa_nil)))))) (fun _ _ _ _ _ => (pv 2))))), ?_⟩
    have hbl : bs.length = row.length := Paired.length r2
    have e9 : (10000000 : Nat) < sizeLine := by decide
    refine ⟨_, rfl, a, rfl, ⟨_, SqL.of r1⟩, fun Dd nD => ?_⟩
    refine lc_it (walk_list (xs := bs.map V.ref)) (fun i Hx => Same H Hx ∧ RowAt K Hx Dd ((row.take i).filter (viewB vw))) ⟨same_upd nD, [], upd_same, .nil⟩ (fun i Hx _ hP => SqL.of (hP.1 _ _ r1)) (fun i v Hx Hy hi hP hY => ?_) (fun Hx hP => ?_)
    · obtain ⟨s1, cs, c1, c2⟩ := hP
      obtain ⟨rfl, hx⟩ := hY
      rw [List.getElem?_map] at hx
      obtain ⟨xa, hxa, rfl⟩ := Option.map_eq_some_iff.mp hx
      obtain ⟨x, hxr, hxd⟩ := paired_get r2 hxa
      obtain ⟨da, x1, x2⟩ := piece_at hxd
      refine ⟨rfl, _, rfl, xa, _, _, _, rfl, rfl, same_tup s1 x1, at_of (j := 1) rfl rfl, _, rfl, da, x, vw, rfl, dp_same s1 _ _ x2, _, rfl, ?_⟩
      have hfs := filt_snoc (viewB vw) hxr
      cases hv : viewB vw x with
      | true =>
        rw [hv, if_pos rfl] at hfs
        have kt : KeepT K Hy (upd Hy Dd (.lst (cs.map V.ref ++ [.ref xa]))) := keepT_upd c1 (fun _ z => by cases z) (fun _ _ z => by cases z)
        refine ⟨_, rfl, _, c1, ?_, same_write nD s1, cs ++ [xa], ?_, ?_⟩
        · rw [List.length_map, Paired.length c2]
          have := List.length_filter_le (viewB vw) (row.take i)
          rw [List.length_take] at this
          omega
        · rw [upd_same, List.map_append]
          rfl
        · rw [hfs]
          exact paired_snoc (Paired.mapP c2 fun b x z => dp_keep kt _ _ (tupD_piece x) z) (dp_keep kt _ _ (tupD_piece x) (dp_same s1 _ _ hxd))
      | false =>
        rw [hv, if_neg (by decide), List.append_nil] at hfs
        refine ⟨s1, cs, c1, ?_⟩
        rw [hfs]
        exact c2
    · obtain ⟨s1, hR⟩ := hP
      rw [List.length_map, hbl, List.take_length] at hR
      exact q Hx Dd s1 nD hR
def sp_look_as_shown (K : PySem.W.Frag) : Sp := fun vs H Q _ => ∃ (d : Addr) (x : Piece) (n : Nat), vs = [.ref d] ∧ Dp K H (.ref d) (dressD x) ∧ PcOk n x ∧ ∀ H' p, Same H H' → H' p = some (.tup (vN (Vatrka.shownLook x))) → Q (.ref p) H'
theorem ok_look_as_shown {k : Nat} (G : Glob mg) (D : Stands K mg "look_as_shown" s_look_as_shown) : C8.Cal P w K mg base (k + 1) "look_as_shown" (sp_look_as_shown K) [] := by
  refine cal_of D sc_look_as_shown (fun vs H Q E h => ?_) (fun _ _ _ _ _ _ us hl => match us, hl with | [_], _ => rfl) (fun f cdv A outer s H vs Q E hr h => ?_)
  · obtain ⟨d, x, n, rfl, _⟩ := h
    rfl
  · obtain ⟨d, x, n, rfl, hd, hok, q⟩ := h
    obtain ⟨lk, ins, del, pe, tg, h1, h2, h3, h4, ⟨pas, h5, h5p⟩, h6⟩ := dress_at hd
    have hpl : pas.length = x.pend.length := Paired.length h5p
    rw [← Tm.shown_fold hok.look fun y hy => (hok.pend y hy).2.1] at q
    refine ⟨_, (pss_cons (ps_set (i := 1) sc_look_as_shown.nd rfl (Or.inl rfl) (pe_callTy call_list_of (by rfl) G.b_list (by decide +kernel) (pa_cons (pe_ix ix_tup (pv 0) (pe_gv G.c_LOOK) (fun _ _ => rfl)) pa_nil)))
      (pss_cons (ps_for PassesOwn.never rfl (pi_tup (pe_ix ix_tup (pv 0) (pe_gv G.c_PENDING) (fun _ _ => rfl))) (pg_tup rfl (pgs_cons (pg_name (i := 2) sc_look_as_shown.nd rfl (Or.inl rfl)) (pgs_cons (pg_name (i := 3) sc_look_as_shown.nd rfl (Or.inl rfl)) (pgs_cons (pg_name (i := 4) sc_look_as_shown.nd rfl (Or.inl rfl)) pgs_nil))))
      (pss_one (ps_asg (pv 4) (pg_sub (pv 1) (pv 3) set_list))))
      (pss_one (ps_ret (pe_callTy call_tuple_of (by rfl) G.b_tuple (by decide +kernel) (pa_cons (pv 1) pa_nil)))))), ?_⟩
    refine ⟨_, rfl, d, _, _, _, rfl, rfl, h1, at_of (j := 0) rfl rfl, lk, _, rfl, .inr h2, fun l nl => ?_⟩
    have s0 := same_upd (o := .lst (vN x.look)) nl
    refine ⟨_, rfl, d, _, _, _, rfl, rfl, same_tup s0 h1, at_of (j := 3) rfl rfl, pe, rfl, ⟨_, same_tup s0 h5⟩, for_it (walk_tup (xs := pas.map V.ref)) (fun i σ H1 => ∃ y1 y2 y3 : Option V, σ = [some (.ref d), some (.ref l), y1, y2, y3] ∧ Same H H1 ∧ H1 l = some (.lst (vN ((x.pend.take i).foldl (fun l y => l.set y.prop y.value) x.look))))
      ⟨none, none, none, rfl, s0, upd_same⟩ (fun i σ H1 _ hP => ?_) (fun i v σ H1 H2 hi hP hY => ?_) (fun σ H1 hP => ?_)⟩
    · obtain ⟨_, _, _, _, s1, _⟩ := hP
      exact same_tup s1 h5
    · obtain ⟨y1, y2, y3, rfl, s1, hl⟩ := hP
      obtain ⟨rfl, hx⟩ := hY
      rw [List.getElem?_map] at hx
      obtain ⟨xa, hxa, rfl⟩ := Option.map_eq_some_iff.mp hx
      obtain ⟨y, hy, hya⟩ := paired_get h5p hxa
      have hmore : (x.pend.take (i + 1)).foldl (fun l y => l.set y.prop y.value) x.look = ((x.pend.take i).foldl (fun l y => l.set y.prop y.value) x.look).set y.prop y.value := by
        rw [List.take_add_one, hy, List.foldl_append]
        rfl
      have hlen : ∀ (r : List Pending) (l : List Nat), (r.foldl (fun l y => l.set y.prop y.value) l).length = l.length := by
        intro r
        induction r with
        | nil => intro l; rfl
        | cons z r ih => intro l; rw [List.foldl_cons, ih, List.length_set]
      have hll : (vN ((x.pend.take i).foldl (fun l y => l.set y.prop y.value) x.look)).length = 4 := by rw [vN_len, hlen, hok.look]
      refine ⟨xa, _, rfl, same_tup s1 hya, rfl, _, _, rfl, _, _, rfl, _, _, rfl, rfl, ?_⟩
      refine ⟨_, rfl, _, rfl, _, rfl, l, _, _, y.prop, rfl, rfl, hl, ?_, ?_⟩
      · rw [hll]
        exact ixN_nat (hok.pend y (List.mem_of_getElem? hy)).2.1
      · refine ⟨_, _, _, rfl, same_write nl s1, ?_⟩
        rw [upd_same, hmore]
        unfold vN
        rw [List.map_set]
    · obtain ⟨y1, y2, y3, rfl, s1, hl⟩ := hP
      rw [List.length_map, hpl, List.take_length] at hl
      refine ⟨_, rfl, l, _, rfl, .inl ⟨SqL.of hl, fun t nt => ?_⟩⟩
      exact q _ t (s1.trans (same_upd nt)) upd_same
end
end Td
set_option maxRecDepth 100000
set_option maxHeartbeats 4000000
namespace Td
open PySem PySem.Spec PyProof.Rows L2
open Vatrka (Piece Pending Change acceptPiece rejectPiece shown stood)
theorem settle_alike {v : Int} {x y : Piece} (h : Vatrkd.alike x y = true) : Vatrkd.alike (settleP v x) (settleP v y) = true := by
  obtain ⟨h1, h2, h3, h4, h5⟩ := alike_iff.mp h
  unfold settleP
  split
  · refine alike_iff.mpr ⟨?_, rfl, rfl, rfl, h5⟩
    show Vatrka.props.map (Vatrka.shownValue x) = Vatrka.props.map (Vatrka.shownValue y)
    refine List.map_congr_left fun k _ => ?_
    unfold Vatrka.shownValue
    rw [h1, h4]
  · exact alike_iff.mpr ⟨h1, rfl, rfl, rfl, h5⟩
theorem settle_sign (v : Int) (x : Piece) : (settleP v x).sign = x.sign := by
  unfold settleP
  split <;> rfl
section
variable {P : Program} {w : World} {K : PySem.W.Frag} {mg : Str → Option Value} {base : Heap} {CD : Addr}
def sp_settled_dress (K : PySem.W.Frag) : Sp := fun vs H Q _ => ∃ (d : Addr) (x : Piece) (n : Nat) (v : Int), vs = [.ref d, .int v] ∧ Dp K H (.ref d) (dressD x) ∧ PcOk n x ∧ ∀ H' p, Same H H' → Dp K H' (.ref p) (dressD (settleP v x)) → Q (.ref p) H'
theorem ok_settled_dress {k : Nat} (G : Glob mg) (c_look_as_shown : C8.Cal P w K mg base 1 "look_as_shown" (sp_look_as_shown K) []) (D : Stands K mg "settled_dress" s_settled_dress) : C8.Cal P w K mg base (k + 2) "settled_dress" (sp_settled_dress K) [] := by
  refine cal_of D sc_settled_dress (fun vs H Q E h => ?_) (fun _ _ _ _ _ _ us hl => match us, hl with | [_, _], _ => rfl) (fun f cdv A outer s H vs Q E hr h => ?_)
  · obtain ⟨d, x, n, v, rfl, _⟩ := h
    rfl
  · obtain ⟨d, x, n, v, rfl, hd, hok, q⟩ := h
    obtain ⟨lk, ins, del, pe, tg, h1, h2, h3, h4, ⟨pas, h5, h5p⟩, h6⟩ := dress_at hd
    refine ⟨_, (pss_cons (ps_set (i := 2) sc_settled_dress.nd rfl (Or.inl rfl) (pe_ifExp (pt_cmpR op_eq (pv 1) (pe_gv G.c_SHOWN) (nomark _)) (C8.pe_c c_look_as_shown hr (by omega) (by rfl) (pa_cons (pv 0) pa_nil)) (pe_ix ix_tup (pv 0) (pe_gv G.c_LOOK) (fun _ _ => rfl))))
      (pss_one (ps_ret (pe_tup (pa_cons (pv 2) (pa_cons (pe_tup pa_nil) (pa_cons (pe_tup pa_nil) (pa_cons (pe_tup pa_nil) (pa_cons (pe_ix ix_tup (pv 0) (pe_gv G.c_TAGS) (fun _ _ => rfl)) pa_nil))))))))), ?_⟩
    -- the tuple of the dress
    have fin : ∀ (la : Addr) (look : List Nat) (H1 : Hp), Same H H1 → SqT K H1 la (vN look) → look = (settleP v x).look → ∀ Dn : Ends, Dn.rt = Q →
        tRet (tTup (tCons (tVar 2) (tCons (tTup tNil) (tCons (tTup tNil) (tCons (tTup tNil) (tCons (tOp (rIxT K) (tVar 0) (tC (.int 4))) tNil)))))) Dn [some (.ref d), some (.int v), some (.ref la)] H1 := by
      intro la look H1 s1 hla hlk Dn hDn
      refine ⟨_, rfl, Nat.zero_le _, fun t2 n2 => ⟨Nat.zero_le _, fun t3 n3 => ⟨Nat.zero_le _, fun t4 n4 => ?_⟩⟩⟩
      have m2 := same_upd (o := .tup []) n2
      have m3 := same_upd (o := .tup []) n3
      have m4 := same_upd (o := .tup []) n4
      have m24 := (m2.trans m3).trans m4
      refine ⟨_, rfl, d, _, _, _, rfl, rfl, same_tup (s1.trans m24) h1, at_of (j := 4) rfl rfl, by show 5 ≤ sizeLine; decide, fun t6 n6 => ?_⟩
      have m6 := same_upd (o := .tup [.ref la, .ref t2, .ref t3, .ref t4, .ref tg]) n6
      have mA := m24.trans m6
      rw [hDn]
      have ei : (settleP v x).ins = [] := by unfold settleP; split <;> rfl
      have ed : (settleP v x).del = [] := by unfold settleP; split <;> rfl
      have ep : (settleP v x).pend = [] := by unfold settleP; split <;> rfl
      have et : (settleP v x).tags = x.tags := by unfold settleP; split <;> rfl
      refine q _ t6 (s1.trans mA) ?_
      unfold dressD
      rw [← hlk, ei, ed, ep, et]
      refine .tup (SqT.of upd_same) (.cons (dp_tup (same_tup mA hla)) (.cons (dp_tup (l := []) (SqT.of ?_)) (.cons (dp_tup (l := []) (SqT.of ?_)) (.cons (.tup (xs := []) (SqT.of ?_) .nil) (.cons (dp_tup (same_tup (s1.trans mA) h6)) .nil)))))
      · exact m6 _ _ (m4 _ _ (m3 _ _ upd_same))
      · exact m6 _ _ (m4 _ _ upd_same)
      · exact m6 _ _ upd_same
    refine ⟨_, rfl, rfl, _, rfl, ite2 (fun g => ?_) (fun g => ?_)⟩
    · have g1 : v = 1 := eq_dec g
      refine ⟨_, rfl, d, x, n, rfl, hd, hok, fun H1 p s1 hp => fin p _ H1 s1 (SqT.of hp) ?_ _ rfl⟩
      unfold settleP
      rw [if_pos g1]
      rfl
    · have g1 : v ≠ 1 := ne_dec g
      refine ⟨_, rfl, d, _, _, _, rfl, rfl, h1, at_of (j := 0) rfl rfl, fin lk _ H (Same.refl _) h2 ?_ _ rfl⟩
      unfold settleP
      rw [if_neg g1]
      rfl
def sp_settled (K : PySem.W.Frag) (CD : Addr) : Sp := fun vs H Q _ => ∃ (d ta ra : Addr) (doc : Vatrkd.Doc) (v : Int), vs = [.ref d, .int v] ∧ DocAt K CD H d ta ra ∧ RowAt K H ra doc.row ∧ DocOk doc ∧
  ∀ H' r dr rc, Same H H' → H r = none → H' r = some (.ins CD dr (fDoc.zip [.ref ta, .ref rc])) → RowAt K H' rc ((doc.row.filter (viewB v)).map (settleP v)) → Q (.ref r) H'
theorem ok_settled {k : Nat} (G : Glob mg) (TD : CT K CD fDoc) (m_Document : C8.Mak P w K mg base 1 "Document" CD (spInit CD fDoc) []) (c_viewed_row : C8.Cal P w K mg base 2 "viewed_row" (sp_viewed_row K) []) (c_settled_dress : C8.Cal P w K mg base 2 "settled_dress" (sp_settled_dress K) []) (D : Stands K mg "settled" s_settled) : C8.Cal P w K mg base (k + 3) "settled" (sp_settled K CD) [] := by
  refine cal_of D sc_settled (fun vs H Q E h => ?_) (fun _ _ _ _ _ _ us hl => match us, hl with | [_, _], _ => rfl) (fun f cdv A outer s H vs Q E hr h => ?_)
  · obtain ⟨d, ta, ra, doc, v, rfl, _⟩ := h
    rfl
  · obtain ⟨d, ta, ra, doc, vw, rfl, ⟨dd, hd⟩, hrow, hdoc, q⟩ := h
    refine ⟨_, (pss_cons (ps_set (i := 2) sc_settled.nd rfl (Or.inl rfl) (pe_lst pa_nil))
      (pss_cons (ps_set (i := 3) sc_settled.nd rfl (Or.inl rfl) pe_non)
      (pss_cons (ps_set (i := 4) sc_settled.nd rfl (Or.inl rfl) pe_non)
      (pss_cons (ps_for PassesOwn.never rfl (pi_list (C8.pe_c c_viewed_row hr (by omega) (by rfl) (pa_cons (pe_fld (pv 0) rfl) (pa_cons (pv 1) pa_nil)))) (pg_tup rfl (pgs_cons (pg_name (i := 5) sc_settled.nd rfl (Or.inl rfl)) (pgs_cons (pg_name (i := 6) sc_settled.nd rfl (Or.inl rfl)) pgs_nil)))
      (pss_cons (ps_if (pt_cmpR (op_neD hr.units) (pv 6) (pv 3) (nomark _))
      (pss_one (ps_set (i := 4) sc_settled.nd rfl (Or.inl rfl) (C8.pe_c c_settled_dress hr (by omega) (by rfl) (pa_cons (pv 6) (pa_cons (pv 1) pa_nil)))))
      pss_nil)
      (pss_cons (ps_set (i := 3) sc_settled.nd rfl (Or.inl rfl) (pv 6))
      (pss_one (ps_expr (pe_bm PySem.F.plainAttrs_list PySem.F.slot_list_append PySem.F.type_list_append mt_append (pv 2) (pa_cons (pe_tup (pa_cons (pv 5) (pa_cons (pv 4) pa_nil))) pa_nil)))))))
      (pss_one (ps_ret (C8.pe_mk m_Document hr (by omega) (by rfl) (pa_cons (pe_fld (pv 0) rfl) (pa_cons (pv 2) pa_nil))))))))), ?_⟩
    refine ⟨Nat.zero_le _, fun p np => ?_⟩
    have s0 : Same H (upd H p (.lst [])) := same_upd np
    have e9 : (10000000 : Nat) < sizeLine := by decide
    refine ⟨_, rfl, d, CD, dd, _, _, rfl, s0 _ _ hd, TD.cl, TD.no _ (by simp), lkD1, _, rfl, ra, doc.row, vw, rfl, hrow.same s0, hdoc.rl, fun H0 a s1 na hR => ?_⟩
    obtain ⟨bs, r1, r2⟩ := hR
    have s01 := s0.trans s1
    have hbl : bs.length = (doc.row.filter (viewB vw)).length := Paired.length r2
    have hlen : (doc.row.filter (viewB vw)).length < 10000000 := Nat.lt_of_le_of_lt (List.length_filter_le _ _) hdoc.rl
    have hok : ∀ x ∈ doc.row.filter (viewB vw), PcOk doc.table.length x := fun x hx => hdoc.row x (List.mem_filter.mp hx).1
    have hap : a ≠ p := fun z => by rw [z, upd_same] at na; cases na
    have hp0 := s1 _ _ (upd_same (H := H) (a := p) (o := .lst []))
    generalize doc.row.filter (viewB vw) = row at r2 hbl q hlen hok
    refine ⟨a, rfl, ⟨_, SqL.of r1⟩, for_list (xs := bs.map V.ref) (fun i σ H2 => ∃ (v u : V) (y1 y2 : Option V), σ = [some (.ref d), some (.int vw), some (.ref p), some v, some u, y1, y2] ∧ Same H H2 ∧ KeepT K H0 H2 ∧ H2 a = some (.lst (bs.map V.ref)) ∧ DrOr K H2 v u (settleP vw) ∧ RowAt K H2 p ((row.take i).map (settleP vw)))
      ⟨.non, .non, none, none, rfl, s01, fun _ _ z => z, r1, .inl ⟨rfl, rfl⟩, [], hp0, .nil⟩ (fun i σ H2 _ hP => ?_) (fun i v σ H2 hx hP => ?_) (fun σ H2 hP => ?_)⟩
    · obtain ⟨_, _, _, _, _, _, _, ha, _⟩ := hP
      exact SqL.of ha
    · obtain ⟨v, u, y1, y2, rfl, s2, kt2, ha2, hdr, cs, c1, c2⟩ := hP
      rw [List.getElem?_map] at hx
      obtain ⟨xa, hxa, rfl⟩ := Option.map_eq_some_iff.mp hx
      obtain ⟨x, hxr, hxd⟩ := paired_get r2 hxa
      obtain ⟨da, x1, x2⟩ := piece_at hxd
      have hxok := hok x (List.mem_of_getElem? hxr)
      have hil : i < row.length := (List.getElem?_eq_some_iff.mp hxr).1
      -- the piece with its new dress
      have fin : ∀ (v : V) (da2 : Addr) (H3 : Hp), Same H H3 → KeepT K H0 H3 → H3 a = some (.lst (bs.map V.ref)) → Dp K H3 (.ref da2) (dressD (settleP vw x)) → H3 p = some (.lst (cs.map V.ref)) → Paired (fun b x => Dp K H3 (.ref b) (pieceD x)) cs ((row.take i).map (settleP vw)) → ∀ Dn : Ends,
          (Dn.nx = fun σ H2 => ∃ (v u : V) (y1 y2 : Option V), σ = [some (.ref d), some (.int vw), some (.ref p), some v, some u, y1, y2] ∧ Same H H2 ∧ KeepT K H0 H2 ∧ H2 a = some (.lst (bs.map V.ref)) ∧ DrOr K H2 v u (settleP vw) ∧ RowAt K H2 p ((row.take (i + 1)).map (settleP vw))) →
          tSeq (tAsg (tVar 6) (gName 3)) (tDrop (tBM K "list" rAppend (tVar 2) (tCons (tTup (tCons (tVar 5) (tCons (tVar 4) tNil))) tNil))) Dn [some (.ref d), some (.int vw), some (.ref p), some v, some (.ref da2), some (.int ((x.sign : Nat) : Int)), some (.ref da)] H3 := by
        intro v da2 H3 t1 t2 t4 t3 t5 t6 Dn hDn
        refine ⟨_, rfl, _, rfl, .inl ⟨rfl, _, SqL.of t5⟩, _, rfl, _, rfl, (by show 2 ≤ sizeLine; decide), fun tp ntp => ?_⟩
        have st := same_upd (o := .tup [.int ((x.sign : Nat) : Int), .ref da2]) ntp
        have t5' := st _ _ t5
        refine ⟨p, _, _, rfl, rfl, t5', by rw [List.length_map, Paired.length t6, List.length_map, List.length_take]; omega, ?_⟩
        show Dn.nx _ _
        rw [hDn]
        have kt : KeepT K H3 (upd (upd H3 tp (.tup [.int ((x.sign : Nat) : Int), .ref da2])) p (.lst (cs.map V.ref ++ [.ref tp]))) := KeepT.trans (Same.keepT st) (keepT_upd t5' (fun _ z => by cases z) (fun _ _ z => by cases z))
        have ntp' : tp ≠ p := fun z => by rw [z, t5] at ntp; cases ntp
        have hd2 := dp_keep kt _ _ (tupD_dress _) t3
        have kt0 := KeepT.trans t2 kt
        refine ⟨_, _, _, _, rfl, same_write np (t1.trans st), kt0, by rw [upd_ne hap]; exact st _ _ t4, .inr ⟨da, da2, x, rfl, rfl, dp_keep kt0 _ _ (tupD_dress _) x2, hd2⟩, cs ++ [tp], ?_, ?_⟩
        · rw [upd_same, List.map_append]
          rfl
        · rw [List.take_add_one, hxr, List.map_append]
          refine paired_snoc (Paired.mapP t6 fun b x z => dp_keep kt _ _ (tupD_piece x) z) ?_
          have hsg : (((settleP vw x).sign : Nat) : Int) = ((x.sign : Nat) : Int) := by rw [settle_sign]
          unfold pieceD
          rw [hsg]
          exact .tup (SqT.of (by rw [upd_ne ntp']; exact upd_same)) (.cons (.int _) (.cons hd2 .nil))
      -- a dress that isn't the one worn
      have neu : ∀ Dn : Ends,
          (Dn.nx = fun σ H2 => ∃ (v u : V) (y1 y2 : Option V), σ = [some (.ref d), some (.int vw), some (.ref p), some v, some u, y1, y2] ∧ Same H H2 ∧ KeepT K H0 H2 ∧ H2 a = some (.lst (bs.map V.ref)) ∧ DrOr K H2 v u (settleP vw) ∧ RowAt K H2 p ((row.take (i + 1)).map (settleP vw))) →
          tSeq (tAsg (tCall (sp_settled_dress K) [] C8.E0 (tCons (tVar 6) (tCons (tVar 1) tNil))) (gName 4)) (tSeq (tAsg (tVar 6) (gName 3)) (tDrop (tBM K "list" rAppend (tVar 2) (tCons (tTup (tCons (tVar 5) (tCons (tVar 4) tNil))) tNil)))) Dn
            [some (.ref d), some (.int vw), some (.ref p), some v, some u, some (.int ((x.sign : Nat) : Int)), some (.ref da)] H2 := by
        intro Dn hDn
        refine ⟨_, rfl, _, rfl, da, x, _, vw, rfl, dp_keep kt2 _ _ (tupD_dress _) x2, hxok, fun H4 d2 s4 hd2 => ?_⟩
        exact fin v d2 H4 (s2.trans s4) (KeepT.trans kt2 (Same.keepT s4)) (s4 _ _ ha2) hd2 (s4 _ _ c1) (Paired.mapP c2 fun b x z => dp_same s4 _ _ z) Dn hDn
      have hx2 := dp_keep kt2 _ _ (tupD_dress _) x2
      refine ⟨xa, _, rfl, kt2 _ _ x1, rfl, _, _, rfl, _, _, rfl, rfl, ?_⟩
      rcases hdr with ⟨rfl, rfl⟩ | ⟨wa, da2, wp, rfl, rfl, w1, w2⟩
      · refine ⟨_, rfl, _, rfl, dressD x, .none, hx2, .non, dress_shaped _, (flatD_none 0).shaped (by decide), _, rfl, ?_⟩
        rw [none_eqv]
        exact neu _ rfl
      · refine ⟨_, rfl, _, rfl, dressD x, dressD wp, hx2, w1, dress_shaped _, dress_shaped _, _, rfl, ?_⟩
        rw [dress_eqv]
        cases hax : Vatrkd.alike x wp with
        | false => exact neu _ rfl
        | true =>
          refine fin _ da2 H2 s2 kt2 ha2 ?_ c1 c2 _ rfl
          rw [show dressD (settleP vw x) = dressD (settleP vw wp) from dress_inj.mpr (settle_alike hax)]
          exact w2
    · obtain ⟨v, u, y1, y2, rfl, s2, kt2, ha2, _, hR⟩ := hP
      rw [List.length_map, hbl, List.take_length] at hR
      refine ⟨_, rfl, d, CD, dd, _, _, rfl, s2 _ _ hd, TD.cl, TD.no _ (by simp), lkD0, _, rfl, fun nx dx n3 n4 n5 => ⟨nx, dx, [_, _], rfl, rfl, upd_same, rfl, ?_⟩⟩
      rw [upd_upd]
      have m2 := made_same (C := CD) (fs := fDoc.zip [.ref ta, .ref p]) n3 n4
      exact q _ nx dx p (s2.trans m2) (none_back s2 n3) made_at (hR.same m2)
end
end Td
set_option maxRecDepth 100000
set_option maxHeartbeats 4000000
namespace Td
open PySem PySem.Spec PyProof.Rows L2
open Vatrka (Piece Pending Change)
open Tm (chIn)
theorem hu1 {A : Around} {k : Nat} (hr : Room k A) : A.units + 1 < cLine := by
  have := hr.units
  omega
/-- a dict whose keys are the numbers of which S is true, none of them above n -/
structure Brn (n : Nat) (kvs : List (Key × V)) (S : Nat → Prop) : Prop where
  val : ∀ c : Nat, (valV kvs (Sum.inl (c : Int))).isSome = true ↔ S c
  nd : (kvs.map fun p => p.1).Nodup
  rng : ∀ k ∈ kvs.map (fun p => p.1), ∃ c : Nat, c ≤ n ∧ k = Sum.inl (c : Int)
theorem Brn.len {n : Nat} {kvs : List (Key × V)} {S : Nat → Prop} (h : Brn n kvs S) : kvs.length ≤ n + 1 := by
  let g : Key → Nat := fun k => match k with
    | .inl i => i.toNat
    | .inr _ => 0
  have h1 : ((kvs.map fun p => p.1).map g).Nodup := by
    have : ∀ l : List Key, l.Nodup → (∀ k ∈ l, ∃ c : Nat, c ≤ n ∧ k = Sum.inl (c : Int)) → (l.map g).Nodup := by
      intro l
      induction l with
      | nil => intro _ _; exact List.nodup_nil
      | cons k r ih =>
        intro hd hr
        rw [List.map_cons, List.nodup_cons]
        rw [List.nodup_cons] at hd
        refine ⟨fun hm => hd.1 ?_, ih hd.2 fun e he => hr e (List.mem_cons_of_mem _ he)⟩
        obtain ⟨e, he, ee⟩ := List.mem_map.mp hm
        obtain ⟨c, _, rfl⟩ := hr e (List.mem_cons_of_mem _ he)
        obtain ⟨c', _, rfl⟩ := hr k List.mem_cons_self
        have e2 : ((c : Int)).toNat = ((c' : Int)).toNat := ee
        have : c = c' := by omega
        rw [← this]
        exact he
    exact this _ h.nd h.rng
  have h2 := Tm.nodup_le (n + 1) _ h1 fun c hc => by
    obtain ⟨k, hk, rfl⟩ := List.mem_map.mp hc
    obtain ⟨c, hc, rfl⟩ := h.rng k hk
    show ((c : Int)).toNat < n + 1
    omega
  rw [List.length_map, List.length_map] at h2
  exact h2
theorem Brn.nil (n : Nat) : Brn n [] fun _ => False := ⟨fun c => ⟨fun z => (by cases z), fun z => z.elim⟩, List.nodup_nil, fun k hk => by cases hk⟩
theorem Brn.iff {n : Nat} {kvs : List (Key × V)} {S T : Nat → Prop} (h : Brn n kvs S) (e : ∀ c, S c ↔ T c) : Brn n kvs T := ⟨fun c => (h.val c).trans (e c), h.nd, h.rng⟩
theorem Brn.put {n : Nat} {kvs : List (Key × V)} {S : Nat → Prop} (h : Brn n kvs S) {c : Nat} (hc : c ≤ n) (v : V) : Brn n (L2.putK kvs (Sum.inl (c : Int)) v) fun d => S d ∨ d = c := by
  refine ⟨fun d => ?_, ?_, ?_⟩
  · rw [valV_put]
    by_cases e : d = c
    · subst e
      rw [if_pos rfl]
      exact ⟨fun _ => .inr rfl, fun _ => rfl⟩
    · rw [if_neg fun z => e (by have := Sum.inl.inj z; omega), h.val d]
      exact ⟨fun z => .inl z, fun z => z.resolve_right e⟩
  · unfold L2.putK
    split
    · have : (kvs.map fun kv => if kv.1 = Sum.inl (c : Int) then (kv.1, v) else kv).map (fun p => p.1) = kvs.map fun p => p.1 := by
        rw [List.map_map]
        refine List.map_congr_left fun p _ => ?_
        show (if p.1 = Sum.inl (c : Int) then (p.1, v) else p).1 = p.1
        split <;> rfl
      rw [this]
      exact h.nd
    · rename_i hn
      rw [List.map_append, List.nodup_append]
      refine ⟨h.nd, List.nodup_cons.mpr ⟨fun z => (by cases z), List.nodup_nil⟩, fun a ha b hb e => ?_⟩
      rw [List.mem_singleton.mp hb] at e
      subst e
      obtain ⟨p, hp, ep⟩ := List.mem_map.mp ha
      exact hn (List.any_eq_true.mpr ⟨p, hp, decide_eq_true ep⟩)
  · intro k hk
    unfold L2.putK at hk
    split at hk
    · have : (kvs.map fun kv => if kv.1 = Sum.inl (c : Int) then (kv.1, v) else kv).map (fun p => p.1) = kvs.map fun p => p.1 := by
        rw [List.map_map]
        refine List.map_congr_left fun p _ => ?_
        show (if p.1 = Sum.inl (c : Int) then (p.1, v) else p).1 = p.1
        split <;> rfl
      rw [this] at hk
      exact h.rng k hk
    · rw [List.map_append] at hk
      rcases List.mem_append.mp hk with hk | hk
      · exact h.rng k hk
      · exact ⟨c, hc, List.mem_singleton.mp hk⟩
abbrev s_changes_in : Stmt := top 57
abbrev n_changes_in : List Str := ["dress", "entry"]
abbrev p_changes_in : List Str := ["dress"]
theorem sc_changes_in : FnScope n_changes_in p_changes_in (defScope s_changes_in) := ⟨rfl, rfl, rfl, by decide +kernel, rfl, by decide +kernel, by decide +kernel⟩
abbrev s_borne_changes : Stmt := top 56
abbrev n_borne_changes : List Str := ["row", "borne", "worn", "sign", "dress", "number"]
abbrev p_borne_changes : List Str := ["row"]
theorem sc_borne_changes : FnScope n_borne_changes p_borne_changes (defScope s_borne_changes) := ⟨rfl, rfl, rfl, by decide +kernel, rfl, by decide +kernel, by decide +kernel⟩
abbrev s_tidied : Stmt := top 55
abbrev n_tidied : List Str := ["document", "borne", "table", "fresh", "number", "change"]
abbrev p_tidied : List Str := ["document"]
theorem sc_tidied : FnScope n_tidied p_tidied (defScope s_tidied) := ⟨rfl, rfl, rfl, by decide +kernel, rfl, by decide +kernel, by decide +kernel⟩
section
variable {P : Program} {w : World} {K : PySem.W.Frag} {mg : Str → Option Value} {base : Heap} {CD : Addr}
def sp_changes_in (K : PySem.W.Frag) : Sp := fun vs H Q _ => ∃ (d : Addr) (x : Piece) (n : Nat), vs = [.ref d] ∧ Dp K H (.ref d) (dressD x) ∧ PcOk n x ∧ ∀ H' p, Same H H' → H p = none → H' p = some (.lst (vN (chIn x))) → Q (.ref p) H'
theorem ok_changes_in {k : Nat} (G : Glob mg) (D : Stands K mg "changes_in" s_changes_in) : C8.Cal P w K mg base (k + 1) "changes_in" (sp_changes_in K) [] := by
  refine cal_of D sc_changes_in (fun vs H Q E h => ?_) (fun _ _ _ _ _ _ us hl => match us, hl with | [_], _ => rfl) (fun f cdv A outer s H vs Q E hr h => ?_)
  · obtain ⟨d, x, n, rfl, _⟩ := h
    rfl
  · obtain ⟨d, x, n, rfl, hd, hok, q⟩ := h
    obtain ⟨lk, ins, del, pe, tg, h1, h2, h3, h4, ⟨pas, h5, h5p⟩, h6⟩ := dress_at hd
    obtain ⟨z1, z2, z3, z4⟩ := hok.sz
    have e9 : (4000000 : Nat) < sizeLine := by decide
    have hpl : pas.length = x.pend.length := Paired.length h5p
    refine ⟨_, (pss_one (ps_ret (pe_op op_cat (pe_op op_cat (pe_callTy call_list_of (by rfl) G.b_list (by decide +kernel) (pa_cons (pe_ix ix_tup (pv 0) (pe_gv G.c_INSERTIONS) (fun _ _ => rfl)) pa_nil)) (pe_callTy call_list_of (by rfl) G.b_list (by decide +kernel) (pa_cons (pe_ix ix_tup (pv 0) (pe_gv G.c_DELETIONS) (fun _ _ => rfl)) pa_nil))) (pe_lc (own := [("entry", 1)]) (g := (gName 1)) (tt := tYes) (te := (tOp (rIxT K) (tVar 1) (tC (.int 0)))) rfl sc_changes_in.nd (pi_tup (pe_ix ix_tup (pv 0) (pe_gv G.c_PENDING) (fun _ _ => rfl))) (blkOk_by (N := ["dress", "entry"]) (sc := defScope s_changes_in) (by decide +kernel)) (fun _ _ _ _ _ => (pg_name (i := 1) sc_changes_in.nd rfl (Or.inl rfl))) (fun _ _ _ _ _ => pts_nil) (fun _ _ _ _ _ => (pe_ix ix_tup (pv 1) pe_int (fun _ _ => rfl))))))), ?_⟩
    refine ⟨_, rfl, d, _, _, _, rfl, rfl, h1, at_of (j := 1) rfl rfl, ins, _, rfl, .inr h3, fun l1 n1 => ?_⟩
    have m1 := same_upd (o := .lst (vN x.ins)) n1
    refine ⟨_, rfl, d, _, _, _, rfl, rfl, same_tup m1 h1, at_of (j := 2) rfl rfl, del, _, rfl, .inr (same_tup m1 h4), fun l2 n2 => ?_⟩
    have m2 := same_upd (o := .lst (vN x.del)) n2
    refine ⟨l1, l2, _, _, rfl, rfl, m2 _ _ upd_same, upd_same, by rw [vN_len, vN_len]; omega, fun l3 n3 => ?_⟩
    rw [← vN_app]
    have m3 := same_upd (o := .lst (vN (x.ins ++ x.del))) n3
    have s3 := (m1.trans m2).trans m3
    have hl3 : (upd (upd (upd H l1 (.lst (vN x.ins))) l2 (.lst (vN x.del))) l3 (.lst (vN (x.ins ++ x.del)))) l3 = some _ := upd_same
    generalize upd (upd (upd H l1 (.lst (vN x.ins))) l2 (.lst (vN x.del))) l3 (.lst (vN (x.ins ++ x.del))) = H3 at s3 hl3
    refine ⟨_, rfl, d, _, _, _, rfl, rfl, same_tup s3 h1, at_of (j := 3) rfl rfl, pe, rfl, ⟨_, same_tup s3 h5⟩, fun Dd nD => ?_⟩
    refine lc_it (walk_tup (xs := pas.map V.ref)) (fun i Hx => Same H3 Hx ∧ Hx Dd = some (.lst (vN ((x.pend.take i).map fun y => y.change)))) ⟨same_upd nD, upd_same⟩ (fun i Hx _ hP => same_tup hP.1 (same_tup s3 h5)) (fun i v Hx Hy hi hP hY => ?_) (fun Hx hP => ?_)
    · obtain ⟨rfl, hx⟩ := hY
      rw [List.getElem?_map] at hx
      obtain ⟨xa, hxa, rfl⟩ := Option.map_eq_some_iff.mp hx
      obtain ⟨y, hy, hya⟩ := paired_get h5p hxa
      have hil : i < x.pend.length := (List.getElem?_eq_some_iff.mp hy).1
      refine ⟨rfl, _, rfl, xa, _, _, _, rfl, rfl, same_tup (s3.trans hP.1) hya, at_of (j := 0) rfl rfl, _, hP.2, ?_, same_write nD hP.1, ?_⟩
      · rw [vN_len, List.length_map, List.length_take]; omega
      · rw [upd_same, List.take_add_one, hy, List.map_append, vN_app]
        rfl
    · obtain ⟨s4, hD⟩ := hP
      rw [List.length_map, hpl, List.take_length] at hD
      refine ⟨l3, Dd, _, _, rfl, rfl, s4 _ _ hl3, hD, ?_, fun r nr => ?_⟩
      · rw [vN_len, vN_len, List.length_append, List.length_map]
        omega
      have sA := s3.trans s4
      refine q _ r (sA.trans (same_upd nr)) (none_back sA nr) ?_
      rw [upd_same, ← vN_app]
      rfl
theorem chIn_le {n : Nat} {x : Piece} (h : PcOk n x) : ∀ c ∈ chIn x, c ≤ n := by
  intro c hc
  unfold chIn at hc
  rcases List.mem_append.mp hc with hc | hc
  · rcases List.mem_append.mp hc with hc | hc
    · exact h.ins c hc
    · exact h.del c hc
  · obtain ⟨y, hy, rfl⟩ := List.mem_map.mp hc
    exact (h.pend y hy).1
/-- those in the first pieces -/
def inRow (row : List Piece) (c : Nat) : Prop := ∃ x ∈ row, c ∈ chIn x
theorem inRow_snoc {row : List Piece} {i : Nat} {x : Piece} (h : row[i]? = some x) (c : Nat) : inRow (row.take (i + 1)) c ↔ inRow (row.take i) c ∨ c ∈ chIn x := by
  unfold inRow
  rw [List.take_add_one, h]
  show (∃ y ∈ row.take i ++ [x], _) ↔ _
  refine ⟨fun ⟨y, hy, e⟩ => ?_, fun z => ?_⟩
  · rcases List.mem_append.mp hy with hy | hy
    · exact .inl ⟨y, hy, e⟩
    · rw [List.mem_singleton.mp hy] at e
      exact .inr e
  · rcases z with ⟨y, hy, e⟩ | e
    · exact ⟨y, List.mem_append_left _ hy, e⟩
    · exact ⟨x, List.mem_append_right _ (List.mem_singleton.mpr rfl), e⟩
def sp_borne_changes (K : PySem.W.Frag) : Sp := fun vs H Q _ => ∃ (a : Addr) (row : List Piece) (n : Nat), vs = [.ref a] ∧ RowAt K H a row ∧ (∀ x ∈ row, PcOk n x) ∧ n < 1000000 ∧ ∀ H' p kvs, Same H H' → H p = none → H' p = some (.dK kvs) → Brn n kvs (inRow row) → Q (.ref p) H'
theorem ok_borne_changes {k : Nat} (G : Glob mg) (c_changes_in : C8.Cal P w K mg base 1 "changes_in" (sp_changes_in K) []) (D : Stands K mg "borne_changes" s_borne_changes) : C8.Cal P w K mg base (k + 2) "borne_changes" (sp_borne_changes K) [] := by
  refine cal_of D sc_borne_changes (fun vs H Q E h => ?_) (fun _ _ _ _ _ _ us hl => match us, hl with | [_], _ => rfl) (fun f cdv A outer s H vs Q E hr h => ?_)
  · obtain ⟨a, row, n, rfl, _⟩ := h
    rfl
  · obtain ⟨a, row, n, rfl, ⟨bs, r1, r2⟩, hok, hn, q⟩ := h
    refine ⟨_, (pss_cons (ps_set (i := 1) sc_borne_changes.nd rfl (Or.inl rfl) pe_dnewK)
      (pss_cons (ps_set (i := 2) sc_borne_changes.nd rfl (Or.inl rfl) pe_non)
      (pss_cons (ps_for PassesOwn.never rfl (pi_list (pv 0)) (pg_tup rfl (pgs_cons (pg_name (i := 3) sc_borne_changes.nd rfl (Or.inl rfl)) (pgs_cons (pg_name (i := 4) sc_borne_changes.nd rfl (Or.inl rfl)) pgs_nil)))
      (pss_cons (ps_if (pt_cmpR (op_neD hr.units) (pv 4) (pv 2) (nomark _))
      (pss_one (ps_for PassesOwn.never rfl (pi_list (C8.pe_c c_changes_in hr (by omega) (by rfl) (pa_cons (pv 4) pa_nil))) (pg_name (i := 5) sc_borne_changes.nd rfl (Or.inl rfl))
      (pss_one (ps_dput (hu1 hr) (pv 1) (pv 5) pe_bl rfl))))
      pss_nil)
      (pss_one (ps_set (i := 2) sc_borne_changes.nd rfl (Or.inl rfl) (pv 4)))))
      (pss_one (ps_ret (pv 1)))))), ?_⟩
    have hbl : bs.length = row.length := Paired.length r2
    have e9 : (1000001 : Nat) < sizeLine := by decide
    refine fun p np => ?_
    have s0 := same_upd (o := .dK []) np
    refine ⟨_, rfl, a, rfl, ⟨_, SqL.of (s0 _ _ r1)⟩, for_list (xs := bs.map V.ref) (fun i σ H2 => ∃ (v : V) (y1 y2 y3 : Option V) (kvs : List (Key × V)), σ = [some (.ref a), some (.ref p), some v, y1, y2, y3] ∧ Same H H2 ∧ (v = .non ∨ ∃ wa wp, v = .ref wa ∧ Dp K H2 (.ref wa) (dressD wp) ∧ ∀ c ∈ chIn wp, inRow (row.take i) c) ∧ H2 p = some (.dK kvs) ∧ Brn n kvs (inRow (row.take i)))
      ⟨.non, none, none, none, [], rfl, s0, .inl rfl, upd_same, (Brn.nil n).iff fun c => ⟨fun z => z.elim, fun ⟨x, hx, _⟩ => by cases hx⟩⟩ (fun i σ H2 _ hP => ?_) (fun i v σ H2 hx hP => ?_) (fun σ H2 hP => ?_)⟩
    · obtain ⟨_, _, _, _, _, _, s2, _⟩ := hP
      exact SqL.of (s2 _ _ r1)
    · obtain ⟨v, y1, y2, y3, kvs, rfl, s2, hwo, hp, hb⟩ := hP
      rw [List.getElem?_map] at hx
      obtain ⟨xa, hxa, rfl⟩ := Option.map_eq_some_iff.mp hx
      obtain ⟨x, hxr, hxd⟩ := paired_get r2 hxa
      obtain ⟨da, x1, x2⟩ := piece_at hxd
      have hxok := hok x (List.mem_of_getElem? hxr)
      have hsn := inRow_snoc hxr
      -- worn = dress
      have fin : ∀ (v : V) (y3 : Option V) (kvs : List (Key × V)) (H3 : Hp), Same H H3 → H3 p = some (.dK kvs) → Brn n kvs (inRow (row.take (i + 1))) → ∀ Dn : Ends,
          (Dn.nx = fun σ H2 => ∃ (v : V) (y1 y2 y3 : Option V) (kvs : List (Key × V)), σ = [some (.ref a), some (.ref p), some v, y1, y2, y3] ∧ Same H H2 ∧ (v = .non ∨ ∃ wa wp, v = .ref wa ∧ Dp K H2 (.ref wa) (dressD wp) ∧ ∀ c ∈ chIn wp, inRow (row.take (i + 1)) c) ∧ H2 p = some (.dK kvs) ∧ Brn n kvs (inRow (row.take (i + 1)))) →
          tAsg (tVar 4) (gName 2) Dn [some (.ref a), some (.ref p), some v, some (.int ((x.sign : Nat) : Int)), some (.ref da), y3] H3 := by
        intro v y3 kvs H3 t1 t2 t3 Dn hDn
        refine ⟨_, rfl, ?_⟩
        show Dn.nx _ _
        rw [hDn]
        exact ⟨_, _, _, _, kvs, rfl, t1, .inr ⟨da, x, rfl, dp_same t1 _ _ x2, fun c hc => (hsn c).mpr (.inr hc)⟩, t2, t3⟩
      -- a dress that isn't the one worn
      have neu : ∀ Dn : Ends,
          (Dn.nx = fun σ H2 => ∃ (v : V) (y1 y2 y3 : Option V) (kvs : List (Key × V)), σ = [some (.ref a), some (.ref p), some v, y1, y2, y3] ∧ Same H H2 ∧ (v = .non ∨ ∃ wa wp, v = .ref wa ∧ Dp K H2 (.ref wa) (dressD wp) ∧ ∀ c ∈ chIn wp, inRow (row.take (i + 1)) c) ∧ H2 p = some (.dK kvs) ∧ Brn n kvs (inRow (row.take (i + 1)))) →
          tSeq (tFor (iList K (tCall (sp_changes_in K) [] C8.E0 (tCons (tVar 4) tNil))) (gName 5) (sDPut (tVar 1) (tVar 5) (tC (.bl true)))) (tAsg (tVar 4) (gName 2)) Dn
            [some (.ref a), some (.ref p), some v, some (.int ((x.sign : Nat) : Int)), some (.ref da), y3] H2 := by
        intro Dn hDn
        refine ⟨_, rfl, da, x, n, rfl, dp_same s2 _ _ x2, hxok, fun H3 l s3 nl hl => ?_⟩
        have hlp : l ≠ p := fun z => by rw [z, hp] at nl; cases nl
        refine ⟨l, rfl, ⟨_, SqL.of hl⟩, for_list (xs := vN (chIn x)) (fun j σ H4 => ∃ (y : Option V) (kvs : List (Key × V)), σ = [some (.ref a), some (.ref p), some v, some (.int ((x.sign : Nat) : Int)), some (.ref da), y] ∧ Same H H4 ∧ H4 l = some (.lst (vN (chIn x))) ∧ H4 p = some (.dK kvs) ∧ Brn n kvs (fun c => inRow (row.take i) c ∨ c ∈ (chIn x).take j))
          ⟨_, kvs, rfl, s2.trans s3, hl, s3 _ _ hp, hb.iff fun c => ⟨fun z => .inl z, fun z => z.resolve_right fun y => by cases y⟩⟩ (fun j σ H4 _ hP => ?_) (fun j u σ H4 hu hP => ?_) (fun σ H4 hP => ?_)⟩
        · obtain ⟨_, _, _, _, h4, _⟩ := hP
          exact SqL.of h4
        · obtain ⟨y, kv, rfl, s4, h4, hp4, hb4⟩ := hP
          obtain ⟨c, hc, rfl⟩ := vN_int hu
          have hcn := chIn_le hxok c (List.mem_of_getElem? hc)
          have hkl := hb4.len
          refine ⟨_, rfl, _, rfl, p, _, rfl, DPut.k (k := Sum.inl (c : Int)) hp4 (by omega), ⟨_, _, rfl, same_write np s4, by rw [upd_ne hlp]; exact h4, upd_same, (hb4.put hcn _).iff fun d => ?_⟩⟩
          rw [List.take_add_one, hc]
          show _ ↔ _ ∨ d ∈ (chIn x).take j ++ [c]
          rw [List.mem_append, List.mem_singleton, or_assoc]
        · obtain ⟨y, kv, rfl, s4, h4, hp4, hb4⟩ := hP
          rw [vN_len, List.take_length] at hb4
          exact fin v _ kv H4 s4 hp4 (hb4.iff fun c => (hsn c).symm) _ hDn
      have hx2 := dp_same s2 _ _ x2
      refine ⟨xa, _, rfl, same_tup s2 x1, rfl, _, _, rfl, _, _, rfl, rfl, ?_⟩
      rcases hwo with rfl | ⟨wa, wp, rfl, w1, w2⟩
      · refine ⟨_, rfl, _, rfl, dressD x, .none, hx2, .non, dress_shaped _, (flatD_none 0).shaped (by decide), _, rfl, ?_⟩
        rw [none_eqv]
        exact neu _ rfl
      · refine ⟨_, rfl, _, rfl, dressD x, dressD wp, hx2, w1, dress_shaped _, dress_shaped _, _, rfl, ?_⟩
        rw [dress_eqv]
        cases hax : Vatrkd.alike x wp with
        | false => exact neu _ rfl
        | true =>
          obtain ⟨_, i2, i3, i4, _⟩ := alike_iff.mp hax
          refine fin _ _ kvs H2 s2 hp (hb.iff fun c => ?_) _ rfl
          rw [hsn c, Tm.chIn_alike i2 i3 i4]
          exact ⟨fun z => .inl z, fun z => z.elim id fun y => w2 c y⟩
    · obtain ⟨v, y1, y2, y3, kvs, rfl, s2, hwo, hp, hb⟩ := hP
      rw [List.length_map, hbl, List.take_length] at hb
      exact ⟨_, rfl, q _ p kvs s2 np hp hb⟩
end
end Td
set_option maxRecDepth 100000
set_option maxHeartbeats 4000000
namespace Td
open PySem PySem.Spec PyProof.Rows L2
open Vatrka (Piece Pending Change bears)
open Vatrkd (renumber)
open Tm (chIn bU tU)
/-- the new numbers of the first changes -/
def frL (B : Nat → Bool) (i : Nat) : List Nat := (List.range (i + 1)).map fun j => (bU B j).length
theorem frL_succ (B : Nat → Bool) (i : Nat) : frL B (i + 1) = frL B i ++ [(bU B (i + 1)).length] := by
  unfold frL
  rw [List.range_succ, List.map_append]
  rfl
theorem frL_fresh (B : Nat → Bool) (n : Nat) : Fresh n (frL B n) fun c => ((bU B n).filter fun e => decide (e ≤ c)).length := by
  intro c hc
  unfold frL
  rw [List.getElem?_map, List.getElem?_range (by omega)]
  show some (bU B c).length = some ((bU B n).filter fun e => decide (e ≤ c)).length
  rw [Tm.bU_le B c n hc]
section
variable {P : Program} {w : World} {K : PySem.W.Frag} {mg : Str → Option Value} {base : Heap} {CD : Addr}
def sp_tidied (K : PySem.W.Frag) (CD : Addr) : Sp := fun vs H Q _ => ∃ (d ta ra : Addr) (doc : Vatrkd.Doc), vs = [.ref d] ∧ DocAt K CD H d ta ra ∧ TabAt K H ta doc.table ∧ RowAt K H ra doc.row ∧ DocOk doc ∧
  ∀ H' r dr tc rc, Same H H' → H r = none → H tc = none → H' r = some (.ins CD dr (fDoc.zip [.ref tc, .ref rc])) → TabAt K H' tc (Vatrkd.tidied doc).table → RowAt K H' rc (Vatrkd.tidied doc).row → Q (.ref r) H'
theorem ok_tidied {k : Nat} (G : Glob mg) (TD : CT K CD fDoc) (m_Document : C8.Mak P w K mg base 1 "Document" CD (spInit CD fDoc) []) (c_borne_changes : C8.Cal P w K mg base 2 "borne_changes" (sp_borne_changes K) []) (c_renumbered_row : C8.Cal P w K mg base 2 "renumbered_row" (sp_renumbered_row K) []) (D : Stands K mg "tidied" s_tidied) : C8.Cal P w K mg base (k + 3) "tidied" (sp_tidied K CD) [] := by
  refine cal_of D sc_tidied (fun vs H Q E h => ?_) (fun _ _ _ _ _ _ us hl => match us, hl with | [_], _ => rfl) (fun f cdv A outer s H vs Q E hr h => ?_)
  · obtain ⟨d, ta, ra, doc, rfl, _⟩ := h
    rfl
  · obtain ⟨d, ta, ra, doc, rfl, ⟨dd, hd⟩, ⟨cs, t1, t2⟩, hrow, hok, q⟩ := h
    refine ⟨_, (pss_cons (ps_set (i := 1) sc_tidied.nd rfl (Or.inl rfl) (C8.pe_c c_borne_changes hr (by omega) (by rfl) (pa_cons (pe_fld (pv 0) rfl) pa_nil)))
      (pss_cons (ps_set (i := 2) sc_tidied.nd rfl (Or.inl rfl) (pe_lst pa_nil))
      (pss_cons (ps_set (i := 3) sc_tidied.nd rfl (Or.inl rfl) (pe_lst (pa_cons pe_int pa_nil)))
      (pss_cons (ps_for PassesOwn.never rfl (pi_enumL (by rfl) G.b_enumerate (pa_cons (pe_fld (pv 0) rfl) pa_nil)) (pg_tup rfl (pgs_cons (pg_name (i := 4) sc_tidied.nd rfl (Or.inl rfl)) (pgs_cons (pg_name (i := 5) sc_tidied.nd rfl (Or.inl rfl)) pgs_nil)))
      (pss_cons (ps_if (pt_cmp (pc_din (hu1 hr) (pv 4) (pv 1)))
      (pss_one (ps_expr (pe_bm PySem.F.plainAttrs_list PySem.F.slot_list_append PySem.F.type_list_append mt_append (pv 2) (pa_cons (pv 5) pa_nil))))
      pss_nil)
      (pss_one (ps_expr (pe_bm PySem.F.plainAttrs_list PySem.F.slot_list_append PySem.F.type_list_append mt_append (pv 3) (pa_cons (pe_callB call_len_seq (by rfl) G.b_len (by decide +kernel) (pa_cons (pv 2) pa_nil)) pa_nil))))))
      (pss_one (ps_ret (C8.pe_mk m_Document hr (by omega) (by rfl) (pa_cons (pv 2) (pa_cons (C8.pe_c c_renumbered_row hr (by omega) (by rfl) (pa_cons (pe_fld (pv 0) rfl) (pa_cons (pv 3) pa_nil))) pa_nil))))))))), ?_⟩
    have lc : cs.length = doc.table.length := Paired.length t2
    have htl := hok.tl
    have e9 : (1000001 : Nat) < sizeLine := by decide
    generalize hB : (fun c => doc.row.any (bears c)) = B
    refine ⟨_, rfl, d, CD, dd, _, _, rfl, hd, TD.cl, TD.no _ (by simp), lkD1, ra, doc.row, doc.table.length, rfl, hrow, hok.row, htl, fun H1 p kvs s1 np hp hb => ?_⟩
    refine ⟨Nat.zero_le _, fun tl ntl => ?_⟩
    have s2 := same_upd (o := .lst []) ntl
    refine ⟨by show 1 ≤ sizeLine; decide, fun fl nfl => ?_⟩
    have s3 := same_upd (o := .lst [.int 0]) nfl
    have ntlH := none_back s1 ntl
    have nflH := none_back (s1.trans s2) nfl
    have htf : tl ≠ fl := fun z => by rw [← z, upd_same] at nfl; cases nfl
    have hpt : p ≠ tl := fun z => by rw [← z, hp] at ntl; cases ntl
    have hpf : p ≠ fl := fun z => by rw [← z, s2 _ _ hp] at nfl; cases nfl
    have s13 := s1.trans (s2.trans s3)
    have hval : ∀ c : Nat, (valV kvs (Sum.inl (c : Int))).isSome = B c := fun c => by
      rw [Bool.eq_iff_iff, hb.val c, ← hB]
      exact Tm.any_bears.symm
    refine ⟨_, rfl, d, CD, dd, _, _, rfl, s13 _ _ hd, TD.cl, TD.no _ (by simp), lkD0, ta, _, rfl, SqL.of (s13 _ _ t1), for_it (walk_C (xs := cs.map V.ref)) (fun i σ H2 => ∃ (y1 y2 : Option V) (as : List Addr), σ = [some (.ref d), some (.ref p), some (.ref tl), some (.ref fl), y1, y2] ∧ Same H H2 ∧ H2 p = some (.dK kvs) ∧ H2 tl = some (.lst (as.map V.ref)) ∧ Paired (fun b c => Dp K H2 (.ref b) (changeD c)) as (tU doc.table B i) ∧ H2 fl = some (.lst (vN (frL B i))))
      ⟨none, none, [], rfl, s13, (s2.trans s3) _ _ hp, s3 _ _ upd_same, .nil, upd_same⟩ (fun i σ H2 _ hP => ?_) (fun i v σ H2 H3 hi hP hY => ?_) (fun σ H2 hP => ?_)⟩
    · obtain ⟨_, _, _, _, sx, _⟩ := hP
      exact SqL.of (sx _ _ t1)
    · obtain ⟨y1, y2, as, rfl, sx, hpx, htx, has, hfx⟩ := hP
      obtain ⟨tp, v1, v2, rfl, nt, rfl, e1, e2⟩ := hY
      obtain rfl := Option.some.inj e1
      have e2' : (cs.map V.ref)[i]? = some v2 := e2
      rw [List.getElem?_map] at e2'
      obtain ⟨ca, hca, rfl⟩ := Option.map_eq_some_iff.mp e2'
      obtain ⟨c, hc, hcd⟩ := paired_get t2 hca
      have hil : i < doc.table.length := (List.getElem?_eq_some_iff.mp hc).1
      have s4 : Same H2 (upd H2 tp (.tup [.int (1 + (i : Int)), .ref ca])) := same_upd nt
      have s5 := sx.trans s4
      refine ⟨tp, _, rfl, SqT.of upd_same, rfl, _, _, rfl, _, _, rfl, rfl, ?_⟩
      have hp4 := s4 _ _ hpx
      have ht4 := s4 _ _ htx
      have hf4 := s4 _ _ hfx
      have has4 : Paired (fun b c => Dp K (upd H2 tp (.tup [.int (1 + (i : Int)), .ref ca])) (.ref b) (changeD c)) as (tU doc.table B i) := Paired.mapP has fun b c z => dp_same s4 _ _ z
      generalize upd H2 tp (.tup [.int (1 + (i : Int)), .ref ca]) = H4 at s4 s5 hp4 ht4 hf4 has4
      have hts := Tm.tU_succ (tb := doc.table) (B := B) hc
      have hal := Paired.length has4
      have htul := Tm.tU_len (tb := doc.table) (B := B) (i := i) (by omega)
      have hbl := Tm.bU_len B i
      -- fresh.append(len(table))
      have fin : ∀ (as' : List Addr) (H5 : Hp), Same H H5 → H5 p = some (.dK kvs) → H5 tl = some (.lst (as'.map V.ref)) → Paired (fun b c => Dp K H5 (.ref b) (changeD c)) as' (tU doc.table B (i + 1)) → H5 fl = some (.lst (vN (frL B i))) → ∀ Dn : Ends,
          (Dn.nx = fun σ H2 => ∃ (y1 y2 : Option V) (as : List Addr), σ = [some (.ref d), some (.ref p), some (.ref tl), some (.ref fl), y1, y2] ∧ Same H H2 ∧ H2 p = some (.dK kvs) ∧ H2 tl = some (.lst (as.map V.ref)) ∧ Paired (fun b c => Dp K H2 (.ref b) (changeD c)) as (tU doc.table B (i + 1)) ∧ H2 fl = some (.lst (vN (frL B (i + 1))))) →
          tDrop (tBM K "list" rAppend (tVar 3) (tCons (tCB (fun xs H Q => ∃ p ys, xs = [V.ref p] ∧ (SqL K H p ys ∨ SqT K H p ys) ∧ Q (.int ys.length) H) (tCons (tVar 2) tNil)) tNil)) Dn [some (.ref d), some (.ref p), some (.ref tl), some (.ref fl), some (.int (1 + (i : Int))), some (.ref ca)] H5 := by
        intro as' H5 u1 u2 u3 u4 u5 Dn hDn
        refine ⟨_, rfl, .inl ⟨rfl, _, SqL.of u5⟩, _, rfl, tl, _, rfl, .inl (SqL.of u3), fl, _, _, rfl, rfl, u5, ?_, ?_⟩
        · unfold frL
          rw [vN_len, List.length_map, List.length_range]
          omega
        show Dn.nx _ _
        rw [hDn, List.length_map, Paired.length u4, Tm.tU_len (by omega)]
        have kt : KeepT K H5 (upd H5 fl (.lst (vN (frL B i) ++ [.int ((bU B (i + 1)).length : Int)]))) := keepT_upd u5 (fun _ z => by cases z) (fun _ _ z => by cases z)
        refine ⟨_, _, as', rfl, same_write nflH u1, by rw [upd_ne hpf]; exact u2, by rw [upd_ne htf]; exact u3, Paired.mapP u4 fun b c z => dp_keep kt _ _ (tupD_change c) z, ?_⟩
        rw [upd_same, frL_succ, vN_app]
        rfl
      refine ⟨_, rfl, _, rfl, p, _, rfl, DGet.k (k := Sum.inl (1 + (i : Int))) hp4, _, rfl, ?_⟩
      rw [show (1 : Int) + (i : Int) = ((i + 1 : Nat) : Int) by omega, hval, show ((i + 1 : Nat) : Int) = (1 : Int) + (i : Int) by omega]
      cases hBi : B (i + 1) with
      | true =>
        rw [hBi, if_pos rfl] at hts
        refine ⟨_, rfl, .inl ⟨rfl, _, SqL.of ht4⟩, _, rfl, tl, _, _, rfl, rfl, ht4, by rw [List.length_map]; omega, ?_⟩
        have kt : KeepT K H4 (upd H4 tl (.lst (as.map V.ref ++ [.ref ca]))) := keepT_upd ht4 (fun _ z => by cases z) (fun _ _ z => by cases z)
        refine fin (as ++ [ca]) _ (same_write ntlH s5) (by rw [upd_ne hpt]; exact hp4) (by rw [upd_same, List.map_append]; rfl) ?_ (by rw [upd_ne htf.symm]; exact hf4) _ rfl
        rw [hts]
        exact paired_snoc (Paired.mapP has4 fun b c z => dp_keep kt _ _ (tupD_change c) z) (dp_keep kt _ _ (tupD_change c) (dp_same s5 _ _ hcd))
      | false =>
        rw [hBi, if_neg (by decide), List.append_nil] at hts
        refine fin as H4 s5 hp4 ht4 ?_ hf4 _ rfl
        rw [hts]
        exact has4
    · obtain ⟨y1, y2, as, rfl, sx, hpx, htx, has, hfx⟩ := hP
      rw [List.length_map, lc] at has hfx
      refine ⟨_, rfl, _, rfl, d, CD, dd, _, _, rfl, sx _ _ hd, TD.cl, TD.no _ (by simp), lkD1, _, rfl, ra, fl, doc.row, doc.table.length, _, _, rfl, hrow.same sx, hok.row, hok.rl, SqL.of hfx, frL_fresh B _, fun H6 rc s6 nrc hrc => ?_⟩
      refine fun nx dx n3 n4 n5 => ⟨nx, dx, [_, _], rfl, rfl, upd_same, rfl, ?_⟩
      rw [upd_upd]
      have m2 := made_same (C := CD) (fs := fDoc.zip [.ref tl, .ref rc]) n3 n4
      have m6 := s6.trans m2
      have ebo : Vatrkd.borne doc = bU B doc.table.length := by rw [← hB]; rfl
      refine q _ nx dx tl rc (sx.trans m6) (none_back (sx.trans s6) n3) ntlH made_at ⟨as, m6 _ _ htx, ?_⟩ ?_
      · show Paired _ as ((Vatrkd.borne doc).filterMap fun c => doc.table[c - 1]?)
        rw [ebo]
        exact Paired.mapP has fun b c z => dp_same m6 _ _ z
      · show RowAt K _ rc (doc.row.map (renumber fun c => ((Vatrkd.borne doc).filter fun e => decide (e ≤ c)).length))
        rw [ebo]
        exact hrc.same m2
end
end Td
set_option maxRecDepth 100000
set_option maxHeartbeats 4000000
namespace Td
open PySem PySem.Spec PyProof.Rows L2
open Vatrka (Piece Pending Change shown stood)
/-- what was free before a desk's new document -/
theorem free_back {H H1 H2 : Hp} {k p : Addr} {o : HO} (s : Same H H1) (g : Kept k H1 H2) (hk : H2 k = some o) (np : H2 p = none) : H p = none := by
  cases z : H p with
  | none => rfl
  | some u =>
    by_cases e : p = k
    · rw [e, hk] at np; cases np
    · rw [g _ _ (s _ _ z) e] at np; cases np
theorem viewB_1 : viewB 1 = Vatrka.shown := by funext x; rfl
theorem viewB_2 : viewB 2 = stood := by funext x; rfl
theorem viewB_0 (row : List Piece) : row.filter (viewB 0) = row := List.filter_eq_self.mpr fun _ _ => rfl
section
variable {P : Program} {w : World} {K : PySem.W.Frag} {mg : Str → Option Value} {base : Heap} {CD CR CK : Addr}
def sp_tidy (K : PySem.W.Frag) (CK CD : Addr) : Sp := fun vs H Q _ => ∃ (k : Addr) (doc : Vatrkd.Doc), vs = [.ref k] ∧ DeskAt K CK CD H k doc ∧ DocOk doc ∧ Gives K CK CD k doc .tidy H Q
theorem mt_tidy {k : Nat} (G : Glob mg) (TD : CT K CD fDoc) (TK : CT K CK fDesk) (c_tidied : C8.Cal P w K mg base 3 "tidied" (sp_tidied K CD) []) (D : StandsM K CK "tidy" "Desk.tidy" s_Desk_tidy) : C8.Met P w K mg base (k + 4) CK "tidy" (sp_tidy K CK CD) [] := by
  refine met_of D sc_Desk_tidy (fun vs H Q E h => ?_) (fun _ _ _ _ _ _ us hl => match us, hl with | [_], _ => rfl) (fun f cdv A outer s H vs Q E hr h => ?_)
  · obtain ⟨k, doc, rfl, _⟩ := h
    rfl
  · obtain ⟨kk, doc, rfl, hK, hok, q⟩ := h
    obtain ⟨dk, d, ta, ra, k1, ⟨dd, hd⟩, ht, hrow⟩ := hK
    refine ⟨_, (pss_cons (ps_set (i := 1) sc_Desk_tidy.nd rfl (Or.inl rfl) (pe_callB call_len_seq (by rfl) G.b_len (by decide +kernel) (pa_cons (pe_fld (pe_fld (pv 0) rfl) rfl) pa_nil)))
      (pss_cons (ps_fld (pv 0) (C8.pe_c c_tidied hr (by omega) (by rfl) (pa_cons (pe_fld (pv 0) rfl) pa_nil)) rfl)
      (pss_one (ps_ret (pe_lst (pa_cons (pe_op op_sub (pv 1) (pe_callB call_len_seq (by rfl) G.b_len (by decide +kernel) (pa_cons (pe_fld (pe_fld (pv 0) rfl) rfl) pa_nil))) pa_nil)))))), ?_⟩
    have ht' := ht
    obtain ⟨cs, t1, t2⟩ := ht
    have lc : cs.length = doc.table.length := Paired.length t2
    refine ⟨_, rfl, kk, CK, dk, _, _, rfl, k1, TK.cl, TK.no _ (by simp), lkK, d, CD, dd, _, _, rfl, hd, TD.cl, TD.no _ (by simp), lkD0, ta, _, rfl, .inl (SqL.of t1), ?_⟩
    rw [List.length_map, lc]
    refine ⟨_, rfl, kk, CK, dk, _, _, rfl, k1, TK.cl, TK.no _ (by simp), lkK, d, ta, ra, doc, rfl, ⟨dd, hd⟩, ht', hrow, hok, fun H1 r dr tc rc s1 nr ntc hr1 htc hrc => ?_⟩
    have k1' := s1 _ _ k1
    obtain ⟨g1, g2⟩ := desk_set (H0 := H) (CD := CD) (doc := Vatrkd.tidied doc) k1' ⟨dr, hr1⟩ htc hrc (.inl ntc)
    refine ⟨_, rfl, kk, CK, dk, _, rfl, k1', TK.cl, TK.no _ (by simp), (by show 1 < 1000; decide), ?_⟩
    rw [putK]
    have hrk : r ≠ kk := fun z => by rw [z, k1] at nr; cases nr
    obtain ⟨as, a1, a2⟩ := htc
    have htk : tc ≠ kk := fun z => by rw [z, k1'] at a1; cases a1
    have hal : as.length = (Vatrkd.tidied doc).table.length := Paired.length a2
    refine ⟨_, rfl, _, rfl, kk, CK, dk, _, _, rfl, upd_same, TK.cl, TK.no _ (by simp), lkK, r, CD, dr, _, _, rfl, g2 _ _ hr1 hrk, TD.cl, TD.no _ (by simp), lkD0, tc, _, rfl, .inl (SqL.of (g2 _ _ a1 htk)), _, _, rfl, rfl, by show 1 ≤ sizeLine; decide, fun p np => ?_⟩
    refine q _ p (fun b o h n => same_upd np _ _ (g2 _ _ (s1 _ _ h) n)) (g1.same (same_upd np)) ?_ (free_back s1 g2 upd_same np)
    rw [upd_same, List.length_map, hal, tidy_table]
    have hle := borne_len doc
    have e : ((doc.table.length : Int) - ((Vatrkd.borne doc).length : Int)) = ((doc.table.length - (Vatrkd.borne doc).length : Nat) : Int) := by omega
    show some (HO.lst [V.int ((doc.table.length : Int) - ((Vatrkd.borne doc).length : Int))]) = _
    rw [e]
    rfl
def sp_settle (K : PySem.W.Frag) (CK CD : Addr) : Sp := fun vs H Q _ => ∃ (k : Addr) (v : Int) (doc : Vatrkd.Doc), vs = [.ref k, .int v] ∧ DeskAt K CK CD H k doc ∧ DocOk doc ∧ Gives K CK CD k doc (.settle v) H Q
theorem mt_settle {k : Nat} (G : Glob mg) (TD : CT K CD fDoc) (TK : CT K CK fDesk) (c_settled : C8.Cal P w K mg base 3 "settled" (sp_settled K CD) []) (D : StandsM K CK "settle" "Desk.settle" s_Desk_settle) : C8.Met P w K mg base (k + 4) CK "settle" (sp_settle K CK CD) [] := by
  refine met_of D sc_Desk_settle (fun vs H Q E h => ?_) (fun _ _ _ _ _ _ us hl => match us, hl with | [_, _], _ => rfl) (fun f cdv A outer s H vs Q E hr h => ?_)
  · obtain ⟨k, v, doc, rfl, _⟩ := h
    rfl
  · obtain ⟨kk, v, doc, rfl, hK, hok, q⟩ := h
    have hK0 := hK
    obtain ⟨dk, d, ta, ra, k1, ⟨dd, hd⟩, ht, hrow⟩ := hK
    refine ⟨_, (pss_cons (ps_if (pt_cmpR op_notIn_seq (pv 1) (pe_tup (pa_cons (pe_gv G.c_SHOWN) (pa_cons (pe_gv G.c_BEFORE) pa_nil))) rfl)
      (pss_one (ps_ret (pe_lst (pa_cons (pe_un un_neg pe_int) pa_nil))))
      pss_nil)
      (pss_cons (ps_set (i := 2) sc_Desk_settle.nd rfl (Or.inl rfl) (pe_callB call_len_seq (by rfl) G.b_len (by decide +kernel) (pa_cons (pe_fld (pe_fld (pv 0) rfl) rfl) pa_nil)))
      (pss_cons (ps_fld (pv 0) (C8.pe_c c_settled hr (by omega) (by rfl) (pa_cons (pe_fld (pv 0) rfl) (pa_cons (pv 1) pa_nil))) rfl)
      (pss_one (ps_ret (pe_lst (pa_cons (pe_op op_sub (pv 2) (pe_callB call_len_seq (by rfl) G.b_len (by decide +kernel) (pa_cons (pe_fld (pe_fld (pv 0) rfl) rfl) pa_nil))) pa_nil))))))), ?_⟩
    refine ⟨_, rfl, (by show 2 ≤ sizeLine; decide), fun tp ntp => ⟨tp, _, rfl, .inr (SqT.of upd_same), rfl, rfl, _, rfl, ?_⟩⟩
    have s0 : Same H (upd H tp (.tup [.int 1, .int 2])) := same_upd ntp
    show if (!inV (.int v) [.int 1, .int 2]) = true then _ else _
    rw [in2]
    generalize upd H tp (.tup [.int 1, .int 2]) = H0 at s0
    have hst : Vatrkd.step ⟨doc⟩ (.settle v) = Vatrkd.stepSettle ⟨doc⟩ v := rfl
    unfold Gives at q
    rw [hst] at q
    unfold Vatrkd.stepSettle at q
    refine ite2 (fun g => ?_) (fun g => ?_)
    · have g1 : ¬ (v = 1 ∨ v = 2) := fun z => by rw [decide_eq_true z] at g; cases g
      rw [if_neg fun z => g1 (.inl z), if_neg fun z => g1 (.inr z)] at q
      refine ⟨_, rfl, by show 1 ≤ sizeLine; decide, fun p np => ?_⟩
      exact q _ p (fun b o h _ => same_upd np _ _ (s0 _ _ h)) (hK0.keepN (s0.trans (same_upd np))) upd_same (none_back s0 np)
    · have g1 : v = 1 ∨ v = 2 := by
        by_cases z : v = 1 ∨ v = 2
        · exact z
        · rw [decide_eq_false z] at g; exact absurd rfl g
      have hrow' := hrow
      obtain ⟨bs, r1, r2⟩ := hrow
      have lb : bs.length = doc.row.length := Paired.length r2
      refine ⟨_, rfl, kk, CK, dk, _, _, rfl, s0 _ _ k1, TK.cl, TK.no _ (by simp), lkK, d, CD, dd, _, _, rfl, s0 _ _ hd, TD.cl, TD.no _ (by simp), lkD1, ra, _, rfl, .inl (SqL.of (s0 _ _ r1)), ?_⟩
      rw [List.length_map, lb]
      refine ⟨_, rfl, kk, CK, dk, _, _, rfl, s0 _ _ k1, TK.cl, TK.no _ (by simp), lkK, _, rfl, d, ta, ra, doc, v, rfl, ⟨dd, s0 _ _ hd⟩, hrow'.same s0, hok, fun H1 r dr rc s1 nr hr1 hrc => ?_⟩
      have s01 := s0.trans s1
      have k1' := s01 _ _ k1
      obtain ⟨g1', g2⟩ := desk_set (H0 := H) (CD := CD) (doc := { doc with row := (doc.row.filter (viewB v)).map (settleP v) }) k1' ⟨dr, hr1⟩ (ht.same s01) hrc (.inr ⟨dk, d, dd, ra, k1, hd⟩)
      refine ⟨_, rfl, kk, CK, dk, _, rfl, k1', TK.cl, TK.no _ (by simp), (by show 1 < 1000; decide), ?_⟩
      rw [putK]
      have hrk : r ≠ kk := fun z => by rw [z, s0 _ _ k1] at nr; cases nr
      obtain ⟨as, a1, a2⟩ := hrc
      have htk : rc ≠ kk := fun z => by rw [z, k1'] at a1; cases a1
      have hal : as.length = (doc.row.filter (viewB v)).length := by rw [Paired.length a2, List.length_map]
      refine ⟨_, rfl, _, rfl, kk, CK, dk, _, _, rfl, upd_same, TK.cl, TK.no _ (by simp), lkK, r, CD, dr, _, _, rfl, g2 _ _ hr1 hrk, TD.cl, TD.no _ (by simp), lkD1, rc, _, rfl, .inl (SqL.of (g2 _ _ a1 htk)), _, _, rfl, rfl, by show 1 ≤ sizeLine; decide, fun p np => ?_⟩
      have hle := List.length_filter_le (viewB v) doc.row
      have e : ((doc.row.length : Int) - ((doc.row.filter (viewB v)).length : Int)) = ((doc.row.length - (doc.row.filter (viewB v)).length : Nat) : Int) := by omega
      have hend : (upd (upd H1 kk (.ins CK dk (dkF r))) p (.lst [.int ((doc.row.length : Int) - ((as.map V.ref).length : Int))])) p = some (.lst (vI (VatrkdNeutral.encode (.told [doc.row.length - (doc.row.filter (viewB v)).length])))) := by
        rw [upd_same, List.length_map, hal, e]
        rfl
      have fr := free_back s01 g2 upd_same np
      have kp : Kept kk H (upd (upd H1 kk (.ins CK dk (dkF r))) p (.lst [.int ((doc.row.length : Int) - ((as.map V.ref).length : Int))])) := fun b o h n => same_upd np _ _ (g2 _ _ (s01 _ _ h) n)
      have dsk := g1'.same (same_upd (o := .lst [.int ((doc.row.length : Int) - ((as.map V.ref).length : Int))]) np)
      rcases g1 with rfl | rfl
      · rw [if_pos rfl] at q
        rw [viewB_1] at hend dsk
        exact q _ p kp dsk hend fr
      · rw [if_neg (by decide), if_pos rfl] at q
        rw [viewB_2] at hend dsk
        exact q _ p kp dsk hend fr
def sp_plain (K : PySem.W.Frag) (CK CD : Addr) : Sp := fun vs H Q _ => ∃ (k : Addr) (v : Int) (doc : Vatrkd.Doc), vs = [.ref k, .int v] ∧ DeskAt K CK CD H k doc ∧ DocOk doc ∧ Gives K CK CD k doc (.plain v) H Q
theorem mt_plain {k : Nat} (G : Glob mg) (TD : CT K CD fDoc) (TK : CT K CK fDesk) (c_viewed_row : C8.Cal P w K mg base 2 "viewed_row" (sp_viewed_row K) []) (c_counted : C8.Cal P w K mg base 1 "counted" (sp_counted K) []) (D : StandsM K CK "plain" "Desk.plain" s_Desk_plain) : C8.Met P w K mg base (k + 4) CK "plain" (sp_plain K CK CD) [] := by
  refine met_of D sc_Desk_plain (fun vs H Q E h => ?_) (fun _ _ _ _ _ _ us hl => match us, hl with | [_, _], _ => rfl) (fun f cdv A outer s H vs Q E hr h => ?_)
  · obtain ⟨k, v, doc, rfl, _⟩ := h
    rfl
  · obtain ⟨kk, v, doc, rfl, hK, hok, q⟩ := h
    have hK0 := hK
    obtain ⟨dk, d, ta, ra, k1, ⟨dd, hd⟩, ht, hrow⟩ := hK
    refine ⟨_, (pss_cons (ps_if (pt_cmpR op_notIn_seq (pv 1) (pe_tup (pa_cons (pe_gv G.c_WHOLE) (pa_cons (pe_gv G.c_SHOWN) (pa_cons (pe_gv G.c_BEFORE) pa_nil)))) rfl)
      (pss_one (ps_ret (pe_lst (pa_cons (pe_un un_neg pe_int) pa_nil))))
      pss_nil)
      (pss_one (ps_ret (C8.pe_c c_counted hr (by omega) (by rfl) (pa_cons (pe_lc (own := [("piece", 2)]) (g := (gName 2)) (tt := tYes) (te := (tOp (rIxT K) (tVar 2) (tC (.int 0)))) rfl sc_Desk_plain.nd (pi_list (C8.pe_c c_viewed_row hr (by omega) (by rfl) (pa_cons (pe_fld (pe_fld (pv 0) rfl) rfl) (pa_cons (pv 1) pa_nil)))) (blkOk_by (N := ["self", "view", "piece"]) (sc := defScope s_Desk_plain) (by decide +kernel)) (fun _ _ _ _ _ => (pg_name (i := 2) sc_Desk_plain.nd rfl (Or.inl rfl))) (fun _ _ _ _ _ => pts_nil) (fun _ _ _ _ _ => (pe_ix ix_tup (pv 2) (pe_gv G.c_SIGN) (fun _ _ => rfl)))) pa_nil))))), ?_⟩
    refine ⟨_, rfl, (by show 3 ≤ sizeLine; decide), fun tp ntp => ⟨tp, _, rfl, .inr (SqT.of upd_same), rfl, rfl, _, rfl, ?_⟩⟩
    have s0 : Same H (upd H tp (.tup [.int 0, .int 1, .int 2])) := same_upd ntp
    show if (!inV (.int v) [.int 0, .int 1, .int 2]) = true then _ else _
    rw [in3]
    generalize upd H tp (.tup [.int 0, .int 1, .int 2]) = H0 at s0
    have hst : Vatrkd.step ⟨doc⟩ (.plain v) = (⟨doc⟩, Vatrkd.stepPlain ⟨doc⟩ v) := rfl
    unfold Gives at q
    rw [hst] at q
    unfold Vatrkd.stepPlain at q
    refine ite2 (fun g => ?_) (fun g => ?_)
    · have g1 : ¬ (v = 0 ∨ v = 1 ∨ v = 2) := fun z => by rw [decide_eq_true z] at g; cases g
      rw [if_neg fun z => g1 (.inl z), if_neg fun z => g1 (.inr (.inl z)), if_neg fun z => g1 (.inr (.inr z))] at q
      refine ⟨_, rfl, by show 1 ≤ sizeLine; decide, fun p np => ?_⟩
      exact q _ p (fun b o h _ => same_upd np _ _ (s0 _ _ h)) (hK0.keepN (s0.trans (same_upd np))) upd_same (none_back s0 np)
    · have g1 : v = 0 ∨ v = 1 ∨ v = 2 := by
        by_cases z : v = 0 ∨ v = 1 ∨ v = 2
        · exact z
        · rw [decide_eq_false z] at g; exact absurd rfl g
      have ans : (if v = 0 then Vatrkd.signsOf doc.row else if v = 1 then Vatrkd.signsOf (doc.row.filter Vatrka.shown) else if v = 2 then Vatrkd.signsOf (doc.row.filter stood) else .refused 2) = Vatrkd.signsOf (doc.row.filter (viewB v)) := by
        rcases g1 with rfl | rfl | rfl
        · rw [if_pos rfl, viewB_0]
        · rw [if_neg (by decide), if_pos rfl, viewB_1]
        · rw [if_neg (by decide), if_neg (by decide), if_pos rfl, viewB_2]
      dsimp only at q
      rw [ans] at q
      refine ⟨_, rfl, kk, CK, dk, _, _, rfl, s0 _ _ k1, TK.cl, TK.no _ (by simp), lkK, d, CD, dd, _, _, rfl, s0 _ _ hd, TD.cl, TD.no _ (by simp), lkD1, _, rfl, ra, doc.row, v, rfl, hrow.same s0, hok.rl, fun H1 a s1 na hR => ?_⟩
      obtain ⟨bs, r1, r2⟩ := hR
      have hbl : bs.length = (doc.row.filter (viewB v)).length := Paired.length r2
      have hlen : (doc.row.filter (viewB v)).length < 10000000 := Nat.lt_of_le_of_lt (List.length_filter_le _ _) hok.rl
      generalize doc.row.filter (viewB v) = row at r2 hbl q hlen
      have e9 : (10000001 : Nat) < sizeLine := by decide
      have s01 := s0.trans s1
      refine ⟨a, rfl, ⟨_, SqL.of r1⟩, fun Dd nD => ?_⟩
      refine lc_it (walk_list (xs := bs.map V.ref)) (fun i Hx => Same H1 Hx ∧ Hx Dd = some (.lst (vN ((row.take i).map fun x => x.sign)))) ⟨same_upd nD, upd_same⟩ (fun i Hx _ hP => SqL.of (hP.1 _ _ r1)) (fun i u Hx Hy hi hP hY => ?_) (fun Hx hP => ?_)
      · obtain ⟨rfl, hx⟩ := hY
        rw [List.getElem?_map] at hx
        obtain ⟨xa, hxa, rfl⟩ := Option.map_eq_some_iff.mp hx
        obtain ⟨x, hxr, hxd⟩ := paired_get r2 hxa
        obtain ⟨da, x1, x2⟩ := piece_at hxd
        have hil : i < row.length := (List.getElem?_eq_some_iff.mp hxr).1
        refine ⟨rfl, _, rfl, xa, _, _, _, rfl, rfl, same_tup hP.1 x1, at_of (j := 0) rfl rfl, _, hP.2, ?_, same_write nD hP.1, ?_⟩
        · rw [vN_len, List.length_map, List.length_take]
          omega
        · rw [upd_same, List.take_add_one, hxr, List.map_append, vN_app]
          rfl
      · obtain ⟨s2, hD⟩ := hP
        rw [List.length_map, hbl, List.take_length] at hD
        refine ⟨Dd, _, rfl, .inl (SqL.of hD), by rw [vN_len, List.length_map]; omega, fun H3 r s3 nr hr3 => ?_⟩
        have sA := s01.trans (s2.trans s3)
        refine q _ r (fun b o h _ => sA _ _ h) (hK0.keepN sA) ?_ (none_back (s01.trans s2) nr)
        rw [hr3, vN_len, List.length_map]
        exact congrArg some (congrArg HO.lst (told_V _ _).symm)
def sp_pieces (K : PySem.W.Frag) (CK CD : Addr) : Sp := fun vs H Q _ => ∃ (k : Addr) (doc : Vatrkd.Doc), vs = [.ref k] ∧ DeskAt K CK CD H k doc ∧ DocOk doc ∧ (doc.row.flatMap Vatrka.toldPiece).length + 1 ≤ sizeLine ∧ Gives K CK CD k doc .pieces H Q
theorem mt_pieces {k : Nat} (G : Glob mg) (TD : CT K CD fDoc) (TK : CT K CK fDesk) (c_listed_pieces : C8.Cal P w K mg base 3 "listed_pieces" (sp_listed_pieces K) []) (D : StandsM K CK "pieces" "Desk.pieces" s_Desk_pieces) : C8.Met P w K mg base (k + 4) CK "pieces" (sp_pieces K CK CD) [] := by
  refine met_of D sc_Desk_pieces (fun vs H Q E h => ?_) (fun _ _ _ _ _ _ us hl => match us, hl with | [_], _ => rfl) (fun f cdv A outer s H vs Q E hr h => ?_)
  · obtain ⟨k, doc, rfl, _⟩ := h
    rfl
  · obtain ⟨kk, doc, rfl, hK, hok, hlen, q⟩ := h
    have hK0 := hK
    obtain ⟨dk, d, ta, ra, k1, ⟨dd, hd⟩, ht, hrow⟩ := hK
    refine ⟨_, (pss_one (ps_ret (C8.pe_c c_listed_pieces hr (by omega) (by rfl) (pa_cons (pe_fld (pe_fld (pv 0) rfl) rfl) pa_nil)))), ?_⟩
    refine ⟨_, rfl, kk, CK, dk, _, _, rfl, k1, TK.cl, TK.no _ (by simp), lkK, d, CD, dd, _, _, rfl, hd, TD.cl, TD.no _ (by simp), lkD1, ra, doc.row, _, rfl, hrow, hok.row, hlen, fun H1 p s1 np hp => ?_⟩
    refine q _ p (fun b o h _ => s1 _ _ h) (hK0.keepN s1) ?_ np
    rw [hp]
    exact congrArg some (congrArg HO.lst (told_V _ _).symm)
def sp_changes (K : PySem.W.Frag) (CK CD : Addr) : Sp := fun vs H Q _ => ∃ (k : Addr) (doc : Vatrkd.Doc), vs = [.ref k] ∧ DeskAt K CK CD H k doc ∧ DocOk doc ∧ Gives K CK CD k doc .table H Q
theorem mt_changes {k : Nat} (G : Glob mg) (TD : CT K CD fDoc) (TK : CT K CK fDesk) (c_listed_table : C8.Cal P w K mg base 1 "listed_table" (sp_listed_table K) []) (D : StandsM K CK "changes" "Desk.changes" s_Desk_changes) : C8.Met P w K mg base (k + 4) CK "changes" (sp_changes K CK CD) [] := by
  refine met_of D sc_Desk_changes (fun vs H Q E h => ?_) (fun _ _ _ _ _ _ us hl => match us, hl with | [_], _ => rfl) (fun f cdv A outer s H vs Q E hr h => ?_)
  · obtain ⟨k, doc, rfl, _⟩ := h
    rfl
  · obtain ⟨kk, doc, rfl, hK, hok, q⟩ := h
    have hK0 := hK
    obtain ⟨dk, d, ta, ra, k1, ⟨dd, hd⟩, ht, hrow⟩ := hK
    refine ⟨_, (pss_one (ps_ret (C8.pe_c c_listed_table hr (by omega) (by rfl) (pa_cons (pe_fld (pe_fld (pv 0) rfl) rfl) pa_nil)))), ?_⟩
    refine ⟨_, rfl, kk, CK, dk, _, _, rfl, k1, TK.cl, TK.no _ (by simp), lkK, d, CD, dd, _, _, rfl, hd, TD.cl, TD.no _ (by simp), lkD0, ta, doc.table, rfl, ht, hok.tl, fun H1 p s1 np hp => ?_⟩
    refine q _ p (fun b o h _ => s1 _ _ h) (hK0.keepN s1) ?_ np
    rw [hp]
    exact congrArg some (congrArg HO.lst (told_V _ _).symm)
def sp_paragraphs (K : PySem.W.Frag) (CK CD : Addr) : Sp := fun vs H Q _ => ∃ (k : Addr) (doc : Vatrkd.Doc), vs = [.ref k] ∧ DeskAt K CK CD H k doc ∧ DocOk doc ∧ Gives K CK CD k doc .paragraphs H Q
theorem mt_paragraphs {k : Nat} (G : Glob mg) (TD : CT K CD fDoc) (TK : CT K CK fDesk) (c_listed_paragraphs : C8.Cal P w K mg base 2 "listed_paragraphs" (sp_listed_paragraphs K) []) (D : StandsM K CK "paragraphs" "Desk.paragraphs" s_Desk_paragraphs) : C8.Met P w K mg base (k + 4) CK "paragraphs" (sp_paragraphs K CK CD) [] := by
  refine met_of D sc_Desk_paragraphs (fun vs H Q E h => ?_) (fun _ _ _ _ _ _ us hl => match us, hl with | [_], _ => rfl) (fun f cdv A outer s H vs Q E hr h => ?_)
  · obtain ⟨k, doc, rfl, _⟩ := h
    rfl
  · obtain ⟨kk, doc, rfl, hK, hok, q⟩ := h
    have hK0 := hK
    obtain ⟨dk, d, ta, ra, k1, ⟨dd, hd⟩, ht, hrow⟩ := hK
    obtain ⟨li, lx, le1, le2, le3, le4⟩ := hok.last
    refine ⟨_, (pss_one (ps_ret (C8.pe_c c_listed_paragraphs hr (by omega) (by rfl) (pa_cons (pe_fld (pe_fld (pv 0) rfl) rfl) pa_nil)))), ?_⟩
    refine ⟨_, rfl, kk, CK, dk, _, _, rfl, k1, TK.cl, TK.no _ (by simp), lkK, d, CD, dd, _, _, rfl, hd, TD.cl, TD.no _ (by simp), lkD1, ra, doc.row, rfl, hrow, hok.rl, .inr ⟨li, lx, le1, le2⟩, fun H1 p s1 np hp => ?_⟩
    refine q _ p (fun b o h _ => s1 _ _ h) (hK0.keepN s1) ?_ np
    rw [hp]
    exact congrArg some (congrArg HO.lst (told_V _ _).symm)
end
end Td
set_option maxRecDepth 100000
set_option maxHeartbeats 4000000
namespace Td
open PySem PySem.Spec PyProof.Rows L2
open Vatrka (Piece Pending Change)
open Vatrkd (paragraphsOf)
open Tm (callV isT wb behL ansK)
/-! ### what stays true of the document held -/
structure Held (n : Nat) (doc : Vatrkd.Doc) : Prop where
  ok : DocOk doc
  tb : doc.table.length ≤ n
  row : doc.row.length ≤ n + 1
theorem Held.mono {n m : Nat} {doc : Vatrkd.Doc} (h : Held n doc) (e : n ≤ m) : Held m doc := ⟨h.ok, Nat.le_trans h.tb e, by have := h.row; omega⟩
theorem held_read {n : Nat} {ns : List Int} {d : Vatrkd.Doc} (hn : n + ns.length ≤ 17000) (h : Vatrkd.readDoc (nat ns) = .ok d) : Held (n + ns.length) d := by
  obtain ⟨h1, h2, h3, _⟩ := read_ok (t := ns) (by omega) h
  exact ⟨h1, by omega, by omega⟩
theorem held_part {n : Nat} {doc : Vatrkd.Doc} (h : Held n doc) (i j : Int) : Held n (Vatrkd.stepPart ⟨doc⟩ i j).1.doc := by
  unfold Vatrkd.stepPart
  dsimp only
  split
  · exact h
  · rename_i hb
    split
    · exact h
    · rename_i hc
      have hb' : (decide (0 ≤ i) && (decide (i < j) && decide (j ≤ ((paragraphsOf doc.row).length : Int)))) = true := by
        cases z : (decide (0 ≤ i) && (decide (i < j) && decide (j ≤ ((paragraphsOf doc.row).length : Int)))) with
        | true => rfl
        | false => exact absurd z hb
      rw [Bool.and_eq_true, Bool.and_eq_true, decide_eq_true_eq, decide_eq_true_eq, decide_eq_true_eq] at hb'
      obtain ⟨b1, b2, b3⟩ := hb'
      obtain ⟨li, lx, le1, le2, le3, le4⟩ := h.ok.last
      obtain ⟨last, x, p1, p2, p3, p4, p5, p6, p7, p8⟩ := part_row (row := doc.row) ⟨li, lx, le1, le2⟩ (i := i.toNat) (j := j.toNat) (by omega) (by omega)
      have hc' : Vatrkd.endsClean ((((paragraphsOf doc.row).take j.toNat).drop i.toNat).flatMap fun p => p) = true := by
        cases z : Vatrkd.endsClean ((((paragraphsOf doc.row).take j.toNat).drop i.toNat).flatMap fun p => p) with
        | true => rfl
        | false => exact absurd z hc
      have hlen : ((((paragraphsOf doc.row).take j.toNat).drop i.toNat).flatMap fun p => p).length ≤ doc.row.length := by
        rw [p7, List.length_take, List.length_drop]
        omega
      refine ⟨part_ok h.ok (fun y hy => ?_) hlen p8 p3 hc', h.tb, Nat.le_trans hlen h.row⟩
      rw [p7] at hy
      exact List.mem_of_mem_drop (List.mem_of_mem_take hy)
theorem held_step {n : Nat} {doc : Vatrkd.Doc} {c : Int} {ns : List Int} {k : Vatrkd.Call} (h : Held n doc) (hv : callV c ns = some k) (hn : n + ns.length ≤ 17000) : Held (n + ns.length) (Vatrkd.step ⟨doc⟩ k).1.doc := by
  have hm := h.mono (Nat.le_add_right n ns.length)
  unfold callV at hv
  split at hv
  · obtain rfl := Option.some.inj hv
    show Held _ (Vatrkd.taken ⟨doc⟩ (fun d => d) (Vatrkd.readDoc (nat ns))).1.doc
    cases e : Vatrkd.readDoc (nat ns) with
    | error f => exact hm
    | ok d => exact held_read hn e
  split at hv
  · obtain rfl := Option.some.inj hv
    show Held _ (Vatrkd.taken ⟨doc⟩ (fun d => d) (Vatrkd.readStrict (nat ns))).1.doc
    unfold Vatrkd.readStrict
    cases e : Vatrkd.readDoc (nat ns) with
    | error f => exact hm
    | ok d =>
      dsimp only
      by_cases hf : nat ns = Vatrkd.form d
      · rw [if_pos hf]
        exact held_read hn e
      · rw [if_neg hf]
        exact hm
  split at hv
  · obtain rfl := Option.some.inj hv
    exact hm
  split at hv
  · obtain rfl := Option.some.inj hv
    exact hm
  split at hv
  · obtain rfl := Option.some.inj hv
    show Held _ (Vatrkd.taken ⟨doc⟩ (Vatrkd.joined doc) (Vatrkd.readDoc (nat ns))).1.doc
    cases e : Vatrkd.readDoc (nat ns) with
    | error f => exact hm
    | ok d =>
      obtain ⟨h1, h2, h3, _⟩ := read_ok (t := ns) (by omega) e
      have t1 := h.tb
      have t2 := h.row
      refine ⟨join_ok h.ok h1 (by omega) (by omega), ?_, ?_⟩
      · show (doc.table ++ d.table).length ≤ _
        rw [List.length_append]
        omega
      · show (doc.row ++ d.row.map _).length ≤ _
        rw [List.length_append, List.length_map]
        omega
  split at hv
  · split at hv
    · obtain rfl := Option.some.inj hv
      exact (held_part h _ _).mono (Nat.le_add_right _ _)
    · cases hv
  split at hv
  · obtain rfl := Option.some.inj hv
    refine ⟨tidy_ok h.ok, ?_, ?_⟩
    · show (Vatrkd.tidied doc).table.length ≤ _
      rw [tidy_table]
      have := borne_len doc
      have := h.tb
      omega
    · show (doc.row.map _).length ≤ _
      rw [List.length_map]
      exact hm.row
  split at hv
  · split at hv
    · obtain rfl := Option.some.inj hv
      rename_i v
      show Held _ (Vatrkd.stepSettle ⟨doc⟩ v).1.doc
      unfold Vatrkd.stepSettle
      split
      · refine ⟨accept_ok h.ok, hm.tb, ?_⟩
        show ((doc.row.filter Vatrka.shown).map Vatrka.acceptPiece).length ≤ _
        rw [List.length_map]
        exact Nat.le_trans (List.length_filter_le _ _) hm.row
      · split
        · refine ⟨reject_ok h.ok, hm.tb, ?_⟩
          show ((doc.row.filter Vatrka.stood).map Vatrka.rejectPiece).length ≤ _
          rw [List.length_map]
          exact Nat.le_trans (List.length_filter_le _ _) hm.row
        · exact hm
    · cases hv
  split at hv
  · split at hv
    · obtain rfl := Option.some.inj hv
      exact hm
    · cases hv
  split at hv
  · obtain rfl := Option.some.inj hv
    exact hm
  split at hv
  · obtain rfl := Option.some.inj hv
    exact hm
  split at hv
  · obtain rfl := Option.some.inj hv
    exact hm
  · cases hv
abbrev s_takes_text : Stmt := top 138
abbrev n_takes_text : List Str := ["call"]
abbrev p_takes_text : List Str := ["call"]
theorem sc_takes_text : FnScope n_takes_text p_takes_text (defScope s_takes_text) := ⟨rfl, rfl, rfl, by decide +kernel, rfl, by decide +kernel, by decide +kernel⟩
abbrev s_words_before : Stmt := top 139
abbrev n_words_before : List Str := ["call"]
abbrev p_words_before : List Str := ["call"]
theorem sc_words_before : FnScope n_words_before p_words_before (defScope s_words_before) := ⟨rfl, rfl, rfl, by decide +kernel, rfl, by decide +kernel, by decide +kernel⟩
abbrev s_behind_call : Stmt := top 140
abbrev n_behind_call : List Str := ["calls", "at"]
abbrev p_behind_call : List Str := ["calls", "at"]
theorem sc_behind_call : FnScope n_behind_call p_behind_call (defScope s_behind_call) := ⟨rfl, rfl, rfl, by decide +kernel, rfl, by decide +kernel, by decide +kernel⟩
abbrev s_answer_of : Stmt := top 141
abbrev n_answer_of : List Str := ["desk", "call", "numbers"]
abbrev p_answer_of : List Str := ["desk", "call", "numbers"]
theorem sc_answer_of : FnScope n_answer_of p_answer_of (defScope s_answer_of) := ⟨rfl, rfl, rfl, by decide +kernel, rfl, by decide +kernel, by decide +kernel⟩
abbrev s_answers : Stmt := top 137
abbrev n_answers : List Str := ["calls", "desk", "given", "at", "start", "behind", "answer"]
abbrev p_answers : List Str := ["calls"]
theorem sc_answers : FnScope n_answers p_answers (defScope s_answers) := ⟨rfl, rfl, rfl, by decide +kernel, rfl, by decide +kernel, by decide +kernel⟩
section
variable {P : Program} {w : World} {K : PySem.W.Frag} {mg : Str → Option Value} {base : Heap} {CD CR CK : Addr}
def sp_takes_text : Sp := fun vs H Q _ => ∃ c : Int, vs = [.int c] ∧ ∀ H', Same H H' → Q (.bl (isT c)) H'
theorem ok_takes_text {k : Nat} (G : Glob mg) (D : Stands K mg "takes_text" s_takes_text) : C8.Cal P w K mg base (k + 1) "takes_text" sp_takes_text [] := by
  refine cal_of D sc_takes_text (fun vs H Q E h => ?_) (fun _ _ _ _ _ _ us hl => match us, hl with | [_], _ => rfl) (fun f cdv A outer s H vs Q E hr h => ?_)
  · obtain ⟨c, rfl, _⟩ := h
    rfl
  · obtain ⟨c, rfl, q⟩ := h
    refine ⟨_, (pss_one (ps_ret (pe_cmpR op_in_seq (pv 0) (pe_tup (pa_cons (pe_gv G.c_READ) (pa_cons (pe_gv G.c_STRICT) (pa_cons (pe_gv G.c_SAME) (pa_cons (pe_gv G.c_JOIN) pa_nil))))) rfl))), ?_⟩
    refine ⟨_, rfl, (by show 4 ≤ sizeLine; decide), fun tp ntp => ⟨tp, _, rfl, .inr (SqT.of upd_same), rfl, rfl, ?_⟩⟩
    show Q (.bl (inV (.int c) [.int 0, .int 1, .int 3, .int 4])) _
    rw [in4]
    exact q _ (same_upd ntp)
def sp_words_before : Sp := fun vs H Q _ => ∃ c : Int, vs = [.int c] ∧ ∀ H', Same H H' → Q (.int (wb c : Nat)) H'
theorem ok_words_before {k : Nat} (G : Glob mg) (c_takes_text : C8.Cal P w K mg base 1 "takes_text" sp_takes_text []) (D : Stands K mg "words_before" s_words_before) : C8.Cal P w K mg base (k + 2) "words_before" sp_words_before [] := by
  refine cal_of D sc_words_before (fun vs H Q E h => ?_) (fun _ _ _ _ _ _ us hl => match us, hl with | [_], _ => rfl) (fun f cdv A outer s H vs Q E hr h => ?_)
  · obtain ⟨c, rfl, _⟩ := h
    rfl
  · obtain ⟨c, rfl, q⟩ := h
    refine ⟨_, (pss_one (ps_ret (pe_ifExp (pt_val (C8.pe_c c_takes_text hr (by omega) (by rfl) (pa_cons (pv 0) pa_nil))) pe_int pe_int))), ?_⟩
    refine ⟨_, rfl, c, rfl, fun H1 s1 => ⟨_, rfl, ?_⟩⟩
    unfold wb at q
    refine ite2 (fun g => ?_) (fun g => ?_)
    · rw [if_pos g] at q
      exact q _ s1
    · rw [if_neg g] at q
      exact q _ s1
def sp_behind_call (K : PySem.W.Frag) : Sp := fun vs H Q _ => ∃ (a : Addr) (l : List Int) (n : Nat) (c m : Int), vs = [.ref a, .int (n : Int)] ∧ SqL K H a (vI l) ∧ l[n]? = some c ∧ (isT c = true → l[n + 1]? = some m) ∧ ∀ H', Same H H' → Q (.int (behL c m n)) H'
theorem ok_behind_call {k : Nat} (G : Glob mg) (c_takes_text : C8.Cal P w K mg base 1 "takes_text" sp_takes_text []) (D : Stands K mg "behind_call" s_behind_call) : C8.Cal P w K mg base (k + 2) "behind_call" (sp_behind_call K) [] := by
  refine cal_of D sc_behind_call (fun vs H Q E h => ?_) (fun _ _ _ _ _ _ us hl => match us, hl with | [_, _], _ => rfl) (fun f cdv A outer s H vs Q E hr h => ?_)
  · obtain ⟨a, l, n, c, m, rfl, _⟩ := h
    rfl
  · obtain ⟨a, l, n, c, m, rfl, hA, hc, hm, q⟩ := h
    have hat : atI (vI l) (n : Int) = some (.int c) := atI_nat (by rw [vI_get, hc]; rfl)
    refine ⟨_, (pss_cons (ps_if (pt_val (C8.pe_c c_takes_text hr (by omega) (by rfl) (pa_cons (pe_ix ix_list (pv 0) (pv 1) (fun _ _ => rfl)) pa_nil)))
      (pss_one (ps_ret (pe_op op_add (pe_op op_add (pv 1) pe_int) (pe_ix ix_list (pv 0) (pe_op op_add (pv 1) pe_int) (fun _ _ => rfl)))))
      pss_nil)
      (pss_cons (ps_if (pt_cmpR op_eq (pe_ix ix_list (pv 0) (pv 1) (fun _ _ => rfl)) (pe_gv G.c_PART) (nomark _))
      (pss_one (ps_ret (pe_op op_add (pv 1) pe_int)))
      pss_nil)
      (pss_cons (ps_if (pt_cmpR op_in_seq (pe_ix ix_list (pv 0) (pv 1) (fun _ _ => rfl)) (pe_tup (pa_cons (pe_gv G.c_SETTLE) (pa_cons (pe_gv G.c_PLAIN) pa_nil))) rfl)
      (pss_one (ps_ret (pe_op op_add (pv 1) pe_int)))
      pss_nil)
      (pss_one (ps_ret (pe_op op_add (pv 1) pe_int)))))), ?_⟩
    refine ⟨_, rfl, _, rfl, a, _, _, _, rfl, rfl, hA, hat, c, rfl, fun H1 s1 => ⟨_, rfl, ?_⟩⟩
    have hA1 := s1.seq hA
    unfold behL at q
    refine ite2 (fun g => ?_) (fun g => ?_)
    · rw [if_pos g] at q
      have hat2 : atI (vI l) ((n : Int) + 1) = some (.int m) := by
        rw [show (n : Int) + 1 = ((n + 1 : Nat) : Int) from rfl]
        exact atI_nat (by rw [vI_get, hm g]; rfl)
      exact ⟨_, rfl, _, _, rfl, rfl, _, rfl, _, rfl, _, _, rfl, rfl, a, _, _, _, rfl, rfl, hA1, hat2, _, _, rfl, rfl, q _ s1⟩
    · rw [if_neg g] at q
      refine ⟨_, rfl, _, rfl, a, _, _, _, rfl, rfl, hA1, hat, rfl, _, rfl, ite2 (fun g => ?_) (fun g => ?_)⟩
      · have g1 : c = 5 := eq_dec g
        rw [if_pos g1] at q
        exact ⟨_, rfl, _, _, rfl, rfl, q _ s1⟩
      · have g1 : c ≠ 5 := ne_dec g
        rw [if_neg g1] at q
        refine ⟨_, rfl, _, rfl, a, _, _, _, rfl, rfl, hA1, hat, (by show 2 ≤ sizeLine; decide), fun tp ntp => ⟨tp, _, rfl, .inr (SqT.of upd_same), rfl, rfl, _, rfl, ?_⟩⟩
        have s2 := s1.trans (same_upd (o := .tup [.int 7, .int 8]) ntp)
        show if inV (.int c) [.int 7, .int 8] = true then _ else _
        rw [in2]
        refine ite2 (fun g => ?_) (fun g => ?_)
        · rw [if_pos (of_decide_eq_true g)] at q
          exact ⟨_, rfl, _, _, rfl, rfl, q _ s2⟩
        · rw [if_neg fun z => g (decide_eq_true z)] at q
          exact ⟨_, rfl, _, _, rfl, rfl, q _ s2⟩
end
end Td
set_option maxRecDepth 100000
set_option maxHeartbeats 4000000
namespace Td
open PySem PySem.Spec PyProof.Rows L2
open Vatrka (Piece Pending Change)
open Tm (callV isT wb behL ansK)
theorem lkNo {d : Addr} {m : Str} (h : (m == ("document" : Str)) = false) : (dkF d).lookup m = none := (lk_past h).trans rfl
theorem form_len (doc : Vatrkd.Doc) : (ansK doc .form).length = (Vatrkd.form doc).length + 1 := by
  show (((Vatrkd.form doc).length :: Vatrkd.form doc).map Int.ofNat).length = _
  rw [List.length_map, List.length_cons]
theorem pieces_len (doc : Vatrkd.Doc) : (ansK doc .pieces).length = (doc.row.flatMap Vatrka.toldPiece).length + 1 := by
  show ((doc.row.length :: doc.row.flatMap Vatrka.toldPiece).map Int.ofNat).length = _
  rw [List.length_map, List.length_cons]
section
variable {P : Program} {w : World} {K : PySem.W.Frag} {mg : Str → Option Value} {base : Heap} {CD CR CK : Addr}
def sp_answer_of (K : PySem.W.Frag) (CK CD : Addr) : Sp := fun vs H Q _ => ∃ (k na : Addr) (c : Int) (ns : List Int) (doc : Vatrkd.Doc) (cl : Vatrkd.Call) (n : Nat), vs = [.ref k, .int c, .ref na] ∧ DeskAt K CK CD H k doc ∧ Held n doc ∧ SqL K H na (vI ns) ∧ callV c ns = some cl ∧ n + ns.length ≤ 17000 ∧ (ansK doc cl).length ≤ 10000000 ∧ Gives K CK CD k doc cl H Q
theorem ok_answer_of {k : Nat} (G : Glob mg) (t_read : C8.Met P w K mg base 11 CK "read" (sp_read K CK CD) []) (t_strict : C8.Met P w K mg base 11 CK "strict" (sp_strict K CK CD) []) (t_form : C8.Met P w K mg base 4 CK "form" (sp_form K CK CD) []) (t_same : C8.Met P w K mg base 11 CK "same" (sp_same K CK CD) []) (t_join : C8.Met P w K mg base 11 CK "join" (sp_join K CK CD) [])
    (t_part : C8.Met P w K mg base 4 CK "part" (sp_part K CK CD) []) (t_tidy : C8.Met P w K mg base 4 CK "tidy" (sp_tidy K CK CD) []) (t_settle : C8.Met P w K mg base 4 CK "settle" (sp_settle K CK CD) []) (t_plain : C8.Met P w K mg base 4 CK "plain" (sp_plain K CK CD) []) (t_pieces : C8.Met P w K mg base 4 CK "pieces" (sp_pieces K CK CD) [])
    (t_changes : C8.Met P w K mg base 4 CK "changes" (sp_changes K CK CD) []) (t_paragraphs : C8.Met P w K mg base 4 CK "paragraphs" (sp_paragraphs K CK CD) []) (D : Stands K mg "answer_of" s_answer_of) : C8.Cal P w K mg base (k + 12) "answer_of" (sp_answer_of K CK CD) [] := by
  refine cal_of D sc_answer_of (fun vs H Q E h => ?_) (fun _ _ _ _ _ _ us hl => match us, hl with | [_, _, _], _ => rfl) (fun f cdv A outer s H vs Q E hr h => ?_)
  · obtain ⟨k, na, c, ns, doc, cl, n, rfl, _⟩ := h
    rfl
  · obtain ⟨kk, na, c, ns, doc, cl, n, rfl, hK, hh, hA, hv, hn, hans, q⟩ := h
    have hK0 := hK
    obtain ⟨dk, d, ta, ra, k1, _⟩ := hK
    have e9 : (10000000 : Nat) < sizeLine := by decide
    have b1 := hh.tb
    have b2 := hh.row
    refine ⟨_, (pss_cons (ps_if (pt_cmpR op_eq (pv 1) (pe_gv G.c_READ) (nomark _))
      (pss_one (ps_ret (C8.pe_mt t_read hr (by omega) (pv 0) (pa_cons (pv 2) pa_nil))))
      pss_nil)
      (pss_cons (ps_if (pt_cmpR op_eq (pv 1) (pe_gv G.c_STRICT) (nomark _))
      (pss_one (ps_ret (C8.pe_mt t_strict hr (by omega) (pv 0) (pa_cons (pv 2) pa_nil))))
      pss_nil)
      (pss_cons (ps_if (pt_cmpR op_eq (pv 1) (pe_gv G.c_FORM) (nomark _))
      (pss_one (ps_ret (C8.pe_mt0 t_form hr (by omega) (pv 0))))
      pss_nil)
      (pss_cons (ps_if (pt_cmpR op_eq (pv 1) (pe_gv G.c_SAME) (nomark _))
      (pss_one (ps_ret (C8.pe_mt t_same hr (by omega) (pv 0) (pa_cons (pv 2) pa_nil))))
      pss_nil)
      (pss_cons (ps_if (pt_cmpR op_eq (pv 1) (pe_gv G.c_JOIN) (nomark _))
      (pss_one (ps_ret (C8.pe_mt t_join hr (by omega) (pv 0) (pa_cons (pv 2) pa_nil))))
      pss_nil)
      (pss_cons (ps_if (pt_cmpR op_eq (pv 1) (pe_gv G.c_PART) (nomark _))
      (pss_one (ps_ret (C8.pe_mt t_part hr (by omega) (pv 0) (pa_cons (pe_ix ix_list (pv 2) pe_int (fun _ _ => rfl)) (pa_cons (pe_ix ix_list (pv 2) pe_int (fun _ _ => rfl)) pa_nil)))))
      pss_nil)
      (pss_cons (ps_if (pt_cmpR op_eq (pv 1) (pe_gv G.c_TIDY) (nomark _))
      (pss_one (ps_ret (C8.pe_mt0 t_tidy hr (by omega) (pv 0))))
      pss_nil)
      (pss_cons (ps_if (pt_cmpR op_eq (pv 1) (pe_gv G.c_SETTLE) (nomark _))
      (pss_one (ps_ret (C8.pe_mt t_settle hr (by omega) (pv 0) (pa_cons (pe_ix ix_list (pv 2) pe_int (fun _ _ => rfl)) pa_nil))))
      pss_nil)
      (pss_cons (ps_if (pt_cmpR op_eq (pv 1) (pe_gv G.c_PLAIN) (nomark _))
      (pss_one (ps_ret (C8.pe_mt t_plain hr (by omega) (pv 0) (pa_cons (pe_ix ix_list (pv 2) pe_int (fun _ _ => rfl)) pa_nil))))
      pss_nil)
      (pss_cons (ps_if (pt_cmpR op_eq (pv 1) (pe_gv G.c_PIECES) (nomark _))
      (pss_one (ps_ret (C8.pe_mt0 t_pieces hr (by omega) (pv 0))))
      pss_nil)
      (pss_cons (ps_if (pt_cmpR op_eq (pv 1) (pe_gv G.c_TABLE) (nomark _))
      (pss_one (ps_ret (C8.pe_mt0 t_changes hr (by omega) (pv 0))))
      pss_nil)
      (pss_cons (ps_if (pt_cmpR op_eq (pv 1) (pe_gv G.c_PARAGRAPHS) (nomark _))
      (pss_one (ps_ret (C8.pe_mt0 t_paragraphs hr (by omega) (pv 0))))
      pss_nil)
      (pss_one ps_never))))))))))))), ?_⟩
    unfold callV at hv
    refine ⟨_, rfl, rfl, _, rfl, ite2 (fun g => ?_) (fun g => ?_)⟩
    · rw [if_pos (eq_dec g)] at hv
      obtain rfl := Option.some.inj hv
      exact ⟨_, rfl, kk, dk, _, rfl, k1, lkNo (by decide +kernel), _, rfl, kk, na, ns, doc, rfl, hK0, hA, by omega, q⟩
    rw [if_neg (ne_dec g)] at hv
    refine ⟨_, rfl, rfl, _, rfl, ite2 (fun g => ?_) (fun g => ?_)⟩
    · rw [if_pos (eq_dec g)] at hv
      obtain rfl := Option.some.inj hv
      exact ⟨_, rfl, kk, dk, _, rfl, k1, lkNo (by decide +kernel), _, rfl, kk, na, ns, doc, rfl, hK0, hA, by omega, q⟩
    rw [if_neg (ne_dec g)] at hv
    refine ⟨_, rfl, rfl, _, rfl, ite2 (fun g => ?_) (fun g => ?_)⟩
    · rw [if_pos (eq_dec g)] at hv
      obtain rfl := Option.some.inj hv
      exact ⟨_, rfl, kk, dk, _, rfl, k1, lkNo (by decide +kernel), kk, doc, rfl, hK0, hh.ok, by rw [form_len] at hans; omega, q⟩
    rw [if_neg (ne_dec g)] at hv
    refine ⟨_, rfl, rfl, _, rfl, ite2 (fun g => ?_) (fun g => ?_)⟩
    · rw [if_pos (eq_dec g)] at hv
      obtain rfl := Option.some.inj hv
      exact ⟨_, rfl, kk, dk, _, rfl, k1, lkNo (by decide +kernel), _, rfl, kk, na, ns, doc, rfl, hK0, hA, by omega, q⟩
    rw [if_neg (ne_dec g)] at hv
    refine ⟨_, rfl, rfl, _, rfl, ite2 (fun g => ?_) (fun g => ?_)⟩
    · rw [if_pos (eq_dec g)] at hv
      obtain rfl := Option.some.inj hv
      exact ⟨_, rfl, kk, dk, _, rfl, k1, lkNo (by decide +kernel), _, rfl, kk, na, ns, doc, rfl, hK0, hA, by omega, by omega, by omega, q⟩
    rw [if_neg (ne_dec g)] at hv
    refine ⟨_, rfl, rfl, _, rfl, ite2 (fun g => ?_) (fun g => ?_)⟩
    · rw [if_pos (eq_dec g)] at hv
      split at hv
      · obtain rfl := Option.some.inj hv
        exact ⟨_, rfl, kk, dk, _, rfl, k1, lkNo (by decide +kernel), _, rfl, na, _, _, _, rfl, rfl, hA, at_of (j := 0) rfl rfl, _, rfl, na, _, _, _, rfl, rfl, hA, at_of (j := 1) rfl rfl, kk, _, _, doc, rfl, hK0, hh.ok, q⟩
      · cases hv
    rw [if_neg (ne_dec g)] at hv
    refine ⟨_, rfl, rfl, _, rfl, ite2 (fun g => ?_) (fun g => ?_)⟩
    · rw [if_pos (eq_dec g)] at hv
      obtain rfl := Option.some.inj hv
      exact ⟨_, rfl, kk, dk, _, rfl, k1, lkNo (by decide +kernel), kk, doc, rfl, hK0, hh.ok, q⟩
    rw [if_neg (ne_dec g)] at hv
    refine ⟨_, rfl, rfl, _, rfl, ite2 (fun g => ?_) (fun g => ?_)⟩
    · rw [if_pos (eq_dec g)] at hv
      split at hv
      · obtain rfl := Option.some.inj hv
        exact ⟨_, rfl, kk, dk, _, rfl, k1, lkNo (by decide +kernel), _, rfl, na, _, _, _, rfl, rfl, hA, at_of (j := 0) rfl rfl, kk, _, doc, rfl, hK0, hh.ok, q⟩
      · cases hv
    rw [if_neg (ne_dec g)] at hv
    refine ⟨_, rfl, rfl, _, rfl, ite2 (fun g => ?_) (fun g => ?_)⟩
    · rw [if_pos (eq_dec g)] at hv
      split at hv
      · obtain rfl := Option.some.inj hv
        exact ⟨_, rfl, kk, dk, _, rfl, k1, lkNo (by decide +kernel), _, rfl, na, _, _, _, rfl, rfl, hA, at_of (j := 0) rfl rfl, kk, _, doc, rfl, hK0, hh.ok, q⟩
      · cases hv
    rw [if_neg (ne_dec g)] at hv
    refine ⟨_, rfl, rfl, _, rfl, ite2 (fun g => ?_) (fun g => ?_)⟩
    · rw [if_pos (eq_dec g)] at hv
      obtain rfl := Option.some.inj hv
      exact ⟨_, rfl, kk, dk, _, rfl, k1, lkNo (by decide +kernel), kk, doc, rfl, hK0, hh.ok, by rw [pieces_len] at hans; omega, q⟩
    rw [if_neg (ne_dec g)] at hv
    refine ⟨_, rfl, rfl, _, rfl, ite2 (fun g => ?_) (fun g => ?_)⟩
    · rw [if_pos (eq_dec g)] at hv
      obtain rfl := Option.some.inj hv
      exact ⟨_, rfl, kk, dk, _, rfl, k1, lkNo (by decide +kernel), kk, doc, rfl, hK0, hh.ok, q⟩
    rw [if_neg (ne_dec g)] at hv
    refine ⟨_, rfl, rfl, _, rfl, ite2 (fun g => ?_) (fun g => ?_)⟩
    · rw [if_pos (eq_dec g)] at hv
      obtain rfl := Option.some.inj hv
      exact ⟨_, rfl, kk, dk, _, rfl, k1, lkNo (by decide +kernel), kk, doc, rfl, hK0, hh.ok, q⟩
    rw [if_neg (ne_dec g)] at hv
    cases hv
end
end Td
set_option maxRecDepth 100000
set_option maxHeartbeats 4000000
namespace Td
open PySem PySem.Spec PyProof.Rows L2
open Vatrka (Piece Pending Change)
open Tm (callV isT wb behL ansK ansR)
/-- the desk, its table's list not at g -/
def DeskG (K : PySem.W.Frag) (CK CD g : Addr) (H : Hp) (k : Addr) (doc : Vatrkd.Doc) : Prop := ∃ dk d dd ta ra, H k = some (.ins CK dk (dkF d)) ∧ H d = some (.ins CD dd (fDoc.zip [.ref ta, .ref ra])) ∧ TabAt K H ta doc.table ∧ RowAt K H ra doc.row ∧ ta ≠ g
theorem DeskG.at {K : PySem.W.Frag} {CK CD g : Addr} {H : Hp} {k : Addr} {doc : Vatrkd.Doc} (h : DeskG K CK CD g H k doc) : DeskAt K CK CD H k doc := by
  obtain ⟨dk, d, dd, ta, ra, h1, h2, h3, h4, _⟩ := h
  exact ⟨dk, d, ta, ra, h1, ⟨dd, h2⟩, h3, h4⟩
theorem DeskG.same {K : PySem.W.Frag} {CK CD g : Addr} {H H' : Hp} {k : Addr} {doc : Vatrkd.Doc} (h : DeskG K CK CD g H k doc) (s : Same H H') : DeskG K CK CD g H' k doc := by
  obtain ⟨dk, d, dd, ta, ra, h1, h2, h3, h4, h5⟩ := h
  exact ⟨dk, d, dd, ta, ra, s _ _ h1, s _ _ h2, h3.same s, h4.same s, h5⟩
theorem DeskG.next {K : PySem.W.Frag} {CK CD g : Addr} {H H' : Hp} {k : Addr} {doc doc' : Vatrkd.Doc} {o : HO} (h : DeskG K CK CD g H k doc) (hg : H g = some o) (n : DeskN K CK CD H H' k doc') : DeskG K CK CD g H' k doc' := by
  obtain ⟨dk, d, dd, ta, ra, h1, h2, _, _, h5⟩ := h
  obtain ⟨dk', d', ta', ra', n1, ⟨dd', n2⟩, n3, n4, n5⟩ := n
  refine ⟨dk', d', dd', ta', ra', n1, n2, n3, n4, fun z => ?_⟩
  rcases n5 with n5 | ⟨dk0, d0, dd0, ra0, m1, m2⟩
  · rw [z, hg] at n5; cases n5
  · rw [h1] at m1
    obtain ⟨_, _, e1⟩ := HO.ins.inj (Option.some.inj m1)
    have e2 : d = d0 := by
      unfold dkF at e1
      exact V.ref.inj (Prod.mk.inj (List.cons.inj e1).1).2
    subst e2
    rw [h2] at m2
    obtain ⟨_, _, e3⟩ := HO.ins.inj (Option.some.inj m2)
    have e4 : ta = ta' := V.ref.inj (Prod.mk.inj (List.cons.inj e3).1).2
    exact h5 (e4.trans z)
/-- another list at g -/
theorem DeskG.put {K : PySem.W.Frag} {CK CD g : Addr} {H : Hp} {k : Addr} {doc : Vatrkd.Doc} {acc : List Int} {xs : List V} (h : DeskG K CK CD g H k doc) (hg : H g = some (.lst (vI acc))) (hok : DocOk doc) : DeskG K CK CD g (upd H g (.lst xs)) k doc := by
  obtain ⟨dk, d, dd, ta, ra, h1, h2, h3, h4, h5⟩ := h
  have kt : KeepT K H (upd H g (.lst xs)) := keepT_upd hg (fun _ z => by cases z) (fun _ _ z => by cases z)
  have ni : ∀ {b C dx : Addr} {fs : List (Str × V)}, H b = some (.ins C dx fs) → b ≠ g := fun {b C dx fs} e z => by rw [z, hg] at e; cases e
  have hrg : ra ≠ g := fun z => by
    obtain ⟨bs, r1, r2⟩ := h4
    rw [z, hg] at r1
    have e := HO.lst.inj (Option.some.inj r1)
    obtain ⟨i, x, e1, _⟩ := hok.last
    have hl := Paired.length r2
    rw [e1, List.length_append, List.length_singleton] at hl
    cases bs with
    | nil => rw [List.length_nil] at hl; omega
    | cons b bs =>
      unfold vI at e
      cases acc with
      | nil => cases e
      | cons a acc =>
        rw [List.map_cons, List.map_cons] at e
        cases (List.cons.inj e).1
  refine ⟨dk, d, dd, ta, ra, by rw [upd_ne (ni h1)]; exact h1, by rw [upd_ne (ni h2)]; exact h2, ?_, ?_, h5⟩
  · obtain ⟨cs, t1, t2⟩ := h3
    exact ⟨cs, by rw [upd_ne h5]; exact t1, Paired.mapP t2 fun b c z => dp_keep kt _ _ (tupD_change c) z⟩
  · obtain ⟨bs, r1, r2⟩ := h4
    exact ⟨bs, by rw [upd_ne hrg]; exact r1, Paired.mapP r2 fun b x z => dp_keep kt _ _ (tupD_piece x) z⟩
section
variable {P : Program} {w : World} {K : PySem.W.Frag} {mg : Str → Option Value} {base : Heap} {CD CR CK : Addr}
def sp_answers (K : PySem.W.Frag) : Sp := fun vs H Q _ => ∃ (a : Addr) (l : List Int), vs = [.ref a] ∧ SqL K H a (vI l) ∧ l.length ≤ 17000 ∧ PyVatrkd.answers_asked l = true ∧ ∀ H' p, H' p = some (.lst (vI (PyVatrkd.answers l))) → Q (.ref p) H'
theorem fn_answers {k : Nat} {f : Addr} {fd : FuncData} (G : Glob mg) (m_Desk : C8.Mak P w K mg base 4 "Desk" CK (sp_Desk_init K CK CD) []) (c_words_before : C8.Cal P w K mg base 2 "words_before" sp_words_before []) (c_behind_call : C8.Cal P w K mg base 2 "behind_call" (sp_behind_call K) []) (c_answer_of : C8.Cal P w K mg base 12 "answer_of" (sp_answer_of K CK CD) [])
    (F : Fun K "answers" "answers" s_answers f fd) : FnOk P w K mg base CX0 (k + 13) f fd ["calls"] (sp_answers K) := by
  refine F.ok (k := k + 12) sc_answers (fun vs H Q E h => ?_) (fun cdv A outer s H vs Q E hr h => ?_)
  · obtain ⟨a, l, rfl, _⟩ := h
    rfl
  · obtain ⟨a, l, rfl, hA, hlen, hask, q⟩ := h
    obtain ⟨raw, hraw, hshort⟩ := Tm.asked_is hask
    have hans := Tm.answers_is hraw
    have e9 : (10000000 : Nat) < sizeLine := by decide
    refine ⟨_, (pss_cons (ps_set (i := 1) sc_answers.nd rfl (Or.inl rfl) (pe_mk0 m_Desk hr (by omega) (by rfl)))
      (pss_cons (ps_set (i := 2) sc_answers.nd rfl (Or.inl rfl) (pe_lst pa_nil))
      (pss_cons (ps_set (i := 3) sc_answers.nd rfl (Or.inl rfl) pe_int)
      (pss_cons (ps_while PassesOwn.never (pt_cmpR op_lt (pv 3) (pe_callB call_len_seq (by rfl) G.b_len (by decide +kernel) (pa_cons (pv 0) pa_nil)) (nomark _))
      (pss_cons (ps_set (i := 4) sc_answers.nd rfl (Or.inl rfl) (pe_op op_add (pv 3) (C8.pe_c c_words_before hr (by omega) (by rfl) (pa_cons (pe_ix ix_list (pv 0) (pv 3) (fun _ _ => rfl)) pa_nil))))
      (pss_cons (ps_set (i := 5) sc_answers.nd rfl (Or.inl rfl) (C8.pe_c c_behind_call hr (by omega) (by rfl) (pa_cons (pv 0) (pa_cons (pv 3) pa_nil))))
      (pss_cons (ps_set (i := 6) sc_answers.nd rfl (Or.inl rfl) (C8.pe_c c_answer_of hr (by omega) (by rfl) (pa_cons (pv 1) (pa_cons (pe_ix ix_list (pv 0) (pv 3) (fun _ _ => rfl)) (pa_cons (pe_slice sl_list (pv 0) (po_some (pv 4)) (po_some (pv 5))) pa_nil)))))
      (pss_cons (ps_expr (pe_bm PySem.F.plainAttrs_list PySem.F.slot_list_append PySem.F.type_list_append mt_append (pv 2) (pa_cons (pe_callB call_len_seq (by rfl) G.b_len (by decide +kernel) (pa_cons (pv 6) pa_nil)) pa_nil)))
      (pss_cons (ps_expr (pe_bm PySem.F.plainAttrs_list PySem.F.slot_list_extend PySem.F.type_list_extend mt_extend (pv 2) (pa_cons (pv 6) pa_nil)))
      (pss_one (ps_set (i := 3) sc_answers.nd rfl (Or.inl rfl) (pv 5)))))))))
      (pss_one (ps_ret (pv 2))))))), ?_⟩
    refine fun kk dk0 nk nd ne => ⟨kk, dk0, rfl, upd_same, fun H1 kp hK1 => ?_⟩
    have s1 : Same H H1 := fun b o h => kp b o (by rw [upd_ne (ne_of_none h nk), upd_ne (ne_of_none h nd)]; exact h) (ne_of_none h nk)
    refine ⟨rfl, Nat.zero_le _, fun g ng => ?_⟩
    have ngH := none_back s1 ng
    have s2 := s1.trans (same_upd (o := .lst []) ng)
    have hG0 : DeskG K CK CD g H1 kk Vatrkd.emptyDoc := by
      obtain ⟨dk, d, ta, ra, h1, ⟨dd, h2⟩, h3, h4⟩ := hK1
      refine ⟨dk, d, dd, ta, ra, h1, h2, h3, h4, fun z => ?_⟩
      obtain ⟨cs, t1, _⟩ := h3
      rw [z, ng] at t1
      cases t1
    refine ⟨fun m σ H2 => ∃ (n : Nat) (y4 y5 y6 : Option V) (doc : Vatrkd.Doc) (cs : List (List (List Int))) (fu : Nat) (acc : List Int), σ = [some (.ref a), some (.ref kk), some (.ref g), some (.int (n : Int)), y4, y5, y6] ∧ n ≤ l.length ∧ m = l.length - n ∧ Same H H2 ∧ DeskG K CK CD g H2 kk doc ∧ Held n doc ∧ H2 g = some (.lst (vI acc)) ∧ PyFlat.calls PyVatrkd.shape fu (l.drop n) = some cs ∧ PyVatrkd.answers l = acc ++ ansR doc cs,
      ⟨l.length, 0, none, none, none, Vatrkd.emptyDoc, raw, l.length, [], rfl, Nat.zero_le _, rfl, s2, hG0.same (same_upd ng), ⟨new_ok, Nat.zero_le _, Nat.le_refl _⟩, upd_same, by rw [List.drop_zero]; exact hraw, hans⟩, fun m σ H2 hW => ?_⟩
    obtain ⟨n, y4, y5, y6, doc, cs, fu, acc, rfl, hn, hm, sx, hG, hh, hg, hcs, hacc⟩ := hW
    have hA2 := sx.seq hA
    refine ⟨_, rfl, _, rfl, a, _, rfl, .inl hA2, _, _, rfl, rfl, _, rfl, ite2 (fun e => ?_) (fun e => ?_)⟩
    · have e1 : n < l.length := by
        have := of_decide_eq_true e
        rw [vI_len] at this
        omega
      refine ⟨fun σ' H' => ∃ m', m' < m ∧ ∃ (n : Nat) (y4 y5 y6 : Option V) (doc : Vatrkd.Doc) (cs : List (List (List Int))) (fu : Nat) (acc : List Int), σ' = [some (.ref a), some (.ref kk), some (.ref g), some (.int (n : Int)), y4, y5, y6] ∧ n ≤ l.length ∧ m' = l.length - n ∧ Same H H' ∧ DeskG K CK CD g H' kk doc ∧ Held n doc ∧ H' g = some (.lst (vI acc)) ∧ PyFlat.calls PyVatrkd.shape fu (l.drop n) = some cs ∧ PyVatrkd.answers l = acc ++ ansR doc cs, fun σ' H' h => h, ?_⟩
      -- the call that begins here
      obtain ⟨c, hc⟩ : ∃ c, l[n]? = some c := ⟨l[n], List.getElem?_eq_getElem e1⟩
      have hdr : l.drop n = c :: l.drop (n + 1) := by
        have := List.drop_eq_getElem_cons e1
        rw [this]
        congr 1
        exact Option.some.inj ((List.getElem?_eq_getElem e1).symm.trans hc)
      rw [hdr] at hcs
      cases fu with
      | zero => cases hcs
      | succ fu =>
        rw [PyFlat.calls] at hcs
        cases ecall : PyFlat.call PyVatrkd.shape (c :: l.drop (n + 1)) with
        | none => rw [ecall] at hcs; cases hcs
        | some ct =>
          obtain ⟨cc, t⟩ := ct
          rw [ecall] at hcs
          dsimp only at hcs
          cases ecs : PyFlat.calls PyVatrkd.shape fu t with
          | none => rw [ecs] at hcs; cases hcs
          | some cs' =>
            rw [ecs] at hcs
            obtain rfl := Option.some.inj hcs
            obtain ⟨b, ns, cl, C⟩ := Tm.call_cut ecall
            have hbl : n + b ≤ l.length := by
              have := C.len
              rw [← hdr, List.length_drop] at this
              omega
            have hwb := C.wbb
            have hw1 : 1 ≤ wb c := by unfold wb; split <;> decide
            have hns : ns = (l.drop (n + wb c)).take (b - wb c) := by
              rw [C.nums, ← hdr, List.drop_drop]
            have hnl : ns.length ≤ b := by
              rw [hns, List.length_take]
              omega
            have hrest : t = l.drop (n + b) := by rw [C.rest, ← hdr, List.drop_drop]
            rw [hrest] at ecs
            rw [Tm.ansR_cons C.of] at hacc
            have hat : atI (vI l) (n : Int) = some (.int c) := atI_nat (by rw [vI_get, hc]; rfl)
            have hsec : ∃ m : Int, isT c = true → l[n + 1]? = some m := by
              by_cases z : isT c = true
              · obtain ⟨m, hm⟩ := C.second z
                rw [List.getElem?_drop, Nat.add_zero] at hm
                exact ⟨m, fun _ => hm⟩
              · exact ⟨0, fun y => absurd y z⟩
            obtain ⟨m2, hm2⟩ := hsec
            have hbeh : behL c m2 n = ((n + b : Nat) : Int) := by
              rw [C.beh m2 n fun z => by rw [List.getElem?_drop, Nat.add_zero]; exact hm2 z]
              rfl
            have hlenA : acc.length + (1 + (ansK doc cl).length) ≤ 10000000 := by
              rw [hacc] at hshort
              simp only [List.length_append, List.length_cons] at hshort
              omega
            refine ⟨_, rfl, _, rfl, _, rfl, a, _, _, _, rfl, rfl, hA2, hat, c, rfl, fun H3 s3 => ⟨_, _, rfl, rfl, ?_⟩⟩
            refine ⟨_, rfl, _, rfl, a, l, n, c, m2, rfl, s3.seq hA2, hc, hm2, fun H4 s4 => ?_⟩
            rw [hbeh]
            have s34 := s3.trans s4
            have hA4 := s34.seq hA2
            refine ⟨_, rfl, _, rfl, _, rfl, a, _, _, _, rfl, rfl, hA4, hat, _, rfl, _, rfl, _, rfl, _, rfl, _, rfl, a, _, rfl, hA4, fun na nna => ?_⟩
            have hcut : cutV (vI l) (some ((n : Int) + ((wb c : Nat) : Int))) (some ((n + b : Nat) : Int)) = vI ns := by
              rw [show (n : Int) + ((wb c : Nat) : Int) = ((n + wb c : Nat) : Int) from rfl, cut_nat (by rw [vI_len]; omega) (by rw [vI_len]; omega), vI_drop, vI_take, show n + b - (n + wb c) = b - wb c by omega, ← hns]
            rw [hcut]
            have s5 := same_upd (o := .lst (vI ns)) nna
            have s25 := s34.trans s5
            have hna : SqL K (upd H4 na (.lst (vI ns))) na (vI ns) := SqL.of upd_same
            have hg5 := s25 _ _ hg
            have hG5 := hG.same s25
            have sH5 := sx.trans s25
            generalize upd H4 na (.lst (vI ns)) = H5 at s5 s25 hna hg5 hG5 sH5
            refine ⟨kk, na, c, ns, doc, cl, n, rfl, hG5.at, hh, hna, C.call, by omega, by omega, fun H6 r kp6 dn6 hr6 nr6 => ?_⟩
            have hkH : H kk = none := nk
            have s6 : Same H H6 := fun b o h => kp6 b o (sH5 _ _ h) (ne_of_none h hkH)
            have hgk : g ≠ kk := fun z => by
              obtain ⟨dk, d, dd, ta, ra, h1, _⟩ := hG5
              rw [z, h1] at hg5
              cases hg5
            have hg6 := kp6 _ _ hg5 hgk
            have hG6 := hG5.next hg5 dn6
            have hrg : r ≠ g := fun z => by rw [z, hg5] at nr6; cases nr6
            have hh6 := (held_step hh C.call (by omega)).mono (show n + ns.length ≤ n + b by omega)
            have hr6' : H6 r = some (.lst (vI (ansK doc cl))) := hr6
            refine ⟨_, rfl, .inl ⟨rfl, _, SqL.of hg6⟩, _, rfl, r, _, rfl, .inl (SqL.of hr6'), g, _, _, rfl, rfl, hg6, by rw [vI_len]; omega, ?_⟩
            refine ⟨_, rfl, .inl ⟨rfl, _, SqL.of upd_same⟩, _, rfl, g, r, _, _, rfl, rfl, upd_same, by rw [upd_ne hrg]; exact hr6', ?_, ?_⟩
            · rw [List.length_append, List.length_singleton, vI_len, vI_len]
              omega
            rw [upd_upd]
            refine ⟨_, rfl, l.length - (n + b), by omega, n + b, _, _, _, (Vatrkd.step ⟨doc⟩ cl).1.doc, cs', fu, acc ++ (((ansK doc cl).length : Int) :: ansK doc cl), rfl, hbl, rfl, same_write ngH s6, hG6.put hg6 hh6.ok, hh6, ?_, ecs, ?_⟩
            · rw [upd_same, vI_len]
              unfold vI
              simp
            · rw [hacc, List.append_assoc]
              rfl
    · have e1 : n = l.length := by
        have : ¬ ((n : Int) < ((vI l).length : Int)) := fun z => e (decide_eq_true z)
        rw [vI_len] at this
        omega
      subst e1
      rw [List.drop_length] at hcs
      have : cs = [] := by
        cases fu with
        | zero => rw [PyFlat.calls] at hcs; exact (Option.some.inj hcs).symm
        | succ fu => rw [PyFlat.calls] at hcs; exact (Option.some.inj hcs).symm
      subst this
      rw [Tm.ansR_nil, List.append_nil] at hacc
      refine ⟨_, rfl, q _ g ?_⟩
      rw [hg, hacc]
end
end Td
set_option maxRecDepth 100000
set_option maxHeartbeats 4000000
namespace Td
open PySem PySem.Spec PyProof.Rows L2
/-- all that stands at the top -/
structure Tops (K : PySem.W.Frag) (mg : Str → Option Value) (CD CI CS CL CR CK : Addr) : Prop where
  G : Glob mg
  Wd : Words K mg
  t_CD : CT K CD fDoc
  t_CI : CT K CI fItem
  t_CS : CT K CS fSpan
  t_CL : CT K CL fLine
  t_CR : CT K CR fRd
  t_CK : CT K CK fDesk
  d_numbers_of : Stands K mg "numbers_of" s_numbers_of
  d_is_numeral : Stands K mg "is_numeral" s_is_numeral
  d_value_of_digits : Stands K mg "value_of_digits" s_value_of_digits
  d_value_of : Stands K mg "value_of" s_value_of
  d_cut_at_blanks : Stands K mg "cut_at_blanks" s_cut_at_blanks
  d_sign_span : Stands K mg "sign_span" s_sign_span
  d_closed_span : Stands K mg "closed_span" s_closed_span
  d_bracketed_span : Stands K mg "bracketed_span" s_bracketed_span
  d_span_at : Stands K mg "span_at" s_span_at
  d_spans_of : Stands K mg "spans_of" s_spans_of
  d_tells_property : Stands K mg "tells_property" s_tells_property
  d_pending_item : Stands K mg "pending_item" s_pending_item
  d_item_of : Stands K mg "item_of" s_item_of
  d_items_of : Stands K mg "items_of" s_items_of
  d_names_change : Stands K mg "names_change" s_names_change
  d_goes_with : Stands K mg "goes_with" s_goes_with
  d_is_out_of_range : Stands K mg "is_out_of_range" s_is_out_of_range
  d_numbers_with : Stands K mg "numbers_with" s_numbers_with
  d_dress_of : Stands K mg "dress_of" s_dress_of
  d_is_at_odds : Stands K mg "is_at_odds" s_is_at_odds
  d_pieces_of : Stands K mg "pieces_of" s_pieces_of
  d_is_put_or_cut : Stands K mg "is_put_or_cut" s_is_put_or_cut
  d_plain_dress : Stands K mg "plain_dress" s_plain_dress
  d_new_document : Stands K mg "new_document" s_new_document
  d_kind_of : Stands K mg "kind_of" s_kind_of
  d_is_change_shape : Stands K mg "is_change_shape" s_is_change_shape
  d_read_change : Stands K mg "read_change" s_read_change
  d_read_paragraph : Stands K mg "read_paragraph" s_read_paragraph
  d_lines_of : Stands K mg "lines_of" s_lines_of
  d_read_line : Stands K mg "read_line" s_read_line
  d_read_text : Stands K mg "read_text" s_read_text
  d_written_marks : Stands K mg "written_marks" s_written_marks
  d_change_line : Stands K mg "change_line" s_change_line
  d_first_line_apart : Stands K mg "first_line_apart" s_first_line_apart
  d_row_lines : Stands K mg "row_lines" s_row_lines
  d_one_form : Stands K mg "one_form" s_one_form
  d_renumbered_dress : Stands K mg "renumbered_dress" s_renumbered_dress
  d_renumbered_row : Stands K mg "renumbered_row" s_renumbered_row
  d_joined : Stands K mg "joined" s_joined
  d_paragraph_ends : Stands K mg "paragraph_ends" s_paragraph_ends
  d_counted : Stands K mg "counted" s_counted
  d_listed_table : Stands K mg "listed_table" s_listed_table
  d_listed_paragraphs : Stands K mg "listed_paragraphs" s_listed_paragraphs
  d_listed_dress : Stands K mg "listed_dress" s_listed_dress
  d_listed_pieces : Stands K mg "listed_pieces" s_listed_pieces
  d_is_viewed : Stands K mg "is_viewed" s_is_viewed
  d_viewed_row : Stands K mg "viewed_row" s_viewed_row
  d_look_as_shown : Stands K mg "look_as_shown" s_look_as_shown
  d_settled_dress : Stands K mg "settled_dress" s_settled_dress
  d_settled : Stands K mg "settled" s_settled
  d_changes_in : Stands K mg "changes_in" s_changes_in
  d_borne_changes : Stands K mg "borne_changes" s_borne_changes
  d_tidied : Stands K mg "tidied" s_tidied
  d_takes_text : Stands K mg "takes_text" s_takes_text
  d_words_before : Stands K mg "words_before" s_words_before
  d_behind_call : Stands K mg "behind_call" s_behind_call
  d_answer_of : Stands K mg "answer_of" s_answer_of
  i_Document : StandsC K mg "Document" "Document.__init__" s_Document_init CD
  i_Span : StandsC K mg "Span" "Span.__init__" s_Span_init CS
  i_Line : StandsC K mg "Line" "Line.__init__" s_Line_init CL
  i_Item : StandsC K mg "Item" "Item.__init__" s_Item_init CI
  i_Reading : StandsC K mg "Reading" "Reading.__init__" s_Reading_init CR
  i_Desk : StandsC K mg "Desk" "Desk.__init__" s_Desk_init CK
  e_fail : StandsM K CR "fail" "Reading.fail" s_Reading_fail
  e_read : StandsM K CK "read" "Desk.read" s_Desk_read
  e_form : StandsM K CK "form" "Desk.form" s_Desk_form
  e_same : StandsM K CK "same" "Desk.same" s_Desk_same
  e_join : StandsM K CK "join" "Desk.join" s_Desk_join
  e_strict : StandsM K CK "strict" "Desk.strict" s_Desk_strict
  e_part : StandsM K CK "part" "Desk.part" s_Desk_part
  e_tidy : StandsM K CK "tidy" "Desk.tidy" s_Desk_tidy
  e_settle : StandsM K CK "settle" "Desk.settle" s_Desk_settle
  e_plain : StandsM K CK "plain" "Desk.plain" s_Desk_plain
  e_pieces : StandsM K CK "pieces" "Desk.pieces" s_Desk_pieces
  e_changes : StandsM K CK "changes" "Desk.changes" s_Desk_changes
  e_paragraphs : StandsM K CK "paragraphs" "Desk.paragraphs" s_Desk_paragraphs
section
variable {P : Program} {w : World} {K : PySem.W.Frag} {mg : Str → Option Value} {base : Heap} {CD CI CS CL CR CK f : Addr} {fd : FuncData}
theorem all_ok (T : Tops K mg CD CI CS CL CR CK) (F : Fun K "answers" "answers" s_answers f fd) : FnOk P w K mg base CX0 13 f fd ["calls"] (sp_answers K) := by
  have c_numbers_of : C8.Cal P w K mg base 1 "numbers_of" sp_numbers_of [] := ok_numbers_of (k := 0) T.G T.d_numbers_of
  have c_is_numeral : C8.Cal P w K mg base 1 "is_numeral" (sp_is_numeral K) [] := ok_is_numeral (k := 0) T.G T.d_is_numeral
  have c_value_of_digits : C8.Cal P w K mg base 1 "value_of_digits" (sp_value_of_digits K) [] := ok_value_of_digits (k := 0) T.G T.d_value_of_digits
  have c_value_of : C8.Cal P w K mg base 2 "value_of" (sp_value_of K) [] := ok_value_of (k := 0) T.G c_value_of_digits T.d_value_of
  have c_cut_at_blanks : C8.Cal P w K mg base 1 "cut_at_blanks" (sp_cut_at_blanks K) [] := ok_cut_at_blanks (k := 0) T.G T.d_cut_at_blanks
  have m_Document : C8.Mak P w K mg base 1 "Document" CD (spInit CD fDoc) [] := mk_Document (C := CD) (k := 0) T.t_CD T.i_Document
  have m_Span : C8.Mak P w K mg base 1 "Span" CS (spInit CS fSpan) [] := mk_Span (C := CS) (k := 0) T.t_CS T.i_Span
  have m_Line : C8.Mak P w K mg base 1 "Line" CL (spInit CL fLine) [] := mk_Line (C := CL) (k := 0) T.t_CL T.i_Line
  have m_Item : C8.Mak P w K mg base 1 "Item" CI (spInit CI fItem) [] := mk_Item (C := CI) (k := 0) T.t_CI T.i_Item
  have c_sign_span : C8.Cal P w K mg base 3 "sign_span" (sp_sign_span K CS) [] := ok_sign_span (C := CS) (k := 0) T.G T.t_CS m_Span T.d_sign_span
  have c_closed_span : C8.Cal P w K mg base 4 "closed_span" (sp_closed_span K CS) [] := ok_closed_span (C := CS) (k := 0) T.G T.t_CS m_Span c_sign_span T.d_closed_span
  have c_bracketed_span : C8.Cal P w K mg base 5 "bracketed_span" (sp_bracketed_span K CS) [] := ok_bracketed_span (C := CS) (k := 0) T.G T.t_CS m_Span c_closed_span T.d_bracketed_span
  have c_span_at : C8.Cal P w K mg base 6 "span_at" (sp_span_at K CS) [] := ok_span_at (C := CS) (k := 0) T.G c_sign_span c_bracketed_span T.d_span_at
  have c_spans_of : C8.Cal P w K mg base 7 "spans_of" (sp_spans_of K CS) [] := ok_spans_of (C := CS) (k := 0) T.G T.t_CS m_Span c_span_at T.d_spans_of
  have c_tells_property : C8.Cal P w K mg base 2 "tells_property" (sp_tells_property K) [] := ok_tells_property (k := 0) T.G c_is_numeral T.d_tells_property
  have c_pending_item : C8.Cal P w K mg base 3 "pending_item" (sp_pending_item K CI) [] := ok_pending_item (C := CI) (k := 0) T.G m_Item c_is_numeral c_tells_property c_value_of T.d_pending_item
  have c_item_of : C8.Cal P w K mg base 4 "item_of" (sp_item_of K CI) [] := ok_item_of (C := CI) (k := 0) T.G m_Item c_is_numeral c_tells_property c_value_of c_pending_item T.d_item_of
  have c_items_of : C8.Cal P w K mg base 5 "items_of" (sp_items_of K CI) [] := ok_items_of (C := CI) (k := 0) T.G c_cut_at_blanks c_item_of T.d_items_of
  have c_names_change : C8.Cal P w K mg base 1 "names_change" (sp_names_change CI) [] := ok_names_change (C := CI) (k := 0) T.G T.t_CI T.d_names_change
  have c_goes_with : C8.Cal P w K mg base 1 "goes_with" sp_goes_with [] := ok_goes_with (k := 0) T.G T.d_goes_with
  have c_is_out_of_range : C8.Cal P w K mg base 2 "is_out_of_range" (sp_is_out_of_range CI) [] := ok_is_out_of_range (C := CI) (k := 0) T.G T.t_CI c_names_change T.d_is_out_of_range
  have c_numbers_with : C8.Cal P w K mg base 1 "numbers_with" (sp_numbers_with CI) [] := ok_numbers_with (C := CI) (k := 0) T.G T.t_CI T.d_numbers_with
  have c_dress_of : C8.Cal P w K mg base 2 "dress_of" (sp_dress_of K CI) [] := ok_dress_of (C := CI) (k := 0) T.G T.t_CI c_numbers_with T.d_dress_of
  have c_is_at_odds : C8.Cal P w K mg base 2 "is_at_odds" (sp_is_at_odds K CI) [] := ok_is_at_odds (C := CI) (k := 0) T.G T.t_CI c_names_change c_goes_with T.d_is_at_odds
  have c_pieces_of : C8.Cal P w K mg base 3 "pieces_of" (sp_pieces_of K CS CI) [] := ok_pieces_of (C := CI) (k := 0) T.G T.t_CS c_dress_of T.d_pieces_of
  have c_is_put_or_cut : C8.Cal P w K mg base 1 "is_put_or_cut" (sp_is_put_or_cut K) [] := ok_is_put_or_cut (k := 0) T.G T.d_is_put_or_cut
  have c_plain_dress : C8.Cal P w K mg base 1 "plain_dress" (sp_plain_dress K) [] := ok_plain_dress (k := 0) T.G T.d_plain_dress
  have c_new_document : C8.Cal P w K mg base 3 "new_document" (sp_new_document K CD) [] := ok_new_document (C := CD) (k := 0) T.G m_Document c_plain_dress T.d_new_document
  have c_kind_of : C8.Cal P w K mg base 2 "kind_of" (sp_kind_of K) [] := ok_kind_of (k := 0) T.G T.Wd c_numbers_of T.d_kind_of
  have c_is_change_shape : C8.Cal P w K mg base 3 "is_change_shape" (sp_is_change_shape K) [] := ok_is_change_shape (k := 0) T.G c_numbers_of c_kind_of T.d_is_change_shape
  have c_read_change : C8.Cal P w K mg base 4 "read_change" (sp_read_change K) [] := ok_read_change (k := 0) T.G c_is_numeral c_value_of c_kind_of c_is_change_shape T.d_read_change
  have c_read_paragraph : C8.Cal P w K mg base 8 "read_paragraph" (sp_read_paragraph K CD CL) [] := ok_read_paragraph (k := 0) T.G ⟨T.t_CD, T.t_CI, T.t_CS, T.t_CL⟩ c_spans_of c_items_of c_is_out_of_range c_is_at_odds c_pieces_of c_is_put_or_cut T.d_read_paragraph
  have c_lines_of : C8.Cal P w K mg base 3 "lines_of" (sp_lines_of K CL) [] := ok_lines_of (k := 0) T.G m_Line T.d_lines_of
  have m_Reading : C8.Mak P w K mg base 3 "Reading" CR (sp_Reading_init K CD CR) [] := mk_Reading (k := 0) T.G T.t_CR m_Document T.i_Reading
  have t_fail : C8.Met P w K mg base 1 CR "fail" (sp_fail CR) [] := mt_fail (k := 0) T.G T.t_CR T.e_fail
  have c_read_line : C8.Cal P w K mg base 9 "read_line" (sp_read_line K CD CL CR) [] := ok_read_line (k := 0) T.G ⟨T.t_CD, T.t_CI, T.t_CS, T.t_CL⟩ T.t_CR c_numbers_of c_cut_at_blanks c_read_paragraph c_read_change T.d_read_line
  have c_read_text : C8.Cal P w K mg base 10 "read_text" (sp_read_text K CD CR) [] := ok_read_text (k := 0) T.G ⟨T.t_CD, T.t_CI, T.t_CS, T.t_CL⟩ T.t_CR m_Reading c_lines_of c_read_line t_fail T.d_read_text
  have c_written_marks : C8.Cal P w K mg base 1 "written_marks" (sp_written_marks K) [] := ok_written_marks (k := 0) T.G T.d_written_marks
  have c_change_line : C8.Cal P w K mg base 2 "change_line" (sp_change_line K) [] := ok_change_line (k := 0) T.G T.Wd c_numbers_of T.d_change_line
  have c_first_line_apart : C8.Cal P w K mg base 1 "first_line_apart" (sp_first_line_apart K) [] := ok_first_line_apart (k := 0) T.G T.d_first_line_apart
  have c_row_lines : C8.Cal P w K mg base 2 "row_lines" (sp_row_lines K) [] := ok_row_lines (k := 0) T.G c_plain_dress c_numbers_of c_written_marks T.d_row_lines
  have c_one_form : C8.Cal P w K mg base 3 "one_form" (sp_one_form K CD) [] := ok_one_form (k := 0) T.G T.t_CD c_numbers_of c_change_line c_row_lines T.d_one_form
  have c_renumbered_dress : C8.Cal P w K mg base 1 "renumbered_dress" (sp_renumbered_dress K) [] := ok_renumbered_dress (k := 0) T.G T.d_renumbered_dress
  have c_renumbered_row : C8.Cal P w K mg base 2 "renumbered_row" (sp_renumbered_row K) [] := ok_renumbered_row (k := 0) T.G c_renumbered_dress T.d_renumbered_row
  have c_joined : C8.Cal P w K mg base 3 "joined" (sp_joined K CD) [] := ok_joined (k := 0) T.G T.t_CD m_Document c_renumbered_row T.d_joined
  have c_paragraph_ends : C8.Cal P w K mg base 1 "paragraph_ends" (sp_paragraph_ends K) [] := ok_paragraph_ends (k := 0) T.G T.d_paragraph_ends
  have c_counted : C8.Cal P w K mg base 1 "counted" (sp_counted K) [] := ok_counted (k := 0) T.G T.d_counted
  have t_read : C8.Met P w K mg base 11 CK "read" (sp_read K CK CD) [] := mt_read (k := 0) T.G T.t_CK T.t_CR c_read_text T.e_read
  have t_form : C8.Met P w K mg base 4 CK "form" (sp_form K CK CD) [] := mt_form (k := 0) T.G T.t_CK c_one_form c_counted T.e_form
  have t_same : C8.Met P w K mg base 11 CK "same" (sp_same K CK CD) [] := mt_same (k := 0) T.G T.t_CD T.t_CK T.t_CR c_read_text T.e_same
  have t_join : C8.Met P w K mg base 11 CK "join" (sp_join K CK CD) [] := mt_join (k := 0) T.G T.t_CK T.t_CR c_read_text c_joined T.e_join
  have t_strict : C8.Met P w K mg base 11 CK "strict" (sp_strict K CK CD) [] := mt_strict (k := 0) T.G T.t_CK T.t_CR c_read_text c_one_form c_first_line_apart T.e_strict
  have m_Desk : C8.Mak P w K mg base 4 "Desk" CK (sp_Desk_init K CK CD) [] := mk_Desk (k := 0) T.G T.t_CK c_new_document T.i_Desk
  have t_part : C8.Met P w K mg base 4 CK "part" (sp_part K CK CD) [] := mt_part (k := 0) T.G T.t_CD T.t_CK m_Document c_paragraph_ends c_is_put_or_cut T.e_part
  have c_listed_table : C8.Cal P w K mg base 1 "listed_table" (sp_listed_table K) [] := ok_listed_table (k := 0) T.G T.d_listed_table
  have c_listed_paragraphs : C8.Cal P w K mg base 2 "listed_paragraphs" (sp_listed_paragraphs K) [] := ok_listed_paragraphs (k := 0) T.G c_paragraph_ends c_counted T.d_listed_paragraphs
  have c_listed_dress : C8.Cal P w K mg base 2 "listed_dress" (sp_listed_dress K) [] := ok_listed_dress (k := 0) T.G c_counted T.d_listed_dress
  have c_listed_pieces : C8.Cal P w K mg base 3 "listed_pieces" (sp_listed_pieces K) [] := ok_listed_pieces (k := 0) T.G c_listed_dress T.d_listed_pieces
  have c_is_viewed : C8.Cal P w K mg base 1 "is_viewed" (sp_is_viewed K) [] := ok_is_viewed (k := 0) T.G T.d_is_viewed
  have c_viewed_row : C8.Cal P w K mg base 2 "viewed_row" (sp_viewed_row K) [] := ok_viewed_row (k := 0) T.G c_is_viewed T.d_viewed_row
  have c_look_as_shown : C8.Cal P w K mg base 1 "look_as_shown" (sp_look_as_shown K) [] := ok_look_as_shown (k := 0) T.G T.d_look_as_shown
  have c_settled_dress : C8.Cal P w K mg base 2 "settled_dress" (sp_settled_dress K) [] := ok_settled_dress (k := 0) T.G c_look_as_shown T.d_settled_dress
  have c_settled : C8.Cal P w K mg base 3 "settled" (sp_settled K CD) [] := ok_settled (k := 0) T.G T.t_CD m_Document c_viewed_row c_settled_dress T.d_settled
  have c_changes_in : C8.Cal P w K mg base 1 "changes_in" (sp_changes_in K) [] := ok_changes_in (k := 0) T.G T.d_changes_in
  have c_borne_changes : C8.Cal P w K mg base 2 "borne_changes" (sp_borne_changes K) [] := ok_borne_changes (k := 0) T.G c_changes_in T.d_borne_changes
  have c_tidied : C8.Cal P w K mg base 3 "tidied" (sp_tidied K CD) [] := ok_tidied (k := 0) T.G T.t_CD m_Document c_borne_changes c_renumbered_row T.d_tidied
  have t_tidy : C8.Met P w K mg base 4 CK "tidy" (sp_tidy K CK CD) [] := mt_tidy (k := 0) T.G T.t_CD T.t_CK c_tidied T.e_tidy
  have t_settle : C8.Met P w K mg base 4 CK "settle" (sp_settle K CK CD) [] := mt_settle (k := 0) T.G T.t_CD T.t_CK c_settled T.e_settle
  have t_plain : C8.Met P w K mg base 4 CK "plain" (sp_plain K CK CD) [] := mt_plain (k := 0) T.G T.t_CD T.t_CK c_viewed_row c_counted T.e_plain
  have t_pieces : C8.Met P w K mg base 4 CK "pieces" (sp_pieces K CK CD) [] := mt_pieces (k := 0) T.G T.t_CD T.t_CK c_listed_pieces T.e_pieces
  have t_changes : C8.Met P w K mg base 4 CK "changes" (sp_changes K CK CD) [] := mt_changes (k := 0) T.G T.t_CD T.t_CK c_listed_table T.e_changes
  have t_paragraphs : C8.Met P w K mg base 4 CK "paragraphs" (sp_paragraphs K CK CD) [] := mt_paragraphs (k := 0) T.G T.t_CD T.t_CK c_listed_paragraphs T.e_paragraphs
  have c_takes_text : C8.Cal P w K mg base 1 "takes_text" sp_takes_text [] := ok_takes_text (k := 0) T.G T.d_takes_text
  have c_words_before : C8.Cal P w K mg base 2 "words_before" sp_words_before [] := ok_words_before (k := 0) T.G c_takes_text T.d_words_before
  have c_behind_call : C8.Cal P w K mg base 2 "behind_call" (sp_behind_call K) [] := ok_behind_call (k := 0) T.G c_takes_text T.d_behind_call
  have c_answer_of : C8.Cal P w K mg base 12 "answer_of" (sp_answer_of K CK CD) [] := ok_answer_of (k := 0) T.G t_read t_strict t_form t_same t_join t_part t_tidy t_settle t_plain t_pieces t_changes t_paragraphs T.d_answer_of
  exact fn_answers (k := 0) T.G m_Desk c_words_before c_behind_call c_answer_of F
theorem binds_answers (F : Fun K "answers" "answers" s_answers f fd) : ∀ (s : Shared) (us : List Value), us.length = (["calls"] : List Str).length → BindsTo s fd ⟨us, []⟩ ((["calls"] : List Str).zip us) := by
  obtain ⟨oc, od, kV, doc, pm, an, cdv, ct, osl, rfl, lk, hcd⟩ := F.ex
  intro s us hu
  match us, hu with
  | [_], _ => exact .of_eq rfl
/-- a def at the top -/
theorem stands_mk {h : Heap} {x : Str} {st : Stmt} {fa : Addr} {od an : Option Addr} {sl : Array (Option Value)} {oc kV dc pm cd ct : Value} (X : K.In h) (G : h.Ns mainGlobals mg) (a : PySem.W.nsIn K mainGlobals x = some (some (.ref fa)))
    (l : K.lookup fa = some ⟨oc, od, .func (PySem.W.fnOf x x (defArgs st) (defBody st) (defScope st) .none kV dc pm an cd ct), sl⟩) (c : PySem.W.codeIn K cd x = true) (k : PySem.W.keepIn K (.ref fa) = true) : Stands K mg x st := ⟨fa, _, fun_mk l c k, PySem.W.mg_of X G a⟩
/-- a class's __init__ -/
theorem standsC_mk {h : Heap} {x qual : Str} {st : Stmt} {C fa : Addr} {od an : Option Addr} {sl : Array (Option Value)} {oc kV dc pm cd ct : Value} (X : K.In h) (G : h.Ns mainGlobals mg) (aC : PySem.W.nsIn K mainGlobals x = some (some (.ref C))) (mk : PySem.W.makesIn K C = true) (a : PySem.W.findIn K (.ref C) "__init__" = some (some (.ref fa))) (i : PySem.W.isFn K (.ref fa) = true) (kc : PySem.W.keepIn K (.ref C) = true)
    (l : K.lookup fa = some ⟨oc, od, .func (PySem.W.fnOf "__init__" qual (defArgs st) (defBody st) (defScope st) .none kV dc pm an cd ct), sl⟩) (c : PySem.W.codeIn K cd qual = true) (k : PySem.W.keepIn K (.ref fa) = true) : StandsC K mg x qual st C := ⟨fa, _, ⟨mk, a, i, kc⟩, fun_mk l c k, PySem.W.mg_of X G aC⟩
/-- a class's method -/
theorem standsM_mk {m qual : Str} {st : Stmt} {C fa : Addr} {od an : Option Addr} {sl : Array (Option Value)} {oc kV dc pm cd ct : Value} (cl : Cls K C) (a : PySem.W.findIn K (.ref C) m = some (some (.ref fa))) (i : PySem.W.isFn K (.ref fa) = true)
    (l : K.lookup fa = some ⟨oc, od, .func (PySem.W.fnOf m qual (defArgs st) (defBody st) (defScope st) .none kV dc pm an cd ct), sl⟩) (c : PySem.W.codeIn K cd qual = true) (k : PySem.W.keepIn K (.ref fa) = true) : StandsM K C m qual st := ⟨fa, _, cl, ⟨a, i, k⟩, fun_mk l c k⟩
/-- a class is a plain one -/
theorem cls_mk {C : Addr} (pg : PySem.W.plainGet K C Str.empty = true) (hd : PySem.W.hasDictIn K C = true) (po : PySem.W.plainOver K C = true) (sa : PySem.W.findIn K (.ref C) "__setattr__" = some (some (.builtin "object.__setattr__"))) : Cls K C := ⟨pg, hd, po, sa⟩
/-- a number at the top, a text at the top -/
theorem gv_int {h : Heap} {x : Str} {i : Int} {t : Tok} (X : K.In h) (G : h.Ns mainGlobals mg) (a : PySem.W.nsIn K mainGlobals x = some (some (.int i t))) : GV mg x (.int i) := ⟨_, PySem.W.mg_of X G a, t, rfl⟩
theorem gv_str {h : Heap} {x z : Str} {t : Tok} (X : K.In h) (G : h.Ns mainGlobals mg) (a : PySem.W.nsIn K mainGlobals x = some (some (.str z t))) : GV mg x (.str z) := ⟨_, PySem.W.mg_of X G a, t, rfl⟩
theorem words_mk {h : Heap} {kw : Addr} {od : Option Addr} {t1 t2 t3 t4 : Tok} {n : Nat} {sl : Array (Option Value)} (X : K.In h) (G : h.Ns mainGlobals mg) (a : PySem.W.nsIn K mainGlobals "KIND_WORDS" = some (some (.ref kw)))
    (l : K.lookup kw = some ⟨.type "tuple", od, .seq #[.str "put" t1, .str "cut" t2, .str "paint" t3, .str "move" t4] n, sl⟩) : Words K mg := by
  refine ⟨kw, ⟨_, PySem.W.mg_of X G a, rfl⟩, fun H => .inr ⟨_, _, n, l, rfl, rfl, ?_, ?_⟩⟩
  · show 4 ≤ sizeLine
    decide
  · exact .cons ⟨t1, rfl⟩ (.cons ⟨t2, rfl⟩ (.cons ⟨t3, rfl⟩ (.cons ⟨t4, rfl⟩ .nil)))
end
end Td
open PySem PySem.W PyProof.Rows
set_option maxRecDepth 100000 in
set_option maxHeartbeats 0 in
theorem PySem.Challenge.cw_trackedtextdesk_s01_answers_holds : PySem.Challenge.rw_trackedtextdesk_s01_answers.Holds := by
  refine Hd.hd ?_
  k_fillS
  refine L2.walk_specK (r := PySem.Challenge.rw_trackedtextdesk_s01_answers) (k := 13) (CX := L2.CX0) (ps := ["calls"]) (sp := Td.sp_answers) Hd.said rfl rfl ⟨rfl, by decide, by decide⟩ (fun w h Y => PySem.W.kIn_of Y) ?F ?S (fun _ _ _ _ z => z)
  case F =>
    intro w mg fa h Y KX G hmg
    have b_len : mg "len" = none := PySem.W.mg_none_of KX G (by k_is)
    have b_ord : mg "ord" = none := PySem.W.mg_none_of KX G (by k_is)
    have b_min : mg "min" = none := PySem.W.mg_none_of KX G (by k_is)
    have b_max : mg "max" = none := PySem.W.mg_none_of KX G (by k_is)
    have b_sorted : mg "sorted" = none := PySem.W.mg_none_of KX G (by k_is)
    have b_any : mg "any" = none := PySem.W.mg_none_of KX G (by k_is)
    have b_all : mg "all" = none := PySem.W.mg_none_of KX G (by k_is)
    have b_tuple : mg "tuple" = none := PySem.W.mg_none_of KX G (by k_is)
    have b_list : mg "list" = none := PySem.W.mg_none_of KX G (by k_is)
    have b_set : mg "set" = none := PySem.W.mg_none_of KX G (by k_is)
    have b_enumerate : mg "enumerate" = none := PySem.W.mg_none_of KX G (by k_is)
    have b_zip : mg "zip" = none := PySem.W.mg_none_of KX G (by k_is)
    have b_sum : mg "sum" = none := PySem.W.mg_none_of KX G (by k_is)
    have b_range : mg "range" = none := PySem.W.mg_none_of KX G (by k_is)
    have b_dict : mg "dict" = none := PySem.W.mg_none_of KX G (by k_is)
    have b_abs : mg "abs" = none := PySem.W.mg_none_of KX G (by k_is)
    have c_LINE_END : Td.GV mg "LINE_END" (.int 10) := by refine' Td.gv_int KX G ?a; (case a => k_is)
    have c_BLANK : Td.GV mg "BLANK" (.int 32) := by refine' Td.gv_int KX G ?a; (case a => k_is)
    have c_LAST_SIGN : Td.GV mg "LAST_SIGN" (.int 126) := by refine' Td.gv_int KX G ?a; (case a => k_is)
    have c_TAG : Td.GV mg "TAG" (.int 35) := by refine' Td.gv_int KX G ?a; (case a => k_is)
    have c_PENDING_LOOK : Td.GV mg "PENDING_LOOK" (.int 42) := by refine' Td.gv_int KX G ?a; (case a => k_is)
    have c_INSERTION : Td.GV mg "INSERTION" (.int 43) := by refine' Td.gv_int KX G ?a; (case a => k_is)
    have c_DELETION : Td.GV mg "DELETION" (.int 45) := by refine' Td.gv_int KX G ?a; (case a => k_is)
    have c_COLON : Td.GV mg "COLON" (.int 58) := by refine' Td.gv_int KX G ?a; (case a => k_is)
    have c_LEFT : Td.GV mg "LEFT" (.int 91) := by refine' Td.gv_int KX G ?a; (case a => k_is)
    have c_BACKSLASH : Td.GV mg "BACKSLASH" (.int 92) := by refine' Td.gv_int KX G ?a; (case a => k_is)
    have c_RIGHT : Td.GV mg "RIGHT" (.int 93) := by refine' Td.gv_int KX G ?a; (case a => k_is)
    have c_BAR : Td.GV mg "BAR" (.int 124) := by refine' Td.gv_int KX G ?a; (case a => k_is)
    have c_FIRST_DIGIT : Td.GV mg "FIRST_DIGIT" (.int 48) := by refine' Td.gv_int KX G ?a; (case a => k_is)
    have c_LAST_DIGIT : Td.GV mg "LAST_DIGIT" (.int 57) := by refine' Td.gv_int KX G ?a; (case a => k_is)
    have c_PROPERTIES : Td.GV mg "PROPERTIES" (.str "abcd") := by refine' Td.gv_str KX G ?a; (case a => k_is)
    have c_FIRST_PROPERTY : Td.GV mg "FIRST_PROPERTY" (.int 97) := by refine' Td.gv_int KX G ?a; (case a => k_is)
    have c_LAST_PROPERTY : Td.GV mg "LAST_PROPERTY" (.int 100) := by refine' Td.gv_int KX G ?a; (case a => k_is)
    have c_STRIDE : Td.GV mg "STRIDE" (.int 18) := by refine' Td.gv_int KX G ?a; (case a => k_is)
    have c_STRIDE_RANGE : Td.GV mg "STRIDE_RANGE" (.int 1000000000000000000) := by refine' Td.gv_int KX G ?a; (case a => k_is)
    have c_AUTHOR : Td.GV mg "AUTHOR" (.int 0) := by refine' Td.gv_int KX G ?a; (case a => k_is)
    have c_TIME : Td.GV mg "TIME" (.int 1) := by refine' Td.gv_int KX G ?a; (case a => k_is)
    have c_KIND : Td.GV mg "KIND" (.int 2) := by refine' Td.gv_int KX G ?a; (case a => k_is)
    have c_NUMERAL : Td.GV mg "NUMERAL" (.int 3) := by refine' Td.gv_int KX G ?a; (case a => k_is)
    have c_PUT : Td.GV mg "PUT" (.int 1) := by refine' Td.gv_int KX G ?a; (case a => k_is)
    have c_CUT : Td.GV mg "CUT" (.int 2) := by refine' Td.gv_int KX G ?a; (case a => k_is)
    have c_PAINT : Td.GV mg "PAINT" (.int 3) := by refine' Td.gv_int KX G ?a; (case a => k_is)
    have c_MOVE : Td.GV mg "MOVE" (.int 4) := by refine' Td.gv_int KX G ?a; (case a => k_is)
    have c_SIGN : Td.GV mg "SIGN" (.int 0) := by refine' Td.gv_int KX G ?a; (case a => k_is)
    have c_DRESS : Td.GV mg "DRESS" (.int 1) := by refine' Td.gv_int KX G ?a; (case a => k_is)
    have c_LOOK : Td.GV mg "LOOK" (.int 0) := by refine' Td.gv_int KX G ?a; (case a => k_is)
    have c_INSERTIONS : Td.GV mg "INSERTIONS" (.int 1) := by refine' Td.gv_int KX G ?a; (case a => k_is)
    have c_DELETIONS : Td.GV mg "DELETIONS" (.int 2) := by refine' Td.gv_int KX G ?a; (case a => k_is)
    have c_PENDING : Td.GV mg "PENDING" (.int 3) := by refine' Td.gv_int KX G ?a; (case a => k_is)
    have c_TAGS : Td.GV mg "TAGS" (.int 4) := by refine' Td.gv_int KX G ?a; (case a => k_is)
    have c_OWN_LOOK : Td.GV mg "OWN_LOOK" (.int 0) := by refine' Td.gv_int KX G ?a; (case a => k_is)
    have c_GREATEST_VALUE : Td.GV mg "GREATEST_VALUE" (.int 99) := by refine' Td.gv_int KX G ?a; (case a => k_is)
    have c_GREATEST_TAG : Td.GV mg "GREATEST_TAG" (.int 999) := by refine' Td.gv_int KX G ?a; (case a => k_is)
    have c_FINE : Td.GV mg "FINE" (.int 0) := by refine' Td.gv_int KX G ?a; (case a => k_is)
    have c_NOT_A_LINE : Td.GV mg "NOT_A_LINE" (.int 1) := by refine' Td.gv_int KX G ?a; (case a => k_is)
    have c_NOT_THE_SHAPE : Td.GV mg "NOT_THE_SHAPE" (.int 2) := by refine' Td.gv_int KX G ?a; (case a => k_is)
    have c_NOT_THE_WORDS : Td.GV mg "NOT_THE_WORDS" (.int 3) := by refine' Td.gv_int KX G ?a; (case a => k_is)
    have c_OUT_OF_RANGE : Td.GV mg "OUT_OF_RANGE" (.int 4) := by refine' Td.gv_int KX G ?a; (case a => k_is)
    have c_AT_ODDS : Td.GV mg "AT_ODDS" (.int 5) := by refine' Td.gv_int KX G ?a; (case a => k_is)
    have c_END_NOT_PLAIN : Td.GV mg "END_NOT_PLAIN" (.int 6) := by refine' Td.gv_int KX G ?a; (case a => k_is)
    have c_LINE_MISSING : Td.GV mg "LINE_MISSING" (.int 7) := by refine' Td.gv_int KX G ?a; (case a => k_is)
    have c_AT_FIRST_LINE : Td.GV mg "AT_FIRST_LINE" (.int 0) := by refine' Td.gv_int KX G ?a; (case a => k_is)
    have c_AT_CHANGES : Td.GV mg "AT_CHANGES" (.int 1) := by refine' Td.gv_int KX G ?a; (case a => k_is)
    have c_AT_PARAGRAPHS : Td.GV mg "AT_PARAGRAPHS" (.int 2) := by refine' Td.gv_int KX G ?a; (case a => k_is)
    have c_GREATEST_AUTHOR : Td.GV mg "GREATEST_AUTHOR" (.int 99) := by refine' Td.gv_int KX G ?a; (case a => k_is)
    have c_WHOLE : Td.GV mg "WHOLE" (.int 0) := by refine' Td.gv_int KX G ?a; (case a => k_is)
    have c_SHOWN : Td.GV mg "SHOWN" (.int 1) := by refine' Td.gv_int KX G ?a; (case a => k_is)
    have c_BEFORE : Td.GV mg "BEFORE" (.int 2) := by refine' Td.gv_int KX G ?a; (case a => k_is)
    have c_NOT_THE_ONE_FORM : Td.GV mg "NOT_THE_ONE_FORM" (.int 8) := by refine' Td.gv_int KX G ?a; (case a => k_is)
    have c_READ : Td.GV mg "READ" (.int 0) := by refine' Td.gv_int KX G ?a; (case a => k_is)
    have c_STRICT : Td.GV mg "STRICT" (.int 1) := by refine' Td.gv_int KX G ?a; (case a => k_is)
    have c_FORM : Td.GV mg "FORM" (.int 2) := by refine' Td.gv_int KX G ?a; (case a => k_is)
    have c_SAME : Td.GV mg "SAME" (.int 3) := by refine' Td.gv_int KX G ?a; (case a => k_is)
    have c_JOIN : Td.GV mg "JOIN" (.int 4) := by refine' Td.gv_int KX G ?a; (case a => k_is)
    have c_PART : Td.GV mg "PART" (.int 5) := by refine' Td.gv_int KX G ?a; (case a => k_is)
    have c_TIDY : Td.GV mg "TIDY" (.int 6) := by refine' Td.gv_int KX G ?a; (case a => k_is)
    have c_SETTLE : Td.GV mg "SETTLE" (.int 7) := by refine' Td.gv_int KX G ?a; (case a => k_is)
    have c_PLAIN : Td.GV mg "PLAIN" (.int 8) := by refine' Td.gv_int KX G ?a; (case a => k_is)
    have c_PIECES : Td.GV mg "PIECES" (.int 9) := by refine' Td.gv_int KX G ?a; (case a => k_is)
    have c_TABLE : Td.GV mg "TABLE" (.int 10) := by refine' Td.gv_int KX G ?a; (case a => k_is)
    have c_PARAGRAPHS : Td.GV mg "PARAGRAPHS" (.int 11) := by refine' Td.gv_int KX G ?a; (case a => k_is)
    have GG : Td.Glob mg := ⟨b_len, b_ord, b_min, b_max, b_sorted, b_any, b_all, b_tuple, b_list, b_set, b_enumerate, b_zip, b_sum, b_range, b_dict, b_abs, c_LINE_END, c_BLANK, c_LAST_SIGN, c_TAG, c_PENDING_LOOK, c_INSERTION, c_DELETION, c_COLON, c_LEFT, c_BACKSLASH, c_RIGHT, c_BAR, c_FIRST_DIGIT, c_LAST_DIGIT, c_PROPERTIES, c_FIRST_PROPERTY, c_LAST_PROPERTY, c_STRIDE, c_STRIDE_RANGE, c_AUTHOR, c_TIME, c_KIND, c_NUMERAL, c_PUT, c_CUT, c_PAINT, c_MOVE, c_SIGN, c_DRESS, c_LOOK, c_INSERTIONS, c_DELETIONS, c_PENDING, c_TAGS, c_OWN_LOOK, c_GREATEST_VALUE, c_GREATEST_TAG, c_FINE, c_NOT_A_LINE, c_NOT_THE_SHAPE, c_NOT_THE_WORDS, c_OUT_OF_RANGE, c_AT_ODDS, c_END_NOT_PLAIN, c_LINE_MISSING, c_AT_FIRST_LINE, c_AT_CHANGES, c_AT_PARAGRAPHS, c_GREATEST_AUTHOR, c_WHOLE, c_SHOWN, c_BEFORE, c_NOT_THE_ONE_FORM, c_READ, c_STRICT, c_FORM, c_SAME, c_JOIN, c_PART, c_TIDY, c_SETTLE, c_PLAIN, c_PIECES, c_TABLE, c_PARAGRAPHS⟩
    have WW : Td.Words (Hd.hd.heap_1 w.params) mg := by refine' Td.words_mk KX G ?a ?l; (case a => k_is); (case l => k_is)
    have d_numbers_of : Td.Stands (Hd.hd.heap_1 w.params) mg "numbers_of" Td.s_numbers_of := by refine' Td.stands_mk KX G ?a ?l ?c ?k; (case a => k_is); (case l => k_is); (case c => k_is); (case k => k_is)
    have d_is_numeral : Td.Stands (Hd.hd.heap_1 w.params) mg "is_numeral" Td.s_is_numeral := by refine' Td.stands_mk KX G ?a ?l ?c ?k; (case a => k_is); (case l => k_is); (case c => k_is); (case k => k_is)
    have d_value_of_digits : Td.Stands (Hd.hd.heap_1 w.params) mg "value_of_digits" Td.s_value_of_digits := by refine' Td.stands_mk KX G ?a ?l ?c ?k; (case a => k_is); (case l => k_is); (case c => k_is); (case k => k_is)
    have d_value_of : Td.Stands (Hd.hd.heap_1 w.params) mg "value_of" Td.s_value_of := by refine' Td.stands_mk KX G ?a ?l ?c ?k; (case a => k_is); (case l => k_is); (case c => k_is); (case k => k_is)
    have d_cut_at_blanks : Td.Stands (Hd.hd.heap_1 w.params) mg "cut_at_blanks" Td.s_cut_at_blanks := by refine' Td.stands_mk KX G ?a ?l ?c ?k; (case a => k_is); (case l => k_is); (case c => k_is); (case k => k_is)
    have d_sign_span : Td.Stands (Hd.hd.heap_1 w.params) mg "sign_span" Td.s_sign_span := by refine' Td.stands_mk KX G ?a ?l ?c ?k; (case a => k_is); (case l => k_is); (case c => k_is); (case k => k_is)
    have d_closed_span : Td.Stands (Hd.hd.heap_1 w.params) mg "closed_span" Td.s_closed_span := by refine' Td.stands_mk KX G ?a ?l ?c ?k; (case a => k_is); (case l => k_is); (case c => k_is); (case k => k_is)
    have d_bracketed_span : Td.Stands (Hd.hd.heap_1 w.params) mg "bracketed_span" Td.s_bracketed_span := by refine' Td.stands_mk KX G ?a ?l ?c ?k; (case a => k_is); (case l => k_is); (case c => k_is); (case k => k_is)
    have d_span_at : Td.Stands (Hd.hd.heap_1 w.params) mg "span_at" Td.s_span_at := by refine' Td.stands_mk KX G ?a ?l ?c ?k; (case a => k_is); (case l => k_is); (case c => k_is); (case k => k_is)
    have d_spans_of : Td.Stands (Hd.hd.heap_1 w.params) mg "spans_of" Td.s_spans_of := by refine' Td.stands_mk KX G ?a ?l ?c ?k; (case a => k_is); (case l => k_is); (case c => k_is); (case k => k_is)
    have d_tells_property : Td.Stands (Hd.hd.heap_1 w.params) mg "tells_property" Td.s_tells_property := by refine' Td.stands_mk KX G ?a ?l ?c ?k; (case a => k_is); (case l => k_is); (case c => k_is); (case k => k_is)
    have d_pending_item : Td.Stands (Hd.hd.heap_1 w.params) mg "pending_item" Td.s_pending_item := by refine' Td.stands_mk KX G ?a ?l ?c ?k; (case a => k_is); (case l => k_is); (case c => k_is); (case k => k_is)
    have d_item_of : Td.Stands (Hd.hd.heap_1 w.params) mg "item_of" Td.s_item_of := by refine' Td.stands_mk KX G ?a ?l ?c ?k; (case a => k_is); (case l => k_is); (case c => k_is); (case k => k_is)
    have d_items_of : Td.Stands (Hd.hd.heap_1 w.params) mg "items_of" Td.s_items_of := by refine' Td.stands_mk KX G ?a ?l ?c ?k; (case a => k_is); (case l => k_is); (case c => k_is); (case k => k_is)
    have d_names_change : Td.Stands (Hd.hd.heap_1 w.params) mg "names_change" Td.s_names_change := by refine' Td.stands_mk KX G ?a ?l ?c ?k; (case a => k_is); (case l => k_is); (case c => k_is); (case k => k_is)
    have d_goes_with : Td.Stands (Hd.hd.heap_1 w.params) mg "goes_with" Td.s_goes_with := by refine' Td.stands_mk KX G ?a ?l ?c ?k; (case a => k_is); (case l => k_is); (case c => k_is); (case k => k_is)
    have d_is_out_of_range : Td.Stands (Hd.hd.heap_1 w.params) mg "is_out_of_range" Td.s_is_out_of_range := by refine' Td.stands_mk KX G ?a ?l ?c ?k; (case a => k_is); (case l => k_is); (case c => k_is); (case k => k_is)
    have d_numbers_with : Td.Stands (Hd.hd.heap_1 w.params) mg "numbers_with" Td.s_numbers_with := by refine' Td.stands_mk KX G ?a ?l ?c ?k; (case a => k_is); (case l => k_is); (case c => k_is); (case k => k_is)
    have d_dress_of : Td.Stands (Hd.hd.heap_1 w.params) mg "dress_of" Td.s_dress_of := by refine' Td.stands_mk KX G ?a ?l ?c ?k; (case a => k_is); (case l => k_is); (case c => k_is); (case k => k_is)
    have d_is_at_odds : Td.Stands (Hd.hd.heap_1 w.params) mg "is_at_odds" Td.s_is_at_odds := by refine' Td.stands_mk KX G ?a ?l ?c ?k; (case a => k_is); (case l => k_is); (case c => k_is); (case k => k_is)
    have d_pieces_of : Td.Stands (Hd.hd.heap_1 w.params) mg "pieces_of" Td.s_pieces_of := by refine' Td.stands_mk KX G ?a ?l ?c ?k; (case a => k_is); (case l => k_is); (case c => k_is); (case k => k_is)
    have d_is_put_or_cut : Td.Stands (Hd.hd.heap_1 w.params) mg "is_put_or_cut" Td.s_is_put_or_cut := by refine' Td.stands_mk KX G ?a ?l ?c ?k; (case a => k_is); (case l => k_is); (case c => k_is); (case k => k_is)
    have d_plain_dress : Td.Stands (Hd.hd.heap_1 w.params) mg "plain_dress" Td.s_plain_dress := by refine' Td.stands_mk KX G ?a ?l ?c ?k; (case a => k_is); (case l => k_is); (case c => k_is); (case k => k_is)
    have d_new_document : Td.Stands (Hd.hd.heap_1 w.params) mg "new_document" Td.s_new_document := by refine' Td.stands_mk KX G ?a ?l ?c ?k; (case a => k_is); (case l => k_is); (case c => k_is); (case k => k_is)
    have d_kind_of : Td.Stands (Hd.hd.heap_1 w.params) mg "kind_of" Td.s_kind_of := by refine' Td.stands_mk KX G ?a ?l ?c ?k; (case a => k_is); (case l => k_is); (case c => k_is); (case k => k_is)
    have d_is_change_shape : Td.Stands (Hd.hd.heap_1 w.params) mg "is_change_shape" Td.s_is_change_shape := by refine' Td.stands_mk KX G ?a ?l ?c ?k; (case a => k_is); (case l => k_is); (case c => k_is); (case k => k_is)
    have d_read_change : Td.Stands (Hd.hd.heap_1 w.params) mg "read_change" Td.s_read_change := by refine' Td.stands_mk KX G ?a ?l ?c ?k; (case a => k_is); (case l => k_is); (case c => k_is); (case k => k_is)
    have d_read_paragraph : Td.Stands (Hd.hd.heap_1 w.params) mg "read_paragraph" Td.s_read_paragraph := by refine' Td.stands_mk KX G ?a ?l ?c ?k; (case a => k_is); (case l => k_is); (case c => k_is); (case k => k_is)
    have d_lines_of : Td.Stands (Hd.hd.heap_1 w.params) mg "lines_of" Td.s_lines_of := by refine' Td.stands_mk KX G ?a ?l ?c ?k; (case a => k_is); (case l => k_is); (case c => k_is); (case k => k_is)
    have d_read_line : Td.Stands (Hd.hd.heap_1 w.params) mg "read_line" Td.s_read_line := by refine' Td.stands_mk KX G ?a ?l ?c ?k; (case a => k_is); (case l => k_is); (case c => k_is); (case k => k_is)
    have d_read_text : Td.Stands (Hd.hd.heap_1 w.params) mg "read_text" Td.s_read_text := by refine' Td.stands_mk KX G ?a ?l ?c ?k; (case a => k_is); (case l => k_is); (case c => k_is); (case k => k_is)
    have d_written_marks : Td.Stands (Hd.hd.heap_1 w.params) mg "written_marks" Td.s_written_marks := by refine' Td.stands_mk KX G ?a ?l ?c ?k; (case a => k_is); (case l => k_is); (case c => k_is); (case k => k_is)
    have d_change_line : Td.Stands (Hd.hd.heap_1 w.params) mg "change_line" Td.s_change_line := by refine' Td.stands_mk KX G ?a ?l ?c ?k; (case a => k_is); (case l => k_is); (case c => k_is); (case k => k_is)
    have d_first_line_apart : Td.Stands (Hd.hd.heap_1 w.params) mg "first_line_apart" Td.s_first_line_apart := by refine' Td.stands_mk KX G ?a ?l ?c ?k; (case a => k_is); (case l => k_is); (case c => k_is); (case k => k_is)
    have d_row_lines : Td.Stands (Hd.hd.heap_1 w.params) mg "row_lines" Td.s_row_lines := by refine' Td.stands_mk KX G ?a ?l ?c ?k; (case a => k_is); (case l => k_is); (case c => k_is); (case k => k_is)
    have d_one_form : Td.Stands (Hd.hd.heap_1 w.params) mg "one_form" Td.s_one_form := by refine' Td.stands_mk KX G ?a ?l ?c ?k; (case a => k_is); (case l => k_is); (case c => k_is); (case k => k_is)
    have d_renumbered_dress : Td.Stands (Hd.hd.heap_1 w.params) mg "renumbered_dress" Td.s_renumbered_dress := by refine' Td.stands_mk KX G ?a ?l ?c ?k; (case a => k_is); (case l => k_is); (case c => k_is); (case k => k_is)
    have d_renumbered_row : Td.Stands (Hd.hd.heap_1 w.params) mg "renumbered_row" Td.s_renumbered_row := by refine' Td.stands_mk KX G ?a ?l ?c ?k; (case a => k_is); (case l => k_is); (case c => k_is); (case k => k_is)
    have d_joined : Td.Stands (Hd.hd.heap_1 w.params) mg "joined" Td.s_joined := by refine' Td.stands_mk KX G ?a ?l ?c ?k; (case a => k_is); (case l => k_is); (case c => k_is); (case k => k_is)
    have d_paragraph_ends : Td.Stands (Hd.hd.heap_1 w.params) mg "paragraph_ends" Td.s_paragraph_ends := by refine' Td.stands_mk KX G ?a ?l ?c ?k; (case a => k_is); (case l => k_is); (case c => k_is); (case k => k_is)
    have d_counted : Td.Stands (Hd.hd.heap_1 w.params) mg "counted" Td.s_counted := by refine' Td.stands_mk KX G ?a ?l ?c ?k; (case a => k_is); (case l => k_is); (case c => k_is); (case k => k_is)
    have d_listed_table : Td.Stands (Hd.hd.heap_1 w.params) mg "listed_table" Td.s_listed_table := by refine' Td.stands_mk KX G ?a ?l ?c ?k; (case a => k_is); (case l => k_is); (case c => k_is); (case k => k_is)
    have d_listed_paragraphs : Td.Stands (Hd.hd.heap_1 w.params) mg "listed_paragraphs" Td.s_listed_paragraphs := by refine' Td.stands_mk KX G ?a ?l ?c ?k; (case a => k_is); (case l => k_is); (case c => k_is); (case k => k_is)
    have d_listed_dress : Td.Stands (Hd.hd.heap_1 w.params) mg "listed_dress" Td.s_listed_dress := by refine' Td.stands_mk KX G ?a ?l ?c ?k; (case a => k_is); (case l => k_is); (case c => k_is); (case k => k_is)
    have d_listed_pieces : Td.Stands (Hd.hd.heap_1 w.params) mg "listed_pieces" Td.s_listed_pieces := by refine' Td.stands_mk KX G ?a ?l ?c ?k; (case a => k_is); (case l => k_is); (case c => k_is); (case k => k_is)
    have d_is_viewed : Td.Stands (Hd.hd.heap_1 w.params) mg "is_viewed" Td.s_is_viewed := by refine' Td.stands_mk KX G ?a ?l ?c ?k; (case a => k_is); (case l => k_is); (case c => k_is); (case k => k_is)
    have d_viewed_row : Td.Stands (Hd.hd.heap_1 w.params) mg "viewed_row" Td.s_viewed_row := by refine' Td.stands_mk KX G ?a ?l ?c ?k; (case a => k_is); (case l => k_is); (case c => k_is); (case k => k_is)
    have d_look_as_shown : Td.Stands (Hd.hd.heap_1 w.params) mg "look_as_shown" Td.s_look_as_shown := by refine' Td.stands_mk KX G ?a ?l ?c ?k; (case a => k_is); (case l => k_is); (case c => k_is); (case k => k_is)
    have d_settled_dress : Td.Stands (Hd.hd.heap_1 w.params) mg "settled_dress" Td.s_settled_dress := by refine' Td.stands_mk KX G ?a ?l ?c ?k; (case a => k_is); (case l => k_is); (case c => k_is); (case k => k_is)
    have d_settled : Td.Stands (Hd.hd.heap_1 w.params) mg "settled" Td.s_settled := by refine' Td.stands_mk KX G ?a ?l ?c ?k; (case a => k_is); (case l => k_is); (case c => k_is); (case k => k_is)
    have d_changes_in : Td.Stands (Hd.hd.heap_1 w.params) mg "changes_in" Td.s_changes_in := by refine' Td.stands_mk KX G ?a ?l ?c ?k; (case a => k_is); (case l => k_is); (case c => k_is); (case k => k_is)
    have d_borne_changes : Td.Stands (Hd.hd.heap_1 w.params) mg "borne_changes" Td.s_borne_changes := by refine' Td.stands_mk KX G ?a ?l ?c ?k; (case a => k_is); (case l => k_is); (case c => k_is); (case k => k_is)
    have d_tidied : Td.Stands (Hd.hd.heap_1 w.params) mg "tidied" Td.s_tidied := by refine' Td.stands_mk KX G ?a ?l ?c ?k; (case a => k_is); (case l => k_is); (case c => k_is); (case k => k_is)
    have d_takes_text : Td.Stands (Hd.hd.heap_1 w.params) mg "takes_text" Td.s_takes_text := by refine' Td.stands_mk KX G ?a ?l ?c ?k; (case a => k_is); (case l => k_is); (case c => k_is); (case k => k_is)
    have d_words_before : Td.Stands (Hd.hd.heap_1 w.params) mg "words_before" Td.s_words_before := by refine' Td.stands_mk KX G ?a ?l ?c ?k; (case a => k_is); (case l => k_is); (case c => k_is); (case k => k_is)
    have d_behind_call : Td.Stands (Hd.hd.heap_1 w.params) mg "behind_call" Td.s_behind_call := by refine' Td.stands_mk KX G ?a ?l ?c ?k; (case a => k_is); (case l => k_is); (case c => k_is); (case k => k_is)
    have d_answer_of : Td.Stands (Hd.hd.heap_1 w.params) mg "answer_of" Td.s_answer_of := by refine' Td.stands_mk KX G ?a ?l ?c ?k; (case a => k_is); (case l => k_is); (case c => k_is); (case k => k_is)
    obtain ⟨CD, t_CD, i_Document⟩ : ∃ C, Td.CT (Hd.hd.heap_1 w.params) C Td.fDoc ∧ Td.StandsC (Hd.hd.heap_1 w.params) mg "Document" "Document.__init__" Td.s_Document_init C := by
      refine' ⟨_, ?T, ?I⟩
      case I => refine' Td.standsC_mk KX G ?aC ?mk ?a ?i ?kc ?l ?c ?k; (case aC => k_is); (case mk => k_is); (case a => k_is); (case i => k_is); (case kc => k_is); (case l => k_is); (case c => k_is); (case k => k_is)
      case T =>
        refine' ⟨Td.cls_mk ?pg ?hd ?po ?sa, ?no⟩; (case pg => k_is); (case hd => k_is); (case po => k_is); (case sa => k_is)
        case no =>
          intro f hf
          simp only [List.mem_cons, List.not_mem_nil, or_false] at hf
          rcases hf with rfl | rfl
          · show PySem.W.findIn (Hd.hd.heap_1 w.params) _ _ = some none; k_is
          · show PySem.W.findIn (Hd.hd.heap_1 w.params) _ _ = some none; k_is
    obtain ⟨CS, t_CS, i_Span⟩ : ∃ C, Td.CT (Hd.hd.heap_1 w.params) C Td.fSpan ∧ Td.StandsC (Hd.hd.heap_1 w.params) mg "Span" "Span.__init__" Td.s_Span_init C := by
      refine' ⟨_, ?T, ?I⟩
      case I => refine' Td.standsC_mk KX G ?aC ?mk ?a ?i ?kc ?l ?c ?k; (case aC => k_is); (case mk => k_is); (case a => k_is); (case i => k_is); (case kc => k_is); (case l => k_is); (case c => k_is); (case k => k_is)
      case T =>
        refine' ⟨Td.cls_mk ?pg ?hd ?po ?sa, ?no⟩; (case pg => k_is); (case hd => k_is); (case po => k_is); (case sa => k_is)
        case no =>
          intro f hf
          simp only [List.mem_cons, List.not_mem_nil, or_false] at hf
          rcases hf with rfl | rfl | rfl
          · show PySem.W.findIn (Hd.hd.heap_1 w.params) _ _ = some none; k_is
          · show PySem.W.findIn (Hd.hd.heap_1 w.params) _ _ = some none; k_is
          · show PySem.W.findIn (Hd.hd.heap_1 w.params) _ _ = some none; k_is
    obtain ⟨CL, t_CL, i_Line⟩ : ∃ C, Td.CT (Hd.hd.heap_1 w.params) C Td.fLine ∧ Td.StandsC (Hd.hd.heap_1 w.params) mg "Line" "Line.__init__" Td.s_Line_init C := by
      refine' ⟨_, ?T, ?I⟩
      case I => refine' Td.standsC_mk KX G ?aC ?mk ?a ?i ?kc ?l ?c ?k; (case aC => k_is); (case mk => k_is); (case a => k_is); (case i => k_is); (case kc => k_is); (case l => k_is); (case c => k_is); (case k => k_is)
      case T =>
        refine' ⟨Td.cls_mk ?pg ?hd ?po ?sa, ?no⟩; (case pg => k_is); (case hd => k_is); (case po => k_is); (case sa => k_is)
        case no =>
          intro f hf
          simp only [List.mem_cons, List.not_mem_nil, or_false] at hf
          rcases hf with rfl | rfl | rfl
          · show PySem.W.findIn (Hd.hd.heap_1 w.params) _ _ = some none; k_is
          · show PySem.W.findIn (Hd.hd.heap_1 w.params) _ _ = some none; k_is
          · show PySem.W.findIn (Hd.hd.heap_1 w.params) _ _ = some none; k_is
    obtain ⟨CI, t_CI, i_Item⟩ : ∃ C, Td.CT (Hd.hd.heap_1 w.params) C Td.fItem ∧ Td.StandsC (Hd.hd.heap_1 w.params) mg "Item" "Item.__init__" Td.s_Item_init C := by
      refine' ⟨_, ?T, ?I⟩
      case I => refine' Td.standsC_mk KX G ?aC ?mk ?a ?i ?kc ?l ?c ?k; (case aC => k_is); (case mk => k_is); (case a => k_is); (case i => k_is); (case kc => k_is); (case l => k_is); (case c => k_is); (case k => k_is)
      case T =>
        refine' ⟨Td.cls_mk ?pg ?hd ?po ?sa, ?no⟩; (case pg => k_is); (case hd => k_is); (case po => k_is); (case sa => k_is)
        case no =>
          intro f hf
          simp only [List.mem_cons, List.not_mem_nil, or_false] at hf
          rcases hf with rfl | rfl | rfl | rfl
          · show PySem.W.findIn (Hd.hd.heap_1 w.params) _ _ = some none; k_is
          · show PySem.W.findIn (Hd.hd.heap_1 w.params) _ _ = some none; k_is
          · show PySem.W.findIn (Hd.hd.heap_1 w.params) _ _ = some none; k_is
          · show PySem.W.findIn (Hd.hd.heap_1 w.params) _ _ = some none; k_is
    obtain ⟨CR, t_CR, i_Reading, e_fail⟩ : ∃ C, Td.CT (Hd.hd.heap_1 w.params) C Td.fRd ∧ Td.StandsC (Hd.hd.heap_1 w.params) mg "Reading" "Reading.__init__" Td.s_Reading_init C ∧ Td.StandsM (Hd.hd.heap_1 w.params) C "fail" "Reading.fail" Td.s_Reading_fail := by
      refine' ⟨_, ?T, ?I, ?m_fail⟩
      case I => refine' Td.standsC_mk KX G ?aC ?mk ?a ?i ?kc ?l ?c ?k; (case aC => k_is); (case mk => k_is); (case a => k_is); (case i => k_is); (case kc => k_is); (case l => k_is); (case c => k_is); (case k => k_is)
      case T =>
        refine' ⟨Td.cls_mk ?pg ?hd ?po ?sa, ?no⟩; (case pg => k_is); (case hd => k_is); (case po => k_is); (case sa => k_is)
        case no =>
          intro f hf
          simp only [List.mem_cons, List.not_mem_nil, or_false] at hf
          rcases hf with rfl | rfl | rfl | rfl
          · show PySem.W.findIn (Hd.hd.heap_1 w.params) _ _ = some none; k_is
          · show PySem.W.findIn (Hd.hd.heap_1 w.params) _ _ = some none; k_is
          · show PySem.W.findIn (Hd.hd.heap_1 w.params) _ _ = some none; k_is
          · show PySem.W.findIn (Hd.hd.heap_1 w.params) _ _ = some none; k_is
      case m_fail => refine' Td.standsM_mk (Td.cls_mk ?pg ?hd ?po ?sa) ?a ?i ?l ?c ?k; (case pg => k_is); (case hd => k_is); (case po => k_is); (case sa => k_is); (case a => k_is); (case i => k_is); (case l => k_is); (case c => k_is); (case k => k_is)
    obtain ⟨CK, t_CK, i_Desk, e_read, e_form, e_same, e_join, e_strict, e_part, e_tidy, e_settle, e_plain, e_pieces, e_changes, e_paragraphs⟩ : ∃ C, Td.CT (Hd.hd.heap_1 w.params) C Td.fDesk ∧ Td.StandsC (Hd.hd.heap_1 w.params) mg "Desk" "Desk.__init__" Td.s_Desk_init C ∧ Td.StandsM (Hd.hd.heap_1 w.params) C "read" "Desk.read" Td.s_Desk_read ∧ Td.StandsM (Hd.hd.heap_1 w.params) C "form" "Desk.form" Td.s_Desk_form ∧ Td.StandsM (Hd.hd.heap_1 w.params) C "same" "Desk.same" Td.s_Desk_same ∧ Td.StandsM (Hd.hd.heap_1 w.params) C "join" "Desk.join" Td.s_Desk_join ∧ Td.StandsM (Hd.hd.heap_1 w.params) C "strict" "Desk.strict" Td.s_Desk_strict ∧ Td.StandsM (Hd.hd.heap_1 w.params) C "part" "Desk.part" Td.s_Desk_part ∧ Td.StandsM (Hd.hd.heap_1 w.params) C "tidy" "Desk.tidy" Td.s_Desk_tidy ∧ Td.StandsM (Hd.hd.heap_1 w.params) C "settle" "Desk.settle" Td.s_Desk_settle ∧ Td.StandsM (Hd.hd.heap_1 w.params) C "plain" "Desk.plain" Td.s_Desk_plain ∧ Td.StandsM (Hd.hd.heap_1 w.params) C "pieces" "Desk.pieces" Td.s_Desk_pieces ∧ Td.StandsM (Hd.hd.heap_1 w.params) C "changes" "Desk.changes" Td.s_Desk_changes ∧ Td.StandsM (Hd.hd.heap_1 w.params) C "paragraphs" "Desk.paragraphs" Td.s_Desk_paragraphs := by
      refine' ⟨_, ?T, ?I, ?m_read, ?m_form, ?m_same, ?m_join, ?m_strict, ?m_part, ?m_tidy, ?m_settle, ?m_plain, ?m_pieces, ?m_changes, ?m_paragraphs⟩
      case I => refine' Td.standsC_mk KX G ?aC ?mk ?a ?i ?kc ?l ?c ?k; (case aC => k_is); (case mk => k_is); (case a => k_is); (case i => k_is); (case kc => k_is); (case l => k_is); (case c => k_is); (case k => k_is)
      case T =>
        refine' ⟨Td.cls_mk ?pg ?hd ?po ?sa, ?no⟩; (case pg => k_is); (case hd => k_is); (case po => k_is); (case sa => k_is)
        case no =>
          intro f hf
          simp only [List.mem_cons, List.not_mem_nil, or_false] at hf
          subst hf
          show PySem.W.findIn (Hd.hd.heap_1 w.params) _ _ = some none; k_is
      case m_read => refine' Td.standsM_mk (Td.cls_mk ?pg ?hd ?po ?sa) ?a ?i ?l ?c ?k; (case pg => k_is); (case hd => k_is); (case po => k_is); (case sa => k_is); (case a => k_is); (case i => k_is); (case l => k_is); (case c => k_is); (case k => k_is)
      case m_form => refine' Td.standsM_mk (Td.cls_mk ?pg ?hd ?po ?sa) ?a ?i ?l ?c ?k; (case pg => k_is); (case hd => k_is); (case po => k_is); (case sa => k_is); (case a => k_is); (case i => k_is); (case l => k_is); (case c => k_is); (case k => k_is)
      case m_same => refine' Td.standsM_mk (Td.cls_mk ?pg ?hd ?po ?sa) ?a ?i ?l ?c ?k; (case pg => k_is); (case hd => k_is); (case po => k_is); (case sa => k_is); (case a => k_is); (case i => k_is); (case l => k_is); (case c => k_is); (case k => k_is)
      case m_join => refine' Td.standsM_mk (Td.cls_mk ?pg ?hd ?po ?sa) ?a ?i ?l ?c ?k; (case pg => k_is); (case hd => k_is); (case po => k_is); (case sa => k_is); (case a => k_is); (case i => k_is); (case l => k_is); (case c => k_is); (case k => k_is)
      case m_strict => refine' Td.standsM_mk (Td.cls_mk ?pg ?hd ?po ?sa) ?a ?i ?l ?c ?k; (case pg => k_is); (case hd => k_is); (case po => k_is); (case sa => k_is); (case a => k_is); (case i => k_is); (case l => k_is); (case c => k_is); (case k => k_is)
      case m_part => refine' Td.standsM_mk (Td.cls_mk ?pg ?hd ?po ?sa) ?a ?i ?l ?c ?k; (case pg => k_is); (case hd => k_is); (case po => k_is); (case sa => k_is); (case a => k_is); (case i => k_is); (case l => k_is); (case c => k_is); (case k => k_is)
      case m_tidy => refine' Td.standsM_mk (Td.cls_mk ?pg ?hd ?po ?sa) ?a ?i ?l ?c ?k; (case pg => k_is); (case hd => k_is); (case po => k_is); (case sa => k_is); (case a => k_is); (case i => k_is); (case l => k_is); (case c => k_is); (case k => k_is)
      case m_settle => refine' Td.standsM_mk (Td.cls_mk ?pg ?hd ?po ?sa) ?a ?i ?l ?c ?k; (case pg => k_is); (case hd => k_is); (case po => k_is); (case sa => k_is); (case a => k_is); (case i => k_is); (case l => k_is); (case c => k_is); (case k => k_is)
      case m_plain => refine' Td.standsM_mk (Td.cls_mk ?pg ?hd ?po ?sa) ?a ?i ?l ?c ?k; (case pg => k_is); (case hd => k_is); (case po => k_is); (case sa => k_is); (case a => k_is); (case i => k_is); (case l => k_is); (case c => k_is); (case k => k_is)
      case m_pieces => refine' Td.standsM_mk (Td.cls_mk ?pg ?hd ?po ?sa) ?a ?i ?l ?c ?k; (case pg => k_is); (case hd => k_is); (case po => k_is); (case sa => k_is); (case a => k_is); (case i => k_is); (case l => k_is); (case c => k_is); (case k => k_is)
      case m_changes => refine' Td.standsM_mk (Td.cls_mk ?pg ?hd ?po ?sa) ?a ?i ?l ?c ?k; (case pg => k_is); (case hd => k_is); (case po => k_is); (case sa => k_is); (case a => k_is); (case i => k_is); (case l => k_is); (case c => k_is); (case k => k_is)
      case m_paragraphs => refine' Td.standsM_mk (Td.cls_mk ?pg ?hd ?po ?sa) ?a ?i ?l ?c ?k; (case pg => k_is); (case hd => k_is); (case po => k_is); (case sa => k_is); (case a => k_is); (case i => k_is); (case l => k_is); (case c => k_is); (case k => k_is)
    obtain ⟨f, fd, F, hf⟩ : Td.Stands (Hd.hd.heap_1 w.params) mg "answers" Td.s_answers := by refine' Td.stands_mk KX G ?a ?l ?c ?k; (case a => k_is); (case l => k_is); (case c => k_is); (case k => k_is)
    have hfa : f = fa := by
      have e := hmg.symm.trans hf
      exact (PySem.Value.ref.inj (Option.some.inj e)).symm
    subst hfa
    have T : Td.Tops (Hd.hd.heap_1 w.params) mg CD CI CS CL CR CK := ⟨GG, WW, t_CD, t_CI, t_CS, t_CL, t_CR, t_CK, d_numbers_of, d_is_numeral, d_value_of_digits, d_value_of, d_cut_at_blanks, d_sign_span, d_closed_span, d_bracketed_span, d_span_at, d_spans_of, d_tells_property, d_pending_item, d_item_of, d_items_of, d_names_change, d_goes_with, d_is_out_of_range, d_numbers_with, d_dress_of, d_is_at_odds, d_pieces_of, d_is_put_or_cut, d_plain_dress, d_new_document, d_kind_of, d_is_change_shape, d_read_change, d_read_paragraph, d_lines_of, d_read_line, d_read_text, d_written_marks, d_change_line, d_first_line_apart, d_row_lines, d_one_form, d_renumbered_dress, d_renumbered_row, d_joined, d_paragraph_ends, d_counted, d_listed_table, d_listed_paragraphs, d_listed_dress, d_listed_pieces, d_is_viewed, d_viewed_row, d_look_as_shown, d_settled_dress, d_settled, d_changes_in, d_borne_changes, d_tidied, d_takes_text, d_words_before, d_behind_call, d_answer_of, i_Document, i_Span, i_Line, i_Item, i_Reading, i_Desk, e_fail, e_read, e_form, e_same, e_join, e_strict, e_part, e_tidy, e_settle, e_plain, e_pieces, e_changes, e_paragraphs⟩
    exact ⟨fd, Td.binds_answers F, fun base _ _ => Td.all_ok T F⟩
  case S =>
    intro K H xs a hO hwi hask hx
    cases hx with
    | cons h1 h2 =>
      cases h2
      cases h1 with
      | lst hs ha =>
        have e := L2.ints_dw a.1 _ ha
        subst e
        have q : ((Codec.inLen 0 17000 a.1 && a.1.all (Codec.inInt (-1000000000000000000) 1000000000000000000)) && true) = true := hwi
        rw [Bool.and_eq_true, Bool.and_eq_true] at q
        exact ⟨_, a.1, rfl, hs, (Codec.inNat_iff.mp q.1.1).2, hask, fun H' p hp => .lst (L2.SqL.of hp) (L2.dw_ints _)⟩

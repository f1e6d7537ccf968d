import PyProof.Rows.All
import Wide.All
import OpenK.AllK
import Wide.FinOn
import HandS.ForMost
import HandS.IsInst
import HandS.Conv
import HandS.Style
import HandS.More
import HandS.WideBits
import HandS.Defaults
import HandS.MakeKw
import HandS.MakeKwOnly
import HandS.SlotsOwn
import HandS.OwnEq
import KE.KEqSeq
import HandS.ForExc
import HandS.Star
import HandS.Walk
import HandS.SortInts
import HandS.TryOnly
import HandS.Ends
import HandS.Words
import PyProof.ReprRoads
import HandS.Deep
import KE.KStateDown
import Lean
import HandS.WordsExc
import HandS.Head0
import HandS.Head1
import HandS.Head2
import HandS.HeadEnd
import HandS.HeadHook1
import HandS.HeadHook2
import HandS.HeadHook3
import HandS.HeadHook4
import PySem.Challenge.RW_seamlayers_k59_whole_begins_by_crossed_p
set_option Elab.async false
set_option linter.all false
set_option maxRecDepth 100000
set_option maxHeartbeats 4000000
/-! Kinds of orders, their items and steps, by the verifier: plain mathematics. -/
namespace Sv
open PySem L2
inductive Nm where | pl | mi | ri
  deriving DecidableEq
def Nm.s : Nm → Str | .pl => "plain" | .mi => "mirror" | .ri => "ring"
theorem s_mi (k : Nm) : decide (V.str k.s = V.str "mirror") = decide (k = .mi) := by cases k <;> decide +kernel
theorem s_pl (k : Nm) : decide (V.str k.s = V.str "plain") = decide (k = .pl) := by cases k <;> decide +kernel
theorem s_ri (k : Nm) : decide (V.str k.s = V.str "ring") = decide (k = .ri) := by cases k <;> decide +kernel
theorem s_inj {k j : Nm} : (k.s = j.s) ↔ k = j := by cases k <;> cases j <;> decide +kernel
/-- the kinds that there are -/
def okK : Nm → Nat → Bool
  | .pl, n => decide (1 ≤ n ∧ n ≤ 7)
  | .mi, n => decide (1 ≤ n ∧ n ≤ 5)
  | .ri, n => decide (2 ≤ n ∧ n ≤ 5)
theorem okK_le {k : Nm} {n : Nat} (h : okK k n = true) : 1 ≤ n ∧ n ≤ 7 := by
  cases k <;> (have := of_decide_eq_true h; omega)
def off (k : Nm) : Int := if k = .mi then 1 else 0
def many (k : Nm) (n : Nat) : Int := (n : Int) - (if k = .pl then 1 else 0)
def startL (k : Nm) (n : Nat) : List Int := (List.range n).map fun (i : Nat) => off k + (i : Int)
def sg (p : Int) : Int := if 0 < p then 1 else -1
def item (k : Nm) (n : Nat) (w : List Int) (p : Int) : Int :=
  if k = .mi then w.getD (p.natAbs - 1) 0 * sg p else w.getD (p % (n : Int)).toNat 0 + p - p % (n : Int)
def turned (k : Nm) (n : Nat) (s p : Int) : Int :=
  if k = .mi then
    if s = 0 then (if p.natAbs = 1 then -p else p)
    else if (p.natAbs : Int) = s ∨ (p.natAbs : Int) = s + 1 then (2 * s + 1 - (p.natAbs : Int)) * sg p else p
  else if (p - s) % (n : Int) = 0 then p + 1 else if (p - s) % (n : Int) = 1 then p - 1 else p
def stepped (k : Nm) (n : Nat) (w : List Int) (s : Int) : List Int := (startL k n).map fun p => item k n w (turned k n s p)
def low (k : Nm) (s : Int) : Int := if k = .mi then (if 0 < s then s else -1) else s
def crossed (k : Nm) (n : Nat) (w : List Int) (s : Int) : Bool := decide (item k n w (turned k n s (low k s)) < item k n w (low k s))
def gained (k : Nm) (n : Nat) (w : List Int) (s : Int) : List Int := if crossed k n w s = true then w else stepped k n w s
def okP (k : Nm) (n : Nat) (p : Int) : Prop := k = .mi → p ≠ 0 ∧ p.natAbs ≤ n
def okS (k : Nm) (n : Nat) (s : Int) : Prop := 0 ≤ s ∧ s < many k n
theorem sg_pos {p : Int} (h : 0 < p) : sg p = 1 := if_pos h
theorem sg_neg {p : Int} (h : p < 0) : sg p = -1 := if_neg (by omega)
theorem startL_len (k : Nm) (n : Nat) : (startL k n).length = n := by unfold startL; rw [List.length_map, List.length_range]
theorem startL_get (k : Nm) (n i : Nat) (h : i < n) : (startL k n)[i]? = some (off k + (i : Int)) := by
  unfold startL
  rw [List.getElem?_map, List.getElem?_range h]
  rfl
theorem stepped_len (k : Nm) (n : Nat) (w : List Int) (s : Int) : (stepped k n w s).length = n := by unfold stepped; rw [List.length_map, startL_len]
theorem stepped_getD (k : Nm) (n : Nat) (w : List Int) (s : Int) (i : Nat) (h : i < n) : (stepped k n w s).getD i 0 = item k n w (turned k n s (off k + (i : Int))) := by
  unfold stepped
  rw [List.getD_eq_getElem?_getD, List.getElem?_map, startL_get k n i h]
  rfl
theorem startL_getD (k : Nm) (n i : Nat) (h : i < n) : (startL k n).getD i 0 = off k + (i : Int) := by
  rw [List.getD_eq_getElem?_getD, startL_get k n i h]
  rfl
theorem mem_startL {k : Nm} {n : Nat} {p : Int} (h : p ∈ startL k n) : ∃ i : Nat, i < n ∧ p = off k + (i : Int) := by
  unfold startL at h
  obtain ⟨i, hi, e⟩ := List.mem_map.mp h
  exact ⟨i, List.mem_range.mp hi, e.symm⟩
theorem startL_okP {k : Nm} {n : Nat} {p : Int} (h : p ∈ startL k n) : okP k n p := by
  obtain ⟨i, hi, rfl⟩ := mem_startL h
  intro hk
  subst hk
  show (1 : Int) + i ≠ 0 ∧ ((1 : Int) + i).natAbs ≤ n
  omega
/-- steps there are only where there are two items, for plain and ring -/
theorem okS_two {k : Nm} {n : Nat} {s : Int} (hK : okK k n = true) (hk : k ≠ .mi) (h : okS k n s) : 2 ≤ n ∧ n ≤ 7 := by
  have h7 := okK_le hK
  obtain ⟨h1, h2⟩ := h
  unfold many at h2
  cases k with
  | mi => exact absurd rfl hk
  | pl => rw [if_pos rfl] at h2; omega
  | ri => have := of_decide_eq_true hK; omega
theorem okS_mi {n : Nat} {s : Int} (h : okS .mi n s) : 0 ≤ s ∧ s < (n : Int) := by
  obtain ⟨h1, h2⟩ := h
  unfold many at h2
  rw [if_neg (by decide)] at h2
  omega
theorem upto7 {n : Nat} (h : 2 ≤ n ∧ n ≤ 7) : n = 2 ∨ n = 3 ∨ n = 4 ∨ n = 5 ∨ n = 6 ∨ n = 7 := by omega
theorem item_nm {k : Nm} (hk : k ≠ .mi) (n : Nat) (w : List Int) (p : Int) : item k n w p = w.getD (p % (n : Int)).toNat 0 + p - p % (n : Int) := if_neg hk
theorem item_mi (n : Nat) (w : List Int) (p : Int) : item .mi n w p = w.getD (p.natAbs - 1) 0 * sg p := if_pos rfl
theorem turned_nm {k : Nm} (hk : k ≠ .mi) (n : Nat) (s p : Int) : turned k n s p = if (p - s) % (n : Int) = 0 then p + 1 else if (p - s) % (n : Int) = 1 then p - 1 else p := if_neg hk
theorem turned_mi (n : Nat) (s p : Int) : turned .mi n s p = if s = 0 then (if p.natAbs = 1 then -p else p) else if (p.natAbs : Int) = s ∨ (p.natAbs : Int) = s + 1 then (2 * s + 1 - (p.natAbs : Int)) * sg p else p := if_pos rfl
/-- what turned does on the mirror side, by cases without products -/
theorem turned_mi' (n : Nat) (s p : Int) (h0 : p ≠ 0) (hs0 : 0 ≤ s) : turned .mi n s p = if s = 0 then (if p = 1 ∨ p = -1 then -p else p) else if p = s then s + 1 else if p = s + 1 then s else if p = -s then -(s + 1) else if p = -(s + 1) then -s else p := by
  rw [turned_mi]
  unfold sg
  by_cases hs : s = 0
  · subst hs
    simp only [if_true]
    by_cases h1 : p.natAbs = 1
    · rw [if_pos h1, if_pos (by omega)]
    · rw [if_neg h1, if_neg (by omega)]
  · rw [if_neg hs, if_neg hs]
    by_cases hp : 0 < p
    · rw [if_pos hp, Int.mul_one]
      repeat' split
      all_goals omega
    · rw [if_neg hp, Int.mul_neg, Int.mul_one]
      repeat' split
      all_goals omega
theorem turned_ok {k : Nm} {n : Nat} {s p : Int} (hs : okS k n s) (hp : okP k n p) : okP k n (turned k n s p) := by
  intro hk
  subst hk
  obtain ⟨h0, h1⟩ := hp rfl
  have h2 := okS_mi hs
  rw [turned_mi' n s p h0 h2.1]
  repeat' split
  all_goals omega
theorem turned_inv {k : Nm} {n : Nat} {s p : Int} (hK : okK k n = true) (hs : okS k n s) (hp : okP k n p) : turned k n s (turned k n s p) = p := by
  by_cases hk : k = .mi
  · subst hk
    obtain ⟨h0, h1⟩ := hp rfl
    have h2 := okS_mi hs
    have h3 := turned_ok hs hp rfl
    rw [turned_mi' n s _ h3.1 h2.1]
    rw [turned_mi' n s p h0 h2.1]
    repeat' split
    all_goals omega
  · have h2 := okS_two hK hk hs
    rw [turned_nm hk, turned_nm hk]
    rcases upto7 h2 with rfl | rfl | rfl | rfl | rfl | rfl <;> (repeat' split) <;> omega
theorem turned_inj {k : Nm} {n : Nat} {s p q : Int} (hK : okK k n = true) (hs : okS k n s) (hp : okP k n p) (hq : okP k n q) (e : turned k n s p = turned k n s q) : p = q := by
  rw [← turned_inv hK hs hp, e, turned_inv hK hs hq]
theorem item_neg (n : Nat) (w : List Int) (p : Int) (h : p ≠ 0) : item .mi n w (-p) = - item .mi n w p := by
  rw [item_mi, item_mi, Int.natAbs_neg]
  by_cases hp : 0 < p
  · rw [sg_pos hp, sg_neg (by omega)]
    omega
  · rw [sg_neg (by omega : p < 0), sg_pos (by omega)]
    omega
theorem turned_neg (n : Nat) (s p : Int) (hs : 0 ≤ s) (h : p ≠ 0) : turned .mi n s (-p) = - turned .mi n s p := by
  rw [turned_mi' n s p h hs, turned_mi' n s (-p) (by omega) hs]
  repeat' split
  all_goals omega
theorem item_step {k : Nm} {n : Nat} {w : List Int} {s p : Int} (hK : okK k n = true) (hs : okS k n s) (hp : okP k n p) : item k n (stepped k n w s) p = item k n w (turned k n s p) := by
  by_cases hk : k = .mi
  · subst hk
    obtain ⟨h0, h1⟩ := hp rfl
    have h2 := okS_mi hs
    rw [item_mi, stepped_getD .mi n w s _ (by omega)]
    have e : off .mi + ((p.natAbs - 1 : Nat) : Int) = (p.natAbs : Int) := by
      show (1 : Int) + _ = _
      omega
    rw [e]
    by_cases hp0 : 0 < p
    · rw [sg_pos hp0, Int.mul_one]
      have e2 : (p.natAbs : Int) = p := by omega
      rw [e2]
    · rw [sg_neg (by omega : p < 0)]
      have e2 : (p.natAbs : Int) = -p := by omega
      have h3 := turned_ok hs hp rfl
      rw [e2, turned_neg n s p h2.1 h0, item_neg n w _ h3.1]
      omega
  · have h2 := okS_two hK hk hs
    have hn : (0 : Int) < (n : Int) := by omega
    have hm1 : 0 ≤ p % (n : Int) := Int.emod_nonneg p (by omega)
    have hm2 : p % (n : Int) < (n : Int) := Int.emod_lt_of_pos p hn
    rw [item_nm hk, stepped_getD k n w s _ (by omega)]
    have e0 : off k = 0 := if_neg hk
    have e1 : off k + ((p % (n : Int)).toNat : Int) = p % (n : Int) := by rw [e0]; omega
    rw [e1, item_nm hk, item_nm hk, turned_nm hk, turned_nm hk]
    have key : ∀ (a b : Int), a % (n : Int) = b % (n : Int) → a + p - p % (n : Int) = b → w.getD (a % (n : Int)).toNat 0 + a - a % (n : Int) + p - p % (n : Int) = w.getD (b % (n : Int)).toNat 0 + b - b % (n : Int) := by
      intro a b h3 h4
      rw [h3]
      omega
    apply key
    · rcases upto7 h2 with rfl | rfl | rfl | rfl | rfl | rfl <;> (repeat' split) <;> omega
    · rcases upto7 h2 with rfl | rfl | rfl | rfl | rfl | rfl <;> (repeat' split) <;> omega
/-- an order: unlike places have unlike items -/
structure Good (k : Nm) (n : Nat) (w : List Int) : Prop where
  len : w.length = n
  inj : ∀ p q, okP k n p → okP k n q → item k n w p = item k n w q → p = q
theorem item_start {k : Nm} {n : Nat} {p : Int} (hn : 1 ≤ n) (hp : okP k n p) : item k n (startL k n) p = p := by
  by_cases hk : k = .mi
  · subst hk
    obtain ⟨h0, h1⟩ := hp rfl
    rw [item_mi, startL_getD .mi n _ (by omega)]
    have e : off .mi + ((p.natAbs - 1 : Nat) : Int) = (p.natAbs : Int) := by
      show (1 : Int) + _ = _
      omega
    rw [e]
    by_cases hp0 : 0 < p
    · rw [sg_pos hp0]; omega
    · rw [sg_neg (by omega : p < 0)]; omega
  · have hn' : (0 : Int) < (n : Int) := by omega
    have hm1 : 0 ≤ p % (n : Int) := Int.emod_nonneg p (by omega)
    have hm2 : p % (n : Int) < (n : Int) := Int.emod_lt_of_pos p hn'
    rw [item_nm hk, startL_getD k n _ (by omega)]
    have e0 : off k = 0 := if_neg hk
    rw [e0]
    omega
theorem good_start {k : Nm} {n : Nat} (hn : 1 ≤ n) : Good k n (startL k n) := ⟨startL_len k n, fun p q hp hq e => by rw [item_start hn hp, item_start hn hq] at e; exact e⟩
theorem good_stepped {k : Nm} {n : Nat} {w : List Int} {s : Int} (hK : okK k n = true) (hs : okS k n s) (g : Good k n w) : Good k n (stepped k n w s) :=
  ⟨stepped_len k n w s, fun p q hp hq e => by
    rw [item_step hK hs hp, item_step hK hs hq] at e
    exact turned_inj hK hs hp hq (g.inj _ _ (turned_ok hs hp) (turned_ok hs hq) e)⟩
theorem good_gained {k : Nm} {n : Nat} {w : List Int} {s : Int} (hK : okK k n = true) (hs : okS k n s) (g : Good k n w) : Good k n (gained k n w s) := by
  unfold gained
  split
  · exact g
  · exact good_stepped hK hs g
theorem low_okP {k : Nm} {n : Nat} {s : Int} (hs : okS k n s) : okP k n (low k s) := by
  intro hk
  subst hk
  have h2 := okS_mi hs
  show (if 0 < s then s else -1) ≠ 0 ∧ (if 0 < s then s else -1).natAbs ≤ n
  split <;> omega
/-! ### rows of steps on orders -/
def run (k : Nm) (n : Nat) (w : List Int) (l : List Int) : List Int := l.foldl (stepped k n) w
def turns (k : Nm) (n : Nat) : List Int → Int → Int
  | [], p => p
  | s :: l, p => turned k n s (turns k n l p)
theorem turns_ok {k : Nm} {n : Nat} : ∀ {l : List Int} {p : Int}, (∀ s ∈ l, okS k n s) → okP k n p → okP k n (turns k n l p)
  | [], _, _, hp => hp
  | s :: l, p, hl, hp => turned_ok (hl s List.mem_cons_self) (turns_ok (fun t ht => hl t (List.mem_cons_of_mem _ ht)) hp)
theorem item_run {k : Nm} {n : Nat} (hK : okK k n = true) : ∀ {l : List Int} {w : List Int} {p : Int}, (∀ s ∈ l, okS k n s) → okP k n p → item k n (run k n w l) p = item k n w (turns k n l p)
  | [], _, _, _, _ => rfl
  | s :: l, w, p, hl, hp => by
    have hl' : ∀ t ∈ l, okS k n t := fun t ht => hl t (List.mem_cons_of_mem _ ht)
    show item k n (run k n (stepped k n w s) l) p = item k n w (turned k n s (turns k n l p))
    rw [item_run hK hl' hp, item_step hK (hl s List.mem_cons_self) (turns_ok hl' hp)]
theorem run_len {k : Nm} {n : Nat} : ∀ {l : List Int} {w : List Int}, w.length = n → (run k n w l).length = n
  | [], _, h => h
  | s :: l, w, h => run_len (l := l) (w := stepped k n w s) (stepped_len k n w s)
theorem map_item {k : Nm} {n : Nat} {u : List Int} (h : u.length = n) : (startL k n).map (item k n u) = u := by
  apply List.ext_getElem?
  intro i
  rw [List.getElem?_map]
  by_cases hi : i < n
  · rw [startL_get k n i hi, List.getElem?_eq_getElem (by omega)]
    show some (item k n u (off k + (i : Int))) = some u[i]
    congr 1
    by_cases hk : k = .mi
    · subst hk
      rw [item_mi]
      show u.getD ((1 + (i : Int)).natAbs - 1) 0 * sg (1 + (i : Int)) = u[i]
      have e : (1 + (i : Int)).natAbs - 1 = i := by omega
      rw [e, sg_pos (by omega), Int.mul_one, List.getD_eq_getElem?_getD, List.getElem?_eq_getElem (by omega)]
      rfl
    · rw [item_nm hk]
      have e0 : off k = 0 := if_neg hk
      have e1 : (0 + (i : Int)) % (n : Int) = (i : Int) := by
        rw [Int.zero_add]
        exact Int.emod_eq_of_lt (by omega) (by omega)
      rw [e0, e1, Int.toNat_natCast, List.getD_eq_getElem?_getD, List.getElem?_eq_getElem (by omega)]
      show u[i] + (0 + (i : Int)) - (i : Int) = u[i]
      omega
  · rw [List.getElem?_eq_none (by rw [startL_len]; omega), List.getElem?_eq_none (by omega)]
    rfl
theorem run_eq_iff {k : Nm} {n : Nat} {w : List Int} {l m : List Int} (hK : okK k n = true) (g : Good k n w) (hl : ∀ s ∈ l, okS k n s) (hm : ∀ s ∈ m, okS k n s) :
    run k n w l = run k n w m ↔ ∀ p ∈ startL k n, turns k n l p = turns k n m p := by
  constructor
  · intro e p hp
    have ho := startL_okP hp
    refine g.inj _ _ (turns_ok hl ho) (turns_ok hm ho) ?_
    rw [← item_run hK hl ho, ← item_run hK hm ho, e]
  · intro h
    rw [← map_item (run_len (l := l) g.len), ← map_item (run_len (l := m) g.len)]
    apply List.map_congr_left
    intro p hp
    have ho := startL_okP hp
    rw [item_run hK hl ho, item_run hK hm ho, h p hp]
theorem run_snoc (k : Nm) (n : Nat) (w l : List Int) (s : Int) : run k n w (l ++ [s]) = stepped k n (run k n w l) s := by
  unfold run
  rw [List.foldl_append]
  rfl
/-- the two ways by turns: after how many steps they agree -/
def lw (k : Nm) (n : Nat) (a b : Int) : Nat → Nat → List Int → List Int → Option Nat
  | 0, _, _, _ => none
  | f + 1, t, xs, ys =>
    if stepped k n xs (if t % 2 = 1 then a else b) = stepped k n ys (if t % 2 = 1 then b else a) then some t
    else lw k n a b f (t + 1) (stepped k n xs (if t % 2 = 1 then a else b)) (stepped k n ys (if t % 2 = 1 then b else a))
theorem lw_any {k : Nm} {n : Nat} {w : List Int} {a b : Int} (hK : okK k n = true) (g : Good k n w) (ha : okS k n a) (hb : okS k n b) : ∀ (f t : Nat) (l m : List Int), (∀ s ∈ l, okS k n s) → (∀ s ∈ m, okS k n s) →
    lw k n a b f t (run k n w l) (run k n w m) = lw k n a b f t (run k n (startL k n) l) (run k n (startL k n) m)
  | 0, _, _, _, _, _ => rfl
  | f + 1, t, l, m, hl, hm => by
    have g0 : Good k n (startL k n) := good_start (okK_le hK).1
    have h1 : ∀ s ∈ l ++ [if t % 2 = 1 then a else b], okS k n s := by
      intro s hs
      rcases List.mem_append.mp hs with h | h
      · exact hl s h
      · rw [List.mem_singleton.mp h]; split <;> assumption
    have h2 : ∀ s ∈ m ++ [if t % 2 = 1 then b else a], okS k n s := by
      intro s hs
      rcases List.mem_append.mp hs with h | h
      · exact hm s h
      · rw [List.mem_singleton.mp h]; split <;> assumption
    unfold lw
    rw [← run_snoc, ← run_snoc, ← run_snoc, ← run_snoc]
    have ih := lw_any hK g ha hb f (t + 1) _ _ h1 h2
    rw [ih]
    have e : (run k n w (l ++ [if t % 2 = 1 then a else b]) = run k n w (m ++ [if t % 2 = 1 then b else a])) ↔ (run k n (startL k n) (l ++ [if t % 2 = 1 then a else b]) = run k n (startL k n) (m ++ [if t % 2 = 1 then b else a])) :=
      (run_eq_iff hK g h1 h2).trans (run_eq_iff hK g0 h1 h2).symm
    by_cases q : run k n w (l ++ [if t % 2 = 1 then a else b]) = run k n w (m ++ [if t % 2 = 1 then b else a])
    · rw [if_pos q, if_pos (e.mp q)]
    · rw [if_neg q, if_neg (fun z => q (e.mpr z))]
/-- what wait tells -/
def waitN (k : Nm) (n : Nat) (a b : Int) : Option Nat :=
  if k = .mi ∧ a + b = 1 then some 4
  else if k = .ri then (if n = 2 then none else some (if (if (n : Int) - (if a - b < 0 then -(a - b) else a - b) < (if a - b < 0 then -(a - b) else a - b) then (n : Int) - (if a - b < 0 then -(a - b) else a - b) else (if a - b < 0 then -(a - b) else a - b)) = 1 then 3 else 2))
  else some (if (if a - b < 0 then -(a - b) else a - b) = 1 then 3 else 2)
def allK : List (Nm × Nat) := [(.pl, 1), (.pl, 2), (.pl, 3), (.pl, 4), (.pl, 5), (.pl, 6), (.pl, 7), (.mi, 1), (.mi, 2), (.mi, 3), (.mi, 4), (.mi, 5), (.ri, 2), (.ri, 3), (.ri, 4), (.ri, 5)]
theorem okK_mem {k : Nm} {n : Nat} (h : okK k n = true) : (k, n) ∈ allK := by
  cases k with
  | pl =>
    have := of_decide_eq_true h
    have : n = 1 ∨ n = 2 ∨ n = 3 ∨ n = 4 ∨ n = 5 ∨ n = 6 ∨ n = 7 := by omega
    rcases this with rfl | rfl | rfl | rfl | rfl | rfl | rfl <;> decide
  | mi =>
    have := of_decide_eq_true h
    have : n = 1 ∨ n = 2 ∨ n = 3 ∨ n = 4 ∨ n = 5 := by omega
    rcases this with rfl | rfl | rfl | rfl | rfl <;> decide
  | ri =>
    have := of_decide_eq_true h
    have : n = 2 ∨ n = 3 ∨ n = 4 ∨ n = 5 := by omega
    rcases this with rfl | rfl | rfl | rfl <;> decide
def chk1 (k : Nm) (n : Nat) : Bool := (List.range n).all fun (a : Nat) => (List.range n).all fun (b : Nat) => (a == b) || (decide (many k n ≤ (a : Int)) || decide (many k n ≤ (b : Int))) || decide (lw k n (a : Int) (b : Int) 12 1 (startL k n) (startL k n) = waitN k n (a : Int) (b : Int))
theorem chk_all : (allK.all fun q => chk1 q.1 q.2) = true := by decide +kernel
theorem many_le (k : Nm) (n : Nat) : many k n ≤ (n : Int) := by unfold many; split <;> omega
theorem wait_right {k : Nm} {n : Nat} {w : List Int} {a b : Int} (hK : okK k n = true) (g : Good k n w) (ha : okS k n a) (hb : okS k n b) (hab : a ≠ b) : lw k n a b 12 1 w w = waitN k n a b := by
  have e := lw_any hK g ha hb 12 1 [] [] (fun _ h => by cases h) (fun _ h => by cases h)
  show lw k n a b 12 1 (run k n w []) (run k n w []) = _
  rw [e]
  show lw k n a b 12 1 (startL k n) (startL k n) = _
  have c := List.all_eq_true.mp chk_all (k, n) (okK_mem hK)
  have hl := many_le k n
  obtain ⟨a1, a2⟩ := ha
  obtain ⟨b1, b2⟩ := hb
  obtain ⟨x, rfl⟩ : ∃ x : Nat, a = (x : Int) := ⟨a.toNat, by omega⟩
  obtain ⟨y, rfl⟩ : ∃ y : Nat, b = (y : Int) := ⟨b.toNat, by omega⟩
  have c1 := List.all_eq_true.mp (List.all_eq_true.mp c x (List.mem_range.mpr (by omega))) y (List.mem_range.mpr (by omega))
  have hxy : (x == y) = false := by
    cases q : (x == y) with
    | false => rfl
    | true => exact absurd (congrArg Int.ofNat (eq_of_beq q)) hab
  rw [hxy, decide_eq_false (by omega : ¬ many k n ≤ (x : Int)), decide_eq_false (by omega : ¬ many k n ≤ (y : Int))] at c1
  exact of_decide_eq_true (by simpa using c1)
end Sv

/-! Calls by what a def is told to keep; == of own classes either way; repr of None: by the verifier. -/
namespace Sv
open PySem PySem.Spec PyProof.Rows L2
/-- the module's name x is a def that keeps sp -/
structure Gd (P : Program) (w : World) (K : PySem.W.Frag) (mg : Str → Option Value) (base : Heap) (x : Str) (ps : List Str) (k : Nat) (sp : Sp) : Prop where
  ex : ∃ (f : Addr) (fd : FuncData), FnOk P w K mg base CX0 k f fd ps sp ∧ mg x = some (.ref f) ∧ PySem.W.keepIn K (.ref f) = true ∧ Binds K fd ps []
/-- the class at C has a method m that keeps sp -/
structure Md (P : Program) (w : World) (K : PySem.W.Frag) (mg : Str → Option Value) (base : Heap) (C : Addr) (m : Str) (ps : List Str) (k : Nat) (sp : Sp) : Prop where
  ex : ∃ (f : Addr) (fd : FuncData), FnOk P w K mg base CX0 k f fd ps sp ∧ Meth K C m f ∧ Binds K fd ps []
/-- the module's name x is a class at C, made by an __init__ that keeps sp -/
structure Cd (P : Program) (w : World) (K : PySem.W.Frag) (mg : Str → Option Value) (base : Heap) (x : Str) (C : Addr) (ps : List Str) (k : Nat) (sp : Sp) : Prop where
  ex : ∃ (f : Addr) (fd : FuncData), FnOk P w K mg base CX0 k f fd ps sp ∧ mg x = some (.ref C) ∧ Mk K C f ∧ Binds K fd ps []
/-- .. called by keywords alone: ks the written names, gV puts self and the values in the parameters' order -/
structure CdK (P : Program) (w : World) (K : PySem.W.Frag) (mg : Str → Option Value) (base : Heap) (x : Str) (C : Addr) (ps ks : List Str) (gV : List V → List V → List V) (k : Nat) (sp : Sp) : Prop where
  ex : ∃ (f : Addr) (fd : FuncData) (g : List Value → List Value → List Value), FnOk P w K mg base CX0 k f fd ps sp ∧ mg x = some (.ref C) ∧ Mk K C f ∧ KBn K fd ps 1 ks g gV
structure GdK (P : Program) (w : World) (K : PySem.W.Frag) (mg : Str → Option Value) (base : Heap) (x : Str) (ps ks : List Str) (gV : List V → List V → List V) (k : Nat) (sp : Sp) : Prop where
  ex : ∃ (f : Addr) (fd : FuncData) (g : List Value → List Value → List Value), FnOk P w K mg base CX0 k f fd ps sp ∧ mg x = some (.ref f) ∧ PySem.W.keepIn K (.ref f) = true ∧ KBn K fd ps 0 ks g gV
section
variable {X : Cx} {k : Nat} {C : Addr} {ps ks : List Str} {sp : Sp} {x m : Str} {p pos apos : Pos} {e o : Expr} {es : List Expr} {kws : List Keyword} {t tk : TA} {ta : TE} {gV : List V → List V → List V}
theorem pe_callG (G : Gd X.prog X.w X.K X.mg X.base x ps k sp) (hr : Room k X.A) (hg : Gl X x)
    (ha : PA X (e :: es) t) (hdb : (x == ("__debug__" : Str)) = false := by decide) (he : starEach (e :: es) X.env = (false, eval e X.env) :: starEach es X.env := by rfl) (hpl : (backTo pos (starEach es X.env)).any (·.1) = false := by rfl) :
    PE X (.Call (.Name x p) (e :: es) [] pos) (tCall sp [] E0 t) := by
  obtain ⟨f, fd, F, gm, kp, b⟩ := G.ex
  exact pe_call F hr hg gm kp b .nil pass0 ha hdb he hpl
theorem pe_methG0 {pl : Sem Bool} (c : Cls X.K C) (M : Md X.prog X.w X.K X.mg X.base C m ps k sp) (hr : Room k X.A) (he : PE X o ta)
    (ht : eval (.Call (.Attribute o m apos) [] [] pos) X.env = (do
      let ov ← eval o X.env
      standAt apos.atName
      let (f, first) ← holding [ov] (getMethod ov m pl)
      callWith pos f first (backTo pos (starEach [] X.env)) (backToKw pos (keywordEach [] X.env))) := by rfl) :
    PE X (.Call (.Attribute o m apos) [] [] pos) (tMeth C m sp [] E0 ta tNil) := by
  obtain ⟨f, fd, F, hm, b⟩ := M.ex
  exact pe_meth0 he c hm F hr b .nil pass0 ht
theorem pe_makeG (G : Cd X.prog X.w X.K X.mg X.base x C ps k sp) (hr : Room (k + 1) X.A) (hg : Gl X x)
    (ha : PA X (e :: es) t) (hdb : (x == ("__debug__" : Str)) = false := by decide) (he : starEach (e :: es) X.env = (false, eval e X.env) :: starEach es X.env := by rfl) (hpl : (backTo pos (starEach es X.env)).any (·.1) = false := by rfl) :
    PE X (.Call (.Name x p) (e :: es) [] pos) (tMake C sp [] E0 t) := by
  obtain ⟨f, fd, F, gm, M, b⟩ := G.ex
  exact pe_make M F hr hg gm b .nil pass0 ha hdb he hpl
theorem pe_makeKG (G : CdK X.prog X.w X.K X.mg X.base x C ps ks gV k sp) (hr : Room (k + 1) X.A) (hg : Gl X x) (hkw : PK X kws tk)
    (hall : (backToKw pos (keywordEach kws X.env)).all (·.1.isSome) = true := by rfl) (hks : (backToKw pos (keywordEach kws X.env)).filterMap (·.1) = ks := by rfl) (hdb : (x == ("__debug__" : Str)) = false := by decide)
    (hpl : ((backTo pos (starEach [] X.env)).any (·.1) || (backToKw pos (keywordEach kws X.env)).any (·.1.isNone)) = false := by rfl) :
    PE X (.Call (.Name x p) [] kws pos) (tMakeK C 0 ks.length sp gV E0 tNil tk) := by
  obtain ⟨f, fd, g, F, gm, M, b⟩ := G.ex
  exact pe_makeK0 M F hr hg gm b pass0 hkw hall hks hdb hpl
/-- f(k = v, ..) -/
theorem pe_callKG (G : GdK X.prog X.w X.K X.mg X.base x ps ks gV k sp) (hr : Room k X.A) (hg : Gl X x) (hkw : PK X kws tk)
    (hall : (backToKw pos (keywordEach kws X.env)).all (·.1.isSome) = true := by rfl) (hks : (backToKw pos (keywordEach kws X.env)).filterMap (·.1) = ks := by rfl) (hdb : (x == ("__debug__" : Str)) = false := by decide)
    (hpl : ((backTo pos (starEach [] X.env)).any (·.1) || (backToKw pos (keywordEach kws X.env)).any (·.1.isNone)) = false := by rfl) :
    PE X (.Call (.Name x p) [] kws pos) (tCallN 0 ks.length sp gV E0 tNil tk) := by
  obtain ⟨f, fd, g, F, gm, kp, b⟩ := G.ex
  refine ⟨fun pins s σ H Q I h => ?_⟩
  refine wpAny_Call_Name_kw (ld_glob I hg gm ?_ hdb)
  refine PySem.W.callWith_KW0 (h₀ := X.base) I.ok.mod.kin kp hall ?_ hpl
  refine thn (hkw.run pos pins s σ H _ I h) fun ws s2 ⟨zs, H2, I2, rz, l1, l2, q2⟩ => ⟨I2.kIn, ?_⟩
  rw [hks]
  exact run_fnN (us := []) (vs := []) F hr b pass0 I2 .nil rz rfl l2 q2
/-- a def's body keeps its promise; nothing is raised -/
theorem okN {P : Program} {w : World} {K : PySem.W.Frag} {mg : Str → Option Value} {base : Heap} {x qual : Str} {params : Arguments} {body : List Stmt} {scope : Scope} {dvs : List V} {kws : List (Str × V)} {f : Addr} {fd : FuncData} {N ps : List Str} {k : Nat} {sp : Sp}
    (F : FunD K x qual params body scope dvs kws f fd) (S : FnScope N ps scope) (len : ∀ vs H Q E, sp vs H Q E → vs.length = ps.length)
    (hbody : ∀ (cdv : Value) (A : Around) (outer : List Env) (s : Shared) (H : Hp) (vs : List V) (Q : VK) (E : XK), Room k (A.deeper (envOfC qual scope s.heap.objs.size f cdv)) → sp vs H Q E →
      ∃ t, PSs (cxOf CX0 P w K mg base N qual scope f cdv A outer s H E).nox body t ∧ t { nx := fun _ H' => Q .non H', rt := Q } (start N vs) H) : FnOk P w K mg base CX0 (k + 1) f fd ps sp :=
  F.ok S len fun cdv A outer s H vs Q E hr h => let ⟨t, p, q⟩ := hbody cdv A outer s H vs Q E hr h; ⟨t, p.nox, q⟩
/-! ### == by an own __eq__, both answers -/
def rOwnEq (K : PySem.W.Frag) (C : Addr) (sp : Sp) : R2 := fun x y H Q => ∃ a b dx fs, x = .ref a ∧ y = .ref b ∧ H a = some (.ins C dx fs) ∧
  ((∃ dy gs, H b = some (.ins C dy gs)) ∨ ((∃ ys, H b = some (.tup ys)) ∧ PySem.W.notFirst K C (.type "tuple") = true)) ∧ sp [x, y] H Q E0
theorem op_own_eq (M : Md X.prog X.w X.K X.mg X.base C "__eq__" ps k sp) (hr : Room k X.A) : OpR X (compareOp .Eq) (rOwnEq X.K C sp) := by
  obtain ⟨f, fd, F, hm, bd⟩ := M.ex
  intro pins s σ H x y v u Q I rx ry h
  obtain ⟨a, b, dx, fs, rfl, rfl, ha, hb, q⟩ := h
  cases (show v = Value.ref a from rx)
  cases (show u = Value.ref b from ry)
  obtain ⟨mA, J, _⟩ := ins_get I.hok ha
  obtain ⟨od, J, _⟩ := J.look
  obtain ⟨m, hF⟩ := I.fr
  have r2 : Vals [V.ref a, V.ref b] [Value.ref a, Value.ref b] := .cons rfl (.cons rfl .nil)
  have run : wpAny (model X.prog X.w) X.A (call (.ref f) [.ref a, .ref b]) (PySem.W.CmpBack (EP X pins σ Q)) X.xe s := by
    refine wpAny_mono (run_fn F hr bd .nil pass0 I r2 q) (fun w s' z => ?_) fun _ _ z => z
    obtain ⟨z', H', I', rz, qz⟩ := z
    exact SlX.cmpback rz ⟨z', H', I', rz, qz⟩
  show wpAny (model X.prog X.w) X.A (richCompare .Eq (.ref a) (.ref b)) (EP X pins σ Q) X.xe s
  rcases hb with ⟨dy, gs, hb⟩ | ⟨⟨ys, hb⟩, hn⟩
  · obtain ⟨mB, J', _⟩ := ins_get I.hok hb
    obtain ⟨od', J', _⟩ := J'.look
    exact PySem.W.cmp_K (op := .Eq) (tb := .ref C) hr.units0 hF I.ok.mod.kin J J'.type (by simp [PySem.W.notFirst]) hm.at_ hm.fn run
  · obtain ⟨_, its, _, o, ho, hc, _⟩ := (show ObjOk X.prog X.w H s.heap b (.tup ys) from I.hok b _ hb)
    exact PySem.W.cmp_K (op := .Eq) (tb := .type "tuple") hr.units0 hF I.ok.mod.kin J (fun A' Q' E' s' k' q' => wpAny_typeOf ⟨o, k' _ _ ho, hc⟩ q') hn hm.at_ hm.fn run
/-! ### repr of a whole number or of None -/
def vOf : Option Nat → V
  | some n => .int n
  | none => .non
def rpr : V → Str
  | .int i => toString i
  | _ => "None"
theorem call_reprN : CallR X (.builtin "repr") (fun xs H Q => ((∃ i, xs = [.int i] ∧ i.natAbs.log2 < 1920) ∨ xs = [.non]) ∧ ∀ z, xs = [z] → Q (.str (rpr z)) H) := by
  intro pins s σ H xs us Q I r h
  obtain ⟨h, q⟩ := h
  rcases h with ⟨i, rfl, hz⟩ | rfl
  · obtain ⟨u, rfl, t, rfl⟩ := vals1 r
    exact PySem.P.repr_of_int hz ⟨.str _, H, I.tok _, ⟨_, rfl⟩, q _ rfl⟩
  · obtain ⟨u, rfl, hu⟩ := vals1 r
    cases (show u = Value.none from hu)
    exact PySem.P.repr_of_none ⟨.str _, H, I.tok _, ⟨_, rfl⟩, q _ rfl⟩
/-! ### ** of great numbers -/
theorem op_powX : OpR X (binaryOp .Pow) (rI (fun i j => 0 ≤ j ∧ (Builtin.Int.intBits i : Int) * j ≤ 2 ^ 27) fun i j => .int (i ^ j.toNat)) := opI fun _ _ _ _ _ _ _ hc q => pow_int hc.1 hc.2 q
end
/-! ### heaps -/
theorem Same.tup {K : PySem.W.Frag} {H H' : Hp} {a : Addr} {xs : List V} (e : Same H H') (h : SqT K H a xs) : SqT K H' a xs := by
  rcases h with (h | ⟨o, h⟩) | h
  · exact .inl (.inl (e _ _ h))
  · exact .inl (.inr ⟨o, e _ _ h⟩)
  · exact .inr h
theorem Same.upd {H : Hp} {p : Addr} {o : HO} (h : H p = none) : Same H (upd H p o) := fun b x e => by
  rw [upd_ne (ne_of_none e h)]
  exact e
/-- all but g is as it was -/
def SameX (g : Addr) (H H' : Hp) : Prop := ∀ b o, H b = some o → b ≠ g → H' b = some o
theorem Same.x {H H' : Hp} (g : Addr) (e : Same H H') : SameX g H H' := fun b o h _ => e b o h
theorem SameX.refl (g : Addr) (H : Hp) : SameX g H H := fun _ _ h _ => h
theorem SameX.trans {g : Addr} {H H1 H2 : Hp} (a : SameX g H H1) (b : SameX g H1 H2) : SameX g H H2 := fun c o h n => b c o (a c o h n) n
theorem SameX.upd {g : Addr} {H : Hp} {o : HO} : SameX g H (L2.upd H g o) := fun b x e n => by
  rw [upd_ne n]
  exact e
theorem SameX.free {g : Addr} {H H' : Hp} {o : HO} (e : SameX g H H') (hg : H g = some o) {l : Addr} {u : HO} (h' : H' g = some u) (h : H' l = none) : H l = none := by
  cases q : H l with
  | none => rfl
  | some x =>
    by_cases hl : l = g
    · rw [hl, h'] at h
      cases h
    · rw [e l x q hl] at h
      cases h
theorem SameX.seq {K : PySem.W.Frag} {g : Addr} {H H' : Hp} {a : Addr} {xs : List V} (e : SameX g H H') (n : a ≠ g) (h : SqL K H a xs) : SqL K H' a xs := by
  rcases h with (h | ⟨o, h⟩) | h
  · exact .inl (.inl (e _ _ h n))
  · exact .inl (.inr ⟨o, e _ _ h n⟩)
  · exact .inr h
theorem SameX.tup {K : PySem.W.Frag} {g : Addr} {H H' : Hp} {a : Addr} {xs : List V} (e : SameX g H H') (n : a ≠ g) (h : SqT K H a xs) : SqT K H' a xs := by
  rcases h with (h | ⟨o, h⟩) | h
  · exact .inl (.inl (e _ _ h n))
  · exact .inl (.inr ⟨o, e _ _ h n⟩)
  · exact .inr h
/-! ### data of whole numbers and texts -/
theorem dp_ints {K : PySem.W.Frag} {H : Hp} : ∀ xs : List Int, DpAll K H (xs.map V.int) (xs.map PyData.int)
  | [] => .nil
  | x :: xs => .cons (.int x) (dp_ints xs)
theorem eqv_ints : ∀ xs ys : List Int, PyData.eqvAll (xs.map PyData.int) (ys.map PyData.int) = decide (xs = ys)
  | [], [] => rfl
  | [], y :: ys => rfl
  | x :: xs, [] => rfl
  | x :: xs, y :: ys => by
    rw [List.map_cons, List.map_cons, PyData.eqvAll, eqv_ints xs ys]
    show ((x == y) && decide (xs = ys)) = decide (x :: xs = y :: ys)
    rw [Bool.eq_iff_iff]
    simp
theorem shaped_ints (xs : List Int) : SeqAt.shaped (.list (xs.map PyData.int)) = true := PySem.W.ke_shaped_ints xs
end Sv

namespace Sv
open PySem PySem.Spec PyProof.Rows L2
/-! ### the text by places -/
def top (i : Nat) : Stmt := PySem.Challenge.pw_seamlayers_k59_whole_begins_by_crossed_p.main.body.getD i (.Pass ⟨0, 0, 0, 0⟩)
abbrev s_InvalidKind___init__ : Stmt := inClass (top 3) 0
abbrev s_InvalidOrder___init__ : Stmt := inClass (top 4) 0
abbrev s_InvalidNumber___init__ : Stmt := inClass (top 5) 0
abbrev s_Kind___init__ : Stmt := inClass (top 11) 0
abbrev s_Kind___eq__ : Stmt := inClass (top 11) 1
abbrev s_Kind_name : Stmt := inClass (top 11) 2
abbrev s_Kind_size : Stmt := inClass (top 11) 3
abbrev s_Kind_steps : Stmt := inClass (top 11) 4
abbrev s_Kind_start : Stmt := inClass (top 11) 5
abbrev s_is_whole : Stmt := top 7
abbrev s_are_whole : Stmt := top 8
abbrev s_check_kind : Stmt := top 12
abbrev s_product_of : Stmt := top 15
abbrev s_opposite_of : Stmt := top 16
abbrev s_count_crossings : Stmt := top 17
abbrev s_has_order_form : Stmt := top 18
abbrev s_is_told_order : Stmt := top 19
abbrev s_rest_of : Stmt := top 21
abbrev s_rest_ahead_of : Stmt := top 22
abbrev s_check_orders : Stmt := top 24
abbrev s_begins : Stmt := top 26
abbrev s_ends : Stmt := top 27
abbrev s_opposite : Stmt := top 29
abbrev s__law_hash : Stmt := top 31
abbrev s__law_random : Stmt := top 32
abbrev s__law_cell : Stmt := top 33
abbrev s__law_generator : Stmt := top 34
abbrev s__law_kind : Stmt := top 35
abbrev s__law_start : Stmt := top 36
abbrev s__law_steps : Stmt := top 37
abbrev s__law_crossed : Stmt := top 38
abbrev s__law_stepped : Stmt := top 39
abbrev s__law_falls : Stmt := top 40
abbrev s__law_row : Stmt := top 41
abbrev s__law_made : Stmt := top 42
abbrev s__law_product : Stmt := top 43
abbrev s__law_opposite : Stmt := top 44
abbrev s__law_all : Stmt := top 45
abbrev s__law_line : Stmt := top 46
abbrev s__law_pairs : Stmt := top 47
abbrev s__law_begins : Stmt := top 48
abbrev s__law_right : Stmt := top 49
abbrev s_law : Stmt := top 50
abbrev FnP (K : PySem.W.Frag) (x qual : Str) (st : Stmt) (f : Addr) (fd : FuncData) : Prop := FunD K x qual (defArgs st) (defBody st) (defScope st) [] [] f fd
theorem sc_InvalidKind___init__ : FnScope ["self", "value"] ["self", "value"] (defScope s_InvalidKind___init__) := ⟨rfl, rfl, rfl, by decide +kernel, rfl, by decide +kernel, by decide +kernel⟩
theorem sc_InvalidOrder___init__ : FnScope ["self", "value"] ["self", "value"] (defScope s_InvalidOrder___init__) := ⟨rfl, rfl, rfl, by decide +kernel, rfl, by decide +kernel, by decide +kernel⟩
theorem sc_InvalidNumber___init__ : FnScope ["self", "value"] ["self", "value"] (defScope s_InvalidNumber___init__) := ⟨rfl, rfl, rfl, by decide +kernel, rfl, by decide +kernel, by decide +kernel⟩
theorem sc_Kind___init__ : FnScope ["self", "name", "size", "least", "most"] ["self", "name", "size"] (defScope s_Kind___init__) := ⟨rfl, rfl, rfl, by decide +kernel, rfl, by decide +kernel, by decide +kernel⟩
theorem sc_Kind___eq__ : FnScope ["self", "other"] ["self", "other"] (defScope s_Kind___eq__) := ⟨rfl, rfl, rfl, by decide +kernel, rfl, by decide +kernel, by decide +kernel⟩
theorem sc_Kind_name : FnScope ["self"] ["self"] (defScope s_Kind_name) := ⟨rfl, rfl, rfl, by decide +kernel, rfl, by decide +kernel, by decide +kernel⟩
theorem sc_Kind_size : FnScope ["self"] ["self"] (defScope s_Kind_size) := ⟨rfl, rfl, rfl, by decide +kernel, rfl, by decide +kernel, by decide +kernel⟩
theorem sc_Kind_steps : FnScope ["self"] ["self"] (defScope s_Kind_steps) := ⟨rfl, rfl, rfl, by decide +kernel, rfl, by decide +kernel, by decide +kernel⟩
theorem sc_Kind_start : FnScope ["self"] ["self"] (defScope s_Kind_start) := ⟨rfl, rfl, rfl, by decide +kernel, rfl, by decide +kernel, by decide +kernel⟩
theorem sc_is_whole : FnScope ["value"] ["value"] (defScope s_is_whole) := ⟨rfl, rfl, rfl, by decide +kernel, rfl, by decide +kernel, by decide +kernel⟩
theorem sc_are_whole : FnScope ["values", "value"] ["values"] (defScope s_are_whole) := ⟨rfl, rfl, rfl, by decide +kernel, rfl, by decide +kernel, by decide +kernel⟩
theorem sc_check_kind : FnScope ["kind"] ["kind"] (defScope s_check_kind) := ⟨rfl, rfl, rfl, by decide +kernel, rfl, by decide +kernel, by decide +kernel⟩
theorem sc_product_of : FnScope ["kind", "one", "other", "name", "size", "place"] ["kind", "one", "other"] (defScope s_product_of) := ⟨rfl, rfl, rfl, by decide +kernel, rfl, by decide +kernel, by decide +kernel⟩
theorem sc_opposite_of : FnScope ["kind", "order", "name", "size", "turned", "at", "item", "inside"] ["kind", "order"] (defScope s_opposite_of) := ⟨rfl, rfl, rfl, by decide +kernel, rfl, by decide +kernel, by decide +kernel⟩
theorem sc_count_crossings : FnScope ["kind", "order", "name", "size", "many", "first", "second", "item"] ["kind", "order"] (defScope s_count_crossings) := ⟨rfl, rfl, rfl, by decide +kernel, rfl, by decide +kernel, by decide +kernel⟩
theorem sc_has_order_form : FnScope ["kind", "value", "size", "name", "item"] ["kind", "value"] (defScope s_has_order_form) := ⟨rfl, rfl, rfl, by decide +kernel, rfl, by decide +kernel, by decide +kernel⟩
theorem sc_is_told_order : FnScope ["kind", "value"] ["kind", "value"] (defScope s_is_told_order) := ⟨rfl, rfl, rfl, by decide +kernel, rfl, by decide +kernel, by decide +kernel⟩
theorem sc_rest_of : FnScope ["kind", "one", "other", "behind", "together"] ["kind", "one", "other"] (defScope s_rest_of) := ⟨rfl, rfl, rfl, by decide +kernel, rfl, by decide +kernel, by decide +kernel⟩
theorem sc_rest_ahead_of : FnScope ["kind", "one", "other", "front", "together"] ["kind", "one", "other"] (defScope s_rest_ahead_of) := ⟨rfl, rfl, rfl, by decide +kernel, rfl, by decide +kernel, by decide +kernel⟩
theorem sc_check_orders : FnScope ["kind", "orders", "order"] ["kind", "orders"] (defScope s_check_orders) := ⟨rfl, rfl, rfl, by decide +kernel, rfl, by decide +kernel, by decide +kernel⟩
theorem sc_begins : FnScope ["kind", "one", "other"] ["kind", "one", "other"] (defScope s_begins) := ⟨rfl, rfl, rfl, by decide +kernel, rfl, by decide +kernel, by decide +kernel⟩
theorem sc_ends : FnScope ["kind", "one", "other"] ["kind", "one", "other"] (defScope s_ends) := ⟨rfl, rfl, rfl, by decide +kernel, rfl, by decide +kernel, by decide +kernel⟩
theorem sc_opposite : FnScope ["kind", "order"] ["kind", "order"] (defScope s_opposite) := ⟨rfl, rfl, rfl, by decide +kernel, rfl, by decide +kernel, by decide +kernel⟩
theorem sc__law_hash : FnScope ["_law_seed", "_law_index", "_law_mixed"] ["_law_seed", "_law_index"] (defScope s__law_hash) := ⟨rfl, rfl, rfl, by decide +kernel, rfl, by decide +kernel, by decide +kernel⟩
theorem sc__law_random : FnScope ["_law_generator_here", "_law_bound", "_law_drawn", "_law_turn"] ["_law_generator_here", "_law_bound"] (defScope s__law_random) := ⟨rfl, rfl, rfl, by decide +kernel, rfl, by decide +kernel, by decide +kernel⟩
theorem sc__law_cell : FnScope ["_law_script", "_law_index"] ["_law_script", "_law_index"] (defScope s__law_cell) := ⟨rfl, rfl, rfl, by decide +kernel, rfl, by decide +kernel, by decide +kernel⟩
theorem sc__law_generator : FnScope ["_law_script", "_law_index", "_law_seed"] ["_law_script", "_law_index"] (defScope s__law_generator) := ⟨rfl, rfl, rfl, by decide +kernel, rfl, by decide +kernel, by decide +kernel⟩
theorem sc__law_kind : FnScope ["_law_generator_here", "_law_name"] ["_law_generator_here"] (defScope s__law_kind) := ⟨rfl, rfl, rfl, by decide +kernel, rfl, by decide +kernel, by decide +kernel⟩
theorem sc__law_start : FnScope ["_law_name", "_law_size", "_law_place"] ["_law_name", "_law_size"] (defScope s__law_start) := ⟨rfl, rfl, rfl, by decide +kernel, rfl, by decide +kernel, by decide +kernel⟩
theorem sc__law_steps : FnScope ["_law_name", "_law_order"] ["_law_name", "_law_order"] (defScope s__law_steps) := ⟨rfl, rfl, rfl, by decide +kernel, rfl, by decide +kernel, by decide +kernel⟩
theorem sc__law_crossed : FnScope ["_law_name", "_law_order", "_law_step"] ["_law_name", "_law_order", "_law_step"] (defScope s__law_crossed) := ⟨rfl, rfl, rfl, by decide +kernel, rfl, by decide +kernel, by decide +kernel⟩
theorem sc__law_stepped : FnScope ["_law_name", "_law_order", "_law_step", "_law_found", "_law_at"] ["_law_name", "_law_order", "_law_step"] (defScope s__law_stepped) := ⟨rfl, rfl, rfl, by decide +kernel, rfl, by decide +kernel, by decide +kernel⟩
theorem sc__law_falls : FnScope ["_law_name", "_law_order", "_law_step"] ["_law_name", "_law_order"] (defScope s__law_falls) := ⟨rfl, rfl, rfl, by decide +kernel, rfl, by decide +kernel, by decide +kernel⟩
theorem sc__law_row : FnScope ["_law_name", "_law_order", "_law_found", "_law_left", "_law_turn", "_law_falls_here"] ["_law_name", "_law_order"] (defScope s__law_row) := ⟨rfl, rfl, rfl, by decide +kernel, rfl, by decide +kernel, by decide +kernel⟩
theorem sc__law_made : FnScope ["_law_name", "_law_size", "_law_row_here", "_law_found", "_law_step"] ["_law_name", "_law_size", "_law_row_here"] (defScope s__law_made) := ⟨rfl, rfl, rfl, by decide +kernel, rfl, by decide +kernel, by decide +kernel⟩
theorem sc__law_product : FnScope ["_law_name", "_law_one", "_law_other", "_law_found", "_law_step"] ["_law_name", "_law_one", "_law_other"] (defScope s__law_product) := ⟨rfl, rfl, rfl, by decide +kernel, rfl, by decide +kernel, by decide +kernel⟩
theorem sc__law_opposite : FnScope ["_law_name", "_law_order"] ["_law_name", "_law_order"] (defScope s__law_opposite) := ⟨rfl, rfl, rfl, by decide +kernel, rfl, by decide +kernel, by decide +kernel⟩
theorem sc__law_all : FnScope ["_law_name", "_law_size", "_law_most", "_law_found", "_law_last", "_law_turn", "_law_known", "_law_further", "_law_order", "_law_step", "_law_other"] ["_law_name", "_law_size", "_law_most"] (defScope s__law_all) := ⟨rfl, rfl, rfl, by decide +kernel, rfl, by decide +kernel, by decide +kernel⟩
theorem sc__law_line : FnScope ["_law_name", "_law_order", "_law_rounds", "_law_found", "_law_number", "_law_item"] ["_law_name", "_law_order", "_law_rounds"] (defScope s__law_line) := ⟨rfl, rfl, rfl, by decide +kernel, rfl, by decide +kernel, by decide +kernel⟩
theorem sc__law_pairs : FnScope ["_law_name", "_law_order", "_law_rounds", "_law_line_here", "_law_found", "_law_at", "_law_high", "_law_low"] ["_law_name", "_law_order", "_law_rounds"] (defScope s__law_pairs) := ⟨rfl, rfl, rfl, by decide +kernel, rfl, by decide +kernel, by decide +kernel⟩
theorem sc__law_begins : FnScope ["_law_name", "_law_one", "_law_other", "_law_behind"] ["_law_name", "_law_one", "_law_other"] (defScope s__law_begins) := ⟨rfl, rfl, rfl, by decide +kernel, rfl, by decide +kernel, by decide +kernel⟩
theorem sc__law_right : FnScope ["_law_generator_here", "_law_name", "_law_size", "_law_kind_here", "_law_every", "_law_pairs_here", "_law_middle", "_law_turn", "_law_at", "_law_beside", "_law_one", "_law_other", "_law_least", "_law_due", "_law_order", "_law_pair"] ["_law_generator_here"] (defScope s__law_right) := ⟨rfl, rfl, rfl, by decide +kernel, rfl, by decide +kernel, by decide +kernel⟩
theorem sc_law : FnScope ["_law_script", "_law_index"] ["_law_script"] (defScope s_law) := ⟨rfl, rfl, rfl, by decide +kernel, rfl, by decide +kernel, by decide +kernel⟩
/-- what the module's names are -/
structure Tx (K : PySem.W.Frag) (mg : Str → Option Value) : Prop where
  m_int : mg "int" = none
  m_str : mg "str" = none
  m_bool : mg "bool" = none
  m_range : mg "range" = none
  m_list : mg "list" = none
  m_abs : mg "abs" = none
  m_max : mg "max" = none
  m_min : mg "min" = none
  m_sum : mg "sum" = none
  m_len : mg "len" = none
  m_repr : mg "repr" = none
  m_isinstance : mg "isinstance" = none
  m_all : mg "all" = none
  m_sorted : mg "sorted" = none
  m_enumerate : mg "enumerate" = none
  m_tuple : mg "tuple" = none
  m_reversed : mg "reversed" = none
section
variable {P : Program} {w : World} {K : PySem.W.Frag} {mg : Str → Option Value} {base : Heap} {f : Addr} {fd : FuncData}
/-! ### drawing -/
def spHash : Sp := fun vs H Q _ => ∃ a b : Int, vs = [.int a, .int b] ∧ (-(2 ^ 64) < b ∧ b < 2 ^ 64) ∧ ∀ z : Int, Q (.int z) H
theorem ok_hash (T : Tx K mg) (F : FnP K "_law_hash" "_law_hash" s__law_hash f fd) : FnOk P w K mg base CX0 1 f fd ["_law_seed", "_law_index"] spHash := by
  refine okN F sc__law_hash (fun vs H Q E h => ?_) (fun cdv A outer s H vs Q E hr h => ?_)
  · obtain ⟨a, b, rfl, _⟩ := h
    rfl
  · obtain ⟨a, b, rfl, hb, q⟩ := h
    refine ⟨_, (pss_cons (ps_set (i := 2) sc__law_hash.nd rfl (by first | exact Or.inl rfl | exact Or.inr rfl) (pe_op op_mod (pe_callTy call_int1 (by rfl) T.m_int (by decide +kernel) (pa_cons (pe_op op_add (pe_op op_add (pe_op op_add (pe_op op_mul (pv 0) pe_int) (pe_op op_mul (pe_op op_mul pe_int (pv 1)) (pv 1))) (pe_op op_mul pe_int (pv 1))) pe_int) pa_nil)) pe_int))
      (pss_cons (ps_set (i := 2) sc__law_hash.nd rfl (by first | exact Or.inl rfl | exact Or.inr rfl) (pe_op op_mod (pe_callTy call_int1 (by rfl) T.m_int (by decide +kernel) (pa_cons (pe_op op_add (pe_op op_add (pe_op op_mul (pv 2) (pv 2)) (pe_op op_mul pe_int (pv 1))) pe_int) pa_nil)) pe_int))
      (pss_one (ps_ret (pe_op op_mod (pe_callTy call_int1 (by rfl) T.m_int (by decide +kernel) (pa_cons (pe_op op_mul (pv 2) pe_int) pa_nil)) pe_int))))), ?_⟩
    refine ⟨_, rfl, _, _, rfl, rfl, .inr ⟨by decide, by decide⟩, _, rfl, _, _, rfl, rfl, .inl ⟨by decide, by decide⟩, _, rfl, _, _, rfl, rfl, .inr hb, _, _, rfl, rfl, _, rfl, _, _, rfl, rfl, .inl ⟨by decide, by decide⟩, _, _, rfl, rfl, _, _, rfl, rfl, .inl ⟨_, rfl, ?_⟩⟩
    refine ⟨_, _, rfl, rfl, (by show (0 : Int) < 2147483629; decide), ?_⟩
    have h1 := Int.emod_nonneg (a * 1140671 + 27644437 * b * b + 131 * b + 19) (by decide : (2147483629 : Int) ≠ 0)
    have h2 := Int.emod_lt_of_pos (a * 1140671 + 27644437 * b * b + 131 * b + 19) (by decide : (0 : Int) < 2147483629)
    refine ⟨_, rfl, _, rfl, _, _, rfl, rfl, .inl ⟨by omega, by omega⟩, _, rfl, _, _, rfl, rfl, .inl ⟨by decide, by decide⟩, _, _, rfl, rfl, _, _, rfl, rfl, .inl ⟨_, rfl, ?_⟩⟩
    refine ⟨_, _, rfl, rfl, (by show (0 : Int) < 2147483587; decide), ?_⟩
    refine ⟨_, rfl, _, _, rfl, rfl, .inr ⟨by decide, by decide⟩, .inl ⟨_, rfl, ?_⟩⟩
    refine ⟨_, _, rfl, rfl, (by show (0 : Int) < 2147483647; decide), ?_⟩
    exact q _
/-- a generator stands at g: its first number a, the second b, the third c -/
def GenAt (H : Hp) (g : Addr) (a b c : Int) : Prop := H g = some (.lst [.int a, .int b, .int c])
def spRandom : Sp := fun vs H Q _ => ∃ (g : Addr) (a b c n : Int), vs = [.ref g, .int n] ∧ GenAt H g a b c ∧ (0 < n ∧ n < 2 ^ 29) ∧ (0 ≤ c ∧ c ≤ 1000000) ∧
  ∀ (r a' c' : Int) (H' : Hp), 0 ≤ r → r < n → 0 ≤ c' → c' ≤ c + 1 → GenAt H' g a' b c' → SameX g H H' → Q (.int r) H'
theorem bits_small {n : Int} (h0 : 0 < n) (h1 : n < 2 ^ 29) : (1 : Int) + ((Builtin.Int.intBits n : Nat) : Int) / 30 = 1 := by
  have h : Builtin.Int.intBits n ≤ 29 := intBits_le (by omega)
  omega
theorem ok_random (T : Tx K mg) (F : FnP K "_law_random" "_law_random" s__law_random f fd) (c_law_hash : Gd P w K mg base "_law_hash" ["_law_seed", "_law_index"] 1 spHash) : FnOk P w K mg base CX0 2 f fd ["_law_generator_here", "_law_bound"] spRandom := by
  refine okN F sc__law_random (fun vs H Q E h => ?_) (fun cdv A outer s H vs Q E hr h => ?_)
  · obtain ⟨g, a, b, c, n, rfl, _⟩ := h
    rfl
  · obtain ⟨g, a, b, c, n, rfl, hg, ⟨n0, n1⟩, ⟨c0, c1⟩, q⟩ := h
    refine ⟨_, (pss_cons (ps_if (pt_cmpR op_gt (pe_ix ix_list (pv 0) pe_int (fun _ _ => rfl)) pe_int (nomark _)) (pss_cons (ps_set (i := 2) sc__law_random.nd rfl (by first | exact Or.inl rfl | exact Or.inr rfl) (pe_op op_mod (pe_callTy call_int1 (by rfl) T.m_int (by decide +kernel) (pa_cons (pe_ix ix_list (pv 0) pe_int (fun _ _ => rfl)) pa_nil)) (pv 1)))
      (pss_cons (ps_asg (pe_op op_fdiv (pe_ix ix_list (pv 0) pe_int (fun _ _ => rfl)) (pv 1)) (pg_sub (pv 0) pe_int set_list))
      (pss_one (ps_ret (pv 2))))) pss_nil)
      (pss_cons (ps_set (i := 2) sc__law_random.nd rfl (by first | exact Or.inl rfl | exact Or.inr rfl) pe_int)
      (pss_cons (ps_for PassesOwn.never rfl (pi_range1 (by rfl) T.m_range (pa_cons (pe_op op_add pe_int (pe_op op_fdiv (pe_bits (pv 1)) pe_int)) pa_nil)) (pg_name (i := 3) sc__law_random.nd rfl (Or.inl rfl)) (pss_cons (ps_asg (pe_op op_add (pe_ix ix_list (pv 0) pe_int (fun _ _ => rfl)) pe_int) (pg_sub (pv 0) pe_int set_list))
      (pss_one (ps_set (i := 2) sc__law_random.nd rfl (by first | exact Or.inl rfl | exact Or.inr rfl) (pe_op op_add (pe_op op_mul (pv 2) pe_int) (pe_callG c_law_hash (hr.mono (by decide)) (by rfl) (pa_cons (pe_ix ix_list (pv 0) pe_int (fun _ _ => rfl)) (pa_cons (pe_ix ix_list (pv 0) pe_int (fun _ _ => rfl)) pa_nil))))))))
      (pss_one (ps_ret (pe_op op_mod (pe_callTy call_int1 (by rfl) T.m_int (by decide +kernel) (pa_cons (pv 2) pa_nil)) (pv 1))))))), ?_⟩
    have hL : SqL K H g [.int a, .int b, .int c] := SqL.of hg
    refine ⟨_, rfl, g, _, 0, _, rfl, rfl, hL, atI_nat (j := 0) rfl, _, _, rfl, rfl, _, rfl, ?_⟩
    refine ite2 (fun hpos => ?_) (fun hneg => ?_)
    · refine ⟨_, rfl, g, _, 0, _, rfl, rfl, hL, atI_nat (j := 0) rfl, .inl ⟨_, rfl, ?_⟩⟩
      refine ⟨_, rfl, _, _, rfl, rfl, n0, ?_⟩
      refine ⟨_, rfl, g, _, 0, _, rfl, rfl, hL, atI_nat (j := 0) rfl, _, rfl, _, _, rfl, rfl, ⟨n0, by omega⟩, ?_⟩
      refine ⟨_, rfl, g, _, 0, 0, rfl, rfl, hg, rfl, ?_⟩
      refine ⟨_, rfl, ?_⟩
      exact q (a % n) (a / n) c _ (Int.emod_nonneg _ (by omega)) (Int.emod_lt_of_pos _ n0) c0 (by omega) upd_same SameX.upd
    · refine ⟨_, rfl, _, rfl, _, _, rfl, rfl, ⟨by decide, by decide⟩, _, _, rfl, rfl, 1, (by show [V.int (1 + ((Builtin.Int.intBits n : Nat) : Int) / 30)] = _; rw [bits_small n0 n1]), by decide, by decide, ?_⟩
      refine for_range (n := 1) (fun i σ H2 => ∃ (d : Int) (v : Option V), σ = [some (.ref g), some (.int n), some (.int d), v] ∧ GenAt H2 g a b (c + (i : Int)) ∧ SameX g H H2) ⟨0, none, rfl, (by show H g = _; rw [hg]; simp), SameX.refl g H⟩ ?_ ?_
      · rintro i σ H2 hi ⟨d, v, rfl, hg2, sx⟩
        refine ⟨_, rfl, g, _, 2, _, rfl, rfl, SqL.of hg2, atI_nat (j := 2) rfl, _, _, rfl, rfl, ?_⟩
        refine ⟨_, rfl, g, _, 2, 2, rfl, rfl, hg2, rfl, ?_⟩
        refine ⟨_, rfl, _, _, rfl, rfl, .inr ⟨by decide, by decide⟩, ?_⟩
        refine ⟨_, rfl, g, _, 1, _, rfl, rfl, SqL.of upd_same, atI_nat (j := 1) rfl, _, rfl, g, _, 2, _, rfl, rfl, SqL.of upd_same, atI_nat (j := 2) rfl, _, _, rfl, ⟨by omega, by omega⟩, fun z => ?_⟩
        refine ⟨_, _, rfl, rfl, ?_⟩
        refine ⟨_, _, rfl, ?_, sx.trans SameX.upd⟩
        show L2.upd H2 g _ g = _
        rw [upd_same]
        have e : c + (i : Int) + 1 = c + ((i + 1 : Nat) : Int) := by omega
        rw [← e]
        rfl
      · rintro σ H2 ⟨d, v, rfl, hg2, sx⟩
        refine ⟨_, rfl, .inl ⟨_, rfl, ?_⟩⟩
        refine ⟨_, rfl, _, _, rfl, rfl, n0, ?_⟩
        exact q (d % n) a _ H2 (Int.emod_nonneg _ (by omega)) (Int.emod_lt_of_pos _ n0) (by omega) (by omega) hg2 sx
/-! ### the script's cells, the generator -/
def spCell (K : PySem.W.Frag) : Sp := fun vs H Q _ => ∃ (a : Addr) (ns : List Int) (i : Nat), vs = [.ref a, .int i] ∧ SqL K H a (ns.map V.int) ∧ ∀ (z : Int) (H' : Hp), Same H H' → Q (.int z) H'
theorem cut_one (ns : List Int) : cutV (ns.map V.int) none (some 1) = (ns.take 1).map V.int := by
  unfold cutV
  rw [show HT.sIx (ns.map V.int).length (ns.map V.int).length (some 1) = min 1 (ns.map V.int).length from HT.sIx_nat _ _ 1, HT.sIx_none]
  cases ns with
  | nil => rfl
  | cons x r =>
    rw [show min 1 (List.map V.int (x :: r)).length = 1 by simp]
    rfl
theorem ok_cell (T : Tx K mg) (F : FnP K "_law_cell" "_law_cell" s__law_cell f fd) : FnOk P w K mg base CX0 1 f fd ["_law_script", "_law_index"] (spCell K) := by
  refine okN F sc__law_cell (fun vs H Q E h => ?_) (fun cdv A outer s H vs Q E hr h => ?_)
  · obtain ⟨a, ns, i, rfl, _⟩ := h
    rfl
  · obtain ⟨a, ns, i, rfl, hS, q⟩ := h
    refine ⟨_, (pss_cons (ps_if (pt_cmpR op_lt (pv 1) (pe_callB call_len_seq (by rfl) T.m_len (by decide +kernel) (pa_cons (pv 0) pa_nil)) (nomark _)) (pss_one (ps_ret (pe_ix ix_list (pv 0) (pv 1) (fun _ _ => rfl)))) pss_nil)
      (pss_one (ps_ret (pe_op op_mod (pe_callB (cr_sum rfl) (by rfl) T.m_sum (by decide +kernel) (pa_cons (pe_slice sl_list (pv 0) po_none (po_some pe_int)) pa_nil)) pe_int)))), ?_⟩
    refine ⟨_, rfl, _, rfl, a, _, rfl, .inl hS, _, _, rfl, rfl, _, rfl, ?_⟩
    refine ite2 (fun hlt => ?_) (fun hge => ?_)
    · have hi : i < ns.length := by
        have := of_decide_eq_true hlt
        rw [List.length_map] at this
        omega
      refine ⟨_, rfl, _, rfl, a, _, (i : Int), .int ns[i], rfl, rfl, hS, atI_nat (j := i) ?_, q _ _ (Same.refl _)⟩
      rw [List.getElem?_map, List.getElem?_eq_getElem hi]
      rfl
    · refine ⟨_, rfl, 1, rfl, a, _, rfl, hS, fun p np => ?_⟩
      refine ⟨p, ns.take 1, rfl, SqL.of (by rw [upd_same, cut_one]), ?_⟩
      refine ⟨_, _, rfl, rfl, (by show (0 : Int) < 1000003; decide), ?_⟩
      exact q _ _ (Same.upd np)
def spGen (K : PySem.W.Frag) : Sp := fun vs H Q _ => ∃ (s : Addr) (ns : List Int) (i : Nat), vs = [.ref s, .int i] ∧ SqL K H s (ns.map V.int) ∧ i ≤ 10 ∧
  ∀ (g : Addr) (a b : Int) (H' : Hp), H g = none → Same H H' → GenAt H' g a b (1000 * (i : Int)) → Q (.ref g) H'
theorem ok_generator (T : Tx K mg) (F : FnP K "_law_generator" "_law_generator" s__law_generator f fd) (c_law_cell : Gd P w K mg base "_law_cell" ["_law_script", "_law_index"] 1 (spCell K)) : FnOk P w K mg base CX0 2 f fd ["_law_script", "_law_index"] (spGen K) := by
  refine okN F sc__law_generator (fun vs H Q E h => ?_) (fun cdv A outer s H vs Q E hr h => ?_)
  · obtain ⟨a, ns, i, rfl, _⟩ := h
    rfl
  · obtain ⟨a, ns, i, rfl, hS, hi, q⟩ := h
    refine ⟨_, (pss_cons (ps_set (i := 2) sc__law_generator.nd rfl (by first | exact Or.inl rfl | exact Or.inr rfl) (pe_callG c_law_cell (hr.mono (by decide)) (by rfl) (pa_cons (pv 0) (pa_cons (pv 1) pa_nil))))
      (pss_one (ps_ret (pe_lst (pa_cons (pe_op op_mod (pe_callTy call_int1 (by rfl) T.m_int (by decide +kernel) (pa_cons (pe_callB (call_max2 rfl) (by rfl) T.m_max (by decide +kernel) (pa_cons (pe_op op_sub (pv 2) (pe_op op_powX pe_int pe_int)) (pa_cons pe_int pa_nil))) pa_nil)) (pe_op op_powX (pe_op op_powX pe_int pe_int) pe_int)) (pa_cons (pe_op op_mod (pe_callTy call_int1 (by rfl) T.m_int (by decide +kernel) (pa_cons (pv 2) pa_nil)) pe_int) (pa_cons (pe_op op_mul pe_int (pv 1)) pa_nil))))))), ?_⟩
    refine ⟨_, rfl, _, rfl, a, ns, i, rfl, hS, fun z H1 s1 => ?_⟩
    refine ⟨_, rfl, 10, 18, rfl, rfl, ⟨by decide, by decide +kernel⟩, _, _, rfl, rfl, _, _, rfl, .inl ⟨_, rfl, ?_⟩⟩
    refine ⟨10, 60, rfl, rfl, ⟨by decide, by decide +kernel⟩, _, 10, rfl, rfl, ⟨by decide, by decide +kernel⟩, _, _, rfl, rfl, (by show (0 : Int) < (10 ^ (Int.toNat 60)) ^ (Int.toNat 10); decide +kernel), ?_⟩
    refine ⟨_, rfl, .inl ⟨_, rfl, ?_⟩⟩
    refine ⟨_, _, rfl, rfl, (by show (0 : Int) < 2147483647; decide), _, rfl, _, _, rfl, rfl, .inl ⟨by decide, by decide⟩, (by show 3 ≤ sizeLine; decide), fun g ng => ?_⟩
    exact q g _ _ _ (s1.free ng) (s1.trans (Same.upd ng)) upd_same
/-! ### a kind drawn -/
/-- the tuple of a kind's name and size -/
def Told (K : PySem.W.Frag) (H : Hp) (t : Addr) (k : Nm) (n : Nat) : Prop := SqT K H t [.str k.s, .int (n : Int)]
def spKind : Sp := fun vs H Q _ => ∃ (g : Addr) (a b c : Int), vs = [.ref g] ∧ GenAt H g a b c ∧ (0 ≤ c ∧ c ≤ 900000) ∧
  ∀ (t : Addr) (k : Nm) (n : Nat) (a' c' : Int) (H' : Hp), okK k n = true → 0 ≤ c' → c' ≤ c + 6 → GenAt H' g a' b c' → SameX g H H' → H t = none → t ≠ g → H' t = some (.tup [.str k.s, .int (n : Int)]) → Q (.ref t) H'
def names3 : List V := [.str "plain", .str "mirror", .str "ring"]
theorem nm_of {r : Int} (h0 : 0 ≤ r) (h1 : r < 3) : ∃ k : Nm, atI names3 r = some (.str k.s) := by
  have : r = 0 ∨ r = 1 ∨ r = 2 := by omega
  rcases this with rfl | rfl | rfl
  · exact ⟨.pl, rfl⟩
  · exact ⟨.mi, rfl⟩
  · exact ⟨.ri, rfl⟩
def nmIx : Nm → Nat | .pl => 0 | .mi => 1 | .ri => 2
theorem nm_ix (k : Nm) : names3[nmIx k]? = some (.str k.s) := by cases k <;> rfl
theorem nm_first (k : Nm) : ∀ (m : Nat) (z : V), m < nmIx k → names3[m]? = some z → eqV z (.str k.s) = false := by
  intro m z hm hz
  cases k with
  | pl => cases hm
  | mi =>
    have e : m = 0 := by
      have : nmIx .mi = 1 := rfl
      omega
    subst e
    have ez : z = .str "plain" := (Option.some.inj hz).symm
    subst ez
    decide +kernel
  | ri =>
    have e : m = 0 ∨ m = 1 := by
      have : nmIx .ri = 2 := rfl
      omega
    rcases e with rfl | rfl
    · have ez : z = .str "plain" := (Option.some.inj hz).symm
      subst ez
      decide +kernel
    · have ez : z = .str "mirror" := (Option.some.inj hz).symm
      subst ez
      decide +kernel
theorem eqV_self (x : Str) : eqV (.str x) (.str x) = true := by
  show (x == x) = true
  exact beq_self_eq_true x
theorem size_of (k : Nm) {x1 x2 x3 : Int} (h1 : 1 ≤ x1 ∧ x1 ≤ 7) (h2 : 1 ≤ x2 ∧ x2 ≤ 5) (h3 : 2 ≤ x3 ∧ x3 ≤ 5) : ∃ n : Nat, ([.int x1, .int x2, .int x3] : List V)[nmIx k]? = some (.int (n : Int)) ∧ okK k n = true := by
  cases k with
  | pl =>
    refine ⟨x1.toNat, ?_, decide_eq_true (by omega)⟩
    rw [Int.toNat_of_nonneg (by omega)]
    rfl
  | mi =>
    refine ⟨x2.toNat, ?_, decide_eq_true (by omega)⟩
    rw [Int.toNat_of_nonneg (by omega)]
    rfl
  | ri =>
    refine ⟨x3.toNat, ?_, decide_eq_true (by omega)⟩
    rw [Int.toNat_of_nonneg (by omega)]
    rfl
theorem GenAt.upd {H : Hp} {g : Addr} {a b c : Int} (h : GenAt H g a b c) {p : Addr} {o : HO} (n : H p = none) : GenAt (L2.upd H p o) g a b c := by
  show L2.upd H p o g = _
  rw [upd_ne (ne_of_none h n)]
  exact h
end
end Sv

namespace Sv
open PySem PySem.Spec PyProof.Rows L2
section
variable {P : Program} {w : World} {K : PySem.W.Frag} {mg : Str → Option Value} {base : Heap} {f : Addr} {fd : FuncData}
theorem qI {Q : VK} {i j : Int} {H : Hp} (h : Q (.int j) H) (e : i = j) : Q (.int i) H := by
  subst e
  exact h
theorem qB {Q : VK} {i j : Bool} {H : Hp} (h : Q (.bl j) H) (e : i = j) : Q (.bl i) H := by
  subst e
  exact h
theorem is_mi {k : Nm} (h : decide (V.str k.s = V.str "mirror") = true) : k = .mi := by rw [s_mi] at h; exact of_decide_eq_true h
theorem not_mi {k : Nm} (h : ¬ decide (V.str k.s = V.str "mirror") = true) : k ≠ .mi := fun e => h (by rw [s_mi, e]; rfl)
theorem off_dec (k : Nm) : (if decide (V.str k.s = V.str "mirror") = true then (1 : Int) else 0) = off k := by
  rw [s_mi]
  cases k <;> rfl
theorem many_dec (k : Nm) (n : Nat) : (n : Int) - (if decide (V.str k.s = V.str "plain") = true then (1 : Int) else 0) = many k n := by
  rw [s_pl]
  cases k <;> rfl
theorem rg_start (k : Nm) (n : Nat) : rgV (off k) ((n : Int) + off k) = (startL k n).map V.int := by
  unfold rgV startL
  rw [List.map_map]
  have e : ((n : Int) + off k - off k).toNat = n := by omega
  rw [e]
  rfl
theorem map_getD {ws : List Int} {i : Nat} (h : i < ws.length) : (ws.map V.int)[i]? = some (.int (ws.getD i 0)) := by
  rw [List.getElem?_map, List.getD_eq_getElem?_getD, List.getElem?_eq_getElem h]
  rfl
theorem abs_eq (p : Int) : (if p < 0 then -p else p) = (p.natAbs : Int) := by split <;> omega
def spMany (K : PySem.W.Frag) : Sp := fun vs H Q _ => ∃ (t : Addr) (k : Nm) (n : Nat), vs = [.ref t] ∧ Told K H t k n ∧ Q (.int (many k n)) H
def spStart (K : PySem.W.Frag) : Sp := fun vs H Q _ => ∃ (t : Addr) (k : Nm) (n : Nat), vs = [.ref t] ∧ Told K H t k n ∧ n ≤ 100 ∧ ∀ q, H q = none → Q (.ref q) (L2.upd H q (.lst ((startL k n).map V.int)))
def spItem (K : PySem.W.Frag) : Sp := fun vs H Q _ => ∃ (t o : Addr) (p : Int) (k : Nm) (n : Nat) (ws : List Int), vs = [.ref t, .ref o, .int p] ∧ Told K H t k n ∧ SqL K H o (ws.map V.int) ∧ ws.length = n ∧ 1 ≤ n ∧ okP k n p ∧ Q (.int (item k n ws p)) H
def spTurned (K : PySem.W.Frag) : Sp := fun vs H Q _ => ∃ (t : Addr) (s p : Int) (k : Nm) (n : Nat), vs = [.ref t, .int s, .int p] ∧ Told K H t k n ∧ 1 ≤ n ∧ ∀ H', Same H H' → Q (.int (turned k n s p)) H'
def spStepped (K : PySem.W.Frag) : Sp := fun vs H Q _ => ∃ (t o : Addr) (s : Int) (k : Nm) (n : Nat) (ws : List Int), vs = [.ref t, .ref o, .int s] ∧ Told K H t k n ∧ SqL K H o (ws.map V.int) ∧ ws.length = n ∧ okK k n = true ∧ okS k n s ∧
  ∀ (q : Addr) (H' : Hp), Same H H' → H q = none → H' q = some (.lst ((stepped k n ws s).map V.int)) → Q (.ref q) H'
def spCrossed (K : PySem.W.Frag) : Sp := fun vs H Q _ => ∃ (t o : Addr) (s : Int) (k : Nm) (n : Nat) (ws : List Int), vs = [.ref t, .ref o, .int s] ∧ Told K H t k n ∧ SqL K H o (ws.map V.int) ∧ ws.length = n ∧ okK k n = true ∧ okS k n s ∧
  ∀ (H' : Hp), Same H H' → Q (.bl (crossed k n ws s)) H'
end
end Sv

namespace Sv
open PySem PySem.Spec PyProof.Rows L2
section
variable {P : Program} {w : World} {K : PySem.W.Frag} {mg : Str → Option Value} {base : Heap} {f : Addr} {fd : FuncData}
theorem many_nn {k : Nm} {n : Nat} (hK : okK k n = true) : 0 ≤ many k n ∧ many k n ≤ 7 := by
  have := okK_le hK
  unfold many
  split <;> omega
theorem Same.gen {H H' : Hp} {g : Addr} {a b c : Int} (s : L2.Same H H') (h : GenAt H g a b c) : GenAt H' g a b c := s _ _ h
def spRow (K : PySem.W.Frag) : Sp := fun vs H Q _ => ∃ (g t : Addr) (a b c : Int) (k : Nm) (n m : Nat), vs = [.ref g, .ref t, .int (m : Int)] ∧ GenAt H g a b c ∧ (0 ≤ c ∧ c ≤ 800000) ∧ Told K H t k n ∧ t ≠ g ∧ okK k n = true ∧ m ≤ 1000 ∧
  ∀ (q : Addr) (xs : List Int) (a' c' : Int) (H' : Hp), (∀ x ∈ xs, okS k n x) → xs.length ≤ m → 0 ≤ c' → c' ≤ c + 1 + m → GenAt H' g a' b c' → SameX g H H' → H q = none → q ≠ g → H' q = some (.lst (xs.map V.int)) → Q (.ref q) H'
def spGained (K : PySem.W.Frag) : Sp := fun vs H Q _ => ∃ (t o : Addr) (s : Int) (k : Nm) (n : Nat) (ws : List Int), vs = [.ref t, .ref o, .int s] ∧ Told K H t k n ∧ SqL K H o (ws.map V.int) ∧ ws.length = n ∧ okK k n = true ∧ okS k n s ∧
  ∀ (q : Addr) (H' : Hp), Same H H' → (q = o ∨ H q = none) → SqL K H' q ((gained k n ws s).map V.int) → Q (.ref q) H'
def spOrder (K : PySem.W.Frag) : Sp := fun vs H Q _ => ∃ (g t : Addr) (a b c : Int) (k : Nm) (n m : Nat), vs = [.ref g, .ref t, .int (m : Int)] ∧ GenAt H g a b c ∧ (0 ≤ c ∧ c ≤ 800000) ∧ Told K H t k n ∧ t ≠ g ∧ okK k n = true ∧ m ≤ 1000 ∧
  ∀ (q : Addr) (ws : List Int) (a' c' : Int) (H' : Hp), Good k n ws → 0 ≤ c' → c' ≤ c + 1 + m → GenAt H' g a' b c' → SameX g H H' → q ≠ g → SqL K H' q (ws.map V.int) → Q (.ref q) H'
/-! ### both ways by turns -/
def spWait (K : PySem.W.Frag) : Sp := fun vs H Q _ => ∃ (t o : Addr) (a b : Int) (k : Nm) (n : Nat) (ws : List Int), vs = [.ref t, .ref o, .int a, .int b] ∧ Told K H t k n ∧ SqL K H o (ws.map V.int) ∧ ws.length = n ∧ okK k n = true ∧ okS k n a ∧ okS k n b ∧
  ∀ (H' : Hp), Same H H' → Q (vOf (lw k n a b 12 1 ws ws)) H'
theorem ix_two (x y : Int) (i : Nat) : atI ([.int x, .int y] : List V) ((1 + (i : Int)) % 2) = some (.int (if (1 + i) % 2 = 1 then y else x)) := by
  by_cases h : (1 + i) % 2 = 1
  · rw [if_pos h, show (1 + (i : Int)) % 2 = ((1 : Nat) : Int) by omega]
    rfl
  · rw [if_neg h, show (1 + (i : Int)) % 2 = ((0 : Nat) : Int) by omega]
    rfl
theorem eqv_l (xs ys : List Int) : PyData.eqv (.list (xs.map PyData.int)) (.list (ys.map PyData.int)) = decide (xs = ys) := by
  rw [PyData.eqv]
  exact eqv_ints xs ys
theorem lw_hit {k : Nm} {n : Nat} {a b : Int} {f t : Nat} {xs ys : List Int} (h : stepped k n xs (if t % 2 = 1 then a else b) = stepped k n ys (if t % 2 = 1 then b else a)) : lw k n a b (f + 1) t xs ys = some t := by
  unfold lw
  rw [if_pos h]
theorem lw_miss {k : Nm} {n : Nat} {a b : Int} {f t : Nat} {xs ys : List Int} (h : ¬ stepped k n xs (if t % 2 = 1 then a else b) = stepped k n ys (if t % 2 = 1 then b else a)) :
    lw k n a b (f + 1) t xs ys = lw k n a b f (t + 1) (stepped k n xs (if t % 2 = 1 then a else b)) (stepped k n ys (if t % 2 = 1 then b else a)) := by
  show (if _ then _ else _) = _
  rw [if_neg h]
end
end Sv

namespace Sv
open PySem PySem.Spec PyProof.Rows L2
theorem iteP {c A B : Prop} [Decidable c] (h : c) (a : A) : if c then A else B := by
  rw [if_pos h]
  exact a
theorem iteN {c A B : Prop} [Decidable c] (h : ¬ c) (b : B) : if c then A else B := by
  rw [if_neg h]
  exact b
/-! ### what stands of the class Kind -/
theorem nms : ¬ (("_name" : Str) = "_size") := by decide +kernel
def flds (k : Nm) (n : Nat) : List (Str × V) := putF "_size" (.int (n : Int)) (putF "_name" (.str k.s) [])
theorem flds_eq (k : Nm) (n : Nat) : flds k n = ([("_name", V.str k.s), ("_size", V.int (n : Int))] : List (Str × V)) := by
  show (if ("_name" : Str) = "_size" then [(("_name" : Str), V.int (n : Int))] else (("_name" : Str), V.str k.s) :: putF "_size" (V.int (n : Int)) []) = ([("_name", V.str k.s), ("_size", V.int (n : Int))] : List (Str × V))
  rw [if_neg nms]
  all_goals rfl
theorem flds_name (k : Nm) (n : Nat) : (flds k n).lookup ("_name" : Str) = some (.str k.s) := by
  unfold flds
  rw [lookup_putF, if_neg nms, lookup_putF, if_pos rfl]
theorem flds_size (k : Nm) (n : Nat) : (flds k n).lookup ("_size" : Str) = some (.int (n : Int)) := by
  unfold flds
  rw [lookup_putF, if_pos rfl]
theorem flds_no (k : Nm) (n : Nat) {m : Str} (h1 : ¬ m = "_size") (h2 : ¬ m = "_name") : (flds k n).lookup m = none := by
  unfold flds
  rw [lookup_putF, if_neg h1, lookup_putF, if_neg h2]
  all_goals rfl
structure Tk (K : PySem.W.Frag) (w : World) (mg : Str → Option Value) (C D : Addr) : Prop extends Tx K mg where
  cl : Cls K C
  nN : NoAttr K C "_name"
  nS : NoAttr K C "_size"
  gC : mg "Kind" = some (.ref C)
  gD : mg "SIZES" = some (.ref D)
  ha : PySem.W.findIn K (.ref C) "__class__" = some (some (.builtin "object.__class__"))
  hn : PySem.W.specialIn K (.builtin "object.__class__") "__get__" = some (some (.builtin "getset_descriptor.__get__"))
  htk : PySem.W.takesIn K (.builtin "object.__class__") = some true
  hm : PySem.W.mroIn K C (.type "object") = some true
  me : PySem.W.kitOne K (.ref C) (.ref C) = some true
  nt : PySem.W.kitOne K (.type "tuple") (.ref C) = some false
  nf : PySem.W.notFirst K C (.type "tuple") = true
  kd : ∃ es n, KDict K w D es n
  gCb : mg "combinations" = some (.type "itertools.combinations")
  sz : ∀ k : Nm, ∃ (t : Addr) (lo hi : Int), PySem.W.nsIn K D k.s = some (some (.ref t)) ∧ (∀ H, SqT K H t [.int lo, .int hi]) ∧ ∀ n : Nat, okK k n = true → lo ≤ (n : Int) ∧ (n : Int) ≤ hi
/-- a Kind stands at p -/
def KAt (C : Addr) (H : Hp) (p : Addr) (k : Nm) (n : Nat) : Prop := ∃ dx, H p = some (.ins C dx (flds k n))
section
variable {P : Program} {w : World} {K : PySem.W.Frag} {mg : Str → Option Value} {base : Heap} {f C D : Addr} {fd : FuncData}
def spIsWhole : Sp := fun vs H Q _ => ∃ i : Int, vs = [.int i] ∧ Q (.bl true) H
theorem ok_is_whole (T : Tk K w mg C D) (F : FnP K "is_whole" "is_whole" s_is_whole f fd) : FnOk P w K mg base CX0 1 f fd ["value"] spIsWhole := by
  refine okN F sc_is_whole (fun vs H Q E h => ?_) (fun cdv A outer s H vs Q E hr h => ?_)
  · obtain ⟨i, rfl, _⟩ := h
    rfl
  · obtain ⟨i, rfl, q⟩ := h
    refine ⟨_, (pss_one (ps_ret (pe_and (pe_callB call_isi (by rfl) T.m_isinstance (by decide +kernel) (pa_cons (pv 0) (pa_cons (pe_bltn (v := .ty "int") (by rfl) T.m_int (by decide +kernel) rfl) pa_nil))) (pe_one (pe_not (pe_callB call_isi (by rfl) T.m_isinstance (by decide +kernel) (pa_cons (pv 0) (pa_cons (pe_bltn (v := .ty "bool") (by rfl) T.m_bool (by decide +kernel) rfl) pa_nil)))))))), ?_⟩
    refine ⟨_, rfl, .int i, .ty "int", .type "int", .type "int", true, rfl, .ty _, .base (.int i), kit_ty (by decide +kernel), true, rfl, ?_⟩
    refine ⟨_, rfl, .int i, .ty "bool", .type "int", .type "bool", false, rfl, .ty _, .base (.int i), kit_ty (by decide +kernel), false, rfl, q⟩
def spInit (C : Addr) : Sp := fun vs H Q _ => ∃ (p dx : Addr) (k : Nm) (n : Nat), vs = [.ref p, .str k.s, .int (n : Int)] ∧ okK k n = true ∧ H p = some (.ins C dx []) ∧
  ∀ H' : Hp, H' p = some (.ins C dx (flds k n)) → (∀ b o, H b = some o → b ≠ p → H' b = some o) → Q .non H'
theorem ok_init (T : Tk K w mg C D) (F : FnP K "__init__" "Kind.__init__" s_Kind___init__ f fd) (c_is_whole : Gd P w K mg base "is_whole" ["value"] 1 spIsWhole) : FnOk P w K mg base CX0 2 f fd ["self", "name", "size"] (spInit C) := by
  refine okN F sc_Kind___init__ (fun vs H Q E h => ?_) (fun cdv A outer s H vs Q E hr h => ?_)
  · obtain ⟨p, dx, k, n, rfl, _⟩ := h
    rfl
  · obtain ⟨p, dx, k, n, rfl, hK, hp, q⟩ := h
    obtain ⟨es, nn, kd⟩ := T.kd
    obtain ⟨t, lo, hi, hns, hsq, hb⟩ := T.sz k
    obtain ⟨b1, b2⟩ := hb n hK
    refine ⟨_, (pss_cons (ps_if (pt_not (PW.pt (pw_and (pt_val (pe_callB call_isi (by rfl) T.m_isinstance (by decide +kernel) (pa_cons (pv 1) (pa_cons (pe_bltn (v := .ty "str") (by rfl) T.m_str (by decide +kernel) rfl) pa_nil)))) (pw_and1 (pt_cmpR (op_in_kd kd) (pv 1) (pe_glob (v := .ref D) (by rfl) T.gD rfl) (by rfl)))))) (pss_one ps_never) pss_nil)
      (pss_cons (ps_asg (pe_ix ix_kdict (pe_glob (v := .ref D) (by rfl) T.gD rfl) (pv 1) (fun _ _ => rfl)) (pg_tup rfl (pgs_cons (pg_name (i := 3) sc_Kind___init__.nd rfl (Or.inl rfl)) (pgs_cons (pg_name (i := 4) sc_Kind___init__.nd rfl (Or.inl rfl)) pgs_nil))))
      (pss_cons (ps_if (pt_not (PW.pt (pw_and (pt_val (pe_callG c_is_whole (hr.mono (by decide)) (by rfl) (pa_cons (pv 2) pa_nil))) (pw_and1 (pt_chain op_le op_le (pv 3) (pv 2) (pv 4)))))) (pss_one ps_never) pss_nil)
      (pss_cons (ps_fld (pv 0) (pv 1) (by rfl))
      (pss_one (ps_fld (pv 0) (pv 2) (by rfl))))))), ?_⟩
    refine ⟨_, rfl, .str k.s, .ty "str", .type "str", .type "str", true, rfl, .ty _, .base (.str _), kit_ty (by decide +kernel), true, rfl, ?_⟩
    refine ⟨_, rfl, k.s, some (.ref t), rfl, rfl, hns, true, rfl, ?_⟩
    refine ⟨_, rfl, D, k.s, .ref t, rfl, rfl, ⟨es, nn, _, kd.at_, kd.lit, hns, rfl⟩, t, _, rfl, hsq H, rfl, _, _, rfl, _, _, rfl, rfl, ?_⟩
    refine ⟨_, rfl, _, rfl, true, rfl, ?_⟩
    refine ⟨_, rfl, _, rfl, _, _, rfl, rfl, _, rfl, ?_⟩
    refine iteP (decide_eq_true b1) ?_
    refine ⟨_, rfl, _, _, rfl, rfl, _, rfl, ?_⟩
    refine iteN ?_ ?_
    · rw [decide_eq_true b2]
      decide
    refine ⟨_, rfl, _, rfl, p, C, dx, [], rfl, hp, T.cl, T.nN, (by show 0 < 1000; decide), _, rfl, _, rfl, p, C, dx, _, rfl, upd_same, T.cl, T.nS, (by show 1 < 1000; decide), ?_⟩
    refine q _ upd_same fun b o e hb => ?_
    rw [upd_ne hb, upd_ne hb]
    exact e
def spName (C : Addr) : Sp := fun vs H Q _ => ∃ (p : Addr) (k : Nm) (n : Nat), vs = [.ref p] ∧ KAt C H p k n ∧ Q (.str k.s) H
theorem ok_name (T : Tk K w mg C D) (F : FnP K "name" "Kind.name" s_Kind_name f fd) : FnOk P w K mg base CX0 1 f fd ["self"] (spName C) := by
  refine okN F sc_Kind_name (fun vs H Q E h => ?_) (fun cdv A outer s H vs Q E hr h => ?_)
  · obtain ⟨p, k, n, rfl, _⟩ := h
    rfl
  · obtain ⟨p, k, n, rfl, ⟨dx, hp⟩, q⟩ := h
    refine ⟨_, (pss_one (ps_ret (pe_fld (pv 0) (by rfl)))), ?_⟩
    exact ⟨_, rfl, p, C, dx, _, _, rfl, hp, T.cl, T.nN, flds_name k n, q⟩
def spSize (C : Addr) : Sp := fun vs H Q _ => ∃ (p : Addr) (k : Nm) (n : Nat), vs = [.ref p] ∧ KAt C H p k n ∧ Q (.int (n : Int)) H
theorem ok_size (T : Tk K w mg C D) (F : FnP K "size" "Kind.size" s_Kind_size f fd) : FnOk P w K mg base CX0 1 f fd ["self"] (spSize C) := by
  refine okN F sc_Kind_size (fun vs H Q E h => ?_) (fun cdv A outer s H vs Q E hr h => ?_)
  · obtain ⟨p, k, n, rfl, _⟩ := h
    rfl
  · obtain ⟨p, k, n, rfl, ⟨dx, hp⟩, q⟩ := h
    refine ⟨_, (pss_one (ps_ret (pe_fld (pv 0) (by rfl)))), ?_⟩
    exact ⟨_, rfl, p, C, dx, _, _, rfl, hp, T.cl, T.nS, flds_size k n, q⟩
def spSteps (C : Addr) : Sp := fun vs H Q _ => ∃ (p : Addr) (k : Nm) (n : Nat), vs = [.ref p] ∧ KAt C H p k n ∧ Q (.int (many k n)) H
theorem ok_steps (T : Tk K w mg C D) (F : FnP K "steps" "Kind.steps" s_Kind_steps f fd) : FnOk P w K mg base CX0 1 f fd ["self"] (spSteps C) := by
  refine okN F sc_Kind_steps (fun vs H Q E h => ?_) (fun cdv A outer s H vs Q E hr h => ?_)
  · obtain ⟨p, k, n, rfl, _⟩ := h
    rfl
  · obtain ⟨p, k, n, rfl, ⟨dx, hp⟩, q⟩ := h
    refine ⟨_, (pss_cons (ps_if (pt_cmpR op_eq (pe_fld (pv 0) (by rfl)) pe_str (nomark _)) (pss_one (ps_ret (pe_op op_sub (pe_fld (pv 0) (by rfl)) pe_int))) pss_nil)
      (pss_one (ps_ret (pe_fld (pv 0) (by rfl))))), ?_⟩
    refine ⟨_, rfl, p, C, dx, _, _, rfl, hp, T.cl, T.nN, flds_name k n, rfl, _, rfl, ite2 (fun hk => ?_) (fun hk => ?_)⟩
    · rw [s_pl] at hk
      refine ⟨_, rfl, p, C, dx, _, _, rfl, hp, T.cl, T.nS, flds_size k n, _, _, rfl, rfl, qI q ?_⟩
      unfold many
      rw [if_pos (of_decide_eq_true hk)]
    · rw [s_pl] at hk
      refine ⟨_, rfl, p, C, dx, _, _, rfl, hp, T.cl, T.nS, flds_size k n, qI q ?_⟩
      unfold many
      rw [if_neg (fun e => hk (decide_eq_true e))]
      omega
def spStartM (C : Addr) : Sp := fun vs H Q _ => ∃ (p : Addr) (k : Nm) (n : Nat), vs = [.ref p] ∧ KAt C H p k n ∧ n ≤ 100 ∧ ∀ q, H q = none → Q (.ref q) (L2.upd H q (.lst ((startL k n).map V.int)))
theorem rg_start0 {k : Nm} (hk : k ≠ .mi) (n : Nat) : rgV 0 (n : Int) = (startL k n).map V.int := by
  have h := rg_start k n
  have e0 : off k = 0 := if_neg hk
  rw [e0, Int.add_zero] at h
  exact h
theorem ok_startM (T : Tk K w mg C D) (F : FnP K "start" "Kind.start" s_Kind_start f fd) : FnOk P w K mg base CX0 1 f fd ["self"] (spStartM C) := by
  refine okN F sc_Kind_start (fun vs H Q E h => ?_) (fun cdv A outer s H vs Q E hr h => ?_)
  · obtain ⟨p, k, n, rfl, _⟩ := h
    rfl
  · obtain ⟨p, k, n, rfl, ⟨dx, hp⟩, hn, q⟩ := h
    refine ⟨_, (pss_cons (ps_if (pt_cmpR op_eq (pe_fld (pv 0) (by rfl)) pe_str (nomark _)) (pss_one (ps_ret (pe_listRg rfl (by rfl) T.m_list (prg_2 (by rfl) T.m_range pe_int (pe_op op_add (pe_fld (pv 0) (by rfl)) pe_int))))) pss_nil)
      (pss_one (ps_ret (pe_listRg rfl (by rfl) T.m_list (prg_1 (by rfl) T.m_range (pe_fld (pv 0) (by rfl))))))), ?_⟩
    refine ⟨_, rfl, p, C, dx, _, _, rfl, hp, T.cl, T.nN, flds_name k n, rfl, _, rfl, ite2 (fun hk => ?_) (fun hk => ?_)⟩
    · have ek := is_mi hk
      subst ek
      refine ⟨_, rfl, p, C, dx, _, _, rfl, hp, T.cl, T.nS, flds_size _ n, _, _, rfl, rfl, _, _, rfl, rfl, RgOk.of_le (by decide) (by omega) (by decide) (by omega), fun l nl => ?_⟩
      have e := rg_start .mi n
      rw [show off .mi = 1 from rfl] at e
      rw [e]
      exact q l nl
    · have ek := not_mi hk
      refine ⟨_, rfl, p, C, dx, _, _, rfl, hp, T.cl, T.nS, flds_size _ n, _, rfl, RgOk.of_le (by decide) (by omega) (by decide) (by omega), fun l nl => ?_⟩
      rw [rg_start0 ek]
      exact q l nl
def spEqK (C : Addr) : Sp := fun vs H Q _ => ∃ (p o : Addr) (k : Nm) (n : Nat), vs = [.ref p, .ref o] ∧ KAt C H p k n ∧
  ((∃ (j : Nm) (m : Nat), KAt C H o j m ∧ Q (.bl (decide (k = j ∧ n = m))) H) ∨ ((∃ ys, H o = some (.tup ys)) ∧ Q (.bl false) H))
theorem ok_eqK (T : Tk K w mg C D) (F : FnP K "__eq__" "Kind.__eq__" s_Kind___eq__ f fd) : FnOk P w K mg base CX0 1 f fd ["self", "other"] (spEqK C) := by
  refine okN F sc_Kind___eq__ (fun vs H Q E h => ?_) (fun cdv A outer s H vs Q E hr h => ?_)
  · obtain ⟨p, o, k, n, rfl, _⟩ := h
    rfl
  · obtain ⟨p, o, k, n, rfl, ⟨dx, hp⟩, h⟩ := h
    refine ⟨_, (pss_one (ps_ret (pe_and (pe_callB call_isi (by rfl) T.m_isinstance (by decide +kernel) (pa_cons (pv 1) (pa_cons (pe_glob (v := .ref C) (by rfl) T.gC rfl) pa_nil))) (pe_and (pe_cmpR op_eq (pe_fld (pv 0) (by rfl)) (pe_fld (pv 1) (by rfl)) (nomark _)) (pe_one (pe_cmpR op_eq (pe_fld (pv 0) (by rfl)) (pe_fld (pv 1) (by rfl)) (nomark _))))))), ?_⟩
    rcases h with ⟨j, m, ⟨dy, ho⟩, q⟩ | ⟨⟨ys, ho⟩, q⟩
    · refine ⟨_, rfl, .ref o, .ref C, .ref C, .ref C, true, rfl, .own C, .base (.ins ho T.cl T.ha T.hn T.htk T.hm), T.me, true, rfl, ?_⟩
      refine ⟨_, rfl, p, C, dx, _, _, rfl, hp, T.cl, T.nN, flds_name k n, _, rfl, o, C, dy, _, _, rfl, ho, T.cl, T.nN, flds_name j m, rfl, _, rfl, ite2 (fun hk => ?_) (fun hk => ?_)⟩
      · have ek : k = j := s_inj.mp (V.str.inj (of_decide_eq_true hk))
        refine ⟨_, rfl, p, C, dx, _, _, rfl, hp, T.cl, T.nS, flds_size k n, _, rfl, o, C, dy, _, _, rfl, ho, T.cl, T.nS, flds_size j m, rfl, qB q ?_⟩
        rw [Bool.eq_iff_iff]
        simp [ek]
        omega
      · have ek : ¬ k = j := fun e => hk (by rw [e]; exact decide_eq_true rfl)
        exact qB q (decide_eq_false (fun e => ek e.1)).symm
    · exact ⟨_, rfl, .ref o, .ref C, .type "tuple", .ref C, false, rfl, .own C, .base (.tup ho), T.nt, false, rfl, q⟩
def spCk (C : Addr) : Sp := fun vs H Q _ => ∃ (p : Addr) (k : Nm) (n : Nat), vs = [.ref p] ∧ KAt C H p k n ∧ Q .non H
theorem ok_check_kind (T : Tk K w mg C D) (F : FnP K "check_kind" "check_kind" s_check_kind f fd) : FnOk P w K mg base CX0 1 f fd ["kind"] (spCk C) := by
  refine okN F sc_check_kind (fun vs H Q E h => ?_) (fun cdv A outer s H vs Q E hr h => ?_)
  · obtain ⟨p, k, n, rfl, _⟩ := h
    rfl
  · obtain ⟨p, k, n, rfl, ⟨dx, hp⟩, q⟩ := h
    refine ⟨_, (pss_one (ps_if (pt_not (pt_val (pe_callB call_isi (by rfl) T.m_isinstance (by decide +kernel) (pa_cons (pv 0) (pa_cons (pe_glob (v := .ref C) (by rfl) T.gC rfl) pa_nil))))) (pss_one ps_never) pss_nil)), ?_⟩
    exact ⟨_, rfl, .ref p, .ref C, .ref C, .ref C, true, rfl, .own C, .base (.ins hp T.cl T.ha T.hn T.htk T.hm), T.me, true, rfl, q⟩
def spIsStep (C : Addr) : Sp := fun vs H Q _ => ∃ (p : Addr) (k : Nm) (n : Nat) (i : Int), vs = [.ref p, .int i] ∧ KAt C H p k n ∧ okS k n i ∧ Q (.bl true) H
def spCkS (C : Addr) : Sp := fun vs H Q _ => ∃ (p : Addr) (k : Nm) (n : Nat) (i : Int), vs = [.ref p, .int i] ∧ KAt C H p k n ∧ okS k n i ∧ Q .non H
def spWaitOf (C : Addr) : Sp := fun vs H Q _ => ∃ (p : Addr) (k : Nm) (n : Nat) (a b : Int), vs = [.ref p, .int a, .int b] ∧ KAt C H p k n ∧ Q (vOf (waitN k n a b)) H
def spWaitP (C : Addr) : Sp := fun vs H Q _ => ∃ (p : Addr) (k : Nm) (n : Nat) (a b : Int), vs = [.ref p, .int a, .int b] ∧ KAt C H p k n ∧ okS k n a ∧ okS k n b ∧ a ≠ b ∧ Q (vOf (waitN k n a b)) H
end
end Sv

/-! What the program's own functions of orders compute, as plain functions of lists, by the verifier. -/
namespace Sv
open PySem L2
def exch (k : Nm) (n : Nat) (w : List Int) (s : Nat) : Int × Int :=
  if k = .pl then (w.getD s 0, w.getD (s + 1) 0)
  else if k = .ri then (if s + 1 = n then (w.getD s 0, w.getD 0 0 + (n : Int)) else (w.getD s 0, w.getD (s + 1) 0))
  else if s = 0 then (-(w.getD 0 0), w.getD 0 0) else (w.getD (s - 1) 0, w.getD s 0)
def crossP (k : Nm) (n : Nat) (w : List Int) (s : Nat) : Bool := decide ((exch k n w s).2 < (exch k n w s).1)
def after (k : Nm) (n : Nat) (w : List Int) (s : Nat) : List Int :=
  if k = .pl then (w.set s (exch k n w s).2).set (s + 1) (exch k n w s).1
  else if k = .ri ∧ s + 1 = n then (w.set s (exch k n w s).2).set 0 ((exch k n w s).1 - (n : Int))
  else if k = .ri then (w.set s (exch k n w s).2).set (s + 1) (exch k n w s).1
  else if s = 0 then w.set 0 (exch k n w s).1
  else (w.set (s - 1) (exch k n w s).2).set s (exch k n w s).1
def fallsP (k : Nm) (n : Nat) (w : List Int) : List Int := ((List.range (many k n).toNat).filter (crossP k n w)).map fun (s : Nat) => (s : Int)
def itemP (k : Nm) (n : Nat) (w : List Int) (p : Int) : Int :=
  if k = .mi then (if 0 < p then w.getD (p - 1).toNat 0 else -(w.getD (-p - 1).toNat 0)) else w.getD (p % (n : Int)).toNat 0 + p - p % (n : Int)
def prodP (k : Nm) (n : Nat) (w u : List Int) : List Int := u.map (itemP k n w)
def invPos (k : Nm) (n : Nat) (x : Int) : Nat := if k = .mi then x.natAbs - 1 else (x % (n : Int)).toNat
def invVal (k : Nm) (n : Nat) (i : Nat) (x : Int) : Int := if k = .mi then (if 0 < x then (i : Int) + 1 else -(i : Int) - 1) else (i : Int) - x + x % (n : Int)
def invUpTo (k : Nm) (n : Nat) (w : List Int) : Nat → List Int
  | 0 => startL k n
  | i + 1 => (invUpTo k n w i).set (invPos k n (w.getD i 0)) (invVal k n i (w.getD i 0))
def invP (k : Nm) (n : Nat) (w : List Int) : List Int := invUpTo k n w w.length
def rowPairs (w : List Int) (b : Nat) : List (Int × Int) := (List.range b).map fun a => (w.getD a 0, w.getD b 0)
def pairsTo (w : List Int) : Nat → List (Int × Int)
  | 0 => []
  | b + 1 => pairsTo w b ++ rowPairs w b
def pairsL (w : List Int) : List (Int × Int) := pairsTo w w.length
def absI (x : Int) : Int := if x < 0 then -x else x
def crP (k : Nm) (n : Nat) (w : List Int) : Int :=
  if k = .ri then ((pairsL w).map fun q => absI ((q.2 - q.1) / (n : Int))).sum
  else if k = .mi then (((pairsL w).filter fun q => decide (q.2 < q.1)).length : Int) + ((w.filter fun x => decide (x < 0)).length : Int) + (((pairsL w).filter fun q => decide (q.1 + q.2 < 0)).length : Int)
  else (((pairsL w).filter fun q => decide (q.2 < q.1)).length : Int)
/-- the form of an order, as sorted lists see it -/
def Form (k : Nm) (n : Nat) (w : List Int) : Prop := w.length = n ∧ match k with
  | .pl => w.Perm (startL .pl n)
  | .mi => (w.map absI).Perm (startL .mi n)
  | .ri => w.sum = (n : Int) * ((n : Int) - 1) / 2 ∧ (w.map fun x => x % (n : Int)).Perm (startL .ri n)
theorem startL_sorted (k : Nm) (n : Nat) : (startL k n).Pairwise (· ≤ ·) := by
  unfold startL
  rw [List.pairwise_map]
  refine List.Pairwise.imp ?_ (List.pairwise_lt_range (n := n))
  intro a b h
  omega
theorem sorted_start {k : Nm} {n : Nat} {xs ys : List Int} (h : ys.Perm xs) (hs : ys.Pairwise (· ≤ ·)) (hx : xs.Perm (startL k n)) : ys = startL k n :=
  List.Perm.eq_of_pairwise (fun _ _ _ _ a b => Int.le_antisymm a b) hs (startL_sorted k n) (h.trans hx)
end Sv

namespace Sv
open PySem PySem.Spec PyProof.Rows L2
/-! itertools.combinations of a list by two -/
namespace Cm
theorem slotI : Slot "itertools.combinations" "__iter__" "itertools.combinations.__iter__" := .of (owner := "itertools.combinations") (n := "__iter__") (by rw [typeLookup_type, builtinLookup_eq_fast]; kernel_rfl) (by decide +kernel) (by decide +kernel) (by decide +kernel) (by first | exact .inl (by decide +kernel) | exact .inr (by decide +kernel)) (by rw [isSubtype_type]; kernel_rfl)
theorem slotN : Slot "itertools.combinations" "__next__" "itertools.combinations.__next__" := .of (owner := "itertools.combinations") (n := "__next__") (by rw [typeLookup_type, builtinLookup_eq_fast]; kernel_rfl) (by decide +kernel) (by decide +kernel) (by decide +kernel) (by first | exact .inl (by decide +kernel) | exact .inr (by decide +kernel)) (by rw [isSubtype_type]; kernel_rfl)
theorem slotInit : Slot "itertools.combinations" "__init__" "object.__init__" := .of (owner := "object") (n := "__init__") (by rw [typeLookup_type, builtinLookup_eq_fast]; kernel_rfl) (by decide +kernel) (by decide +kernel) (by decide +kernel) (by first | exact .inl (by decide +kernel) | exact .inr (by decide +kernel)) (by rw [isSubtype_type]; kernel_rfl)
theorem entI : entryFor table "itertools.combinations.__iter__" = some Builtin.«dict_keyiterator.__iter__» := entryFor_alias (id' := "dict_keyiterator.__iter__") (by kernel_rfl) (by first | rfl | decide +kernel | (unfold String.splitOn; simp +decide [String.splitOnAux])) (by decide +kernel) (by kernel_rfl)
theorem entN : entryFor table "itertools.combinations.__next__" = some Builtin.«itertools.combinations.__next__» := entryFor_of_tree (by kernel_rfl)
theorem entW : entryFor table "itertools.combinations.__new__" = some Builtin.«itertools.combinations.__new__» := entryFor_of_tree (by kernel_rfl)
theorem mro : mroOf (.type "itertools.combinations") = pure [.type "itertools.combinations", .type "object"] := by
  rw [mroOf_type]
  kernel_rfl
theorem lookNew : typeLookup (.type "itertools.combinations") "__new__" = pure (some (.builtin "itertools.combinations.__new__")) := by
  rw [typeLookup_type, builtinLookup_eq_fast]
  kernel_rfl
theorem called : TypeCalled "itertools.combinations" "itertools.combinations.__new__" "object.__init__" := ⟨by decide +kernel, by decide +kernel, ⟨_, _, mro⟩, madeBy_type mro lookNew (by decide +kernel), by decide +kernel, by rw [isSubtype_type]; kernel_rfl, slotInit⟩
theorem tCall (a b : Value) : checkTypeCall "itertools.combinations" ⟨[a, b], []⟩ = pure () := by kernel_rfl
theorem nCall (a b : Value) : checkBuiltinCall "itertools.combinations.__new__" ⟨[.type "itertools.combinations", a, b], []⟩ = pure () := by kernel_rfl
theorem sub : isSubtype (.type "itertools.combinations") (.type "itertools.combinations") = pure true := by
  rw [isSubtype_type]
  kernel_rfl
theorem argsI (a : Value) : argsOk "itertools.combinations.__iter__" ⟨[a], []⟩ := by
  unfold argsOk
  kernel_rfl
theorem argsN (a : Value) : argsOk "itertools.combinations.__next__" ⟨[a], []⟩ := by
  unfold argsOk
  kernel_rfl
/-- the iterator: the pool at pt, a flag, what was handed out last, the two places -/
def IsC (h : Heap) (c pt : Addr) (fl : Int) (old : Value) (a b : Nat) : Prop :=
  h.get? c = some { cls := .type "itertools.combinations", data := .fields #[.ref pt, rawInt fl, old, rawInt a, rawInt b] }
open AutoSeq1 (wpAny_loadPart')
theorem bindEq (x y : Value) : Builtin.Itertools.itBindNamed "combinations" ["iterable", "r"] 2 2 [x, y] [] = pure [some x, some y] := by kernel_rfl
set_option maxHeartbeats 1000000 in
theorem meetsNew (l : Addr) (o : Obj) (items : Array Value) (n : Nat) (t : Tok) (hc : o.cls = .type "list") (hd : o.data = .seq items n) (hsz : items.size ≤ sizeLine := by size_fits) :
    Meets (Builtin.«itertools.combinations.__new__» ⟨[.type "itertools.combinations", .ref l, .int 2 t], []⟩) fun _ R s => s.heap.get? l = some o ∧
      ∀ h' : Heap, (∀ b o', s.heap.get? b = some o' → h'.get? b = some o') → R (.ok (.ret (.ref (h'.push { cls := .type "tuple", data := .seq items }).objs.size)))
        { s with heap := (h'.push { cls := .type "tuple", data := .seq items }).push { cls := .type "itertools.combinations", data := .fields #[.ref h'.objs.size, rawInt (if 2 > items.size then 2 else 0), .none, rawInt 0, rawInt 1] } } :=
  .of_wp fun prog w A R s h => by
    obtain ⟨hp, g, d, tk, os⟩ := s
    obtain ⟨ht, h⟩ := h
    have hsub : isSubtype (Value.type "itertools.combinations") (Value.type ("itertools." ++ "combinations")) = pure true := sub
    have hbd := bindEq (.ref l) (.int 2 t)
    have hT : Shared.TypeIs ⟨hp, g, d, tk, os⟩ (.ref l) "list" := ⟨o, ht, hc⟩
    wp_walk using wpAny_loadPart' ht, wpAny_typeOf hT, wpAny_collect_seq (hsz := hsz) l (.inl rfl) ht hc hd
    intro h' hk
    have ea : items.toList.toArray = items := by simp
    have hnt : ∀ (Q : Value → Shared → Prop) (E : Value → Shared → Prop) (s : Shared), Q (.ref s.heap.objs.size) { s with heap := s.heap.push { cls := .type "tuple", data := .seq items } } → wpAny (model prog w) A.in1 (newTuple items.toList) Q E s := fun Q E s q => by
      show wpAny _ _ (newObj (.type "tuple") (.seq items.toList.toArray)) _ _ _
      rw [ea]
      exact wpAny_newObj_type q hsz
    have hnr : ∀ (p : Value) (k : Nat) (Q : Value → Shared → Prop) (E : Value → Shared → Prop) (s : Shared), Q (.ref s.heap.objs.size) { s with heap := s.heap.push { cls := .type "itertools.combinations", data := .fields #[p, rawInt (if 2 > k then 2 else 0), .none, rawInt 0, rawInt 1] } } →
        wpAny (model prog w) A.in1 (Builtin.Itertools.itNewRecord (.type "itertools.combinations") ([p, rawInt (if Int.toNat 2 > k then 2 else 0), Value.none] ++ List.map (fun i => rawInt ((i : Nat) : Int)) (List.range (Int.toNat 2)))) Q E s := fun p k Q E s q => by
      have ed : typeHasDict (.type "itertools.combinations") = false := by kernel_rfl
      unfold Builtin.Itertools.itNewRecord
      rw [ed]
      exact wpAny_newObj_type q (by show 5 ≤ sizeLine + 2; decide)
    wp_walk using hnt, hnr
    exact ⟨_, rfl, h h' hk⟩
section
variable {prog : Program} {w : World} {A : Around} {E : Value → Shared → Prop} {s : Shared}
theorem callC {l : Addr} {items : Array Value} {t : Tok} {Q : Value → Shared → Prop} (hl : s.heap.IsList l items)
    (h : ∀ h' : Heap, (∀ b o', s.heap.get? b = some o' → h'.get? b = some o') →
      Q (.ref (h'.push { cls := .type "tuple", data := .seq items }).objs.size) { s with heap := (h'.push { cls := .type "tuple", data := .seq items }).push { cls := .type "itertools.combinations", data := .fields #[.ref h'.objs.size, rawInt (if 2 > items.size then 2 else 0), .none, rawInt 0, rawInt 1] } })
    (hsz : items.size ≤ sizeLine := by size_fits) : wpAny (model prog w) A (call (.type "itertools.combinations") [.ref l, .int 2 t]) Q E s := by
  obtain ⟨o, ho, hc, n, hd⟩ := hl
  exact callType_new called (by decide) (tCall _ _) (nCall _ _) (fun obj => F.args_object_init_3 obj _ _) entW (meetsNew l o items n t hc hd hsz) ⟨ho, fun h' hk => ⟨⟨_, Heap.get?_push_size _ rfl, rfl⟩, h h' hk⟩⟩
theorem iterC {c pt : Addr} {fl : Int} {old : Value} {a b : Nat} {Q : Value → Shared → Prop} (hc : IsC s.heap c pt fl old a b) (h : Q (.ref c) s) : wpAny (model prog w) A (pyIter (.ref c)) Q E s := by
  have hT : s.TypeIs (.ref c) "itertools.combinations" := ⟨_, hc, rfl⟩
  refine wpAny_pyIter_slot hT slotI (wpAny_call_entry slotI hT entI ?_ (argsI _))
  show wpAny _ _ (ret (.ref c)) _ _ s
  exact wpAny_pure ⟨_, rfl, "itertools.combinations", _, hT, slotN.lookup, h⟩
set_option maxHeartbeats 1000000 in
theorem nextFirst {c pt : Addr} {old : Value} {a b n : Nat} {items : Array Value} {Q : Option Value → Shared → Prop} (hc : IsC s.heap c pt 0 old a b) (hp : s.heap.get? pt = some { cls := .type "tuple", data := .seq items n }) (hne : c ≠ pt)
    (hQ : ∀ h', IsC h' c pt 1 (.ref s.heap.objs.size) a b → h'.get? s.heap.objs.size = some { cls := .type "tuple", data := .seq #[items.getD a .none, items.getD b .none] } → (∀ q o, q ≠ c → s.heap.get? q = some o → h'.get? q = some o) → Q (some (.ref s.heap.objs.size)) { s with heap := h' }) :
    wpAny (model prog w) A (pyNext (.ref c)) Q E s := by
  have hT : s.TypeIs (.ref c) "itertools.combinations" := ⟨_, hc, rfl⟩
  unfold pyNext
  refine wpAny_bind (wpAny_attempt (wpAny_callSpecial?_slot (name := Str.ofString "__next__") hT slotN (wpAny_call_entry slotN hT entN ?_ (argsN _))))
  obtain ⟨hp', g, d, tk, os⟩ := s
  replace hc : hp'.get? c = some { cls := .type "itertools.combinations", data := .fields #[.ref pt, rawInt 0, old, rawInt a, rawInt b] } := hc
  replace hp : hp'.get? pt = some { cls := .type "tuple", data := .seq items n } := hp
  wp_walk
  have e0 : (hp'.update c (Obj.mapFields fun x => x.setIfInBounds 1 (rawInt 1))).objs.size = hp'.objs.size := Heap.size_after_update ..
  rw [e0]
  refine ⟨_, rfl, wpAny_pure (hQ _ ?_ ?_ fun q o hq e => ?_)⟩
  · have q1 := Heap.get?_update_self (Obj.mapFields fun x => x.setIfInBounds 1 (rawInt 1)) hc rfl
    have q2 := Heap.get?_push_of_some { cls := .type "tuple", data := .seq #[items.getD a .none, items.getD b .none] } q1
    exact Heap.get?_update_self (Obj.mapFields fun x => x.setIfInBounds 2 (Value.ref hp'.objs.size)) q2 rfl
  · refine (Heap.get?_update_other _ _ (Nat.ne_of_lt (Heap.lt_size hc))).trans ?_
    rw [← e0]
    exact Heap.get?_push_size _ rfl
  · refine (Heap.get?_update_other _ _ (Ne.symm hq)).trans (Heap.get?_push_of_some _ ?_)
    exact (Heap.get?_update_other _ _ (Ne.symm hq)).trans e
theorem findMid {b n : Nat} (a : Nat) (h : b + 1 < n) : ((List.range [a, b].length).reverse.find? fun i => [a, b].getD i 0 != i + n - [a, b].length) = some 1 := by
  have e : (b != 1 + n - 2) = true := by simp; omega
  show (([1, 0] : List Nat).find? fun i => [a, b].getD i 0 != i + n - 2) = some 1
  rw [List.find?_cons, show ([a, b].getD 1 0 != 1 + n - 2) = true from e]
theorem findLow {a b n : Nat} (h : b + 1 = n) (h2 : a + 2 < n) : ((List.range [a, b].length).reverse.find? fun i => [a, b].getD i 0 != i + n - [a, b].length) = some 0 := by
  have e : (b != 1 + n - 2) = false := by simp; omega
  have e2 : (a != 0 + n - 2) = true := by simp; omega
  show (([1, 0] : List Nat).find? fun i => [a, b].getD i 0 != i + n - 2) = some 0
  rw [List.find?_cons, show ([a, b].getD 1 0 != 1 + n - 2) = false from e, List.find?_cons, show ([a, b].getD 0 0 != 0 + n - 2) = true from e2]
theorem findNone {a b n : Nat} (h : b + 1 = n) (h2 : a + 2 = n) : ((List.range [a, b].length).reverse.find? fun i => [a, b].getD i 0 != i + n - [a, b].length) = none := by
  have e : (b != 1 + n - 2) = false := by simp; omega
  have e2 : (a != 0 + n - 2) = false := by simp; omega
  show (([1, 0] : List Nat).find? fun i => [a, b].getD i 0 != i + n - 2) = none
  rw [List.find?_cons, show ([a, b].getD 1 0 != 1 + n - 2) = false from e, List.find?_cons, show ([a, b].getD 0 0 != 0 + n - 2) = false from e2, List.find?_nil]
/-- the pair behind a pair -/
def nx (n : Nat) (p : Nat × Nat) : Option (Nat × Nat) := if p.2 + 1 < n then some (p.1, p.2 + 1) else if p.1 + 2 < n then some (p.1 + 1, p.1 + 2) else none
set_option maxHeartbeats 1000000 in
theorem nextMore {c pt : Addr} {old : Value} {a b a' b' n : Nat} {items : Array Value} {Q : Option Value → Shared → Prop} (hc : IsC s.heap c pt 1 old a b) (hp : s.heap.get? pt = some { cls := .type "tuple", data := .seq items n }) (hne : c ≠ pt)
    (hlt : a < b) (hb : b < items.size) (hx : nx items.size (a, b) = some (a', b'))
    (hQ : ∀ h', IsC h' c pt 1 (.ref s.heap.objs.size) a' b' → h'.get? s.heap.objs.size = some { cls := .type "tuple", data := .seq #[items.getD a' .none, items.getD b' .none] } → (∀ q o, q ≠ c → s.heap.get? q = some o → h'.get? q = some o) → Q (some (.ref s.heap.objs.size)) { s with heap := h' }) :
    wpAny (model prog w) A (pyNext (.ref c)) Q E s := by
  have hT : s.TypeIs (.ref c) "itertools.combinations" := ⟨_, hc, rfl⟩
  unfold pyNext
  refine wpAny_bind (wpAny_attempt (wpAny_callSpecial?_slot (name := Str.ofString "__next__") hT slotN (wpAny_call_entry slotN hT entN ?_ (argsN _))))
  obtain ⟨hp', g, d, tk, os⟩ := s
  replace hc : hp'.get? c = some { cls := .type "itertools.combinations", data := .fields #[.ref pt, rawInt 1, old, rawInt a, rawInt b] } := hc
  replace hp : hp'.get? pt = some { cls := .type "tuple", data := .seq items n } := hp
  unfold nx at hx
  wp_walk
  have hfin : ∀ (h2 : Heap), h2.get? c = some { cls := .type "itertools.combinations", data := .fields #[.ref pt, rawInt 1, old, rawInt a', rawInt b'] } → h2.objs.size = hp'.objs.size → (∀ q o, q ≠ c → hp'.get? q = some o → h2.get? q = some o) →
      Q (some (.ref hp'.objs.size)) { heap := (h2.push { cls := .type "tuple", data := .seq #[items.getD a' .none, items.getD b' .none] }).update c (Obj.mapFields fun x => x.setIfInBounds 2 (Value.ref hp'.objs.size)), gens := g, drawn := d, toks := tk, os := os } := fun h2 g1 g2 g3 => by
    refine hQ _ ?_ ?_ fun q o hq e => ?_
    · have q2 := Heap.get?_push_of_some { cls := .type "tuple", data := .seq #[items.getD a' .none, items.getD b' .none] } g1
      exact Heap.get?_update_self (Obj.mapFields fun x => x.setIfInBounds 2 (Value.ref hp'.objs.size)) q2 rfl
    · refine (Heap.get?_update_other _ _ (Nat.ne_of_lt (Heap.lt_size hc))).trans ?_
      show (h2.push _).get? hp'.objs.size = _
      rw [← g2]
      exact Heap.get?_push_size _ rfl
    · exact (Heap.get?_update_other _ _ (Ne.symm hq)).trans (Heap.get?_push_of_some _ (g3 q o hq e))
  split
  · rename_i next heq
    have h2 : (match ([a, b].length |> List.range).reverse.find? (fun i => [a, b].getD i 0 != i + items.size - [a, b].length) with
      | none => none
      | some i => some ([a, b].take i ++ ([a, b].length - i |> List.range).map fun k => [a, b].getD i 0 + 1 + k)) = some next := heq
    have en : next = [a', b'] := by
      by_cases z : b + 1 < items.size
      · rw [if_pos z] at hx
        cases hx
        rw [show (([a, b].length |> List.range).reverse.find? (fun i => [a, b].getD i 0 != i + items.size - [a, b].length)) = some 1 from findMid a z] at h2
        cases h2
        rfl
      · rw [if_neg z] at hx
        by_cases z2 : a + 2 < items.size
        · rw [if_pos z2] at hx
          cases hx
          rw [show (([a, b].length |> List.range).reverse.find? (fun i => [a, b].getD i 0 != i + items.size - [a, b].length)) = some 0 from findLow (by omega) z2] at h2
          cases h2
          rfl
        · rw [if_neg z2] at hx
          cases hx
    subst en
    wp_walk
    have e0 : (hp'.update c (Obj.mapFields fun fs => fs.extract 0 3 ++ (List.map (fun (n : Nat) => rawInt n) [a', b']).toArray)).objs.size = hp'.objs.size := Heap.size_after_update ..
    rw [e0]
    refine ⟨_, rfl, wpAny_pure (hfin _ ?_ e0 fun q o hq e => (Heap.get?_update_other _ _ (Ne.symm hq)).trans e)⟩
    exact Heap.get?_update_self (Obj.mapFields fun fs => fs.extract 0 3 ++ (List.map (fun (n : Nat) => rawInt n) [a', b']).toArray) hc rfl
  · rename_i heq
    exfalso
    have h2 : (match ([a, b].length |> List.range).reverse.find? (fun i => [a, b].getD i 0 != i + items.size - [a, b].length) with
      | none => none
      | some i => some ([a, b].take i ++ ([a, b].length - i |> List.range).map fun k => [a, b].getD i 0 + 1 + k)) = none := heq
    by_cases z : b + 1 < items.size
    · rw [show (([a, b].length |> List.range).reverse.find? (fun i => [a, b].getD i 0 != i + items.size - [a, b].length)) = some 1 from findMid a z] at h2
      cases h2
    · rw [if_neg z] at hx
      by_cases z2 : a + 2 < items.size
      · rw [show (([a, b].length |> List.range).reverse.find? (fun i => [a, b].getD i 0 != i + items.size - [a, b].length)) = some 0 from findLow (by omega) z2] at h2
        cases h2
      · rw [if_neg z2] at hx
        cases hx
set_option maxHeartbeats 1000000 in
theorem stopAt {c : Addr} {h0 : Heap} {R : Fin → Shared → Prop} {E1 : Value → Shared → Prop} (hh : A.handled = none) (eb : Heap.ExtBut c h0 s.heap)
    (hE : ∀ (e : Value) (h' : Heap), Heap.ExtBut c h0 h' → (∃ o, h'.get? (match e with | .ref a => a | _ => 0) = some o ∧ o.cls = .type "StopIteration" ∧ ∃ a, e = .ref a) → E1 e { s with heap := h' }) :
    wpAny (model prog w) A (Builtin.Itertools.itStop : Sem Fin) R E1 s := by
  unfold Builtin.Itertools.itStop
  show wpAny _ _ (newExc (.type "StopIteration") [] >>= _) _ _ _
  refine wpAny_bind ?_
  simp only [newExc, newTuple]
  refine wpAny_bind (wpAny_newObj_type ?_ (by size_fits))
  refine wpAny_bind (m := firstArgMember _ _) (wpAny_of_eq (a := Value.none) (by first | rfl | (simp only [firstArgMember]; rfl)) ?_)
  refine wpAny_newObj_type ?_ (by size_fits)
  simp only [raiseNew]
  refine wpAny_bind (wpAny_handled ?_)
  rw [hh]
  refine wpAny_bind (wpAny_pure (wpAny_throw ?_))
  exact hE _ _ ((eb.push _).push _) ⟨_, Heap.get?_push_size _ rfl, rfl, _, rfl⟩
set_option maxHeartbeats 1000000 in
theorem nextEnd {c pt : Addr} {old : Value} {a b n : Nat} {items : Array Value} {Q : Option Value → Shared → Prop} (hh : A.handled = none) (hc : IsC s.heap c pt 1 old a b) (hp : s.heap.get? pt = some { cls := .type "tuple", data := .seq items n }) (hne : c ≠ pt)
    (hlt : a < b) (hb : b < items.size) (hx : nx items.size (a, b) = none) (hQ : ∀ h', Heap.ExtBut c s.heap h' → Q none { s with heap := h' }) : wpAny (model prog w) A (pyNext (.ref c)) Q E s := by
  have hT : s.TypeIs (.ref c) "itertools.combinations" := ⟨_, hc, rfl⟩
  unfold pyNext
  refine wpAny_bind (wpAny_attempt (wpAny_callSpecial?_slot (name := Str.ofString "__next__") hT slotN (wpAny_call_entry slotN hT entN ?_ (argsN _))))
  obtain ⟨hp', g, d, tk, os⟩ := s
  replace hc : hp'.get? c = some { cls := .type "itertools.combinations", data := .fields #[.ref pt, rawInt 1, old, rawInt a, rawInt b] } := hc
  replace hp : hp'.get? pt = some { cls := .type "tuple", data := .seq items n } := hp
  unfold nx at hx
  have z1 : ¬ b + 1 < items.size := fun z => by
    rw [if_pos z] at hx
    cases hx
  rw [if_neg z1] at hx
  have z2 : ¬ a + 2 < items.size := fun z => by
    rw [if_pos z] at hx
    cases hx
  wp_walk
  split
  · rename_i next heq
    exfalso
    have h2 : (match ([a, b].length |> List.range).reverse.find? (fun i => [a, b].getD i 0 != i + items.size - [a, b].length) with
      | none => none
      | some i => some ([a, b].take i ++ ([a, b].length - i |> List.range).map fun k => [a, b].getD i 0 + 1 + k)) = some next := heq
    rw [show (([a, b].length |> List.range).reverse.find? (fun i => [a, b].getD i 0 != i + items.size - [a, b].length)) = none from findNone (by omega) (by omega)] at h2
    cases h2
  · refine wpAny_bind (wpAny_setField hc rfl (by show 1 < 5; decide) ?_)
    refine stopAt (c := c) (h0 := hp') hh (Heap.SameBut.update ..).extBut fun e h' eb hs => ?_
    obtain ⟨o, ho, hcl, ad, rfl⟩ := hs
    refine wpAny_bind (wpAny_isInstance (T := "StopIteration") (b := true) ⟨o, ho, hcl⟩ isSubtype_stop ?_)
    exact wpAny_pure (hQ _ eb)
set_option maxHeartbeats 1000000 in
theorem nextNone {c pt : Addr} {old : Value} {a b n : Nat} {items : Array Value} {Q : Option Value → Shared → Prop} (hh : A.handled = none) (hc : IsC s.heap c pt 2 old a b) (hp : s.heap.get? pt = some { cls := .type "tuple", data := .seq items n }) (hne : c ≠ pt)
    (hQ : ∀ h', Heap.ExtBut c s.heap h' → Q none { s with heap := h' }) : wpAny (model prog w) A (pyNext (.ref c)) Q E s := by
  have hT : s.TypeIs (.ref c) "itertools.combinations" := ⟨_, hc, rfl⟩
  unfold pyNext
  refine wpAny_bind (wpAny_attempt (wpAny_callSpecial?_slot (name := Str.ofString "__next__") hT slotN (wpAny_call_entry slotN hT entN ?_ (argsN _))))
  obtain ⟨hp', g, d, tk, os⟩ := s
  replace hc : hp'.get? c = some { cls := .type "itertools.combinations", data := .fields #[.ref pt, rawInt 2, old, rawInt a, rawInt b] } := hc
  replace hp : hp'.get? pt = some { cls := .type "tuple", data := .seq items n } := hp
  have hst : ∀ (R : Fin → Shared → Prop) (E1 : Value → Shared → Prop) (s : Shared), s.heap = hp' → (∀ (e : Value) (h' : Heap), Heap.ExtBut c hp' h' → (∃ o, h'.get? (match e with | .ref a => a | _ => 0) = some o ∧ o.cls = .type "StopIteration" ∧ ∃ a, e = .ref a) → E1 e { s with heap := h' }) → wpAny (model prog w) A.in1 (Builtin.Itertools.itStop : Sem Fin) R E1 s := fun R E1 s es hE => by
    refine stopAt (c := c) (h0 := hp') hh ?_ hE
    rw [es]
    exact fun _ _ _ e => e
  wp_walk using hst
  case a => rfl
  case a =>
    intro e h' eb hs
    obtain ⟨o, ho, hcl, ad, rfl⟩ := hs
    refine wpAny_bind (wpAny_isInstance (T := "StopIteration") (b := true) ⟨o, ho, hcl⟩ isSubtype_stop ?_)
    exact wpAny_pure (hQ _ eb)
end
/-- the pairs in their order -/
def prs (n : Nat) : Nat → Option (Nat × Nat)
  | 0 => if 2 ≤ n then some (0, 1) else none
  | i + 1 => (prs n i).bind (nx n)
theorem prs_ok {n : Nat} : ∀ {i a b : Nat}, prs n i = some (a, b) → a < b ∧ b < n
  | 0, a, b, h => by
    unfold prs at h
    by_cases z : 2 ≤ n
    · rw [if_pos z] at h
      cases h
      omega
    · rw [if_neg z] at h
      cases h
  | i + 1, a, b, h => by
    unfold prs at h
    cases e : prs n i with
    | none =>
      rw [e] at h
      cases h
    | some p =>
      obtain ⟨x, y⟩ := p
      rw [e] at h
      have ih := prs_ok e
      replace h : nx n (x, y) = some (a, b) := h
      unfold nx at h
      by_cases z : y + 1 < n
      · rw [if_pos z] at h
        cases h
        omega
      · rw [if_neg z] at h
        by_cases z2 : x + 2 < n
        · rw [if_pos z2] at h
          cases h
          omega
        · rw [if_neg z2] at h
          cases h
end Cm
/-- the pairs of the items xs, each a new tuple -/
def Itcm (xs : List V) : It :=
  ⟨fun i _ => ∃ p, Cm.prs xs.length i = some p, fun i H v H' => ∃ (T a b : Nat) (x y : V), Cm.prs xs.length i = some (a, b) ∧ xs[a]? = some x ∧ xs[b]? = some y ∧ v = .ref T ∧ H T = none ∧ H' = L2.upd H T (.tup [x, y]), fun i _ => Cm.prs xs.length i = none⟩
def CmSt (items : Array Value) (c pt n : Nat) (i : Nat) (h : Heap) : Prop :=
  h.get? pt = some { cls := .type "tuple", data := .seq items n } ∧ c ≠ pt ∧ (match i with
    | 0 => Cm.IsC h c pt (if 2 > items.size then 2 else 0) .none 0 1
    | k + 1 => ∃ a b old, Cm.prs items.size k = some (a, b) ∧ Cm.IsC h c pt 1 old a b)
theorem CmSt.ex {items : Array Value} {c pt n i : Nat} {h : Heap} (st : CmSt items c pt n i h) : ∃ fl old a b, Cm.IsC h c pt fl old a b := by
  obtain ⟨_, _, q⟩ := st
  cases i with
  | zero => exact ⟨_, _, _, _, q⟩
  | succ k =>
    obtain ⟨a, b, old, _, q⟩ := q
    exact ⟨_, _, _, _, q⟩
theorem turn_comb {P : Program} {w : World} {K : PySem.W.Frag} {tg : Expr} {xs : List V} {items : Array Value} {c pt n : Addr} (rv : Vals xs items.toList) : Turn P w K tg (Itcm xs) [c, pt] c (fun i h => CmSt items c pt n i h) where
  mem := by simp
  obj := fun i h st b hb => by
    have e' : b = c ∨ b = pt := by simpa using hb
    rcases e' with z | z
    · obtain ⟨fl, old, x, y, q⟩ := st.ex
      rw [z]
      exact ⟨_, q, fun v q => nomatch q⟩
    · rw [z]
      exact ⟨_, st.1, fun v q => nomatch q⟩
  keep := fun i h h' st k => by
    obtain ⟨h1, h2, q⟩ := st
    refine ⟨k pt (by simp) _ h1, h2, ?_⟩
    cases i with
    | zero => exact k c (by simp) _ q
    | succ j =>
      obtain ⟨a, b, old, e, q⟩ := q
      exact ⟨a, b, old, e, k c (by simp) _ q⟩
  item := by
    intro X hP hw hK hcm i pins s σ H E I hf st hg
    subst hP hw hK
    obtain ⟨⟨a, b⟩, hpr⟩ := hg
    have hl : xs.length = items.size := by
      have := rv.length
      simpa using this
    obtain ⟨hab, hbn⟩ := Cm.prs_ok hpr
    obtain ⟨x, hx⟩ : ∃ x, xs[a]? = some x := ⟨xs[a], List.getElem?_eq_getElem (by omega)⟩
    obtain ⟨y, hy⟩ : ∃ y, xs[b]? = some y := ⟨xs[b], List.getElem?_eq_getElem (by omega)⟩
    obtain ⟨u, hu, ru⟩ := rv.get hx
    obtain ⟨v, hv, rw2⟩ := rv.get hy
    have eu : items.getD a .none = u := by
      rw [Array.getD_eq_getD_getElem?, ← Array.getElem?_toList, hu]
      rfl
    have ev : items.getD b .none = v := by
      rw [Array.getD_eq_getD_getElem?, ← Array.getElem?_toList, hv]
      rfl
    obtain ⟨fl0, old0, x0, y0, q0⟩ := st.ex
    have hcl : c < s.heap.objs.size := Heap.lt_size q0
    obtain ⟨hpool, hne, q⟩ := st
    have fin : ∀ h', Cm.IsC h' c pt 1 (.ref s.heap.objs.size) a b → h'.get? s.heap.objs.size = some { cls := .type "tuple", data := .seq #[items.getD a .none, items.getD b .none] } → (∀ q o, q ≠ c → s.heap.get? q = some o → h'.get? q = some o) →
        ∃ u, (some (Value.ref s.heap.objs.size) : Option Value) = some u ∧ wpAny (model X.prog X.w) X.A (letOwnedTupleGo tg (.ref c) u) (fun _ s2 => ∃ x H', Inv X pins σ H' s2 ∧ RelV x u ∧ (Itcm xs).yld i H x H' ∧ CmSt items c pt n (i + 1) s2.heap ∧ ∀ b ∈ [c, pt], H' b = none) E { s with heap := h' } := fun h' g1 g2 g3 => by
      rw [eu, ev] at g2
      have new : ObjOk X.prog X.w (L2.upd H s.heap.objs.size (.tup [x, y])) h' s.heap.objs.size (.tup [x, y]) :=
        ⟨by show 2 ≤ sizeLine; decide, [u, v], .cons ru (.cons rw2 .nil), ⟨_, g2, rfl, _, rfl⟩⟩
      have I1 : Inv X pins σ (L2.upd H s.heap.objs.size (.tup [x, y])) { s with heap := h' } :=
        I.turnedNew (t' := s.toks) (ch := [c, pt]) (fun b ob hb q => g3 b ob (fun z => hb (by simp [z])) q) hf (Nat.le_refl _) new
      refine ⟨_, rfl, go_of (s := { s with heap := h' }) (n := "itertools.combinations") g1 rfl rfl (by decide) ⟨.ref s.heap.objs.size, _, I1, rfl, ⟨s.heap.objs.size, a, b, x, y, hpr, hx, hy, rfl, I.hok.fresh (Nat.le_refl _), rfl⟩, ⟨g3 pt _ (Ne.symm hne) hpool, hne, a, b, _, by rw [← hl]; exact hpr, g1⟩, fun z hz => ?_⟩⟩
      have hz' : z < s.heap.objs.size := by
        have e' : z = c ∨ z = pt := by simpa using hz
        rcases e' with k | k
        · rw [k]; exact hcl
        · rw [k]; exact Heap.lt_size hpool
      rw [L2.upd_ne (Nat.ne_of_lt hz')]
      exact (hf z hz).1
    cases i with
    | zero =>
      unfold Cm.prs at hpr
      by_cases z : 2 ≤ xs.length
      · rw [if_pos z] at hpr
        cases hpr
        rw [if_neg (by omega)] at q
        exact Cm.nextFirst q hpool hne fin
      · rw [if_neg z] at hpr
        cases hpr
    | succ k =>
      obtain ⟨a0, b0, old, e, q⟩ := q
      obtain ⟨l1, l2⟩ := Cm.prs_ok e
      have hpr' := hpr
      unfold Cm.prs at hpr'
      rw [hl, e] at hpr'
      exact Cm.nextMore q hpool hne l1 l2 hpr' fin
  done := by
    intro X hP hw hK hcm i pins s σ H E I hf st hg
    subst hP hw hK
    replace hg : Cm.prs xs.length i = none := hg
    have hl : xs.length = items.size := by
      have := rv.length
      simpa using this
    obtain ⟨hpool, hne, q⟩ := st
    have fin : ∀ h', Heap.ExtBut c s.heap h' → (none : Option Value) = none ∧ Inv X pins σ H { s with heap := h' } := fun h' eb =>
      ⟨rfl, I.turnedL (t' := s.toks) (ch := [c, pt]) (fun b o hb e => eb b o (fun z => hb (by simp [z])) e) hf⟩
    cases i with
    | zero =>
      unfold Cm.prs at hg
      by_cases z : 2 ≤ xs.length
      · rw [if_pos z] at hg
        cases hg
      · rw [if_pos (by omega)] at q
        exact Cm.nextNone (I.ok.hd hcm) q hpool hne fin
    | succ k =>
      obtain ⟨a0, b0, old, e, q⟩ := q
      obtain ⟨l1, l2⟩ := Cm.prs_ok e
      unfold Cm.prs at hg
      rw [hl, e] at hg
      exact Cm.nextEnd (I.ok.hd hcm) q hpool hne l1 l2 hg fin
  self := fun A i s Q E st h => let ⟨_, _, _, _, q⟩ := st.ex; Cm.iterC q h
def iCmb (K : PySem.W.Frag) (ta : TA) : TI := fun σ H R => ta σ H fun vs H1 => ∃ a xs, vs = [.ref a, .int 2] ∧ SqL K H1 a xs ∧ R (Itcm xs) H1
theorem pi_comb {X : Cx} {tg e e2 : Expr} {ta : TA} {p pos : Pos} (hg : Gl X "combinations") (hm : X.mg "combinations" = some (.type "itertools.combinations")) (ha : PA X [e, e2] ta)
    (hs : starEach [e, e2] X.env = (false, eval e X.env) :: starEach [e2] X.env := by rfl) (hpl : (backTo pos (starEach [e2] X.env)).any (·.1) = false := by rfl) :
    PI X tg (.Call (.Name "combinations" p) [e, e2] [] pos) (iCmb X.K ta) := by
  refine ⟨fun pins s σ H R I h => ?_⟩
  refine Call_ (ld_glob I hg hm (PyProof.Rows.callWith_type1 (thn (ha.run pos pins s σ H _ I h) fun us s1 ⟨vs, H1, I1, r1, q1⟩ => ?_) hs hpl))
  obtain ⟨a, xs, ex, hq, q⟩ := q1
  subst ex
  cases r1 with
  | cons r rr =>
    cases rr with
    | cons r' rr =>
      cases rr
      cases r
      obtain ⟨t, rfl⟩ := r'
      obtain ⟨its, rv, p', hz⟩ := I1.list hq
      have hlen := rv.length
      refine Cm.callC p'.isList (fun h' hk => ?_) (by simp only [List.size_toArray]; omega)
      have e1 : (h'.push { cls := .type "tuple", data := .seq its.toArray }).objs.size = h'.objs.size + 1 := Heap.size_push ..
      have g1 : ((h'.push { cls := .type "tuple", data := .seq its.toArray }).push { cls := .type "itertools.combinations", data := .fields #[.ref h'.objs.size, rawInt (if 2 > its.toArray.size then 2 else 0), .none, rawInt 0, rawInt 1] }).get? (h'.push { cls := .type "tuple", data := .seq its.toArray }).objs.size = _ := Heap.get?_push_size _ rfl
      have I2 : Inv X pins σ H1 { s1 with heap := h' } := I1.kept (t' := s1.toks) hk
      have I3 : Inv X pins σ H1 { s1 with heap := (h'.push { cls := .type "tuple", data := .seq its.toArray }).push { cls := .type "itertools.combinations", data := .fields #[.ref h'.objs.size, rawInt (if 2 > its.toArray.size then 2 else 0), .none, rawInt 0, rawInt 1] } } :=
        I2.kept (t' := s1.toks) fun b o e => Heap.get?_push_of_some _ (Heap.get?_push_of_some _ e)
      refine Cm.iterC (pt := h'.objs.size) g1 ⟨_, [_, h'.objs.size], _, Itcm xs, H1, rfl, I3, turn_comb (n := 0) (items := its.toArray) (by simpa using rv), ⟨Heap.get?_push_of_some _ (Heap.get?_push_size _ rfl), by rw [e1]; exact Nat.succ_ne_self _, g1⟩, fun b hb => ?_, q⟩
      have hle : h'.objs.size ≤ b := by
        have e' : b = (h'.push { cls := .type "tuple", data := .seq its.toArray }).objs.size ∨ b = h'.objs.size := by simpa using hb
        rcases e' with z | z
        · rw [z, e1]; exact Nat.le_succ _
        · rw [z]; exact Nat.le_refl _
      exact I2.fpOk hle (I2.hok.fresh hle)
end Sv

/-! Spreads: a row in which each step exchanges two neighbours, by the verifier. -/
namespace Sv
open PySem L2
def sprd (k : Nm) (n : Nat) (w : List Int) : List Int :=
  match k with
  | .pl => w
  | .mi => -(w.getD 0 0) :: w
  | .ri => w ++ [w.getD 0 0 + (n : Int)]
def swpS (l : List Int) (s : Nat) : List Int := (l.set s (l.getD (s + 1) 0)).set (s + 1) (l.getD s 0)
/-- a step done on a spread -/
def exIn (k : Nm) (l : List Int) (s : Nat) : List Int :=
  match k with
  | .pl => swpS l s
  | .mi => if s = 1 then (swpS l s).set 0 (-((swpS l s).getD 1 0)) else swpS l s
  | .ri => if s = 0 then (swpS l s).set (l.length - 1) ((swpS l s).getD 0 0 + ((l.length - 1 : Nat) : Int))
    else if s + 1 = l.length - 1 then (swpS l s).set 0 ((swpS l s).getD (l.length - 1) 0 - ((l.length - 1 : Nat) : Int)) else swpS l s
theorem swpS_len (l : List Int) (s : Nat) : (swpS l s).length = l.length := by unfold swpS; simp
theorem sprd_len {k : Nm} {n : Nat} {w : List Int} (hl : w.length = n) (hn : 1 ≤ n) : (sprd k n w).length = (many k n).toNat + 1 := by
  unfold sprd many
  cases k <;> simp <;> omega
theorem exIn_len (k : Nm) (l : List Int) (s : Nat) : (exIn k l s).length = l.length := by
  unfold exIn
  cases k
  · exact swpS_len l s
  · by_cases h : s = 1 <;> simp [h, swpS_len]
  · by_cases h : s = 0
    · simp [h, swpS_len]
    · by_cases h2 : s + 1 = l.length - 1 <;> simp [h, h2, swpS_len]
theorem sprd_at {k : Nm} {n : Nat} {w : List Int} {s : Nat} (hl : w.length = n) (hK : okK k n = true) (hs : okS k n (s : Int)) :
    exch k n w s = ((sprd k n w).getD s 0, (sprd k n w).getD (s + 1) 0) := by
  obtain ⟨_, hs⟩ := hs
  unfold many at hs
  unfold exch sprd
  cases k
  · rfl
  · rw [if_neg (by decide), if_neg (by decide)]
    cases s with
    | zero => rfl
    | succ j => rfl
  · rw [if_neg (by decide), if_pos rfl]
    have h1 : s < w.length := by rw [if_neg (by decide)] at hs; omega
    by_cases e : s + 1 = n
    · rw [if_pos e]
      simp only [List.getD_eq_getElem?_getD]
      rw [List.getElem?_append_left h1, List.getElem?_append_right (by omega), show s + 1 - w.length = 0 by omega]
      rfl
    · rw [if_neg e]
      simp only [List.getD_eq_getElem?_getD]
      rw [List.getElem?_append_left h1, List.getElem?_append_left (by omega)]
theorem ext_getDS {a b : List Int} (h : a.length = b.length) (g : ∀ i, i < a.length → a.getD i 0 = b.getD i 0) : a = b := by
  refine List.ext_getElem h fun i h1 h2 => ?_
  have := g i h1
  rw [List.getD_eq_getElem?_getD, List.getD_eq_getElem?_getD, List.getElem?_eq_getElem h1, List.getElem?_eq_getElem h2] at this
  exact this
theorem getD_setS (l : List Int) (i j : Nat) (x : Int) (h : i < l.length) : (l.set i x).getD j 0 = if j = i then x else l.getD j 0 := by
  rw [List.getD_eq_getElem?_getD, List.getElem?_set, List.getD_eq_getElem?_getD]
  by_cases e : j = i
  · subst e; simp [h]
  · rw [if_neg (Ne.symm e), if_neg e]
theorem after_lenS (k : Nm) (n : Nat) (w : List Int) (s : Nat) : (after k n w s).length = w.length := by
  unfold after
  repeat' split
  all_goals simp
theorem swpS_getD {l : List Int} {s : Nat} (h : s + 1 < l.length) (j : Nat) : (swpS l s).getD j 0 = if j = s + 1 then l.getD s 0 else if j = s then l.getD (s + 1) 0 else l.getD j 0 := by
  unfold swpS
  rw [getD_setS _ _ _ _ (by rw [List.length_set]; exact h), getD_setS _ _ _ _ (by omega)]
theorem getD_consS (x : Int) (l : List Int) (j : Nat) : (x :: l).getD j 0 = if j = 0 then x else l.getD (j - 1) 0 := by
  cases j with
  | zero => rfl
  | succ j => rfl
theorem getD_snocS (l : List Int) (x : Int) (j : Nat) (h : j ≤ l.length) : (l ++ [x]).getD j 0 = if j = l.length then x else l.getD j 0 := by
  rw [List.getD_eq_getElem?_getD]
  by_cases e : j = l.length
  · rw [List.getElem?_append_right (by omega), if_pos e, e, Nat.sub_self]; rfl
  · rw [List.getElem?_append_left (by omega), if_neg e, List.getD_eq_getElem?_getD]
theorem exIn_sprd {k : Nm} {n : Nat} {w : List Int} {s : Nat} (hl : w.length = n) (hK : okK k n = true) (hs : okS k n (s : Int)) : exIn k (sprd k n w) s = sprd k n (after k n w s) := by
  have hn := okK_le hK
  have hL := sprd_len (k := k) hl hn.1
  have hA : (after k n w s).length = n := (after_lenS k n w s).trans hl
  have hL2 := sprd_len (k := k) hA hn.1
  refine ext_getDS (by rw [exIn_len, hL, hL2]) fun j hj => ?_
  rw [exIn_len, hL] at hj
  obtain ⟨_, hs⟩ := hs
  have hsn : s < n := by unfold many at hs; split at hs <;> omega
  cases k
  · have h1 : s + 1 < n := by unfold many at hs; rw [if_pos rfl] at hs; omega
    show (swpS w s).getD j 0 = (after .pl n w s).getD j 0
    rw [swpS_getD (by omega)]
    unfold after exch
    simp only [if_true]
    rw [getD_setS _ _ _ _ (by rw [List.length_set]; omega), getD_setS _ _ _ _ (by omega)]
  · have hj' : j ≤ n := by unfold many at hj; rw [if_neg (by decide)] at hj; omega
    show (exIn .mi (-(w.getD 0 0) :: w) s).getD j 0 = (-((after .mi n w s).getD 0 0) :: after .mi n w s).getD j 0
    have hA2 : ∀ i, (after .mi n w s).getD i 0 = if s = 0 then (if i = 0 then -(w.getD 0 0) else w.getD i 0) else if i = s then w.getD (s - 1) 0 else if i = s - 1 then w.getD s 0 else w.getD i 0 := fun i => by
      unfold after exch
      by_cases e : s = 0
      · subst e
        simp only [reduceCtorEq, if_false, false_and, if_true]
        exact getD_setS _ _ _ _ (by omega)
      · simp only [reduceCtorEq, if_false, false_and, if_neg e]
        rw [getD_setS _ _ _ _ (by rw [List.length_set]; omega), getD_setS _ _ _ _ (by omega)]
    have hS : ∀ i, (swpS (-(w.getD 0 0) :: w) s).getD i 0 = if i = s + 1 then (-(w.getD 0 0) :: w).getD s 0 else if i = s then (-(w.getD 0 0) :: w).getD (s + 1) 0 else (-(w.getD 0 0) :: w).getD i 0 := fun i => swpS_getD (by simp; omega) i
    rw [getD_consS, hA2 0]
    unfold exIn
    dsimp only
    by_cases e1 : s = 1
    · subst e1
      rw [if_pos rfl, getD_setS _ _ _ _ (by rw [swpS_len]; simp)]
      rw [hS 1, hS j]
      simp only [getD_consS, hA2]
      by_cases j0 : j = 0
      · subst j0; simp
      · by_cases j1 : j = 1
        · subst j1; simp
        · by_cases j2 : j = 2
          · subst j2; simp
          · simp [j0, j1, j2, show ¬ j - 1 = 1 by omega, show ¬ j - 1 = 0 by omega]
    · rw [if_neg e1, hS j]
      simp only [getD_consS, hA2]
      by_cases e0 : s = 0
      · subst e0
        by_cases j0 : j = 0
        · subst j0; simp
        · by_cases j1 : j = 1
          · subst j1; simp
          · simp [j0, j1, show ¬ j - 1 = 0 by omega]
      · by_cases j0 : j = 0
        · subst j0
          simp [e0, show ¬ 0 = s by omega, show ¬ 0 = s - 1 by omega]
        · by_cases ja : j = s + 1
          · subst ja; simp [e0]
          · by_cases jb : j = s
            · subst jb; simp [e0, show ¬ j - 1 = j by omega]
            · simp [e0, j0, ja, jb, show ¬ j - 1 = s by omega, show ¬ j - 1 = s - 1 by omega]
  · have hj' : j ≤ n := by unfold many at hj; rw [if_neg (by decide)] at hj; omega
    have hn2 : 2 ≤ n := by have := of_decide_eq_true hK; omega
    show (exIn .ri (w ++ [w.getD 0 0 + (n : Int)]) s).getD j 0 = (after .ri n w s ++ [(after .ri n w s).getD 0 0 + (n : Int)]).getD j 0
    have hA2 : ∀ i, (after .ri n w s).getD i 0 = if s + 1 = n then (if i = 0 then w.getD s 0 - (n : Int) else if i = s then w.getD 0 0 + (n : Int) else w.getD i 0) else if i = s + 1 then w.getD s 0 else if i = s then w.getD (s + 1) 0 else w.getD i 0 := fun i => by
      unfold after exch
      by_cases e : s + 1 = n
      · simp only [reduceCtorEq, if_false, if_pos e, if_true, true_and]
        rw [getD_setS _ _ _ _ (by rw [List.length_set]; omega), getD_setS _ _ _ _ (by omega)]
      · simp only [reduceCtorEq, if_false, true_and, if_neg e, if_true]
        rw [getD_setS _ _ _ _ (by rw [List.length_set]; omega), getD_setS _ _ _ _ (by omega)]
    have hlen : (w ++ [w.getD 0 0 + (n : Int)]).length = n + 1 := by simp; omega
    have hS : ∀ i, (swpS (w ++ [w.getD 0 0 + (n : Int)]) s).getD i 0 = if i = s + 1 then (w ++ [w.getD 0 0 + (n : Int)]).getD s 0 else if i = s then (w ++ [w.getD 0 0 + (n : Int)]).getD (s + 1) 0 else (w ++ [w.getD 0 0 + (n : Int)]).getD i 0 := fun i => swpS_getD (by omega) i
    have hw : ∀ i, i ≤ n → (w ++ [w.getD 0 0 + (n : Int)]).getD i 0 = if i = n then w.getD 0 0 + (n : Int) else w.getD i 0 := fun i hi => by
      rw [getD_snocS _ _ _ (by omega), hl]
    rw [getD_snocS _ _ _ (by omega), hA]
    unfold exIn
    dsimp only
    rw [hlen, Nat.add_sub_cancel]
    by_cases e0 : s = 0
    · subst e0
      rw [if_pos rfl, getD_setS _ _ _ _ (by rw [swpS_len]; omega), hS 0, hS j, hw 0 (by omega), hw (0 + 1) (by omega), hw j hj', hA2 0, hA2 j]
      by_cases jn : j = n
      · subst jn
        simp [show ¬ 0 + 1 = j by omega, show ¬ 1 = j by omega]
      · by_cases j1 : j = 1
        · subst j1; simp [show ¬ 1 = n by omega, show ¬ 0 = n by omega]
        · by_cases j0 : j = 0
          · subst j0; simp [show ¬ 1 = n by omega, show ¬ 0 = n by omega]
          · simp [jn, j1, j0, show ¬ 1 = n by omega]
    · rw [if_neg e0]
      by_cases e1 : s + 1 = n
      · rw [if_pos e1, getD_setS _ _ _ _ (by rw [swpS_len]; omega), hS n, hS j, hw s (by omega), hw (s + 1) (by omega), hw j hj', hA2 0, hA2 j]
        by_cases j0 : j = 0
        · subst j0
          simp [e1, show ¬ 0 = n by omega, show ¬ s = n by omega]
        · by_cases jn : j = n
          · subst jn
            simp [e1, j0, show ¬ s = j by omega]
          · by_cases js : j = s
            · subst js
              simp [e1, j0, jn]
            · simp [e1, j0, jn, js]
      · rw [if_neg e1, hS j, hw s (by omega), hw (s + 1) (by omega), hw j hj', hA2 0, hA2 j]
        by_cases jn : j = n
        · subst jn
          simp [e1, show ¬ j = s + 1 by omega, show ¬ j = s by omega, show ¬ 0 = s by omega]
        · by_cases ja : j = s + 1
          · subst ja
            simp [e1, jn, show ¬ s = n by omega]
          · by_cases jb : j = s
            · subst jb
              simp [e1, jn]
            · simp [e1, jn, ja, jb]
theorem crossP_sprd {k : Nm} {n : Nat} {w : List Int} {s : Nat} (hl : w.length = n) (hK : okK k n = true) (hs : okS k n (s : Int)) : crossP k n w s = decide ((sprd k n w).getD (s + 1) 0 < (sprd k n w).getD s 0) := by
  unfold crossP
  rw [sprd_at hl hK hs]
end Sv

/-! The program's functions of orders are the law's: by the verifier. -/
namespace Sv
open PySem L2
theorem ext_getD {n : Nat} {a b : List Int} (ha : a.length = n) (hb : b.length = n) (h : ∀ i, i < n → a.getD i 0 = b.getD i 0) : a = b := by
  apply List.ext_getElem?
  intro i
  by_cases hi : i < n
  · have := h i hi
    rw [List.getD_eq_getElem?_getD, List.getD_eq_getElem?_getD, List.getElem?_eq_getElem (by omega), List.getElem?_eq_getElem (by omega)] at this
    rw [List.getElem?_eq_getElem (by omega), List.getElem?_eq_getElem (by omega)]
    exact congrArg some this
  · rw [List.getElem?_eq_none (by omega), List.getElem?_eq_none (by omega)]
theorem getD_set (w : List Int) (a i : Nat) (x : Int) : (w.set a x).getD i 0 = if i = a ∧ a < w.length then x else w.getD i 0 := by
  rw [List.getD_eq_getElem?_getD, List.getD_eq_getElem?_getD, List.getElem?_set]
  by_cases h : a = i
  · subst h
    by_cases h2 : a < w.length
    · simp [h2]
    · simp [h2]
  · rw [if_neg h, if_neg (fun z => h z.1.symm)]
theorem itemP_eq {k : Nm} {n : Nat} {w : List Int} {p : Int} (hp : okP k n p) : itemP k n w p = item k n w p := by
  unfold itemP item
  by_cases hk : k = .mi
  · rw [if_pos hk, if_pos hk]
    obtain ⟨h0, _⟩ := hp hk
    by_cases h : 0 < p
    · rw [if_pos h, sg_pos h, show (p - 1).toNat = p.natAbs - 1 by omega]
      omega
    · rw [if_neg h, sg_neg (by omega), show (-p - 1).toNat = p.natAbs - 1 by omega]
      omega
  · rw [if_neg hk, if_neg hk]
theorem item_in {k : Nm} (hk : k ≠ .mi) {n : Nat} {w : List Int} {i : Nat} (h : i < n) : item k n w (i : Int) = w.getD i 0 := by
  rw [item_nm hk, Int.emod_eq_of_lt (by omega) (by omega)]
  simp only [Int.toNat_natCast]
  omega
theorem after_len (k : Nm) (n : Nat) (w : List Int) (s : Nat) : (after k n w s).length = w.length := by
  unfold after
  repeat' split
  all_goals simp
theorem mod_near {n : Nat} {a : Int} (h1 : -(n : Int) < a) (h2 : a < (n : Int)) : a % (n : Int) = if a < 0 then a + n else a := by
  split
  · rw [← Int.add_emod_right]
    exact Int.emod_eq_of_lt (by omega) (by omega)
  · exact Int.emod_eq_of_lt (by omega) h2
theorem step_of {k : Nm} {n : Nat} {s : Int} (h : okS k n s) : ∃ t : Nat, s = (t : Int) := ⟨s.toNat, by have := h.1; omega⟩
theorem exch_mi0 (n : Nat) (w : List Int) : exch .mi n w 0 = (-(w.getD 0 0), w.getD 0 0) := rfl
theorem exch_mis {n : Nat} {w : List Int} {s : Nat} (h : s ≠ 0) : exch .mi n w s = (w.getD (s - 1) 0, w.getD s 0) := by
  unfold exch
  rw [if_neg (by decide), if_neg (by decide), if_neg h]
theorem exch_ril {n : Nat} {w : List Int} {s : Nat} (h : s + 1 = n) : exch .ri n w s = (w.getD s 0, w.getD 0 0 + (n : Int)) := by
  unfold exch
  rw [if_neg (by decide), if_pos rfl, if_pos h]
theorem after_mi0 (n : Nat) (w : List Int) : after .mi n w 0 = w.set 0 (-(w.getD 0 0)) := by
  unfold after
  rw [if_neg (by decide), if_neg (fun z => by cases z.1), if_neg (by decide), if_pos rfl]
  rfl
theorem after_mis {n : Nat} {w : List Int} {s : Nat} (h : s ≠ 0) : after .mi n w s = (w.set (s - 1) (w.getD s 0)).set s (w.getD (s - 1) 0) := by
  unfold after
  rw [if_neg (by decide), if_neg (fun z => by cases z.1), if_neg (by decide), if_neg h, exch_mis h]
theorem after_ril {n : Nat} {w : List Int} {s : Nat} (h : s + 1 = n) : after .ri n w s = (w.set s (w.getD 0 0 + (n : Int))).set 0 (w.getD s 0 - (n : Int)) := by
  unfold after
  rw [if_neg (by decide), if_pos ⟨rfl, h⟩, exch_ril h]
theorem after_in {k : Nm} {n : Nat} {w : List Int} {s : Nat} (hk : k ≠ .mi) (h : s + 1 < n) : after k n w s = (w.set s (w.getD (s + 1) 0)).set (s + 1) (w.getD s 0) := by
  unfold after exch
  by_cases hp : k = .pl
  · rw [if_pos hp, if_pos hp]
  · have hr : k = .ri := by cases k <;> simp_all
    rw [if_neg hp, if_neg hp, if_neg (fun z => by omega), if_pos hr, if_pos hr, if_neg (by omega)]
theorem after_eq {k : Nm} {n : Nat} {w : List Int} {s : Nat} (hK : okK k n = true) (hs : okS k n (s : Int)) (hl : w.length = n) : after k n w s = stepped k n w (s : Int) := by
  refine ext_getD (by rw [after_len]; exact hl) (stepped_len _ _ _ _) fun i hi => ?_
  rw [stepped_getD k n w _ i hi]
  by_cases hk : k = .mi
  · subst hk
    have h2 := okS_mi hs
    have e : off .mi + (i : Int) = (i : Int) + 1 := by show (1 : Int) + _ = _; omega
    rw [e, turned_mi' n _ _ (by omega) h2.1]
    by_cases h0 : s = 0
    · subst h0
      rw [after_mi0, if_pos (by rfl), getD_set]
      by_cases hi0 : i = 0
      · subst hi0
        rw [if_pos ⟨rfl, by omega⟩, if_pos (by omega), item_mi, sg_neg (by omega)]
        show -(w.getD 0 0) = w.getD 0 0 * -1
        omega
      · rw [if_neg (by omega), if_neg (by omega), item_mi, sg_pos (by omega), show ((i : Int) + 1).natAbs - 1 = i by omega]
        omega
    · rw [after_mis h0, if_neg (by omega), getD_set, getD_set, List.length_set]
      by_cases h1 : i = s
      · subst h1
        rw [if_pos ⟨rfl, by omega⟩, if_neg (by omega), if_pos (by omega), item_mi, sg_pos (by omega), show ((i : Int)).natAbs - 1 = i - 1 by omega]
        omega
      · rw [if_neg (by omega)]
        by_cases h3 : i = s - 1
        · rw [if_pos ⟨h3, by omega⟩, if_pos (by omega), item_mi, sg_pos (by omega), show ((s : Int) + 1).natAbs - 1 = s by omega]
          omega
        · rw [if_neg (by omega), if_neg (by omega), if_neg (by omega), if_neg (by omega), if_neg (by omega), item_mi, sg_pos (by omega), show ((i : Int) + 1).natAbs - 1 = i by omega]
          omega
  · have h2 := okS_two hK hk hs
    have e : off k + (i : Int) = (i : Int) := by unfold off; rw [if_neg hk]; omega
    have hsn : s < n := by
      obtain ⟨_, h⟩ := hs
      unfold many at h
      split at h <;> omega
    rw [e, turned_nm hk, mod_near (a := (i : Int) - (s : Int)) (by omega) (by omega)]
    by_cases hp : k = .pl ∨ s + 1 < n
    · have hs1 : s + 1 < n := by
        rcases hp with rfl | h
        · obtain ⟨_, h⟩ := hs
          unfold many at h
          rw [if_pos rfl] at h
          omega
        · exact h
      rw [after_in hk hs1, getD_set, getD_set, List.length_set]
      by_cases h1 : i = s
      · subst h1
        rw [if_neg (by omega), if_pos ⟨rfl, by omega⟩, if_pos (by split <;> omega)]
        have := item_in hk (w := w) (i := i + 1) hs1
        exact this.symm
      · by_cases h3 : i = s + 1
        · subst h3
          rw [if_pos ⟨rfl, by omega⟩, if_neg (by split <;> omega), if_pos (by split <;> omega)]
          have := item_in hk (w := w) (i := s) hsn
          rw [← this]
          congr 1
          omega
        · rw [if_neg (by omega), if_neg (by omega), if_neg (by split <;> omega), if_neg (by split <;> omega)]
          exact (item_in hk hi).symm
    · have hr : k = .ri := by cases k <;> simp_all
      subst hr
      have hs1 : s + 1 = n := by
        have : ¬ s + 1 < n := fun z => hp (.inr z)
        omega
      rw [after_ril hs1, getD_set, getD_set, List.length_set]
      by_cases h1 : i = s
      · subst h1
        rw [if_neg (by omega), if_pos ⟨rfl, by omega⟩, if_pos (by split <;> omega), item_nm hk]
        have e1 : ((i : Int) + 1) = (n : Int) := by omega
        rw [e1, Int.emod_self]
        show w.getD 0 0 + (n : Int) = w.getD 0 0 + (n : Int) - 0
        omega
      · by_cases h3 : i = 0
        · subst h3
          rw [if_pos ⟨rfl, by omega⟩, if_neg (by split <;> omega), if_pos (by split <;> omega), item_nm hk, mod_near (by omega) (by omega), if_pos (by omega), show ((((0 : Nat) : Int) - 1 + (n : Int))).toNat = s by omega]
          omega
        · rw [if_neg (by omega), if_neg (by omega), if_neg (by split <;> omega), if_neg (by split <;> omega)]
          exact (item_in hk hi).symm
theorem cross_eq {k : Nm} {n : Nat} {w : List Int} {s : Nat} (hK : okK k n = true) (hs : okS k n (s : Int)) (hl : w.length = n) : crossP k n w s = crossed k n w (s : Int) := by
  unfold crossP crossed
  by_cases hk : k = .mi
  · subst hk
    have h2 := okS_mi hs
    unfold exch low
    rw [if_neg (by decide), if_neg (by decide), if_pos rfl]
    by_cases h0 : s = 0
    · subst h0
      rw [if_pos rfl, if_neg (by omega), turned_mi' n _ _ (by omega) (by omega), if_pos (by rfl), if_pos (by omega), item_mi, item_mi, sg_pos (by omega), sg_neg (by omega)]
      show decide (w.getD 0 0 < -(w.getD 0 0)) = decide (w.getD 0 0 * 1 < w.getD 0 0 * -1)
      congr 1
      rw [Int.mul_one, Int.mul_neg, Int.mul_one]
    · rw [if_neg h0, if_pos (by omega), turned_mi' n _ _ (by omega) (by omega), if_neg (by omega), if_pos rfl, item_mi, item_mi, sg_pos (by omega), sg_pos (by omega), Int.mul_one, Int.mul_one, show ((s : Int) + 1).natAbs - 1 = s by omega, show ((s : Int)).natAbs - 1 = s - 1 by omega]
  · have h2 := okS_two hK hk hs
    have hsn : s < n := by
      obtain ⟨_, h⟩ := hs
      unfold many at h
      split at h <;> omega
    have el : low k (s : Int) = (s : Int) := by unfold low; rw [if_neg hk]
    rw [el, turned_nm hk, if_pos (by rw [Int.sub_self]; rfl), item_in hk hsn]
    by_cases hp : k = .pl ∨ s + 1 < n
    · have hs1 : s + 1 < n := by
        rcases hp with rfl | h
        · obtain ⟨_, h⟩ := hs
          unfold many at h
          rw [if_pos rfl] at h
          omega
        · exact h
      have := item_in hk (w := w) (i := s + 1) hs1
      rw [show ((s : Int) + 1) = ((s + 1 : Nat) : Int) by omega, this]
      unfold exch
      by_cases hp : k = .pl
      · rw [if_pos hp]
      · have hr : k = .ri := by cases k <;> simp_all
        rw [if_neg hp, if_pos hr, if_neg (by omega)]
    · have hr : k = .ri := by cases k <;> simp_all
      subst hr
      have hs1 : s + 1 = n := by
        have : ¬ s + 1 < n := fun z => hp (.inr z)
        omega
      unfold exch
      rw [if_neg (by decide), if_pos rfl, if_pos hs1, item_nm hk, show ((s : Int) + 1) = (n : Int) by omega, Int.emod_self]
      show decide (w.getD 0 0 + (n : Int) < w.getD s 0) = decide (w.getD 0 0 + (n : Int) - 0 < w.getD s 0)
      rw [Int.sub_zero]
/-! ### sums over pairs -/
def sumP (f : Int → Int → Int) : List Int → Int
  | [] => 0
  | x :: w => (w.map (f x)).sum + sumP f w
theorem sum_perm {xs ys : List Int} (h : xs.Perm ys) : xs.sum = ys.sum := by
  induction h with
  | nil => rfl
  | cons x _ ih => rw [List.sum_cons, List.sum_cons, ih]
  | swap x y l => rw [List.sum_cons, List.sum_cons, List.sum_cons, List.sum_cons]; omega
  | trans _ _ a b => rw [a, b]
theorem swap_perm (l r : List Int) (x y : Int) : (l ++ x :: y :: r).Perm (l ++ y :: x :: r) := List.Perm.append_left l (List.Perm.swap y x r)
theorem sumP_swap (f : Int → Int → Int) (x y : Int) (r : List Int) : ∀ l : List Int, sumP f (l ++ y :: x :: r) = sumP f (l ++ x :: y :: r) + f y x - f x y
  | [] => by
    show ((x :: r).map (f y)).sum + ((r.map (f x)).sum + sumP f r) = ((y :: r).map (f x)).sum + ((r.map (f y)).sum + sumP f r) + f y x - f x y
    rw [List.map_cons, List.map_cons, List.sum_cons, List.sum_cons]
    omega
  | a :: l => by
    show ((l ++ y :: x :: r).map (f a)).sum + sumP f (l ++ y :: x :: r) = ((l ++ x :: y :: r).map (f a)).sum + sumP f (l ++ x :: y :: r) + f y x - f x y
    rw [sumP_swap f x y r l, sum_perm ((swap_perm l r x y).map (f a))]
    omega
theorem sumP_snoc (f : Int → Int → Int) (x : Int) : ∀ w : List Int, sumP f (w ++ [x]) = sumP f w + (w.map fun a => f a x).sum
  | [] => rfl
  | a :: w => by
    show ((w ++ [x]).map (f a)).sum + sumP f (w ++ [x]) = (w.map (f a)).sum + sumP f w + ((a :: w).map fun a => f a x).sum
    rw [sumP_snoc f x w, List.map_append, List.sum_append, List.map_cons, List.map_cons, List.map_nil, List.sum_cons, List.sum_cons, List.sum_nil]
    omega
theorem pairsTo_sum (g : Int × Int → Int) (w : List Int) : ∀ b : Nat, b ≤ w.length → ((pairsTo w b).map g).sum = sumP (fun x y => g (x, y)) (w.take b)
  | 0, _ => rfl
  | b + 1, h => by
    have e : w.take (b + 1) = w.take b ++ [w.getD b 0] := by
      rw [List.take_add_one, List.getD_eq_getElem?_getD, List.getElem?_eq_getElem (by omega)]
      rfl
    rw [e, sumP_snoc, ← pairsTo_sum g w b (by omega)]
    show ((pairsTo w b ++ rowPairs w b).map g).sum = _
    rw [List.map_append, List.sum_append]
    congr 1
    unfold rowPairs
    rw [List.map_map]
    congr 1
    apply List.ext_getElem?
    intro i
    rw [List.getElem?_map, List.getElem?_map, List.getElem?_take]
    by_cases hi : i < b
    · rw [List.getElem?_range hi, if_pos hi, List.getElem?_eq_getElem (by omega)]
      show some (g (w.getD i 0, w.getD b 0)) = some (g (w[i], w.getD b 0))
      rw [List.getD_eq_getElem?_getD (i := i), List.getElem?_eq_getElem (by omega)]
      rfl
    · rw [if_neg hi, List.getElem?_eq_none (by rw [List.length_range]; omega)]
      rfl
theorem pairsL_sum (g : Int × Int → Int) (w : List Int) : ((pairsL w).map g).sum = sumP (fun x y => g (x, y)) w := by
  have := pairsTo_sum g w w.length (Nat.le_refl _)
  rw [List.take_length] at this
  exact this
theorem filter_sum {α : Type} (p : α → Bool) : ∀ l : List α, ((l.filter p).length : Int) = (l.map fun x => if p x then (1 : Int) else 0).sum
  | [] => rfl
  | a :: l => by
    rw [List.map_cons, List.sum_cons, ← filter_sum p l, List.filter_cons]
    by_cases h : p a = true
    · rw [if_pos h, if_pos h, List.length_cons]
      omega
    · rw [if_neg h, if_neg h]
      omega
def fLt (x y : Int) : Int := if y < x then 1 else 0
def fNg (x y : Int) : Int := if x + y < 0 then 1 else 0
def gNg (x : Int) : Int := if x < 0 then 1 else 0
def fRi (n : Nat) (x y : Int) : Int := absI ((y - x) / (n : Int))
theorem dec_if {p : Prop} [Decidable p] : (if decide p = true then (1 : Int) else 0) = if p then 1 else 0 := by
  by_cases h : p <;> simp [h]
theorem crP_pl (n : Nat) (w : List Int) : crP .pl n w = sumP fLt w := by
  unfold crP
  rw [if_neg (by decide), if_neg (by decide), filter_sum, pairsL_sum]
  congr 1
  funext x y
  exact dec_if
theorem crP_mi (n : Nat) (w : List Int) : crP .mi n w = sumP fLt w + (w.map gNg).sum + sumP fNg w := by
  unfold crP
  rw [if_neg (by decide), if_pos rfl, filter_sum, filter_sum, filter_sum, pairsL_sum, pairsL_sum]
  congr 1
  · congr 1
    · congr 1
      funext x y
      exact dec_if
    · congr 1
      apply List.map_congr_left
      intro x _
      exact dec_if
  · congr 1
    funext x y
    exact dec_if
theorem crP_ri (n : Nat) (w : List Int) : crP .ri n w = sumP (fRi n) w := by
  unfold crP
  rw [if_pos rfl, pairsL_sum]
  rfl
end Sv

/-! Crossings change by one at a step; forms stay; what no step crosses is the start: by the verifier. -/
namespace Sv
open PySem L2
theorem startL_nodup (k : Nm) (n : Nat) : (startL k n).Nodup := by
  unfold startL
  rw [List.nodup_iff_pairwise_ne, List.pairwise_map]
  refine List.Pairwise.imp ?_ (List.pairwise_lt_range (n := n))
  intro a b h
  omega
theorem split2 {w : List Int} {s : Nat} (h : s + 1 < w.length) : ∃ l x y r, w = l ++ x :: y :: r ∧ l.length = s := by
  refine ⟨w.take s, w[s], w[s + 1], w.drop (s + 2), ?_, by rw [List.length_take]; omega⟩
  rw [← List.drop_eq_getElem_cons, ← List.drop_eq_getElem_cons, List.take_append_drop]
theorem getD_l {l r : List Int} {x : Int} : (l ++ x :: r).getD l.length 0 = x := by
  rw [List.getD_eq_getElem?_getD, List.getElem?_append_right (Nat.le_refl _), Nat.sub_self]
  rfl
theorem getD_l1 {l r : List Int} {x y : Int} : (l ++ x :: y :: r).getD (l.length + 1) 0 = y := by
  rw [List.getD_eq_getElem?_getD, List.getElem?_append_right (by omega), show l.length + 1 - l.length = 1 by omega]
  rfl
theorem set_l {l r : List Int} {x y a b : Int} : ((l ++ x :: y :: r).set l.length a).set (l.length + 1) b = l ++ a :: b :: r := by
  rw [List.set_append_right _ _ (Nat.le_refl _), Nat.sub_self, List.set_append_right _ _ (by omega), show l.length + 1 - l.length = 1 by omega]
  rfl
theorem nodup_mid {l r : List Int} {x y : Int} (h : (l ++ x :: y :: r).Nodup) : x ≠ y := by
  have := (List.nodup_append.mp h).2.1
  rw [List.nodup_cons] at this
  intro e
  exact this.1 (e ▸ List.mem_cons_self)
theorem lt_swap {x y : Int} (h : x ≠ y) : fLt y x - fLt x y = if y < x then -1 else 1 := by
  unfold fLt
  repeat' split
  all_goals omega
theorem ng_swap (x y : Int) : fNg y x = fNg x y := by
  unfold fNg
  rw [Int.add_comm]
theorem ri_swap {n : Nat} {x y : Int} (hn : 2 ≤ n ∧ n ≤ 7) (h : x % (n : Int) ≠ y % (n : Int)) : fRi n y x - fRi n x y = if y < x then -1 else 1 := by
  unfold fRi absI
  rcases upto7 hn with rfl | rfl | rfl | rfl | rfl | rfl <;> (repeat' split) <;> omega
theorem ri_turn1 {n : Nat} {x a : Int} (hn : 2 ≤ n ∧ n ≤ 7) (h : x % (n : Int) ≠ a % (n : Int)) : fRi n (x - n) a = fRi n a x := by
  unfold fRi absI
  rcases upto7 hn with rfl | rfl | rfl | rfl | rfl | rfl <;> (repeat' split) <;> omega
theorem ri_turn2 {n : Nat} {x a : Int} (hn : 2 ≤ n ∧ n ≤ 7) (h : x % (n : Int) ≠ a % (n : Int)) : fRi n a (x + n) = fRi n x a := by
  unfold fRi absI
  rcases upto7 hn with rfl | rfl | rfl | rfl | rfl | rfl <;> (repeat' split) <;> omega
theorem ri_turn3 {n : Nat} {x y : Int} (hn : 2 ≤ n ∧ n ≤ 7) (h : x % (n : Int) ≠ y % (n : Int)) : fRi n (y - n) (x + n) - fRi n x y = if x + n < y then -1 else 1 := by
  unfold fRi absI
  rcases upto7 hn with rfl | rfl | rfl | rfl | rfl | rfl <;> (repeat' split) <;> omega
theorem mi_turn1 {x a : Int} (h : absI x ≠ absI a) : fLt (-x) a + fNg (-x) a = fLt x a + fNg x a := by
  unfold absI at h
  unfold fLt fNg
  (repeat' split at h) <;> (repeat' split) <;> omega
theorem sum_congr2 {f g f' g' : Int → Int} : ∀ {m : List Int}, (∀ a ∈ m, f a + g a = f' a + g' a) → (m.map f).sum + (m.map g).sum = (m.map f').sum + (m.map g').sum
  | [], _ => rfl
  | a :: m, h => by
    have h1 := sum_congr2 (m := m) fun b hb => h b (List.mem_cons_of_mem _ hb)
    have h2 := h a List.mem_cons_self
    simp only [List.map_cons, List.sum_cons]
    omega
theorem pl_ne {n : Nat} {l r : List Int} {x y : Int} (h : Form .pl n (l ++ x :: y :: r)) : x ≠ y := nodup_mid (h.2.nodup_iff.mpr (startL_nodup _ _))
theorem mi_ne {n : Nat} {l r : List Int} {x y : Int} (h : Form .mi n (l ++ x :: y :: r)) : absI x ≠ absI y := by
  have : ((l ++ x :: y :: r).map absI).Nodup := h.2.nodup_iff.mpr (startL_nodup _ _)
  rw [List.map_append, List.map_cons, List.map_cons] at this
  exact nodup_mid this
theorem ri_ne {n : Nat} {l r : List Int} {x y : Int} (h : Form .ri n (l ++ x :: y :: r)) : x % (n : Int) ≠ y % (n : Int) := by
  have : ((l ++ x :: y :: r).map fun x => x % (n : Int)).Nodup := h.2.2.nodup_iff.mpr (startL_nodup _ _)
  rw [List.map_append, List.map_cons, List.map_cons] at this
  exact nodup_mid this
/-- a ring's list, its first and last item apart -/
theorem splitE {w : List Int} {n : Nat} (hn : 2 ≤ n) (hl : w.length = n) : ∃ x m y, w = x :: (m ++ [y]) ∧ m.length + 2 = n := by
  cases w with
  | nil => simp at hl; omega
  | cons x w =>
    rcases List.eq_nil_or_concat w with rfl | ⟨m, y, rfl⟩
    · simp at hl; omega
    · refine ⟨x, m, y, by simp, ?_⟩
      simp at hl
      omega
theorem E_first {x y : Int} {m : List Int} : (x :: (m ++ [y])).getD 0 0 = x := rfl
theorem E_last {x y : Int} {m : List Int} : (x :: (m ++ [y])).getD (m.length + 1) 0 = y := by
  show (m ++ [y]).getD m.length 0 = y
  exact getD_l
theorem E_set {x y a b : Int} {m : List Int} : ((x :: (m ++ [y])).set (m.length + 1) a).set 0 b = b :: (m ++ [a]) := by
  show b :: (m ++ [y]).set m.length a = _
  rw [List.set_append_right _ _ (Nat.le_refl _), Nat.sub_self]
  rfl
theorem ri_all {n : Nat} {x y : Int} {m : List Int} (h : Form .ri n (x :: (m ++ [y]))) : (∀ a ∈ m, x % (n : Int) ≠ a % (n : Int) ∧ y % (n : Int) ≠ a % (n : Int)) ∧ x % (n : Int) ≠ y % (n : Int) := by
  have : ((x :: (m ++ [y])).map fun x => x % (n : Int)).Nodup := h.2.2.nodup_iff.mpr (startL_nodup _ _)
  rw [List.map_cons, List.map_append, List.nodup_cons, List.nodup_append] at this
  obtain ⟨h1, h2, h3, h4⟩ := this
  refine ⟨fun a ha => ⟨fun e => h1 ?_, fun e => ?_⟩, fun e => h1 ?_⟩
  · rw [e]
    exact List.mem_append_left _ (List.mem_map_of_mem ha)
  · exact h4 _ (List.mem_map_of_mem ha) _ (List.mem_cons_self) e.symm
  · rw [e]
    exact List.mem_append_right _ (List.mem_cons_self)
theorem mi_all {n : Nat} {x : Int} {m : List Int} (h : Form .mi n (x :: m)) : (∀ a ∈ m, absI x ≠ absI a) ∧ x ≠ 0 := by
  have h0 := h.2
  have : ((x :: m).map absI).Nodup := h0.nodup_iff.mpr (startL_nodup _ _)
  rw [List.map_cons, List.nodup_cons] at this
  refine ⟨fun a ha e => this.1 (by rw [e]; exact List.mem_map_of_mem ha), fun e => ?_⟩
  have : absI x ∈ startL .mi n := h0.mem_iff.mp (by rw [List.map_cons]; exact List.mem_cons_self)
  obtain ⟨i, _, e2⟩ := mem_startL this
  rw [e] at e2
  have : (0 : Int) = 1 + (i : Int) := e2
  omega
theorem bool_if {c : Prop} [Decidable c] {b : Bool} (h : b = decide c) : (if b = true then (-1 : Int) else 1) = if c then -1 else 1 := by
  subst h
  by_cases hc : c <;> simp [hc]
/-- a swap of two items that stand together -/
theorem swap_in {k : Nm} {n : Nat} {l r : List Int} {x y : Int} (hK : okK k n = true) (hF : Form k n (l ++ x :: y :: r)) :
    crP k n (l ++ y :: x :: r) = crP k n (l ++ x :: y :: r) + (if y < x then -1 else 1) ∧ Form k n (l ++ y :: x :: r) := by
  have pm := swap_perm l r x y
  refine ⟨?_, ?_⟩
  · cases k with
    | pl =>
      have := lt_swap (pl_ne hF)
      rw [crP_pl, crP_pl, sumP_swap]
      omega
    | mi =>
      have h1 := mi_ne hF
      have h2 : x ≠ y := fun e => h1 (by rw [e])
      have := lt_swap h2
      rw [crP_mi, crP_mi, sumP_swap, sumP_swap fNg, ng_swap x y, sum_perm (pm.symm.map gNg)]
      omega
    | ri =>
      have h2 := of_decide_eq_true hK
      have := ri_swap ⟨h2.1, by omega⟩ (ri_ne hF)
      rw [crP_ri, crP_ri, sumP_swap]
      omega
  · obtain ⟨hl, hf⟩ := hF
    refine ⟨by rw [← hl]; exact pm.symm.length_eq, ?_⟩
    cases k with
    | pl => exact pm.symm.trans hf
    | mi => exact (pm.symm.map absI).trans hf
    | ri => exact ⟨by rw [← hf.1]; exact sum_perm pm.symm, (pm.symm.map _).trans hf.2⟩
theorem step_in {k : Nm} {n : Nat} {w : List Int} {s : Nat} (hk : k ≠ .mi) (h : s + 1 < n) : crossP k n w s = decide (w.getD (s + 1) 0 < w.getD s 0) := by
  unfold crossP exch
  by_cases hp : k = .pl
  · rw [if_pos hp]
  · have hr : k = .ri := by cases k <;> simp_all
    rw [if_neg hp, if_pos hr, if_neg (by omega)]
theorem cr_step {k : Nm} {n : Nat} {w : List Int} {s : Nat} (hK : okK k n = true) (hs : okS k n (s : Int)) (hF : Form k n w) :
    crP k n (after k n w s) = crP k n w + (if crossP k n w s = true then -1 else 1) ∧ Form k n (after k n w s) := by
  have hl := hF.1
  by_cases hk : k = .mi
  · subst hk
    have h2 := okS_mi hs
    by_cases h0 : s = 0
    · subst h0
      rw [after_mi0, bool_if (c := w.getD 0 0 < -(w.getD 0 0)) (by unfold crossP; rw [exch_mi0])]
      cases w with
      | nil => simp at hl; omega
      | cons x m =>
        obtain ⟨ha, hx⟩ := mi_all hF
        show crP .mi n (-x :: m) = crP .mi n (x :: m) + (if x < -x then -1 else 1) ∧ Form .mi n (-x :: m)
        refine ⟨?_, ?_⟩
        · rw [crP_mi, crP_mi]
          simp only [sumP, List.map_cons, List.sum_cons]
          have := sum_congr2 (f := fLt (-x)) (g := fNg (-x)) (f' := fLt x) (g' := fNg x) (m := m) fun a h => mi_turn1 (ha a h)
          have e : gNg (-x) = gNg x + (if x < -x then -1 else 1) := by
            unfold gNg
            repeat' split
            all_goals omega
          omega
        · refine ⟨hl, ?_⟩
          have e : absI (-x) = absI x := by
            unfold absI
            repeat' split
            all_goals omega
          show ((-x :: m).map absI).Perm _
          rw [List.map_cons, e]
          exact hF.2
    · obtain ⟨l, x, y, r, rfl, e⟩ := split2 (w := w) (s := s - 1) (by omega)
      have es : s = l.length + 1 := by omega
      subst es
      rw [after_mis h0, Nat.add_sub_cancel, getD_l, getD_l1, set_l, bool_if (c := y < x) (by unfold crossP; rw [exch_mis h0, Nat.add_sub_cancel, getD_l, getD_l1])]
      exact swap_in hK hF
  · have h2 := okS_two hK hk hs
    have hsn : s < n := by
      obtain ⟨_, h⟩ := hs
      unfold many at h
      split at h <;> omega
    by_cases hs1 : s + 1 < n
    · obtain ⟨l, x, y, r, rfl, e⟩ := split2 (w := w) (s := s) (by omega)
      subst e
      rw [after_in hk hs1, getD_l, getD_l1, set_l, bool_if (c := y < x) (by rw [step_in hk hs1, getD_l, getD_l1])]
      exact swap_in hK hF
    · have hr : k = .ri := by
        cases k with
        | mi => exact absurd rfl hk
        | pl =>
          obtain ⟨_, h⟩ := hs
          unfold many at h
          rw [if_pos rfl] at h
          omega
        | ri => rfl
      subst hr
      have he : s + 1 = n := by omega
      obtain ⟨x, m, y, rfl, em⟩ := splitE h2.1 hl
      have es : s = m.length + 1 := by omega
      subst es
      obtain ⟨ha, hxy⟩ := ri_all hF
      rw [after_ril he, E_first, E_last, E_set, bool_if (c := x + (n : Int) < y) (by unfold crossP; rw [exch_ril he, E_first, E_last])]
      refine ⟨?_, ?_⟩
      · rw [crP_ri, crP_ri]
        show ((m ++ [x + (n : Int)]).map (fRi n (y - n))).sum + sumP (fRi n) (m ++ [x + (n : Int)]) = ((m ++ [y]).map (fRi n x)).sum + sumP (fRi n) (m ++ [y]) + _
        rw [sumP_snoc, sumP_snoc]
        simp only [List.map_append, List.map_cons, List.map_nil, List.sum_append, List.sum_cons, List.sum_nil]
        have h3 := ri_turn3 h2 hxy
        have e1 : m.map (fRi n (y - n)) = m.map (fun a => fRi n a y) := List.map_congr_left fun a h => ri_turn1 h2 (ha a h).2
        have e2 : m.map (fun a => fRi n a (x + n)) = m.map (fRi n x) := List.map_congr_left fun a h => ri_turn2 h2 (ha a h).1
        rw [e1, e2]
        omega
      · obtain ⟨_, hsum, hp⟩ := hF
        refine ⟨by simp at hl ⊢; omega, ?_, ?_⟩
        · rw [← hsum]
          simp only [List.sum_cons, List.sum_append, List.sum_nil]
          omega
        · refine List.Perm.trans ?_ hp
          simp only [List.map_cons, List.map_append, List.map_nil, Int.add_emod_right, Int.sub_emod_right]
          refine List.Perm.trans (List.perm_append_comm (l₁ := (y % (n : Int)) :: _) (l₂ := [x % (n : Int)])) ?_
          refine List.Perm.cons _ ?_
          exact (List.perm_append_comm (l₁ := [y % (n : Int)]))
/-! ### what no step crosses -/
theorem adj_le {w : List Int} (h : ∀ i, i + 1 < w.length → w.getD i 0 ≤ w.getD (i + 1) 0) : ∀ j i, i ≤ j → j < w.length → w.getD i 0 ≤ w.getD j 0
  | 0, i, hi, hj => by
    have : i = 0 := by omega
    subst this
    exact Int.le_refl _
  | j + 1, i, hi, hj => by
    by_cases e : i = j + 1
    · subst e
      exact Int.le_refl _
    · exact Int.le_trans (adj_le h j i (by omega) (by omega)) (h j hj)
theorem sorted_adj {w : List Int} (h : ∀ i, i + 1 < w.length → w.getD i 0 ≤ w.getD (i + 1) 0) : w.Pairwise (· ≤ ·) := by
  rw [List.pairwise_iff_getElem]
  intro i j hi hj hij
  have := adj_le h j i (by omega) hj
  rw [List.getD_eq_getElem?_getD, List.getD_eq_getElem?_getD, List.getElem?_eq_getElem hi, List.getElem?_eq_getElem hj] at this
  exact this
theorem form_start {k : Nm} {n : Nat} (hK : okK k n = true) : Form k n (startL k n) := by
  refine ⟨startL_len _ _, ?_⟩
  cases k with
  | pl => exact List.Perm.refl _
  | mi =>
    have e : (startL .mi n).map absI = startL .mi n := by
      unfold startL
      rw [List.map_map]
      apply List.map_congr_left
      intro i _
      show absI (1 + (i : Int)) = 1 + (i : Int)
      unfold absI
      rw [if_neg (by omega)]
    show ((startL .mi n).map absI).Perm _
    rw [e]
  | ri =>
    have h2 := of_decide_eq_true hK
    have : n = 2 ∨ n = 3 ∨ n = 4 ∨ n = 5 := by omega
    rcases this with rfl | rfl | rfl | rfl
    · exact ⟨rfl, List.Perm.refl _⟩
    · exact ⟨rfl, List.Perm.refl _⟩
    · exact ⟨rfl, List.Perm.refl _⟩
    · exact ⟨rfl, List.Perm.refl _⟩
theorem nofall {k : Nm} {n : Nat} {w : List Int} (hK : okK k n = true) (hF : Form k n w) (h : ∀ s : Nat, okS k n (s : Int) → crossP k n w s = false) : w = startL k n := by
  have hl := hF.1
  have hn := okK_le hK
  cases k with
  | pl =>
    refine sorted_start (List.Perm.refl _) (sorted_adj fun i hi => ?_) hF.2
    have := h i ⟨by omega, by unfold many; rw [if_pos rfl]; omega⟩
    rw [step_in (by decide) (by omega)] at this
    have := of_decide_eq_false this
    omega
  | mi =>
    have hs : w.Pairwise (· ≤ ·) := sorted_adj fun i hi => by
      have := h (i + 1) ⟨by omega, by unfold many; rw [if_neg (by decide)]; omega⟩
      unfold crossP at this
      rw [exch_mis (by omega)] at this
      have := of_decide_eq_false this
      rw [Nat.add_sub_cancel] at this
      omega
    have h0 := h 0 ⟨by omega, by unfold many; rw [if_neg (by decide)]; omega⟩
    unfold crossP at h0
    rw [exch_mi0] at h0
    have h0 := of_decide_eq_false h0
    have e : w.map absI = w := by
      have : ∀ a ∈ w, absI a = a := by
        intro a ha
        cases w with
        | nil => cases ha
        | cons x m =>
          have hx : 0 ≤ x := by
            have : ¬ x < -x := h0
            omega
          have hxa : x ≤ a := by
            rcases List.mem_cons.mp ha with rfl | hm
            · exact Int.le_refl _
            · exact (List.pairwise_cons.mp hs).1 a hm
          unfold absI
          rw [if_neg (by omega)]
      rw [List.map_congr_left this, List.map_id']
    have hp := hF.2
    change (w.map absI).Perm _ at hp
    rw [e] at hp
    exact sorted_start (List.Perm.refl _) hs hp
  | ri =>
    have h2 := of_decide_eq_true hK
    have hi : ∀ i, i + 1 < n → w.getD i 0 < w.getD (i + 1) 0 := fun i hi => by
      have := h i ⟨by omega, by unfold many; rw [if_neg (by decide)]; omega⟩
      rw [step_in (by decide) (by omega)] at this
      have := of_decide_eq_false this
      obtain ⟨l, x, y, r, rfl, e⟩ := split2 (w := w) (s := i) (by omega)
      subst e
      have hne := ri_ne hF
      rw [getD_l, getD_l1] at this ⊢
      have : x ≠ y := fun e => hne (by rw [e])
      omega
    have hz := h (n - 1) ⟨by omega, by unfold many; rw [if_neg (by decide)]; omega⟩
    unfold crossP at hz
    rw [exch_ril (by omega)] at hz
    have hz := of_decide_eq_false hz
    have hsum := hF.2.1
    have hz : w.getD (n - 1) 0 < w.getD 0 0 + (n : Int) := by
      obtain ⟨x, m, y, rfl, em⟩ := splitE h2.1 hl
      obtain ⟨_, hxy⟩ := ri_all hF
      have e1 : n - 1 = m.length + 1 := by omega
      rw [e1, E_first, E_last] at hz ⊢
      have : y ≠ x + (n : Int) := fun e => hxy (by rw [e, Int.add_emod_right])
      omega
    clear h hF hK
    have : n = 2 ∨ n = 3 ∨ n = 4 ∨ n = 5 := by omega
    rcases this with rfl | rfl | rfl | rfl
    · obtain ⟨a, b, rfl⟩ : ∃ a b, w = [a, b] := by
        match w, hl with
        | [a, b], _ => exact ⟨a, b, rfl⟩
      have i0 := hi 0 (by omega)
      simp at hsum hz i0
      show [a, b] = [0, 1]
      rw [show a = 0 by omega, show b = 1 by omega]
    · obtain ⟨a, b, c, rfl⟩ : ∃ a b c, w = [a, b, c] := by
        match w, hl with
        | [a, b, c], _ => exact ⟨a, b, c, rfl⟩
      have i0 := hi 0 (by omega)
      have i1 := hi 1 (by omega)
      simp at hsum hz i0 i1
      show [a, b, c] = [0, 1, 2]
      rw [show a = 0 by omega, show b = 1 by omega, show c = 2 by omega]
    · obtain ⟨a, b, c, d, rfl⟩ : ∃ a b c d, w = [a, b, c, d] := by
        match w, hl with
        | [a, b, c, d], _ => exact ⟨a, b, c, d, rfl⟩
      have i0 := hi 0 (by omega)
      have i1 := hi 1 (by omega)
      have i2 := hi 2 (by omega)
      simp at hsum hz i0 i1 i2
      show [a, b, c, d] = [0, 1, 2, 3]
      rw [show a = 0 by omega, show b = 1 by omega, show c = 2 by omega, show d = 3 by omega]
    · obtain ⟨a, b, c, d, e, rfl⟩ : ∃ a b c d e, w = [a, b, c, d, e] := by
        match w, hl with
        | [a, b, c, d, e], _ => exact ⟨a, b, c, d, e, rfl⟩
      have i0 := hi 0 (by omega)
      have i1 := hi 1 (by omega)
      have i2 := hi 2 (by omega)
      have i3 := hi 3 (by omega)
      simp at hsum hz i0 i1 i2 i3
      show [a, b, c, d, e] = [0, 1, 2, 3, 4]
      rw [show a = 0 by omega, show b = 1 by omega, show c = 2 by omega, show d = 3 by omega, show e = 4 by omega]
end Sv

/-! Orders that rows make; opposites: by the verifier. -/
namespace Sv
open PySem L2
def Ord (k : Nm) (n : Nat) (w : List Int) : Prop := ∃ l, (∀ s ∈ l, okS k n s) ∧ w = run k n (startL k n) l
theorem cr_stepI {k : Nm} {n : Nat} {w : List Int} {s : Int} (hK : okK k n = true) (hs : okS k n s) (hF : Form k n w) :
    crP k n (stepped k n w s) = crP k n w + (if crossed k n w s = true then -1 else 1) ∧ Form k n (stepped k n w s) := by
  obtain ⟨t, rfl⟩ := step_of hs
  have := cr_step hK hs hF
  rw [after_eq hK hs hF.1, cross_eq hK hs hF.1] at this
  exact this
theorem Ord.start (k : Nm) (n : Nat) : Ord k n (startL k n) := ⟨[], (fun s h => by cases h), rfl⟩
theorem Ord.step {k : Nm} {n : Nat} {w : List Int} {s : Int} (h : Ord k n w) (hs : okS k n s) : Ord k n (stepped k n w s) := by
  obtain ⟨l, hl, rfl⟩ := h
  refine ⟨l ++ [s], fun t ht => ?_, (run_snoc _ _ _ _ _).symm⟩
  rcases List.mem_append.mp ht with h | h
  · exact hl t h
  · rw [List.mem_singleton.mp h]
    exact hs
theorem run_form {k : Nm} {n : Nat} (hK : okK k n = true) : ∀ {l w : List Int}, (∀ s ∈ l, okS k n s) → Form k n w → Form k n (run k n w l) ∧ crP k n (run k n w l) ≤ crP k n w + (l.length : Int)
  | [], w, _, h => ⟨h, by show crP k n w ≤ crP k n w + 0; omega⟩
  | s :: l, w, hl, h => by
    have h1 := cr_stepI hK (hl s List.mem_cons_self) h
    have h2 := run_form hK (l := l) (fun t ht => hl t (List.mem_cons_of_mem _ ht)) h1.2
    refine ⟨h2.1, ?_⟩
    have h3 := h2.2
    have h4 := h1.1
    show crP k n (run k n (stepped k n w s) l) ≤ _
    rw [List.length_cons]
    split at h4 <;> omega
theorem cr_start {k : Nm} {n : Nat} (hK : okK k n = true) : crP k n (startL k n) = 0 := by
  have hn := okK_le hK
  have : n = 1 ∨ n = 2 ∨ n = 3 ∨ n = 4 ∨ n = 5 ∨ n = 6 ∨ n = 7 := by omega
  rcases this with rfl | rfl | rfl | rfl | rfl | rfl | rfl <;> cases k <;> (revert hK; decide +kernel)
theorem Ord.form {k : Nm} {n : Nat} {w : List Int} (hK : okK k n = true) (h : Ord k n w) : Form k n w := by
  obtain ⟨l, hl, rfl⟩ := h
  exact (run_form hK hl (form_start hK)).1
theorem sumP_nn {f : Int → Int → Int} (hf : ∀ x y, 0 ≤ f x y) : ∀ w : List Int, 0 ≤ sumP f w
  | [] => Int.le_refl _
  | x :: w => by
    have h1 := sumP_nn hf w
    have h2 : ∀ m : List Int, 0 ≤ (m.map (f x)).sum := by
      intro m
      induction m with
      | nil => exact Int.le_refl _
      | cons a m ih =>
        rw [List.map_cons, List.sum_cons]
        have := hf x a
        omega
    have h3 := h2 w
    show 0 ≤ (w.map (f x)).sum + sumP f w
    omega
theorem cr_nn (k : Nm) (n : Nat) (w : List Int) : 0 ≤ crP k n w := by
  cases k with
  | pl =>
    rw [crP_pl]
    exact sumP_nn (fun x y => by unfold fLt; split <;> omega) w
  | mi =>
    rw [crP_mi]
    have h1 := sumP_nn (f := fLt) (fun x y => by unfold fLt; split <;> omega) w
    have h2 := sumP_nn (f := fNg) (fun x y => by unfold fNg; split <;> omega) w
    have h3 : ∀ m : List Int, 0 ≤ (m.map gNg).sum := by
      intro m
      induction m with
      | nil => exact Int.le_refl _
      | cons a m ih =>
        rw [List.map_cons, List.sum_cons]
        have : 0 ≤ gNg a := by unfold gNg; split <;> omega
        omega
    have h4 := h3 w
    omega
  | ri =>
    rw [crP_ri]
    exact sumP_nn (fun x y => by unfold fRi absI; split <;> omega) w
theorem mem_fallsP {k : Nm} {n : Nat} {w : List Int} {s : Int} (hK : okK k n = true) (hl : w.length = n) : s ∈ fallsP k n w ↔ okS k n s ∧ crossed k n w s = true := by
  unfold fallsP
  rw [List.mem_map]
  constructor
  · rintro ⟨t, ht, rfl⟩
    obtain ⟨h1, h2⟩ := List.mem_filter.mp ht
    have hs : okS k n (t : Int) := by
      have := List.mem_range.mp h1
      exact ⟨by omega, by omega⟩
    rw [cross_eq hK hs hl] at h2
    exact ⟨hs, h2⟩
  · rintro ⟨hs, hc⟩
    obtain ⟨t, rfl⟩ := step_of hs
    refine ⟨t, List.mem_filter.mpr ⟨List.mem_range.mpr ?_, ?_⟩, rfl⟩
    · have := hs.2
      omega
    · rw [cross_eq hK hs hl]
      exact hc
theorem falls_nil {k : Nm} {n : Nat} {w : List Int} (hK : okK k n = true) (hF : Form k n w) (h : fallsP k n w = []) : w = startL k n := by
  refine nofall hK hF fun s hs => ?_
  cases e : crossP k n w s with
  | false => rfl
  | true =>
    rw [cross_eq hK hs hF.1] at e
    have := (mem_fallsP hK hF.1).mpr ⟨hs, e⟩
    rw [h] at this
    cases this
theorem step_step {k : Nm} {n : Nat} {w : List Int} {s : Int} (hK : okK k n = true) (hs : okS k n s) (hl : w.length = n) : stepped k n (stepped k n w s) s = w := by
  rw [← map_item (k := k) (u := stepped k n (stepped k n w s) s) (stepped_len _ _ _ _)]
  have e : (startL k n).map (item k n (stepped k n (stepped k n w s) s)) = (startL k n).map (item k n w) := by
    apply List.map_congr_left
    intro p hp
    have ho := startL_okP hp
    rw [item_step hK hs ho, item_step hK hs (turned_ok hs ho), turned_inv hK hs ho]
  rw [e, map_item hl]
theorem run_append (k : Nm) (n : Nat) (w l m : List Int) : run k n w (l ++ m) = run k n (run k n w l) m := List.foldl_append
theorem run_rev {k : Nm} {n : Nat} (hK : okK k n = true) : ∀ {l w : List Int}, (∀ s ∈ l, okS k n s) → w.length = n → run k n (run k n w l) l.reverse = w
  | [], _, _, _ => rfl
  | s :: l, w, hl, h => by
    rw [List.reverse_cons, run_snoc]
    show stepped k n (run k n (run k n (stepped k n w s) l) l.reverse) s = w
    rw [run_rev hK (fun t ht => hl t (List.mem_cons_of_mem _ ht)) (stepped_len _ _ _ _), step_step hK (hl s List.mem_cons_self) h]
theorem item_runS {k : Nm} {n : Nat} (hK : okK k n = true) {l : List Int} {p : Int} (hl : ∀ s ∈ l, okS k n s) (hp : okP k n p) : item k n (run k n (startL k n) l) p = turns k n l p := by
  rw [item_run hK hl hp, item_start (okK_le hK).1 (turns_ok hl hp)]
theorem turns_snoc (k : Nm) (n : Nat) (s p : Int) : ∀ l : List Int, turns k n (l ++ [s]) p = turns k n l (turned k n s p)
  | [] => rfl
  | t :: l => by
    show turned k n t (turns k n (l ++ [s]) p) = turned k n t (turns k n l (turned k n s p))
    rw [turns_snoc k n s p l]
theorem rev_ok {k : Nm} {n : Nat} {l : List Int} (hl : ∀ s ∈ l, okS k n s) : ∀ s ∈ l.reverse, okS k n s := fun s h => hl s (List.mem_reverse.mp h)
theorem turns_rev {k : Nm} {n : Nat} (hK : okK k n = true) : ∀ {l : List Int} {p : Int}, (∀ s ∈ l, okS k n s) → okP k n p → turns k n l.reverse (turns k n l p) = p
  | [], _, _, _ => rfl
  | s :: l, p, hl, hp => by
    have hl' : ∀ t ∈ l, okS k n t := fun t ht => hl t (List.mem_cons_of_mem _ ht)
    rw [List.reverse_cons, turns_snoc]
    show turns k n l.reverse (turned k n s (turned k n s (turns k n l p))) = p
    rw [turned_inv hK (hl s List.mem_cons_self) (turns_ok hl' hp), turns_rev hK hl' hp]
theorem item_off {k : Nm} {n : Nat} {w : List Int} {i : Nat} (hi : i < n) : item k n w (off k + (i : Int)) = w.getD i 0 := by
  by_cases hk : k = .mi
  · subst hk
    show item .mi n w (1 + (i : Int)) = _
    rw [item_mi, sg_pos (by omega), show (1 + (i : Int)).natAbs - 1 = i by omega]
    omega
  · have e : off k = 0 := if_neg hk
    rw [e, Int.zero_add, item_in hk hi]
theorem form_okP {k : Nm} {n : Nat} {w : List Int} (hF : Form k n w) : ∀ x ∈ w, okP k n x := by
  intro x hx hk
  subst hk
  have : absI x ∈ startL .mi n := hF.2.mem_iff.mp (List.mem_map_of_mem hx)
  obtain ⟨i, hi, e⟩ := mem_startL this
  have e : absI x = 1 + (i : Int) := e
  unfold absI at e
  split at e <;> omega
theorem mem_getD {w : List Int} {i : Nat} (h : i < w.length) : w.getD i 0 ∈ w := by
  rw [List.getD_eq_getElem?_getD, List.getElem?_eq_getElem h]
  exact List.getElem_mem _
/-- each place is hit -/
theorem pos_hit {k : Nm} {n : Nat} {w : List Int} (hK : okK k n = true) (hF : Form k n w) {j : Nat} (hj : j < n) : ∃ i, i < n ∧ invPos k n (w.getD i 0) = j := by
  have hl := hF.1
  have hm : off k + (j : Int) ∈ startL k n := List.mem_of_getElem? (startL_get k n j hj)
  have fin : ∀ x ∈ w, invPos k n x = j → ∃ i, i < n ∧ invPos k n (w.getD i 0) = j := by
    intro x hx e
    obtain ⟨i, hi, ei⟩ := List.getElem_of_mem hx
    refine ⟨i, by omega, ?_⟩
    rw [List.getD_eq_getElem?_getD, List.getElem?_eq_getElem hi]
    show invPos k n w[i] = j
    rw [ei, e]
  cases k with
  | pl =>
    have hx := hF.2.mem_iff.mpr hm
    have e0 : off .pl + (j : Int) = (j : Int) := by show (0 : Int) + _ = _; omega
    rw [e0] at hx
    refine fin _ hx ?_
    show ((j : Int) % (n : Int)).toNat = j
    rw [Int.emod_eq_of_lt (by omega) (by omega)]
    rfl
  | mi =>
    obtain ⟨x, hx, e⟩ := List.mem_map.mp (hF.2.mem_iff.mpr hm)
    refine fin x hx ?_
    show x.natAbs - 1 = j
    have e : absI x = 1 + (j : Int) := e
    unfold absI at e
    split at e <;> omega
  | ri =>
    obtain ⟨x, hx, e⟩ := List.mem_map.mp (hF.2.2.mem_iff.mpr hm)
    refine fin x hx ?_
    have e : x % (n : Int) = 0 + (j : Int) := e
    show (x % (n : Int)).toNat = j
    omega
theorem inv_upto {k : Nm} {n : Nat} {w v : List Int} (hn : 1 ≤ n) (hv : v.length = n) (ho : ∀ i, i < n → okP k n (w.getD i 0)) (h : ∀ i, i < n → item k n v (w.getD i 0) = off k + (i : Int)) :
    ∀ i, i ≤ n → (invUpTo k n w i).length = n ∧ ∀ j, (∃ i', i' < i ∧ invPos k n (w.getD i' 0) = j) → (invUpTo k n w i).getD j 0 = v.getD j 0
  | 0, _ => ⟨startL_len _ _, fun j hj => by obtain ⟨i', h', _⟩ := hj; omega⟩
  | i + 1, hi => by
    obtain ⟨l1, h1⟩ := inv_upto hn hv ho h i (by omega)
    refine ⟨by show ((invUpTo k n w i).set _ _).length = n; rw [List.length_set, l1], fun j hj => ?_⟩
    show ((invUpTo k n w i).set (invPos k n (w.getD i 0)) (invVal k n i (w.getD i 0))).getD j 0 = v.getD j 0
    rw [getD_set]
    split
    · rename_i hc
      obtain ⟨rfl, _⟩ := hc
      have hh := h i (by omega)
      have hp := ho i (by omega)
      generalize w.getD i 0 = x at hh hp ⊢
      by_cases hk : k = .mi
      · subst hk
        obtain ⟨p0, p1⟩ := hp rfl
        rw [item_mi] at hh
        have hh : v.getD (x.natAbs - 1) 0 * sg x = 1 + (i : Int) := hh
        show (if 0 < x then (i : Int) + 1 else -(i : Int) - 1) = v.getD (x.natAbs - 1) 0
        by_cases hx : 0 < x
        · rw [sg_pos hx] at hh
          rw [if_pos hx]
          omega
        · rw [sg_neg (by omega)] at hh
          rw [if_neg hx]
          omega
      · rw [item_nm hk] at hh
        have e0 : off k = 0 := if_neg hk
        unfold invVal invPos
        rw [if_neg hk, if_neg hk]
        omega
    · rename_i hc
      refine h1 j ?_
      obtain ⟨i', hi', e⟩ := hj
      by_cases ee : i' = i
      · subst ee
        exfalso
        apply hc
        refine ⟨e.symm, ?_⟩
        rw [l1]
        have hp := ho i' (by omega)
        generalize w.getD i' 0 = x at hp ⊢
        unfold invPos
        by_cases hk : k = .mi
        · rw [if_pos hk]
          have := hp hk
          omega
        · rw [if_neg hk]
          have h1 := Int.emod_nonneg x (show (n : Int) ≠ 0 by omega)
          have h2 := Int.emod_lt_of_pos x (show (0 : Int) < n by omega)
          omega
      · exact ⟨i', by omega, e⟩
theorem inv_run {k : Nm} {n : Nat} {l : List Int} (hK : okK k n = true) (hl : ∀ s ∈ l, okS k n s) : invP k n (run k n (startL k n) l) = run k n (startL k n) l.reverse := by
  have hF := (run_form hK hl (form_start hK)).1
  have hn := okK_le hK
  have hlen := hF.1
  have ho : ∀ i, i < n → okP k n ((run k n (startL k n) l).getD i 0) := fun i hi => form_okP hF _ (mem_getD (by omega))
  have hv : (run k n (startL k n) l.reverse).length = n := run_len (startL_len _ _)
  have h := inv_upto hn.1 hv ho (fun i hi => by
    have hp := startL_okP (List.mem_of_getElem? (startL_get k n i hi))
    rw [← item_off hi, item_runS hK hl hp, item_runS hK (rev_ok hl) (turns_ok hl hp), turns_rev hK hl hp]) n (Nat.le_refl _)
  unfold invP
  rw [hlen]
  refine ext_getD h.1 hv fun j hj => h.2 j ?_
  obtain ⟨i, hi, e⟩ := pos_hit hK hF hj
  exact ⟨i, hi, e⟩
theorem Ord.inv {k : Nm} {n : Nat} {w : List Int} (hK : okK k n = true) (h : Ord k n w) : Ord k n (invP k n w) ∧ invP k n (invP k n w) = w := by
  obtain ⟨l, hl, rfl⟩ := h
  rw [inv_run hK hl, inv_run hK (rev_ok hl), List.reverse_reverse]
  exact ⟨⟨_, rev_ok hl, rfl⟩, rfl⟩
/-- a least row, by taking falls away -/
theorem least_ex {k : Nm} {n : Nat} (hK : okK k n = true) : ∀ (m : Nat) (w : List Int), Form k n w → crP k n w ≤ (m : Int) → ∃ l, (∀ s ∈ l, okS k n s) ∧ w = run k n (startL k n) l ∧ (l.length : Int) = crP k n w
  | 0, w, hF, hm => by
    by_cases hf : fallsP k n w = []
    · have e := falls_nil hK hF hf
      refine ⟨[], (fun s h => by cases h), e, ?_⟩
      rw [e, cr_start hK]
      rfl
    · obtain ⟨s, r, es⟩ := List.exists_cons_of_ne_nil hf
      have hs := (mem_fallsP hK hF.1).mp (by rw [es]; exact List.mem_cons_self)
      have := (cr_stepI hK hs.1 hF).1
      rw [if_pos hs.2] at this
      have := cr_nn k n (stepped k n w s)
      omega
  | m + 1, w, hF, hm => by
    by_cases hf : fallsP k n w = []
    · have e := falls_nil hK hF hf
      refine ⟨[], (fun s h => by cases h), e, ?_⟩
      rw [e, cr_start hK]
      rfl
    · obtain ⟨s, r, es⟩ := List.exists_cons_of_ne_nil hf
      have hs := (mem_fallsP hK hF.1).mp (by rw [es]; exact List.mem_cons_self)
      have h1 := cr_stepI hK hs.1 hF
      rw [if_pos hs.2] at h1
      obtain ⟨l, hl, e, c⟩ := least_ex hK m _ h1.2 (by omega)
      refine ⟨l ++ [s], fun t ht => ?_, ?_, ?_⟩
      · rcases List.mem_append.mp ht with h | h
        · exact hl t h
        · rw [List.mem_singleton.mp h]
          exact hs.1
      · rw [run_snoc, ← e, step_step hK hs.1 hF.1]
      · rw [List.length_append, List.length_singleton]
        omega
theorem form_ord {k : Nm} {n : Nat} {w : List Int} (hK : okK k n = true) (hF : Form k n w) : Ord k n w := by
  obtain ⟨l, hl, e, _⟩ := least_ex hK (crP k n w).toNat w hF (by omega)
  exact ⟨l, hl, e⟩
theorem cr_inv_le {k : Nm} {n : Nat} {w : List Int} (hK : okK k n = true) (hF : Form k n w) : crP k n (invP k n w) ≤ crP k n w := by
  obtain ⟨l, hl, e, c⟩ := least_ex hK (crP k n w).toNat w hF (by omega)
  have e2 : invP k n w = run k n (startL k n) l.reverse := by rw [e, inv_run hK hl]
  have := (run_form hK (rev_ok hl) (form_start hK)).2
  rw [← e2, cr_start hK, List.length_reverse] at this
  omega
theorem cr_inv {k : Nm} {n : Nat} {w : List Int} (hK : okK k n = true) (h : Ord k n w) : crP k n (invP k n w) = crP k n w := by
  have h1 := cr_inv_le hK (h.form hK)
  have h2 := cr_inv_le hK ((h.inv hK).1.form hK)
  rw [(h.inv hK).2] at h2
  omega
/-- a step from ahead -/
def aheadL (k : Nm) (n : Nat) (w : List Int) (s : Int) : List Int := w.map (turned k n s)
theorem prod_ahead {k : Nm} {n : Nat} {w : List Int} {s : Int} (hK : okK k n = true) (hs : okS k n s) (hF : Form k n w) : w.map (item k n (stepped k n (startL k n) s)) = aheadL k n w s := by
  apply List.map_congr_left
  intro p hp
  have ho := form_okP hF p hp
  rw [item_step hK hs ho, item_start (okK_le hK).1 (turned_ok hs ho)]
theorem prodP_eq {k : Nm} {n : Nat} {w u : List Int} (hF : Form k n w) : prodP k n u w = w.map (item k n u) := by
  unfold prodP
  apply List.map_congr_left
  intro p hp
  exact itemP_eq (form_okP hF p hp)
theorem ahead_run {k : Nm} {n : Nat} {l : List Int} {s : Int} (hK : okK k n = true) (hs : okS k n s) (hl : ∀ s ∈ l, okS k n s) : aheadL k n (run k n (startL k n) l) s = run k n (startL k n) (s :: l) := by
  have hcons : ∀ t ∈ s :: l, okS k n t := fun t ht => by
    rcases List.mem_cons.mp ht with rfl | h
    · exact hs
    · exact hl t h
  have e1 : (startL k n).map (item k n (run k n (startL k n) (s :: l))) = run k n (startL k n) (s :: l) := map_item (run_len (startL_len _ _))
  have e2 : (startL k n).map (item k n (run k n (startL k n) l)) = run k n (startL k n) l := map_item (run_len (startL_len _ _))
  rw [← e1]
  unfold aheadL
  conv => lhs; rw [← e2]
  rw [List.map_map]
  apply List.map_congr_left
  intro p hp
  have ho := startL_okP hp
  show turned k n s (item k n (run k n (startL k n) l) p) = _
  rw [item_runS hK hl ho, item_runS hK hcons ho]
  rfl
theorem ahead_len (k : Nm) (n : Nat) (w : List Int) (s : Int) : (aheadL k n w s).length = w.length := List.length_map _
theorem ahead_ahead {k : Nm} {n : Nat} {w : List Int} {s : Int} (hK : okK k n = true) (hs : okS k n s) (hF : Form k n w) : aheadL k n (aheadL k n w s) s = w := by
  unfold aheadL
  rw [List.map_map]
  have : w.map (turned k n s ∘ turned k n s) = w.map id := List.map_congr_left fun p hp => turned_inv hK hs (form_okP hF p hp)
  rw [this, List.map_id]
theorem ahead_cr {k : Nm} {n : Nat} {w : List Int} {s : Int} (hK : okK k n = true) (hs : okS k n s) (h : Ord k n w) :
    Ord k n (aheadL k n w s) ∧ crP k n (aheadL k n w s) = crP k n w + (if crossed k n (invP k n w) s = true then -1 else 1) := by
  obtain ⟨l, hl, rfl⟩ := h
  have hcons : ∀ t ∈ s :: l, okS k n t := fun t ht => by
    rcases List.mem_cons.mp ht with rfl | h
    · exact hs
    · exact hl t h
  have hO : Ord k n (run k n (startL k n) (s :: l)) := ⟨_, hcons, rfl⟩
  rw [ahead_run hK hs hl]
  refine ⟨hO, ?_⟩
  rw [← cr_inv hK hO, inv_run hK hcons, List.reverse_cons, run_snoc]
  have hO2 : Ord k n (run k n (startL k n) l) := ⟨_, hl, rfl⟩
  have h1 := (cr_stepI hK hs ((hO2.inv hK).1.form hK)).1
  rw [inv_run hK hl] at h1
  rw [h1, inv_run hK hl, ← inv_run hK hl, cr_inv hK hO2]
end Sv

/-! Opposites laid upon noughts, products by items at places, by the verifier. -/
namespace Sv
open PySem L2
def invZ (k : Nm) (n : Nat) (w : List Int) : Nat → List Int
  | 0 => List.replicate n 0
  | i + 1 => (invZ k n w i).set (invPos k n (w.getD i 0)) (invVal k n i (w.getD i 0))
theorem invZ_len (k : Nm) (n : Nat) (w : List Int) : ∀ i, (invZ k n w i).length = n
  | 0 => List.length_replicate
  | i + 1 => by
    show ((invZ k n w i).set _ _).length = n
    rw [List.length_set]
    exact invZ_len k n w i
theorem invU_len (k : Nm) (n : Nat) (w : List Int) : ∀ i, (invUpTo k n w i).length = n
  | 0 => startL_len k n
  | i + 1 => by
    show ((invUpTo k n w i).set _ _).length = n
    rw [List.length_set]
    exact invU_len k n w i
theorem invZ_same (k : Nm) (n : Nat) (w : List Int) {j : Nat} (hj : j < n) : ∀ i, (∃ m, m < i ∧ invPos k n (w.getD m 0) = j) → (invZ k n w i).getD j 0 = (invUpTo k n w i).getD j 0
  | 0, h => by
    obtain ⟨m, hm, _⟩ := h
    omega
  | i + 1, h => by
    show ((invZ k n w i).set _ _).getD j 0 = ((invUpTo k n w i).set _ _).getD j 0
    by_cases e : invPos k n (w.getD i 0) = j
    · have h1 : invPos k n (w.getD i 0) < (invZ k n w i).length := by rw [invZ_len]; omega
      have h2 : invPos k n (w.getD i 0) < (invUpTo k n w i).length := by rw [invU_len]; omega
      rw [getD_setS _ _ _ _ h1, getD_setS _ _ _ _ h2, if_pos e.symm, if_pos e.symm]
    · have ih := invZ_same k n w hj i (by
        obtain ⟨m, hm, em⟩ := h
        refine ⟨m, ?_, em⟩
        by_cases z : m = i
        · subst z; exact absurd em e
        · omega)
      rw [List.getD_eq_getElem?_getD, List.getElem?_set_ne e, List.getD_eq_getElem?_getD, List.getElem?_set_ne e]
      rw [List.getD_eq_getElem?_getD, List.getD_eq_getElem?_getD] at ih
      exact ih
theorem form_cover {k : Nm} {n : Nat} {w : List Int} (hF : Form k n w) {j : Nat} (hj : j < n) : ∃ m, m < w.length ∧ invPos k n (w.getD m 0) = j := by
  obtain ⟨hl, h⟩ := hF
  have get : ∀ x, x ∈ w → ∃ m, m < w.length ∧ w.getD m 0 = x := fun x hx => by
    obtain ⟨m, hm, e⟩ := List.mem_iff_getElem.mp hx
    exact ⟨m, hm, by rw [List.getD_eq_getElem?_getD, List.getElem?_eq_getElem hm]; exact e⟩
  cases k with
  | pl =>
    have hm : (j : Int) ∈ w := h.mem_iff.mpr (by
      unfold startL off
      exact List.mem_map.mpr ⟨j, List.mem_range.mpr hj, by simp⟩)
    obtain ⟨m, hm, e⟩ := get _ hm
    refine ⟨m, hm, ?_⟩
    rw [e]
    unfold invPos
    rw [if_neg (by decide), Int.emod_eq_of_lt (by omega) (by omega)]
    omega
  | mi =>
    have hm : ((j : Int) + 1) ∈ w.map absI := h.mem_iff.mpr (by
      unfold startL off
      exact List.mem_map.mpr ⟨j, List.mem_range.mpr hj, by simp; omega⟩)
    obtain ⟨x, hx, e⟩ := List.mem_map.mp hm
    obtain ⟨m, hm, e2⟩ := get _ hx
    refine ⟨m, hm, ?_⟩
    rw [e2]
    unfold invPos
    rw [if_pos rfl]
    unfold absI at e
    split at e <;> omega
  | ri =>
    have hm : (j : Int) ∈ w.map (fun x => x % (n : Int)) := h.2.mem_iff.mpr (by
      unfold startL off
      exact List.mem_map.mpr ⟨j, List.mem_range.mpr hj, by simp⟩)
    obtain ⟨x, hx, e⟩ := List.mem_map.mp hm
    obtain ⟨m, hm, e2⟩ := get _ hx
    refine ⟨m, hm, ?_⟩
    rw [e2]
    unfold invPos
    rw [if_neg (by decide)]
    omega
theorem invZ_eq {k : Nm} {n : Nat} {w : List Int} (hF : Form k n w) : invZ k n w n = invP k n w := by
  unfold invP
  rw [hF.1]
  refine ext_getDS (by rw [invZ_len, invU_len]) fun j hj => ?_
  rw [invZ_len] at hj
  obtain ⟨m, hm, e⟩ := form_cover hF hj
  exact invZ_same k n w hj n ⟨m, by rw [hF.1] at hm; exact hm, e⟩
/-- places that may be asked -/
def okQ (k : Nm) (n : Nat) (x : Int) : Prop := match k with
  | .pl => 0 ≤ x ∧ x < n
  | .mi => x ≠ 0 ∧ x.natAbs ≤ n
  | .ri => True
theorem okQ_okP {k : Nm} {n : Nat} {x : Int} (h : okQ k n x) : okP k n x := fun e => by
  subst e
  exact h
theorem form_okQ {k : Nm} {n : Nat} {w : List Int} (hF : Form k n w) : ∀ x ∈ w, okQ k n x := fun x hx => by
  cases k with
  | pl =>
    have h := hF.2.mem_iff.mp hx
    obtain ⟨i, hi, e⟩ := mem_startL h
    have e2 : off .pl = 0 := rfl
    show 0 ≤ x ∧ x < n
    omega
  | mi => exact form_okP hF x hx rfl
  | ri => exact True.intro
theorem itemP_pl {n : Nat} {w : List Int} {x : Int} (h : okQ .pl n x) : itemP .pl n w x = w.getD x.toNat 0 := by
  obtain ⟨h1, h2⟩ := h
  unfold itemP
  rw [if_neg (by decide), Int.emod_eq_of_lt h1 h2]
  omega
theorem invPos_pl {n : Nat} {x : Int} (h : okQ .pl n x) : invPos .pl n x = x.toNat := by
  obtain ⟨h1, h2⟩ := h
  unfold invPos
  rw [if_neg (by decide), Int.emod_eq_of_lt h1 h2]
theorem invVal_pl {n i : Nat} {x : Int} (h : okQ .pl n x) : invVal .pl n i x = (i : Int) := by
  obtain ⟨h1, h2⟩ := h
  unfold invVal
  rw [if_neg (by decide), Int.emod_eq_of_lt h1 h2]
  omega
end Sv

namespace Sv
open PySem PySem.Spec PyProof.Rows L2
def rLenK (K : PySem.W.Frag) : List V → Hp → VK → Prop := fun xs H Q => ∃ p ys, xs = [.ref p] ∧ (SqL K H p ys ∨ SqT K H p ys) ∧ Q (.int ys.length) H
structure Rd (P : Program) (w : World) (K : PySem.W.Frag) (mg : Str → Option Value) (base : Heap) (x : Str) (k : Nat) (sp : Sp) : Prop where
  ex : ∃ f : Addr, FnR P w K mg base CX0 k f sp ∧ mg x = some (.ref f) ∧ PySem.W.keepIn K (.ref f) = true
theorem pe_callRG {X : Cx} {k : Nat} {sp : Sp} {x : Str} {p pos : Pos} {e : Expr} {es : List Expr} {t : TA} (G : Rd X.prog X.w X.K X.mg X.base x k sp) (hr : Room k X.A) (hg : Gl X x)
    (ha : PA X (e :: es) t) (hdb : (x == ("__debug__" : Str)) = false := by decide) (he : starEach (e :: es) X.env = (false, eval e X.env) :: starEach es X.env := by rfl) (hpl : (backTo pos (starEach es X.env)).any (·.1) = false := by rfl) :
    PE X (.Call (.Name x p) (e :: es) [] pos) (tCall sp [] E0 t) := by
  obtain ⟨f, F, gm, kp⟩ := G.ex
  refine ⟨fun pins s σ H Q I h => ?_⟩
  refine wpAny_Call_Name_kw (ld_glob I hg gm ?_ hdb)
  refine PySem.W.callWith_K (h₀ := X.base) I.ok.mod.kin kp (thn (ha.run pos pins s σ H _ I h) fun us s1 ⟨vs, H1, I1, r, q⟩ => ⟨I1.kIn, ?_⟩) he hpl
  have q' : sp (vs ++ []) H1 Q E0 := q
  rw [List.append_nil] at q'
  exact wpAny_call (run_fnR F hr pass0 I1 r q')
/-- a change at a place of a list, by an index that is a Nat -/
theorem ixN_nat {n i : Nat} (h : i < n) : ixN n (i : Int) = some i := by
  unfold ixN
  rw [if_pos (by omega), if_pos (by omega), Int.toNat_natCast]
theorem set_map (ws : List Int) (i : Nat) (x : Int) : (ws.map V.int).set i (.int x) = (ws.set i x).map V.int := by rw [List.map_set]
theorem Same_updD {H H2 : Hp} {D : Addr} {o : HO} (e : Same H H2) (nD : H D = none) : Same H (L2.upd H2 D o) := fun b y eb => by
  rw [upd_ne (ne_of_none eb nD)]
  exact e _ _ eb
theorem same_free {H H2 : Hp} (e : Same H H2) {l : Addr} (h : H2 l = none) : H l = none := e.free h
theorem push_int (H : Hp) (D : Addr) (xs : List Int) (x : Int) : L2.upd H D (.lst (xs.map V.int ++ [V.int x])) D = some (.lst ((xs ++ [x]).map V.int)) := by
  rw [upd_same, List.map_append]
  rfl
theorem at_map {ws : List Int} {i : Nat} {x : V} (h : (ws.map V.int)[i]? = some x) : i < ws.length ∧ x = .int (ws.getD i 0) := by
  have hi : i < ws.length := by
    have := (List.getElem?_eq_some_iff.mp h).1
    rw [List.length_map] at this
    exact this
  refine ⟨hi, ?_⟩
  rw [map_getD hi] at h
  exact (Option.some.inj h).symm
theorem SameX.to {l : Addr} {H0 H H' : Hp} (s : Same H0 H) (n : H0 l = none) (x : SameX l H H') : Same H0 H' := fun b y e => x b y (s b y e) (ne_of_none e n)
section
variable {P : Program} {w : World} {K : PySem.W.Frag} {mg : Str → Option Value} {base : Heap} {f C D : Addr} {fd : FuncData}
/-- three arguments: a kind, an order, a step -/
structure KOS (K : PySem.W.Frag) (C : Addr) (H : Hp) (p o : Addr) (k : Nm) (n : Nat) (ws : List Int) (s : Nat) : Prop where
  kat : KAt C H p k n
  ord : SqL K H o (ws.map V.int)
  len : ws.length = n
  ok : okK k n = true
  st : okS k n (s : Int)
theorem KOS.keep {H H' : Hp} {p o : Addr} {k : Nm} {n : Nat} {ws : List Int} {s : Nat} (h : KOS K C H p o k n ws s) (e : Same H H') : KOS K C H' p o k n ws s :=
  ⟨let ⟨dx, z⟩ := h.kat; ⟨dx, e _ _ z⟩, e.seq h.ord, h.len, h.ok, h.st⟩
theorem st_pl {n : Nat} {s : Nat} (h : okS .pl n (s : Int)) : s + 1 < n := by
  obtain ⟨_, h⟩ := h
  unfold many at h
  rw [if_pos rfl] at h
  omega
theorem st_np {k : Nm} {n : Nat} {s : Nat} (hk : k ≠ .pl) (h : okS k n (s : Int)) : s < n := by
  obtain ⟨_, h⟩ := h
  unfold many at h
  rw [if_neg hk] at h
  omega
structure KO (K : PySem.W.Frag) (C : Addr) (H : Hp) (p o : Addr) (k : Nm) (n : Nat) (ws : List Int) : Prop where
  kat : KAt C H p k n
  ord : SqL K H o (ws.map V.int)
  len : ws.length = n
  ok : okK k n = true
theorem KAt.keep {H H' : Hp} {p : Addr} {k : Nm} {n : Nat} (h : KAt C H p k n) (e : Same H H') : KAt C H' p k n := let ⟨dx, z⟩ := h; ⟨dx, e _ _ z⟩
theorem KO.keep {H H' : Hp} {p o : Addr} {k : Nm} {n : Nat} {ws : List Int} (h : KO K C H p o k n ws) (e : Same H H') : KO K C H' p o k n ws := ⟨h.kat.keep e, e.seq h.ord, h.len, h.ok⟩
theorem KO.st {H : Hp} {p o : Addr} {k : Nm} {n : Nat} {ws : List Int} {s : Nat} (h : KO K C H p o k n ws) (hs : okS k n (s : Int)) : KOS K C H p o k n ws s := ⟨h.kat, h.ord, h.len, h.ok, hs⟩
theorem noM {k : Nm} {n : Nat} {m : Str} (h1 : ¬ m = "_size" := by decide +kernel) (h2 : ¬ m = "_name" := by decide +kernel) : (flds k n).lookup m = none := flds_no _ _ h1 h2
theorem cut_tail (x : Int) (ws : List Int) : cutV ((x :: ws).map V.int) (some 1) none = ws.map V.int := by
  unfold cutV
  rw [HT.sIx_none]
  have e : HT.sIx ((x :: ws).map V.int).length 0 (some 1) = 1 := by
    have := HT.sIx_nat ((x :: ws).map V.int).length 0 1
    rw [show ((1 : Nat) : Int) = 1 from rfl] at this
    rw [this, List.length_map, List.length_cons]
    omega
  rw [e, List.map_cons, List.drop_succ_cons, List.drop_zero, List.length_cons, Nat.add_sub_cancel, List.take_length]
theorem cut_init (x : Int) (ws : List Int) : cutV ((ws ++ [x]).map V.int) none (some (-1)) = ws.map V.int := by
  unfold cutV
  rw [HT.sIx_none]
  have e : HT.sIx ((ws ++ [x]).map V.int).length ((ws ++ [x]).map V.int).length (some (-1)) = ws.length := by
    unfold HT.sIx
    dsimp only
    rw [if_pos (by omega), List.length_map, List.length_append, List.length_singleton]
    omega
  rw [e, List.drop_zero, Nat.sub_zero, List.map_append, List.take_append_of_le_length (by rw [List.length_map]; omega), List.take_of_length_le (by rw [List.length_map]; omega)]
def spSpread (K : PySem.W.Frag) (C : Addr) : Sp := fun vs H Q _ => ∃ (p o : Addr) (k : Nm) (n : Nat) (ws : List Int), vs = [.ref p, .ref o] ∧ KO K C H p o k n ws ∧
  ∀ q H', Same H H' → H q = none → H' q = some (.lst ((sprd k n ws).map V.int)) → Q (.ref q) H'
/-- three arguments: a name, a spread, a step -/
def spExIn (K : PySem.W.Frag) : Sp := fun vs H Q _ => ∃ (l : Addr) (k : Nm) (n : Nat) (ws : List Int) (s : Nat), vs = [.str k.s, .ref l, .int (s : Int)] ∧ H l = some (.lst ((sprd k n ws).map V.int)) ∧ ws.length = n ∧ okK k n = true ∧ okS k n (s : Int) ∧
  ∀ H', SameX l H H' → H' l = some (.lst ((sprd k n (after k n ws s)).map V.int)) → Q .non H'
def spOrdIn (K : PySem.W.Frag) (C : Addr) : Sp := fun vs H Q _ => ∃ (p l : Addr) (k : Nm) (n : Nat) (ws : List Int), vs = [.ref p, .ref l] ∧ KAt C H p k n ∧ H l = some (.lst ((sprd k n ws).map V.int)) ∧ ws.length = n ∧ okK k n = true ∧
  ∀ q H', Same H H' → H q = none → H' q = some (.lst (ws.map V.int)) → Q (.ref q) H'
def spCrossP (K : PySem.W.Frag) (C : Addr) : Sp := fun vs H Q _ => ∃ (p o : Addr) (k : Nm) (n : Nat) (ws : List Int) (s : Nat), vs = [.ref p, .ref o, .int (s : Int)] ∧ KOS K C H p o k n ws s ∧
  ∀ H', Same H H' → Q (.bl (crossP k n ws s)) H'
def spAfter (K : PySem.W.Frag) (C : Addr) : Sp := fun vs H Q _ => ∃ (p o : Addr) (k : Nm) (n : Nat) (ws : List Int) (s : Nat), vs = [.ref p, .ref o, .int (s : Int)] ∧ KOS K C H p o k n ws s ∧
  ∀ q H', Same H H' → H q = none → H' q = some (.lst ((after k n ws s).map V.int)) → Q (.ref q) H'
end
end Sv

namespace Sv
open PySem PySem.Spec PyProof.Rows L2
section
variable {P : Program} {w : World} {K : PySem.W.Frag} {mg : Str → Option Value} {base : Heap} {f C D : Addr} {fd : FuncData}
def spAreWhole (K : PySem.W.Frag) : Sp := fun vs H Q _ => ∃ (o : Addr) (ws : List Int), vs = [.ref o] ∧ SqL K H o (ws.map V.int) ∧ ws.length ≤ 100 ∧ ∀ H', Same H H' → Q (.bl true) H'
theorem ok_are_whole (T : Tk K w mg C D) (F : FnP K "are_whole" "are_whole" s_are_whole f fd) : FnOk P w K mg base CX0 2 f fd ["values"] (spAreWhole K) := by
  refine okN F sc_are_whole (fun vs H Q E h => ?_) (fun cdv A outer s H vs Q E hr h => ?_)
  · obtain ⟨o, ws, rfl, _⟩ := h
    rfl
  · obtain ⟨o, ws, rfl, hO, hl, q⟩ := h
    refine ⟨_, (pss_cons (ps_for PassesOwn.never rfl (pi_list (pv 0)) (pg_name (i := 1) sc_are_whole.nd rfl (Or.inl rfl)) (pss_one (ps_if (PW.pt (pw_or (pt_not (pt_val (pe_callB call_isi (by rfl) T.m_isinstance (by decide +kernel) (pa_cons (pv 1) (pa_cons (pe_bltn (v := .ty "int") (by rfl) T.m_int (by decide +kernel) rfl) pa_nil))))) (pw_or1 (pt_val (pe_callB call_isi (by rfl) T.m_isinstance (by decide +kernel) (pa_cons (pv 1) (pa_cons (pe_bltn (v := .ty "bool") (by rfl) T.m_bool (by decide +kernel) rfl) pa_nil))))))) (pss_one (ps_ret pe_bl)) pss_nil)))
      (pss_one (ps_ret pe_bl))), ?_⟩
    refine ⟨_, rfl, o, rfl, ⟨_, hO⟩, ?_⟩
    refine for_list (K := K) (a := o) (xs := ws.map V.int) (fun i σ H2 => ∃ (v : Option V), σ = [some (.ref o), v] ∧ Same H H2) ⟨none, rfl, Same.refl _⟩ (fun i σ H2 _ h2 => by obtain ⟨_, _, s2⟩ := h2; exact s2.seq hO) ?_ ?_
    · rintro i x σ H2 hi ⟨v, rfl, s2⟩
      obtain ⟨hj, rfl⟩ := at_map hi
      refine ⟨_, rfl, .int (ws.getD i 0), .ty "int", .type "int", .type "int", true, rfl, .ty _, .base (.int _), kit_ty (by decide +kernel), true, rfl, iteN (by decide) ?_⟩
      refine ⟨_, rfl, .int (ws.getD i 0), .ty "bool", .type "int", .type "bool", false, rfl, .ty _, .base (.int _), kit_ty (by decide +kernel), false, rfl, iteN (by decide) ?_⟩
      exact ⟨_, rfl, s2⟩
    · rintro σ H2 ⟨v, rfl, s2⟩
      exact q H2 s2
def spFallsOf (K : PySem.W.Frag) (C : Addr) : Sp := fun vs H Q _ => ∃ (p o : Addr) (k : Nm) (n : Nat) (ws : List Int), vs = [.ref p, .ref o] ∧ KO K C H p o k n ws ∧
  ∀ q H', Same H H' → H q = none → H' q = some (.lst ((fallsP k n ws).map V.int)) → Q (.ref q) H'
def spItemAt (K : PySem.W.Frag) (C : Addr) : Sp := fun vs H Q _ => ∃ (p o : Addr) (k : Nm) (n : Nat) (ws : List Int) (x : Int), vs = [.ref p, .ref o, .int x] ∧ KO K C H p o k n ws ∧ okP k n x ∧ Q (.int (itemP k n ws x)) H
def spProd (K : PySem.W.Frag) (C : Addr) : Sp := fun vs H Q _ => ∃ (p o u : Addr) (k : Nm) (n : Nat) (ws us : List Int), vs = [.ref p, .ref o, .ref u] ∧ KO K C H p o k n ws ∧ SqL K H u (us.map V.int) ∧ us.length ≤ 100 ∧ (∀ x ∈ us, okQ k n x) ∧
  ∀ q H', Same H H' → H q = none → H' q = some (.lst ((prodP k n ws us).map V.int)) → Q (.ref q) H'
theorem ok_product_of (T : Tk K w mg C D) (F : FnP K "product_of" "product_of" s_product_of f fd) (c_m_name : Md P w K mg base C "name" ["self"] 1 (spName C)) : FnOk P w K mg base CX0 3 f fd ["kind", "one", "other"] (spProd K C) := by
  refine okN F sc_product_of (fun vs H Q E h => ?_) (fun cdv A outer s H vs Q E hr h => ?_)
  · obtain ⟨p, o, u, k, n, ws, us, rfl, _⟩ := h
    rfl
  · obtain ⟨p, o, u, k, n, ws, us, rfl, hh, hu, hl, hx, q⟩ := h
    obtain ⟨dx, hp⟩ := id hh.kat
    have hlw := hh.len
    have hn := okK_le hh.ok
    have step : ∀ (D : Addr) (i : Nat) (H2 : Hp), H D = none → i < us.length → H2 D = some (.lst (((prodP k n ws us).take i).map V.int)) → Same H H2 →
        ∃ xs, H2 D = some (.lst xs) ∧ xs.length < sizeLine ∧ (∀ y, y = itemP k n ws (us.getD i 0) → (L2.upd H2 D (.lst (xs ++ [.int y]))) D = some (.lst (((prodP k n ws us).take (i + 1)).map V.int))) ∧ ∀ y : HO, Same H (L2.upd H2 D y) := fun D i H2 nD hj hD s2 => by
      refine ⟨_, hD, ?_, fun y ey => ?_, fun y => Same_updD s2 nD⟩
      · rw [List.length_map, List.length_take]
        exact Nat.lt_of_le_of_lt (Nat.min_le_left _ _) (small1000 (by omega))
      · have g : (prodP k n ws us)[i]? = some (itemP k n ws (us.getD i 0)) := by
          unfold prodP
          rw [List.getElem?_map, List.getD_eq_getElem?_getD, List.getElem?_eq_getElem hj]
          rfl
        rw [ey, push_int, List.take_add_one, g]
        rfl
    have fin : ∀ (D : Addr) (H2 : Hp), H D = none → H2 D = some (.lst (((prodP k n ws us).take (us.map V.int).length).map V.int)) → Same H H2 → Q (.ref D) H2 := fun D H2 nD hD s2 => by
      rw [List.length_map, List.take_of_length_le (by unfold prodP; rw [List.length_map]; omega)] at hD
      exact q D H2 s2 nD hD
    refine ⟨_, (pss_cons (ps_set (i := 3) sc_product_of.nd rfl (by first | exact Or.inl rfl | exact Or.inr rfl) (pe_methG0 T.cl c_m_name (hr.mono (by decide)) (pv 0)))
      (pss_cons (ps_if (pt_cmpR op_eq (pv 3) pe_str (nomark _)) (pss_one (ps_ret (pe_lc (own := [(("place" : Str), 5)]) (g := (gName 5)) (tt := tYes) rfl sc_product_of.nd (pi_list (pv 2)) (blkOk_by (own := [(("place" : Str), 5)]) (N := ["kind", "one", "other", "name", "size", "place"]) (sc := defScope s_product_of) (by decide +kernel)) (fun _ _ _ _ _ => (pg_name (i := 5) sc_product_of.nd rfl (Or.inl rfl))) (fun _ _ _ _ _ => pts_nil) (fun _ _ _ _ _ => (pe_ix (show IxR _ (rIxL K) from ix_list) (pv 1) (pv 5) (fun _ _ => rfl)))))) pss_nil)
      (pss_cons (ps_if (pt_cmpR op_eq (pv 3) pe_str (nomark _)) (pss_one (ps_ret (pe_lc (own := [(("place" : Str), 5)]) (g := (gName 5)) (tt := tYes) rfl sc_product_of.nd (pi_list (pv 2)) (blkOk_by (own := [(("place" : Str), 5)]) (N := ["kind", "one", "other", "name", "size", "place"]) (sc := defScope s_product_of) (by decide +kernel)) (fun _ _ _ _ _ => (pg_name (i := 5) sc_product_of.nd rfl (Or.inl rfl))) (fun _ _ _ _ _ => pts_nil) (fun _ _ _ _ _ => (pe_ifExp (pt_cmpR op_gt (pv 5) pe_int (nomark _)) (pe_ix (show IxR _ (rIxL K) from ix_list) (pv 1) (pe_op op_sub (pv 5) pe_int) (fun _ _ => rfl)) (pe_un un_neg (pe_ix (show IxR _ (rIxL K) from ix_list) (pv 1) (pe_op op_sub (pe_un un_neg (pv 5)) pe_int) (fun _ _ => rfl)))))))) pss_nil)
      (pss_cons (ps_set (i := 4) sc_product_of.nd rfl (by first | exact Or.inl rfl | exact Or.inr rfl) (pe_callB call_len_seq (by rfl) T.m_len (by decide +kernel) (pa_cons (pv 1) pa_nil)))
      (pss_one (ps_ret (pe_lc (own := [(("place" : Str), 5)]) (g := (gName 5)) (tt := tYes) rfl sc_product_of.nd (pi_list (pv 2)) (blkOk_by (own := [(("place" : Str), 5)]) (N := ["kind", "one", "other", "name", "size", "place"]) (sc := defScope s_product_of) (by decide +kernel)) (fun _ _ _ _ _ => (pg_name (i := 5) sc_product_of.nd rfl (Or.inl rfl))) (fun _ _ _ _ _ => pts_nil) (fun _ _ _ _ _ => (pe_op op_sub (pe_op op_add (pe_ix (show IxR _ (rIxL K) from ix_list) (pv 1) (pe_op op_mod (pv 5) (pv 4)) (fun _ _ => rfl)) (pv 5)) (pe_op op_mod (pv 5) (pv 4))))))))))), ?_⟩
    refine ⟨_, rfl, p, dx, _, rfl, hp, noM, p, k, n, rfl, hh.kat, ?_⟩
    refine ⟨_, rfl, rfl, _, rfl, ite2 (fun hk => ?_) (fun hk => ?_)⟩
    · rw [s_pl] at hk
      have ek := of_decide_eq_true hk
      subst ek
      refine ⟨_, rfl, u, rfl, ⟨_, hu⟩, fun D nD => ?_⟩
      refine lc_list (K := K) (a := u) (xs := us.map V.int) (fun i H2 => H2 D = some (.lst (((prodP .pl n ws us).take i).map V.int)) ∧ Same H H2) ⟨upd_same, Same.upd nD⟩ (fun i H2 _ h2 => h2.2.seq hu) ?_ ?_
      · rintro i x H2 hi ⟨hD, s2⟩
        obtain ⟨hj, rfl⟩ := at_map hi
        have hq := hx _ (mem_getD hj)
        obtain ⟨q1, q2⟩ := id hq
        obtain ⟨xs, g1, g2, g3, g4⟩ := step D i H2 nD hj hD s2
        refine ⟨rfl, ?_⟩
        exact ⟨_, rfl, _, rfl, o, _, _, _, rfl, rfl, s2.seq hh.ord, at_of (j := (us.getD i 0).toNat) (by omega) (map_getD (by omega)), xs, g1, g2, g3 _ (itemP_pl hq).symm, g4 _⟩
      · rintro H2 ⟨hD, s2⟩
        exact fin D H2 nD hD s2
    · rw [s_pl] at hk
      have ek : k ≠ .pl := fun e => hk (decide_eq_true e)
      refine ⟨_, rfl, rfl, _, rfl, ite2 (fun hm => ?_) (fun hm => ?_)⟩
      · have em := is_mi hm
        subst em
        refine ⟨_, rfl, u, rfl, ⟨_, hu⟩, fun D nD => ?_⟩
        refine lc_list (K := K) (a := u) (xs := us.map V.int) (fun i H2 => H2 D = some (.lst (((prodP .mi n ws us).take i).map V.int)) ∧ Same H H2) ⟨upd_same, Same.upd nD⟩ (fun i H2 _ h2 => h2.2.seq hu) ?_ ?_
        · rintro i x H2 hi ⟨hD, s2⟩
          obtain ⟨hj, rfl⟩ := at_map hi
          obtain ⟨x0, x1⟩ := hx _ (mem_getD hj)
          obtain ⟨xs, g1, g2, g3, g4⟩ := step D i H2 nD hj hD s2
          have e : itemP .mi n ws (us.getD i 0) = if 0 < us.getD i 0 then ws.getD (us.getD i 0 - 1).toNat 0 else -(ws.getD (-(us.getD i 0) - 1).toNat 0) := rfl
          refine ⟨rfl, ?_⟩
          refine ⟨_, rfl, _, _, rfl, rfl, _, rfl, ite2 (fun h0 => ?_) (fun h0 => ?_)⟩
          · have h0 := of_decide_eq_true h0
            rw [if_pos h0] at e
            exact ⟨_, rfl, _, rfl, _, _, rfl, rfl, o, _, _, _, rfl, rfl, s2.seq hh.ord, at_of (j := (us.getD i 0 - 1).toNat) (by omega) (map_getD (by omega)), xs, g1, g2, g3 _ e.symm, g4 _⟩
          · have h0 : ¬ (0 : Int) < us.getD i 0 := fun z => h0 (decide_eq_true z)
            rw [if_neg h0] at e
            exact ⟨_, rfl, _, rfl, _, rfl, _, _, rfl, rfl, o, _, _, _, rfl, rfl, s2.seq hh.ord, at_of (j := (-(us.getD i 0) - 1).toNat) (by omega) (map_getD (by omega)), _, rfl, xs, g1, g2, g3 _ e.symm, g4 _⟩
        · rintro H2 ⟨hD, s2⟩
          exact fin D H2 nD hD s2
      · have em := not_mi hm
        have hlI : ((ws.map V.int).length : Int) = (n : Int) := by rw [List.length_map, hlw]
        refine ⟨_, rfl, o, _, rfl, .inl hh.ord, ?_⟩
        rw [hlI]
        refine ⟨_, rfl, u, rfl, ⟨_, hu⟩, fun D nD => ?_⟩
        refine lc_list (K := K) (a := u) (xs := us.map V.int) (fun i H2 => H2 D = some (.lst (((prodP k n ws us).take i).map V.int)) ∧ Same H H2) ⟨upd_same, Same.upd nD⟩ (fun i H2 _ h2 => h2.2.seq hu) ?_ ?_
        · rintro i x H2 hi ⟨hD, s2⟩
          obtain ⟨hj, rfl⟩ := at_map hi
          obtain ⟨xs, g1, g2, g3, g4⟩ := step D i H2 nD hj hD s2
          have e : itemP k n ws (us.getD i 0) = ws.getD (us.getD i 0 % (n : Int)).toNat 0 + us.getD i 0 - us.getD i 0 % (n : Int) := if_neg em
          have h1 := Int.emod_nonneg (us.getD i 0) (show (n : Int) ≠ 0 by omega)
          have h2 := Int.emod_lt_of_pos (us.getD i 0) (show (0 : Int) < n by omega)
          refine ⟨rfl, ?_⟩
          exact ⟨_, rfl, _, rfl, _, rfl, _, _, rfl, rfl, (by omega), o, _, _, _, rfl, rfl, s2.seq hh.ord, at_of (j := (us.getD i 0 % (n : Int)).toNat) (by omega) (map_getD (by omega)), _, rfl, _, _, rfl, rfl, _, rfl, _, rfl, _, _, rfl, rfl, (by omega), _, _, rfl, rfl, xs, g1, g2, g3 _ e.symm, g4 _⟩
        · rintro H2 ⟨hD, s2⟩
          exact fin D H2 nD hD s2
theorem invPos_lt {k : Nm} {n : Nat} {x : Int} (hn : 1 ≤ n) (h : okP k n x) : invPos k n x < n := by
  unfold invPos
  split
  · rename_i e
    have := h e
    omega
  · have h1 := Int.emod_nonneg x (show (n : Int) ≠ 0 by omega)
    have h2 := Int.emod_lt_of_pos x (show (0 : Int) < n by omega)
    omega
theorem invUpTo_len (k : Nm) (n : Nat) (ws : List Int) : ∀ i, (invUpTo k n ws i).length = n
  | 0 => startL_len _ _
  | i + 1 => by
    show ((invUpTo k n ws i).set _ _).length = n
    rw [List.length_set, invUpTo_len k n ws i]
def spOpp (K : PySem.W.Frag) (C : Addr) : Sp := fun vs H Q _ => ∃ (p o : Addr) (k : Nm) (n : Nat) (ws : List Int), vs = [.ref p, .ref o] ∧ KO K C H p o k n ws ∧ Form k n ws ∧
  ∀ q H', Same H H' → H q = none → H' q = some (.lst ((invP k n ws).map V.int)) → Q (.ref q) H'
theorem rep_flat : ∀ n : Nat, (List.replicate n [V.int 0]).flatten = (List.replicate n (0 : Int)).map V.int
  | 0 => rfl
  | n + 1 => by
    rw [List.replicate_succ, List.flatten_cons, rep_flat n, List.replicate_succ]
    rfl
theorem ok_opposite_of (T : Tk K w mg C D) (F : FnP K "opposite_of" "opposite_of" s_opposite_of f fd) (c_m_name : Md P w K mg base C "name" ["self"] 1 (spName C)) : FnOk P w K mg base CX0 2 f fd ["kind", "order"] (spOpp K C) := by
  refine okN F sc_opposite_of (fun vs H Q E h => ?_) (fun cdv A outer s H vs Q E hr h => ?_)
  · obtain ⟨p, o, k, n, ws, rfl, _⟩ := h
    rfl
  · obtain ⟨p, o, k, n, ws, rfl, hh, hF, q⟩ := h
    obtain ⟨dx, hp⟩ := id hh.kat
    have hl := hh.len
    have hn := okK_le hh.ok
    have hx := form_okQ hF
    rw [← invZ_eq hF] at q
    have hlI : ((ws.map V.int).length : Int) = (n : Int) := by rw [List.length_map, hl]
    refine ⟨_, (pss_cons (ps_set (i := 2) sc_opposite_of.nd rfl (by first | exact Or.inl rfl | exact Or.inr rfl) (pe_methG0 T.cl c_m_name (hr.mono (by decide)) (pv 0)))
      (pss_cons (ps_set (i := 3) sc_opposite_of.nd rfl (by first | exact Or.inl rfl | exact Or.inr rfl) (pe_callB call_len_seq (by rfl) T.m_len (by decide +kernel) (pa_cons (pv 1) pa_nil)))
      (pss_cons (ps_set (i := 4) sc_opposite_of.nd rfl (by first | exact Or.inl rfl | exact Or.inr rfl) (pe_op op_rep (pe_lst (pa_cons pe_int pa_nil)) (pv 3)))
      (pss_cons (ps_if (pt_cmpR op_eq (pv 2) pe_str (nomark _)) (pss_one (ps_for PassesOwn.never rfl (pi_enum (by rfl) T.m_enumerate (pa_cons (pv 1) pa_nil)) (pg_tup rfl (pgs_cons (pg_name (i := 5) sc_opposite_of.nd rfl (Or.inl rfl)) (pgs_cons (pg_name (i := 6) sc_opposite_of.nd rfl (Or.inl rfl)) pgs_nil))) (pss_one (ps_asg (pv 5) (pg_sub (pv 4) (pv 6) set_list))))) (pss_one (ps_if (pt_cmpR op_eq (pv 2) pe_str (nomark _)) (pss_one (ps_for PassesOwn.never rfl (pi_enum (by rfl) T.m_enumerate (pa_cons (pv 1) pa_nil)) (pg_tup rfl (pgs_cons (pg_name (i := 5) sc_opposite_of.nd rfl (Or.inl rfl)) (pgs_cons (pg_name (i := 6) sc_opposite_of.nd rfl (Or.inl rfl)) pgs_nil))) (pss_one (ps_asg (pe_ifExp (pt_cmpR op_gt (pv 6) pe_int (nomark _)) (pe_op op_add (pv 5) pe_int) (pe_op op_sub (pe_un un_neg (pv 5)) pe_int)) (pg_sub (pv 4) (pe_op op_sub (pe_callB call_abs (by rfl) T.m_abs (by decide +kernel) (pa_cons (pv 6) pa_nil)) pe_int) set_list))))) (pss_one (ps_for PassesOwn.never rfl (pi_enum (by rfl) T.m_enumerate (pa_cons (pv 1) pa_nil)) (pg_tup rfl (pgs_cons (pg_name (i := 5) sc_opposite_of.nd rfl (Or.inl rfl)) (pgs_cons (pg_name (i := 6) sc_opposite_of.nd rfl (Or.inl rfl)) pgs_nil))) (pss_cons (ps_set (i := 7) sc_opposite_of.nd rfl (by first | exact Or.inl rfl | exact Or.inr rfl) (pe_op op_mod (pv 6) (pv 3)))
      (pss_one (ps_asg (pe_op op_add (pe_op op_sub (pv 5) (pv 6)) (pv 7)) (pg_sub (pv 4) (pv 7) set_list)))))))))
      (pss_one (ps_ret (pv 4))))))), ?_⟩
    refine ⟨_, rfl, p, dx, _, rfl, hp, noM, p, k, n, rfl, hh.kat, ?_⟩
    refine ⟨_, rfl, o, _, rfl, .inl hh.ord, ?_⟩
    rw [hlI]
    refine ⟨(by show 1 ≤ sizeLine; decide), fun l0 n0 => ?_⟩
    refine ⟨_, rfl, l0, _, _, rfl, rfl, upd_same, by omega, by omega, (by show 1 * (n : Int).toNat ≤ sizeLine; exact Nat.le_of_lt (small1000 (by omega))), fun l nl => ?_⟩
    have u1 : Same H (L2.upd (L2.upd H l0 (.lst [.int 0])) l (.lst (List.replicate ((n : Int)).toNat [V.int 0]).flatten)) := (Same.upd n0).trans (Same.upd nl)
    have nl0 : H l = none := (Same.upd n0).free nl
    have e1 : (L2.upd (L2.upd H l0 (.lst [.int 0])) l (.lst (List.replicate ((n : Int)).toNat [V.int 0]).flatten)) l = some (.lst ((invZ k n ws 0).map V.int)) := by
      rw [upd_same, Int.toNat_natCast, rep_flat]
      rfl
    generalize (L2.upd (L2.upd H l0 (.lst [.int 0])) l (.lst (List.replicate ((n : Int)).toNat [V.int 0]).flatten)) = H1 at *
    have put : ∀ (i : Nat) (H2 : Hp) (t : Addr), i < ws.length → H2 l = some (.lst ((invZ k n ws i).map V.int)) → Same H H2 → H2 t = none →
        (L2.upd H2 t (.tup [.int (i : Nat), .int (ws.getD i 0)])) l = some (.lst ((invZ k n ws i).map V.int)) ∧ ixN ((invZ k n ws i).map V.int).length ((invPos k n (ws.getD i 0) : Nat) : Int) = some (invPos k n (ws.getD i 0)) ∧ Same H (L2.upd H2 t (.tup [.int (i : Nat), .int (ws.getD i 0)])) ∧
        ∀ y, y = invVal k n i (ws.getD i 0) → (L2.upd (L2.upd H2 t (.tup [.int (i : Nat), .int (ws.getD i 0)])) l (.lst (((invZ k n ws i).map V.int).set (invPos k n (ws.getD i 0)) (.int y)))) l = some (.lst ((invZ k n ws (i + 1)).map V.int)) := fun i H2 t hj hL s2 nt => by
      have hpos : invPos k n (ws.getD i 0) < n := invPos_lt hn.1 (okQ_okP (hx _ (mem_getD hj)))
      refine ⟨(upd_ne (ne_of_none hL nt)).trans hL, ixN_nat (by rw [List.length_map, invZ_len]; exact hpos), s2.trans (Same.upd nt), fun y ey => ?_⟩
      rw [upd_same, set_map, ey]
      rfl
    have done_ : ∀ (H2 : Hp), H2 l = some (.lst ((invZ k n ws (ws.map V.int).length).map V.int)) → Same H H2 → Q (.ref l) H2 := fun H2 hL s2 => by
      rw [List.length_map, hl] at hL
      exact q l H2 s2 nl0 hL
    refine ⟨_, rfl, rfl, _, rfl, ite2 (fun hk => ?_) (fun hk => ?_)⟩
    · rw [s_pl] at hk
      have ek := of_decide_eq_true hk
      subst ek
      refine ⟨_, rfl, o, ws.map V.int, rfl, u1.seq hh.ord, ?_⟩
      refine for_it (walk_enum (K := K) (a := o) (xs := ws.map V.int)) (fun i σ H2 => ∃ v1 v2 v3, σ = [some (.ref p), some (.ref o), some (.str Nm.pl.s), some (.int (n : Int)), some (.ref l), v1, v2, v3] ∧ H2 l = some (.lst ((invZ .pl n ws i).map V.int)) ∧ Same H H2)
        ⟨none, none, none, rfl, e1, u1⟩ (fun i σ H2 _ h2 => by obtain ⟨_, _, _, _, _, s2⟩ := h2; exact s2.seq hh.ord) ?_ ?_
      · rintro i x σ H2 H3 hi ⟨v1, v2, v3, rfl, hL, s2⟩ ⟨t, a, b, rfl, nt, rfl, ha, hb⟩
        obtain ⟨hj, rfl⟩ := at_map hb
        cases ha
        obtain ⟨g1, g2, g3, g4⟩ := put i H2 t hj hL s2 nt
        have hq := hx _ (mem_getD hj)
        obtain ⟨q1, q2⟩ := id hq
        refine ⟨t, _, rfl, SqT.of upd_same, rfl, _, _, rfl, _, _, rfl, rfl, ?_⟩
        refine ⟨_, rfl, _, rfl, _, rfl, l, _, _, invPos .pl n (ws.getD i 0), rfl, rfl, g1, ?_, _, _, _, rfl, g4 _ (invVal_pl hq).symm, Same_updD g3 nl0⟩
        have e : ws.getD i 0 = ((invPos .pl n (ws.getD i 0) : Nat) : Int) := by
          rw [invPos_pl hq]
          omega
        rw [← e] at g2
        exact g2
      · rintro σ H2 ⟨v1, v2, v3, rfl, hL, s2⟩
        exact ⟨_, rfl, done_ H2 hL s2⟩
    · rw [s_pl] at hk
      have ekp : k ≠ .pl := fun e => hk (decide_eq_true e)
      refine ⟨_, rfl, rfl, _, rfl, ite2 (fun hm => ?_) (fun hm => ?_)⟩
      · have ek := is_mi hm
        subst ek
        refine ⟨_, rfl, o, ws.map V.int, rfl, u1.seq hh.ord, ?_⟩
        refine for_it (walk_enum (K := K) (a := o) (xs := ws.map V.int)) (fun i σ H2 => ∃ v1 v2 v3, σ = [some (.ref p), some (.ref o), some (.str Nm.mi.s), some (.int (n : Int)), some (.ref l), v1, v2, v3] ∧ H2 l = some (.lst ((invZ .mi n ws i).map V.int)) ∧ Same H H2)
          ⟨none, none, none, rfl, e1, u1⟩ (fun i σ H2 _ h2 => by obtain ⟨_, _, _, _, _, s2⟩ := h2; exact s2.seq hh.ord) ?_ ?_
        · rintro i x σ H2 H3 hi ⟨v1, v2, v3, rfl, hL, s2⟩ ⟨t, a, b, rfl, nt, rfl, ha, hb⟩
          obtain ⟨hj, rfl⟩ := at_map hb
          cases ha
          obtain ⟨g1, g2, g3, g4⟩ := put i H2 t hj hL s2 nt
          obtain ⟨x0, x1⟩ := hx _ (mem_getD hj)
          have eix : ixN ((invZ .mi n ws i).map V.int).length ((if ws.getD i 0 < 0 then -(ws.getD i 0) else ws.getD i 0) - 1) = some (invPos .mi n (ws.getD i 0)) := by
            rw [abs_eq]
            have : (((ws.getD i 0).natAbs : Int) - 1) = ((invPos .mi n (ws.getD i 0) : Nat) : Int) := by
              show _ = (((ws.getD i 0).natAbs - 1 : Nat) : Int)
              omega
            rw [this]
            exact g2
          refine ⟨t, _, rfl, SqT.of upd_same, rfl, _, _, rfl, _, _, rfl, rfl, ?_⟩
          refine ⟨_, rfl, _, _, rfl, rfl, _, rfl, ite2 (fun h0 => ?_) (fun h0 => ?_)⟩
          · have h0 := of_decide_eq_true h0
            exact ⟨_, rfl, _, _, rfl, rfl, _, rfl, _, rfl, _, rfl, _, _, rfl, rfl, l, _, _, invPos .mi n (ws.getD i 0), rfl, rfl, g1, eix, _, _, _, rfl, g4 _ (if_pos h0).symm, Same_updD g3 nl0⟩
          · have h0 : ¬ (0 : Int) < ws.getD i 0 := fun z => h0 (decide_eq_true z)
            exact ⟨_, rfl, _, rfl, _, _, rfl, rfl, _, rfl, _, rfl, _, rfl, _, _, rfl, rfl, l, _, _, invPos .mi n (ws.getD i 0), rfl, rfl, g1, eix, _, _, _, rfl, g4 _ (if_neg h0).symm, Same_updD g3 nl0⟩
        · rintro σ H2 ⟨v1, v2, v3, rfl, hL, s2⟩
          exact ⟨_, rfl, done_ H2 hL s2⟩
      · have ek := not_mi hm
        refine ⟨_, rfl, o, ws.map V.int, rfl, u1.seq hh.ord, ?_⟩
        refine for_it (walk_enum (K := K) (a := o) (xs := ws.map V.int)) (fun i σ H2 => ∃ v1 v2 v3, σ = [some (.ref p), some (.ref o), some (.str k.s), some (.int (n : Int)), some (.ref l), v1, v2, v3] ∧ H2 l = some (.lst ((invZ k n ws i).map V.int)) ∧ Same H H2)
          ⟨none, none, none, rfl, e1, u1⟩ (fun i σ H2 _ h2 => by obtain ⟨_, _, _, _, _, s2⟩ := h2; exact s2.seq hh.ord) ?_ ?_
        · rintro i x σ H2 H3 hi ⟨v1, v2, v3, rfl, hL, s2⟩ ⟨t, a, b, rfl, nt, rfl, ha, hb⟩
          obtain ⟨hj, rfl⟩ := at_map hb
          cases ha
          obtain ⟨g1, g2, g3, g4⟩ := put i H2 t hj hL s2 nt
          have h1 := Int.emod_nonneg (ws.getD i 0) (show (n : Int) ≠ 0 by omega)
          have eix : (ws.getD i 0) % (n : Int) = ((invPos k n (ws.getD i 0) : Nat) : Int) := by
            unfold invPos
            rw [if_neg ek]
            omega
          rw [← eix] at g2
          refine ⟨t, _, rfl, SqT.of upd_same, rfl, _, _, rfl, _, _, rfl, rfl, ?_⟩
          refine ⟨_, rfl, _, rfl, _, _, rfl, rfl, (by omega), ?_⟩
          exact ⟨_, rfl, _, rfl, _, _, rfl, rfl, _, rfl, _, _, rfl, rfl, _, rfl, _, rfl, l, _, _, invPos k n (ws.getD i 0), rfl, rfl, g1, g2, _, _, _, rfl, g4 _ (if_neg ek).symm, Same_updD g3 nl0⟩
        · rintro σ H2 ⟨v1, v2, v3, rfl, hL, s2⟩
          exact ⟨_, rfl, done_ H2 hL s2⟩
def spHeadsOf (K : PySem.W.Frag) (C : Addr) : Sp := fun vs H Q _ => ∃ (p o : Addr) (k : Nm) (n : Nat) (ws : List Int), vs = [.ref p, .ref o] ∧ KO K C H p o k n ws ∧ Form k n ws ∧
  ∀ q H', Same H H' → H q = none → H' q = some (.lst ((fallsP k n (invP k n ws)).map V.int)) → Q (.ref q) H'
def spAhead (K : PySem.W.Frag) (C : Addr) : Sp := fun vs H Q _ => ∃ (p o : Addr) (k : Nm) (n : Nat) (ws : List Int) (s : Nat), vs = [.ref p, .ref o, .int (s : Int)] ∧ KOS K C H p o k n ws s ∧ (∀ x ∈ ws, okQ k n x) ∧
  ∀ q H', Same H H' → H q = none → H' q = some (.lst ((prodP k n (after k n (startL k n) s) ws).map V.int)) → Q (.ref q) H'
end
end Sv

/-! The pairs of combinations as a list, and how they stand to the pairs counted before, by the verifier. -/
namespace Sv
open PySem PySem.Spec PyProof.Rows L2
def ixC (n : Nat) : List (Nat × Nat) := (List.range n).flatMap fun a => (List.range (n - 1 - a)).map fun d => (a, a + 1 + d)
def ixP (n : Nat) : List (Nat × Nat) := (List.range n).flatMap fun b => (List.range b).map fun a => (a, b)
def cmbL (w : List Int) : List (Int × Int) := (ixC w.length).map fun p => (w.getD p.1 0, w.getD p.2 0)
theorem pairsTo_ix (w : List Int) : ∀ b, pairsTo w b = (ixP b).map fun p => (w.getD p.1 0, w.getD p.2 0)
  | 0 => rfl
  | b + 1 => by
    show pairsTo w b ++ rowPairs w b = _
    unfold ixP
    rw [List.range_succ, List.flatMap_append, List.map_append, pairsTo_ix w b]
    unfold ixP rowPairs
    simp [List.flatMap_cons, List.map_map, Function.comp_def]
theorem ix_perm : ∀ n, n ≤ 7 → (ixC n).Perm (ixP n) := by
  intro n hn
  have : n = 0 ∨ n = 1 ∨ n = 2 ∨ n = 3 ∨ n = 4 ∨ n = 5 ∨ n = 6 ∨ n = 7 := by omega
  rcases this with rfl | rfl | rfl | rfl | rfl | rfl | rfl | rfl <;> decide +kernel
theorem cmb_perm {w : List Int} (h : w.length ≤ 7) : (cmbL w).Perm (pairsL w) := by
  unfold pairsL cmbL
  rw [pairsTo_ix]
  exact (ix_perm _ h).map _
theorem prs_fin : ∀ n : Fin 8, (ixC n.val).length ≤ 21 ∧ ∀ i : Fin 22, i.val ≤ (ixC n.val).length → Cm.prs n.val i.val = (ixC n.val)[i.val]? := by decide +kernel
theorem prs_all (n : Nat) (hn : n ≤ 7) : (ixC n).length ≤ 21 ∧ ∀ i, i ≤ 21 → i ≤ (ixC n).length → Cm.prs n i = (ixC n)[i]? :=
  let h := prs_fin ⟨n, by omega⟩
  ⟨h.1, fun i hi => h.2 ⟨i, by omega⟩⟩
theorem cmb_len {w : List Int} (h : w.length ≤ 7) : (cmbL w).length ≤ 21 := by
  unfold cmbL
  rw [List.length_map]
  exact (prs_all _ h).1
/-- the i-th pair in a new tuple -/
def YCmb (ps : List (Int × Int)) : Nat → Hp → V → Hp → Prop := fun i H v H' => ∃ (t : Addr) (q : Int × Int), v = .ref t ∧ H t = none ∧ H' = L2.upd H t (.tup [.int q.1, .int q.2]) ∧ ps[i]? = some q
theorem walk_comb {w : List Int} (h : w.length ≤ 7) : Walk (Itcm (w.map V.int)) (cmbL w).length (fun _ => True) (YCmb (cmbL w)) := by
  obtain ⟨hz, hp⟩ := prs_all _ h
  have hl : (cmbL w).length = (ixC w.length).length := by unfold cmbL; rw [List.length_map]
  have hm : (w.map V.int).length = w.length := List.length_map ..
  refine ⟨fun i H hi _ => ?_, fun H _ => ?_, fun i H v H' hi _ y => ?_⟩
  · refine ⟨(ixC w.length)[i]'(by omega), ?_⟩
    rw [hm, hp i (by omega) (by omega)]
    exact List.getElem?_eq_getElem _
  · show Cm.prs (w.map V.int).length (cmbL w).length = none
    rw [hm, hp _ (by omega) (by omega), hl]
    exact List.getElem?_eq_none (Nat.le_refl _)
  · obtain ⟨T, a, b, x, y, h1, h2, h3, h4, h5, h6⟩ := y
    rw [hm, hp i (by omega) (by omega)] at h1
    have ea : x = .int (w.getD a 0) := by
      rw [List.getElem?_map] at h2
      rw [List.getD_eq_getElem?_getD]
      cases e : w[a]? with
      | none => rw [e] at h2; cases h2
      | some z => rw [e] at h2; cases h2; rfl
    have eb : y = .int (w.getD b 0) := by
      rw [List.getElem?_map] at h3
      rw [List.getD_eq_getElem?_getD]
      cases e : w[b]? with
      | none => rw [e] at h3; cases h3
      | some z => rw [e] at h3; cases h3; rfl
    subst ea eb
    refine ⟨T, (w.getD a 0, w.getD b 0), h4, h5, h6, ?_⟩
    unfold cmbL
    rw [List.getElem?_map, h1]
    rfl
theorem filter_len_permC {α : Type} {xs ys : List α} (h : xs.Perm ys) (f : α → Bool) : (xs.filter f).length = (ys.filter f).length := (h.filter f).length_eq
theorem sum_permC : ∀ {xs ys : List Int}, xs.Perm ys → xs.sum = ys.sum := fun h => by
  induction h with
  | nil => rfl
  | cons x _ ih => simp [ih]
  | swap x y l => simp; omega
  | trans _ _ a b => exact a.trans b
/-- crossings, by the pairs in the other order -/
theorem crP_cmb {k : Nm} {n : Nat} {w : List Int} (h : w.length ≤ 7) : crP k n w =
    if k = .ri then ((cmbL w).map fun q => absI ((q.2 - q.1) / (n : Int))).sum
    else if k = .mi then (((cmbL w).filter fun q => decide (q.2 < q.1)).length : Int) + ((w.filter fun x => decide (x < 0)).length : Int) + (((cmbL w).filter fun q => decide (q.1 + q.2 < 0)).length : Int)
    else (((cmbL w).filter fun q => decide (q.2 < q.1)).length : Int) := by
  have p := cmb_perm h
  unfold crP
  rw [filter_len_permC p, filter_len_permC p, sum_permC (p.map _)]
end Sv

namespace Sv
open PySem PySem.Spec PyProof.Rows L2
/-- a walk with any block -/
theorem it_gen {J : It} {n : Nat} {G : Hp → Prop} {Y : Nat → Hp → V → Hp → Prop} (w : Walk J n G Y) {B : (Hp → Prop) → V → Hp → Prop} {H0 : Hp} {Nx : Hp → Prop} (Pv : Nat → Hp → Prop) (h0 : Pv 0 H0) (hG : ∀ i H, i ≤ n → Pv i H → G H)
    (hs : ∀ i x H H', i < n → Pv i H → Y i H x H' → B (Pv (i + 1)) x H') (hd : ∀ H, Pv n H → Nx H) :
    ∃ W : Nat → Nat → Hp → Prop, (∃ m, W 0 m H0) ∧ ∀ i m H, W i m H → (J.stop i H ∧ Nx H) ∨ (J.go i H ∧ ∃ N : Hp → Prop, (∀ H', N H' → ∃ m', m' < m ∧ W (i + 1) m' H') ∧ ∀ x H', J.yld i H x H' → B N x H') := by
  refine ⟨fun i m H => m = n - i ∧ i ≤ n ∧ Pv i H, ⟨n, by simp, Nat.zero_le _, h0⟩, ?_⟩
  rintro i m H ⟨rfl, hi, p⟩
  have q := hG i H hi p
  by_cases hlt : i < n
  · refine .inr ⟨w.goes i H hlt q, Pv (i + 1), fun H' p' => ⟨n - (i + 1), by omega, rfl, hlt, p'⟩, fun x H' y => hs i x H H' hlt p (w.yields i H x H' hlt q y)⟩
  · have e : i = n := by omega
    subst e
    exact .inl ⟨w.stops H q, hd H p⟩
def PairsAt (H : Hp) : List Addr → List (Int × Int) → Prop
  | [], [] => True
  | t :: ts, q :: ps => H t = some (.tup [.int q.1, .int q.2]) ∧ PairsAt H ts ps
  | _, _ => False
theorem PairsAt.keep {H H' : Hp} (e : Same H H') : ∀ {ts : List Addr} {ps : List (Int × Int)}, PairsAt H ts ps → PairsAt H' ts ps
  | [], [], _ => trivial
  | t :: ts, q :: ps, h => ⟨e _ _ h.1, h.2.keep e⟩
theorem PairsAt.snoc {H : Hp} {t : Addr} {a b : Int} (ht : H t = some (.tup [.int a, .int b])) : ∀ {ts : List Addr} {ps : List (Int × Int)}, PairsAt H ts ps → PairsAt H (ts ++ [t]) (ps ++ [(a, b)])
  | [], [], _ => ⟨ht, trivial⟩
  | u :: ts, q :: ps, h => ⟨h.1, PairsAt.snoc ht h.2⟩
theorem PairsAt.len {H : Hp} : ∀ {ts : List Addr} {ps : List (Int × Int)}, PairsAt H ts ps → ts.length = ps.length
  | [], [], _ => rfl
  | t :: ts, q :: ps, h => congrArg (· + 1) h.2.len
theorem PairsAt.get {H : Hp} : ∀ {ts : List Addr} {ps : List (Int × Int)} {i : Nat} {x : V}, PairsAt H ts ps → (ts.map V.ref)[i]? = some x → ∃ t q, x = .ref t ∧ ps[i]? = some q ∧ H t = some (.tup [.int q.1, .int q.2])
  | [], [], i, x, _, e => by simp at e
  | t :: ts, q :: ps, 0, x, h, e => ⟨t, q, (Option.some.inj e).symm, rfl, h.1⟩
  | t :: ts, q :: ps, i + 1, x, h, e => PairsAt.get (ts := ts) (ps := ps) (i := i) h.2 e
theorem PairsAt.updL {H : Hp} {L : Addr} {xs ys : List V} (hL : H L = some (.lst xs)) : ∀ {ts : List Addr} {ps : List (Int × Int)}, PairsAt H ts ps → PairsAt (L2.upd H L (.lst ys)) ts ps
  | [], [], _ => trivial
  | t :: ts, q :: ps, h => by
    have n : t ≠ L := fun e => by
      have h1 := h.1
      rw [e, hL] at h1
      cases h1
    exact ⟨by rw [upd_ne n]; exact h.1, PairsAt.updL hL h.2⟩
theorem take_succ {α : Type} {ps : List α} {i : Nat} {q : α} (h : ps[i]? = some q) : ps.take (i + 1) = ps.take i ++ [q] := by
  rw [List.take_add_one, h]
  rfl
theorem pairsTo_len (w : List Int) : ∀ b : Nat, b ≤ 7 → (pairsTo w b).length ≤ 7 * b
  | 0, _ => Nat.le_refl _
  | b + 1, h => by
    have := pairsTo_len w b (by omega)
    show (pairsTo w b ++ rowPairs w b).length ≤ _
    rw [List.length_append]
    have : (rowPairs w b).length = b := by unfold rowPairs; rw [List.length_map, List.length_range]
    omega
theorem rowPairs_get (w : List Int) {b j : Nat} (h : j < b) : (rowPairs w b)[j]? = some (w.getD j 0, w.getD b 0) := by
  unfold rowPairs
  rw [List.getElem?_map, List.getElem?_range h]
  rfl
theorem rowPairs_len (w : List Int) (b : Nat) : (rowPairs w b).length = b := by unfold rowPairs; rw [List.length_map, List.length_range]
theorem sqL_ty {K : PySem.W.Frag} {H : Hp} {a : Addr} {xs : List V} (h : SqL K H a xs) : TyX K H (.ref a) (.type "list") := by
  rcases h with (h | ⟨o, h⟩) | ⟨o, its, n, h, c, _⟩
  · exact .base (.lst h)
  · exact .base (.frz h)
  · exact .kList h c
section
variable {P : Program} {w : World} {K : PySem.W.Frag} {mg : Str → Option Value} {base : Heap} {f C D : Addr} {fd : FuncData}
def spCount (K : PySem.W.Frag) (C : Addr) : Sp := fun vs H Q _ => ∃ (p o : Addr) (k : Nm) (n : Nat) (ws : List Int), vs = [.ref p, .ref o] ∧ KO K C H p o k n ws ∧ ∀ H', Same H H' → Q (.int (crP k n ws)) H'
theorem ok_count_crossings (T : Tk K w mg C D) (F : FnP K "count_crossings" "count_crossings" s_count_crossings f fd) (c_m_name : Md P w K mg base C "name" ["self"] 1 (spName C)) : FnOk P w K mg base CX0 2 f fd ["kind", "order"] (spCount K C) := by
  refine okN F sc_count_crossings (fun vs H Q E h => ?_) (fun cdv A outer s H vs Q E hr h => ?_)
  · obtain ⟨p, o, k, n, ws, rfl, _⟩ := h
    rfl
  · obtain ⟨p, o, k, n, ws, rfl, hh, q⟩ := h
    obtain ⟨dx, hp⟩ := id hh.kat
    have hl := hh.len
    have hn := okK_le hh.ok
    have h7 : ws.length ≤ 7 := by omega
    have hc := cmb_len h7
    rw [crP_cmb h7] at q
    have hlI : ((ws.map V.int).length : Int) = (n : Int) := by rw [List.length_map, hl]
    have tl : ∀ (i : Nat) (f : Int × Int → Bool), (((cmbL ws).take i).filter f).length < sizeLine := fun i f => by
      have := List.length_filter_le f ((cmbL ws).take i)
      rw [List.length_take] at this
      exact small1000 (by omega)
    refine ⟨_, (pss_cons (ps_set (i := 2) sc_count_crossings.nd rfl (by first | exact Or.inl rfl | exact Or.inr rfl) (pe_methG0 T.cl c_m_name (hr.mono (by decide)) (pv 0)))
      (pss_cons (ps_if (pt_cmpR op_eq (pv 2) pe_str (nomark _)) (pss_cons (ps_set (i := 3) sc_count_crossings.nd rfl (by first | exact Or.inl rfl | exact Or.inr rfl) (pe_callB call_len_seq (by rfl) T.m_len (by decide +kernel) (pa_cons (pv 1) pa_nil)))
      (pss_one (ps_ret (pe_callB (cr_sum rfl) (by rfl) T.m_sum (by decide +kernel) (pa_cons (pe_lc (own := [(("first" : Str), 5), (("second" : Str), 6)]) (g := (gTup K 2 (gCons (gName 5) (gCons (gName 6) gNil)))) (tt := tYes) rfl sc_count_crossings.nd (pi_comb (by rfl) T.gCb (pa_cons (pv 1) (pa_cons pe_int pa_nil))) (blkOk_by (own := [(("first" : Str), 5), (("second" : Str), 6)]) (N := ["kind", "order", "name", "size", "many", "first", "second", "item"]) (sc := defScope s_count_crossings) (by decide +kernel)) (fun _ _ _ _ _ => (pg_tup rfl (pgs_cons (pg_name (i := 5) sc_count_crossings.nd rfl (Or.inl rfl)) (pgs_cons (pg_name (i := 6) sc_count_crossings.nd rfl (Or.inl rfl)) pgs_nil)))) (fun _ _ _ _ _ => pts_nil) (fun _ _ _ _ _ => (pe_callB call_abs (by rfl) T.m_abs (by decide +kernel) (pa_cons (pe_op op_fdiv (pe_op op_sub (pv 6) (pv 5)) (pv 3)) pa_nil)))) pa_nil))))) pss_nil)
      (pss_cons (ps_set (i := 4) sc_count_crossings.nd rfl (by first | exact Or.inl rfl | exact Or.inr rfl) (pe_callB call_len_seq (by rfl) T.m_len (by decide +kernel) (pa_cons (pe_lc (own := [(("first" : Str), 5), (("second" : Str), 6)]) (g := (gTup K 2 (gCons (gName 5) (gCons (gName 6) gNil)))) rfl sc_count_crossings.nd (pi_comb (by rfl) T.gCb (pa_cons (pv 1) (pa_cons pe_int pa_nil))) (blkOk_by (own := [(("first" : Str), 5), (("second" : Str), 6)]) (N := ["kind", "order", "name", "size", "many", "first", "second", "item"]) (sc := defScope s_count_crossings) (by decide +kernel)) (fun _ _ _ _ _ => (pg_tup rfl (pgs_cons (pg_name (i := 5) sc_count_crossings.nd rfl (Or.inl rfl)) (pgs_cons (pg_name (i := 6) sc_count_crossings.nd rfl (Or.inl rfl)) pgs_nil)))) (fun _ _ _ _ _ => pts_one (pt_cmpR op_gt (pv 5) (pv 6) (nomark _))) (fun _ _ _ _ _ => (pv 5))) pa_nil)))
      (pss_cons (ps_if (pt_cmpR op_eq (pv 2) pe_str (nomark _)) (pss_cons (ps_aug (i := 4) sc_count_crossings.nd rfl (.inl rfl) (pe_callB call_len_seq (by rfl) T.m_len (by decide +kernel) (pa_cons (pe_lc (own := [(("item" : Str), 7)]) (g := (gName 7)) rfl sc_count_crossings.nd (pi_list (pv 1)) (blkOk_by (own := [(("item" : Str), 7)]) (N := ["kind", "order", "name", "size", "many", "first", "second", "item"]) (sc := defScope s_count_crossings) (by decide +kernel)) (fun _ _ _ _ _ => (pg_name (i := 7) sc_count_crossings.nd rfl (Or.inl rfl))) (fun _ _ _ _ _ => pts_one (pt_cmpR op_lt (pv 7) pe_int (nomark _))) (fun _ _ _ _ _ => (pv 7))) pa_nil)) ip_add)
      (pss_one (ps_aug (i := 4) sc_count_crossings.nd rfl (.inl rfl) (pe_callB call_len_seq (by rfl) T.m_len (by decide +kernel) (pa_cons (pe_lc (own := [(("first" : Str), 5), (("second" : Str), 6)]) (g := (gTup K 2 (gCons (gName 5) (gCons (gName 6) gNil)))) rfl sc_count_crossings.nd (pi_comb (by rfl) T.gCb (pa_cons (pv 1) (pa_cons pe_int pa_nil))) (blkOk_by (own := [(("first" : Str), 5), (("second" : Str), 6)]) (N := ["kind", "order", "name", "size", "many", "first", "second", "item"]) (sc := defScope s_count_crossings) (by decide +kernel)) (fun _ _ _ _ _ => (pg_tup rfl (pgs_cons (pg_name (i := 5) sc_count_crossings.nd rfl (Or.inl rfl)) (pgs_cons (pg_name (i := 6) sc_count_crossings.nd rfl (Or.inl rfl)) pgs_nil)))) (fun _ _ _ _ _ => pts_one (pt_cmpR op_lt (pe_op op_add (pv 5) (pv 6)) pe_int (nomark _))) (fun _ _ _ _ _ => (pv 5))) pa_nil)) ip_add))) pss_nil)
      (pss_one (ps_ret (pv 4))))))), ?_⟩
    refine ⟨_, rfl, p, dx, _, rfl, hp, noM, p, k, n, rfl, hh.kat, ?_⟩
    refine ⟨_, rfl, rfl, _, rfl, ite2 (fun hk => ?_) (fun hk => ?_)⟩
    · rw [s_ri] at hk
      have ek := of_decide_eq_true hk
      subst ek
      refine ⟨_, rfl, o, _, rfl, .inl hh.ord, ?_⟩
      rw [hlI]
      refine ⟨_, rfl, o, ws.map V.int, rfl, hh.ord, fun D2 nD => ?_⟩
      refine lc_it (walk_comb h7) (fun i H3 => H3 D2 = some (.lst ((((cmbL ws).take i).map fun q => absI ((q.2 - q.1) / (n : Int))).map V.int)) ∧ Same H H3) ⟨upd_same, Same.upd nD⟩ (fun _ _ _ _ => trivial) ?_ ?_
      · rintro i x H3 H4 hi ⟨hD, s3⟩ ⟨t, qq, rfl, nt, rfl, eq⟩
        have hD4 := (upd_ne (o := .tup [.int qq.1, .int qq.2]) (ne_of_none hD nt)).trans hD
        have s4 := s3.trans (Same.upd (o := .tup [.int qq.1, .int qq.2]) nt)
        refine ⟨t, _, rfl, SqT.of upd_same, rfl, _, _, rfl, _, _, rfl, rfl, rfl, ?_⟩
        refine ⟨_, rfl, _, rfl, _, _, rfl, rfl, _, rfl, _, _, rfl, rfl, ⟨by omega, by omega⟩, _, rfl, ?_⟩
        refine ⟨_, hD4, ?_, ?_, Same_updD s4 nD⟩
        · rw [List.length_map, List.length_map, List.length_take]
          exact small1000 (by omega)
        · rw [upd_same, take_succ eq, List.map_append, List.map_append]
          rfl
      · rintro H3 ⟨hD, s3⟩
        rw [List.take_of_length_le (Nat.le_refl _)] at hD
        exact ⟨D2, _, rfl, SqL.of hD, q H3 s3⟩
    · rw [s_ri] at hk
      have ek : k ≠ .ri := fun e => hk (decide_eq_true e)
      refine ⟨_, rfl, o, ws.map V.int, rfl, hh.ord, fun D2 nD => ?_⟩
      refine lc_it (walk_comb h7) (fun i H3 => ∃ acc, H3 D2 = some (.lst acc) ∧ acc.length = (((cmbL ws).take i).filter fun q => decide (q.2 < q.1)).length ∧ Same H H3) ⟨[], upd_same, rfl, Same.upd nD⟩ (fun _ _ _ _ => trivial) ?_ ?_
      · rintro i x H3 H4 hi ⟨acc, hD, la, s3⟩ ⟨t, qq, rfl, nt, rfl, eq⟩
        have hD4 := (upd_ne (o := .tup [.int qq.1, .int qq.2]) (ne_of_none hD nt)).trans hD
        have s4 := s3.trans (Same.upd (o := .tup [.int qq.1, .int qq.2]) nt)
        refine ⟨t, _, rfl, SqT.of upd_same, rfl, _, _, rfl, _, _, rfl, rfl, rfl, ?_⟩
        rw [take_succ eq, List.filter_append]
        refine ⟨_, rfl, _, rfl, _, _, rfl, rfl, _, rfl, ite2 (fun hc => ?_) (fun hc => ?_)⟩
        · refine ⟨_, rfl, acc, hD4, ?_, acc ++ [.int qq.1], upd_same, ?_, Same_updD s4 nD⟩
          · rw [la]
            exact tl _ _
          · rw [List.length_append, List.length_append, la, List.filter_cons, if_pos hc]
            rfl
        · refine ⟨acc, hD4, ?_, s4⟩
          rw [List.length_append, la, List.filter_cons, if_neg hc]
          rfl
      · rintro H3 ⟨acc, hD, la, s3⟩
        rw [List.take_of_length_le (Nat.le_refl _)] at la
        refine ⟨D2, _, rfl, .inl (SqL.of hD), ?_⟩
        refine ⟨_, rfl, rfl, _, rfl, ite2 (fun hk2 => ?_) (fun hk2 => ?_)⟩
        · have em := is_mi hk2
          subst em
          refine ⟨_, rfl, ?_⟩
          refine ⟨_, rfl, o, rfl, ⟨_, s3.seq hh.ord⟩, fun D3 nD3 => ?_⟩
          refine lc_list (K := K) (a := o) (xs := ws.map V.int) (fun i H4 => ∃ acc, H4 D3 = some (.lst acc) ∧ acc.length = ((ws.take i).filter fun x => decide (x < 0)).length ∧ Same H3 H4) ⟨[], upd_same, rfl, Same.upd nD3⟩ (fun i H4 _ h4 => by obtain ⟨_, _, _, s4⟩ := h4; exact (s3.trans s4).seq hh.ord) ?_ ?_
          · rintro i x H4 hi ⟨acc4, hD4, la4, s4⟩
            obtain ⟨hj, rfl⟩ := at_map hi
            refine ⟨rfl, ?_⟩
            have eq : ws[i]? = some (ws.getD i 0) := by rw [List.getD_eq_getElem?_getD, List.getElem?_eq_getElem hj]; rfl
            rw [take_succ eq, List.filter_append]
            refine ⟨_, rfl, _, _, rfl, rfl, _, rfl, ite2 (fun hc => ?_) (fun hc => ?_)⟩
            · refine ⟨_, rfl, acc4, hD4, ?_, acc4 ++ [.int (ws.getD i 0)], upd_same, ?_, Same_updD s4 nD3⟩
              · have := List.length_filter_le (fun x : Int => decide (x < 0)) (ws.take i)
                rw [List.length_take] at this
                exact small1000 (by omega)
              · rw [List.length_append, List.length_append, la4, List.filter_cons, if_pos hc]
                rfl
            · refine ⟨acc4, hD4, ?_, s4⟩
              rw [List.length_append, la4, List.filter_cons, if_neg hc]
              rfl
          · rintro H4 ⟨acc4, hD4, la4, s4⟩
            rw [List.length_map, List.take_of_length_le (Nat.le_refl _)] at la4
            refine ⟨D3, _, rfl, .inl (SqL.of hD4), ?_⟩
            have s34 := s3.trans s4
            refine ⟨_, _, rfl, rfl, ?_⟩
            refine ⟨_, rfl, ?_⟩
            refine ⟨_, rfl, o, ws.map V.int, rfl, s34.seq hh.ord, fun D4 nD4 => ?_⟩
            refine lc_it (walk_comb h7) (fun i H5 => ∃ acc, H5 D4 = some (.lst acc) ∧ acc.length = (((cmbL ws).take i).filter fun q => decide (q.1 + q.2 < 0)).length ∧ Same H4 H5) ⟨[], upd_same, rfl, Same.upd nD4⟩ (fun _ _ _ _ => trivial) ?_ ?_
            · rintro i x H5 H6 hi ⟨acc5, hD5, la5, s5⟩ ⟨t, qq, rfl, nt, rfl, eq⟩
              have hD6 := (upd_ne (o := .tup [.int qq.1, .int qq.2]) (ne_of_none hD5 nt)).trans hD5
              have s6 := s5.trans (Same.upd (o := .tup [.int qq.1, .int qq.2]) nt)
              refine ⟨t, _, rfl, SqT.of upd_same, rfl, _, _, rfl, _, _, rfl, rfl, rfl, ?_⟩
              rw [take_succ eq, List.filter_append]
              refine ⟨_, rfl, _, rfl, _, _, rfl, rfl, _, _, rfl, rfl, _, rfl, ite2 (fun hc => ?_) (fun hc => ?_)⟩
              · refine ⟨_, rfl, acc5, hD6, ?_, acc5 ++ [.int qq.1], upd_same, ?_, Same_updD s6 nD4⟩
                · rw [la5]
                  exact tl _ _
                · rw [List.length_append, List.length_append, la5, List.filter_cons, if_pos hc]
                  rfl
              · refine ⟨acc5, hD6, ?_, s6⟩
                rw [List.length_append, la5, List.filter_cons, if_neg hc]
                rfl
            · rintro H5 ⟨acc5, hD5, la5, s5⟩
              rw [List.take_of_length_le (Nat.le_refl _)] at la5
              refine ⟨D4, _, rfl, .inl (SqL.of hD5), ?_⟩
              refine ⟨_, _, rfl, rfl, ?_⟩
              refine ⟨_, rfl, ?_⟩
              have e := q H5 (s34.trans s5)
              rw [if_neg ek, if_pos rfl, ← la, ← la4, ← la5] at e
              exact e
        · have em := not_mi hk2
          refine ⟨_, rfl, ?_⟩
          have e := q H3 s3
          rw [if_neg ek, if_neg em, ← la] at e
          exact e
theorem dp_list {H : Hp} {a : Addr} {xs : List Int} (h : SqL K H a (xs.map V.int)) : Dp K H (.ref a) (.list (xs.map PyData.int)) := Dp.lst h (dp_ints _)
def spForm (K : PySem.W.Frag) (C : Addr) : Sp := fun vs H Q _ => ∃ (p o : Addr) (k : Nm) (n : Nat) (ws : List Int), vs = [.ref p, .ref o] ∧ KO K C H p o k n ws ∧ Form k n ws ∧ ∀ H', Same H H' → Q (.bl true) H'
theorem ok_has_order_form (T : Tk K w mg C D) (F : FnP K "has_order_form" "has_order_form" s_has_order_form f fd) (c_m_name : Md P w K mg base C "name" ["self"] 1 (spName C)) (c_m_size : Md P w K mg base C "size" ["self"] 1 (spSize C)) (c_m_start : Md P w K mg base C "start" ["self"] 1 (spStartM C))
    (c_are_whole : Gd P w K mg base "are_whole" ["values"] 2 (spAreWhole K)) : FnOk P w K mg base CX0 3 f fd ["kind", "value"] (spForm K C) := by
  refine okN F sc_has_order_form (fun vs H Q E h => ?_) (fun cdv A outer s H vs Q E hr h => ?_)
  · obtain ⟨p, o, k, n, ws, rfl, _⟩ := h
    rfl
  · obtain ⟨p, o, k, n, ws, rfl, hh, hF, q⟩ := h
    obtain ⟨dx, hp⟩ := id hh.kat
    have hl := hh.len
    have hn := okK_le hh.ok
    refine ⟨_, (pss_cons (ps_set (i := 2) sc_has_order_form.nd rfl (by first | exact Or.inl rfl | exact Or.inr rfl) (pe_methG0 T.cl c_m_size (hr.mono (by decide)) (pv 0)))
      (pss_cons (ps_if (pt_not (PW.pt (pw_and (pt_val (pe_callB call_isi (by rfl) T.m_isinstance (by decide +kernel) (pa_cons (pv 1) (pa_cons (pe_bltn (v := .ty "list") (by rfl) T.m_list (by decide +kernel) rfl) pa_nil)))) (pw_and (pt_cmpR op_eq (pe_callB call_len_seq (by rfl) T.m_len (by decide +kernel) (pa_cons (pv 1) pa_nil)) (pv 2) (nomark _)) (pw_and1 (pt_val (pe_callG c_are_whole (hr.mono (by decide)) (by rfl) (pa_cons (pv 1) pa_nil)))))))) (pss_one (ps_ret pe_bl)) pss_nil)
      (pss_cons (ps_set (i := 3) sc_has_order_form.nd rfl (by first | exact Or.inl rfl | exact Or.inr rfl) (pe_methG0 T.cl c_m_name (hr.mono (by decide)) (pv 0)))
      (pss_cons (ps_if (pt_cmpR op_eq (pv 3) pe_str (nomark _)) (pss_one (ps_ret (pe_cmpR (op_eqD hr.units) (pe_callB cr_sortedI (by rfl) T.m_sorted (by decide +kernel) (pa_cons (pv 1) pa_nil)) (pe_methG0 T.cl c_m_start (hr.mono (by decide)) (pv 0)) (nomark _)))) pss_nil)
      (pss_cons (ps_if (pt_cmpR op_eq (pv 3) pe_str (nomark _)) (pss_one (ps_ret (pe_cmpR (op_eqD hr.units) (pe_callB cr_sortedI (by rfl) T.m_sorted (by decide +kernel) (pa_cons (pe_lc (own := [(("item" : Str), 4)]) (g := (gName 4)) (tt := tYes) rfl sc_has_order_form.nd (pi_list (pv 1)) (blkOk_by (own := [(("item" : Str), 4)]) (N := ["kind", "value", "size", "name", "item"]) (sc := defScope s_has_order_form) (by decide +kernel)) (fun _ _ _ _ _ => (pg_name (i := 4) sc_has_order_form.nd rfl (Or.inl rfl))) (fun _ _ _ _ _ => pts_nil) (fun _ _ _ _ _ => (pe_callB call_abs (by rfl) T.m_abs (by decide +kernel) (pa_cons (pv 4) pa_nil)))) pa_nil)) (pe_methG0 T.cl c_m_start (hr.mono (by decide)) (pv 0)) (nomark _)))) pss_nil)
      (pss_one (ps_ret (pe_and (pe_cmpR op_eq (pe_callB (cr_sum rfl) (by rfl) T.m_sum (by decide +kernel) (pa_cons (pv 1) pa_nil)) (pe_op op_fdiv (pe_op op_mul (pv 2) (pe_op op_sub (pv 2) pe_int)) pe_int) (nomark _)) (pe_one (pe_cmpR (op_eqD hr.units) (pe_callB cr_sortedI (by rfl) T.m_sorted (by decide +kernel) (pa_cons (pe_lc (own := [(("item" : Str), 4)]) (g := (gName 4)) (tt := tYes) rfl sc_has_order_form.nd (pi_list (pv 1)) (blkOk_by (own := [(("item" : Str), 4)]) (N := ["kind", "value", "size", "name", "item"]) (sc := defScope s_has_order_form) (by decide +kernel)) (fun _ _ _ _ _ => (pg_name (i := 4) sc_has_order_form.nd rfl (Or.inl rfl))) (fun _ _ _ _ _ => pts_nil) (fun _ _ _ _ _ => (pe_op op_mod (pv 4) (pv 2)))) pa_nil)) (pe_methG0 T.cl c_m_start (hr.mono (by decide)) (pv 0)) (nomark _))))))))))), ?_⟩
    refine ⟨_, rfl, p, dx, _, rfl, hp, noM, p, k, n, rfl, hh.kat, ?_⟩
    refine ⟨_, rfl, .ref o, .ty "list", .type "list", .type "list", true, rfl, .ty _, sqL_ty hh.ord, kit_ty (by decide +kernel), true, rfl, ?_⟩
    refine ⟨_, rfl, o, _, rfl, .inl hh.ord, _, rfl, rfl, _, rfl, ?_⟩
    refine iteP (decide_eq_true (by rw [List.length_map, hl])) ?_
    refine ⟨_, rfl, o, ws, rfl, hh.ord, by omega, fun H1 s1 => ⟨true, rfl, ?_⟩⟩
    have hp1 := s1 _ _ hp
    have k1 := hh.kat.keep s1
    refine ⟨_, rfl, p, dx, _, rfl, hp1, noM, p, k, n, rfl, k1, ?_⟩
    refine ⟨_, rfl, rfl, _, rfl, ite2 (fun hk => ?_) (fun hk => ?_)⟩
    · rw [s_pl] at hk
      have ek := of_decide_eq_true hk
      subst ek
      refine ⟨_, rfl, o, ws, rfl, s1.seq hh.ord, fun ys a hy hs na => ?_⟩
      have u1 := Same.upd (o := .lst (ys.map V.int)) na
      refine ⟨_, rfl, p, dx, _, rfl, u1 _ _ hp1, noM, p, .pl, n, rfl, k1.keep u1, by omega, fun b nb => ?_⟩
      have u2 := Same.upd (o := .lst ((startL .pl n).map V.int)) nb
      refine ⟨_, _, dp_list (SqL.of (u2 _ _ upd_same)), dp_list (SqL.of upd_same), shaped_ints _, shaped_ints _, qB (q _ ((s1.trans u1).trans u2)) ?_⟩
      rw [eqv_l]
      exact decide_eq_true (sorted_start hy hs hF.2)
    · rw [s_pl] at hk
      have ek : k ≠ .pl := fun e => hk (decide_eq_true e)
      refine ⟨_, rfl, rfl, _, rfl, ite2 (fun hk => ?_) (fun hk => ?_)⟩
      · have em := is_mi hk
        subst em
        refine ⟨_, rfl, o, rfl, ⟨_, s1.seq hh.ord⟩, fun L nL => ?_⟩
        refine lc_list (K := K) (a := o) (xs := ws.map V.int) (fun i H2 => H2 L = some (.lst (((ws.take i).map absI).map V.int)) ∧ Same H1 H2) ⟨upd_same, Same.upd nL⟩ (fun i H2 _ h2 => (s1.trans h2.2).seq hh.ord) ?_ ?_
        · rintro i x H2 hi ⟨hD, s2⟩
          obtain ⟨hj, rfl⟩ := at_map hi
          refine ⟨rfl, ?_⟩
          have eq : ws[i]? = some (ws.getD i 0) := by rw [List.getD_eq_getElem?_getD, List.getElem?_eq_getElem hj]; rfl
          refine ⟨_, rfl, _, rfl, _, hD, ?_, ?_, Same_updD s2 nL⟩
          · rw [List.length_map, List.length_map, List.length_take]
            exact small1000 (by omega)
          · rw [upd_same, take_succ eq, List.map_append, List.map_append]
            rfl
        · rintro H2 ⟨hD, s2⟩
          rw [List.length_map, List.take_of_length_le (Nat.le_refl _)] at hD
          refine ⟨L, ws.map absI, rfl, SqL.of hD, fun ys a hy hs na => ?_⟩
          have u1 := (s1.trans s2).trans (Same.upd (o := .lst (ys.map V.int)) na)
          refine ⟨_, rfl, p, dx, _, rfl, u1 _ _ hp, noM, p, .mi, n, rfl, hh.kat.keep u1, by omega, fun b nb => ?_⟩
          have u2 := Same.upd (o := .lst ((startL .mi n).map V.int)) nb
          refine ⟨_, _, dp_list (SqL.of (u2 _ _ upd_same)), dp_list (SqL.of upd_same), shaped_ints _, shaped_ints _, qB (q _ (u1.trans u2)) ?_⟩
          rw [eqv_l]
          exact decide_eq_true (sorted_start hy hs hF.2)
      · have em := not_mi hk
        have er : k = .ri := by cases k <;> simp_all
        subst er
        refine ⟨_, rfl, o, ws, rfl, s1.seq hh.ord, ?_⟩
        refine ⟨_, rfl, _, rfl, _, _, rfl, rfl, _, _, rfl, rfl, .inl ⟨by omega, by omega⟩, _, _, rfl, rfl, ⟨by decide, by decide⟩, rfl, _, rfl, iteP (decide_eq_true (congrArg V.int hF.2.1)) ?_⟩
        refine ⟨_, rfl, o, rfl, ⟨_, s1.seq hh.ord⟩, fun L nL => ?_⟩
        refine lc_list (K := K) (a := o) (xs := ws.map V.int) (fun i H2 => H2 L = some (.lst (((ws.take i).map fun x => x % (n : Int)).map V.int)) ∧ Same H1 H2) ⟨upd_same, Same.upd nL⟩ (fun i H2 _ h2 => (s1.trans h2.2).seq hh.ord) ?_ ?_
        · rintro i x H2 hi ⟨hD, s2⟩
          obtain ⟨hj, rfl⟩ := at_map hi
          refine ⟨rfl, ?_⟩
          have eq : ws[i]? = some (ws.getD i 0) := by rw [List.getD_eq_getElem?_getD, List.getElem?_eq_getElem hj]; rfl
          refine ⟨_, rfl, _, rfl, _, _, rfl, rfl, (by omega), _, hD, ?_, ?_, Same_updD s2 nL⟩
          · rw [List.length_map, List.length_map, List.length_take]
            exact small1000 (by omega)
          · rw [upd_same, take_succ eq, List.map_append, List.map_append]
            rfl
        · rintro H2 ⟨hD, s2⟩
          rw [List.length_map, List.take_of_length_le (Nat.le_refl _)] at hD
          refine ⟨L, ws.map fun x => x % (n : Int), rfl, SqL.of hD, fun ys a hy hs na => ?_⟩
          have u1 := (s1.trans s2).trans (Same.upd (o := .lst (ys.map V.int)) na)
          refine ⟨_, rfl, p, dx, _, rfl, u1 _ _ hp, noM, p, .ri, n, rfl, hh.kat.keep u1, by omega, fun b nb => ?_⟩
          have u2 := Same.upd (o := .lst ((startL .ri n).map V.int)) nb
          refine ⟨_, _, dp_list (SqL.of (u2 _ _ upd_same)), dp_list (SqL.of upd_same), shaped_ints _, shaped_ints _, qB (q _ (u1.trans u2)) ?_⟩
          rw [eqv_l]
          exact decide_eq_true (sorted_start hy hs hF.2.2)
def spTold (K : PySem.W.Frag) (C : Addr) : Sp := fun vs H Q _ => ∃ (p o : Addr) (k : Nm) (n : Nat) (ws : List Int), vs = [.ref p, .ref o] ∧ KO K C H p o k n ws ∧ Form k n ws ∧ crP k n ws ≤ 60 ∧ ∀ H', Same H H' → Q (.bl true) H'
theorem ok_is_told_order (T : Tk K w mg C D) (F : FnP K "is_told_order" "is_told_order" s_is_told_order f fd) (gM : ∃ t, mg "MOST_CROSSINGS" = some (.int 60 t)) (c_has_order_form : Gd P w K mg base "has_order_form" ["kind", "value"] 3 (spForm K C))
    (c_count_crossings : Gd P w K mg base "count_crossings" ["kind", "order"] 2 (spCount K C)) (c_m_name : Md P w K mg base C "name" ["self"] 1 (spName C)) : FnOk P w K mg base CX0 4 f fd ["kind", "value"] (spTold K C) := by
  obtain ⟨tM, gM⟩ := gM
  refine okN F sc_is_told_order (fun vs H Q E h => ?_) (fun cdv A outer s H vs Q E hr h => ?_)
  · obtain ⟨p, o, k, n, ws, rfl, _⟩ := h
    rfl
  · obtain ⟨p, o, k, n, ws, rfl, hh, hF, h6, q⟩ := h
    refine ⟨_, (pss_cons (ps_if (pt_not (pt_val (pe_callG c_has_order_form (hr.mono (by decide)) (by rfl) (pa_cons (pv 0) (pa_cons (pv 1) pa_nil))))) (pss_one (ps_ret pe_bl)) pss_nil)
      (pss_one (ps_ret (pe_or (pe_cmpR op_ne (pe_methG0 T.cl c_m_name (hr.mono (by decide)) (pv 0)) pe_str (nomark _)) (pe_one (pe_cmpR op_le (pe_callG c_count_crossings (hr.mono (by decide)) (by rfl) (pa_cons (pv 0) (pa_cons (pv 1) pa_nil))) (pe_glob (v := .int 60) (by rfl) gM ⟨_, rfl⟩) (nomark _))))))), ?_⟩
    refine ⟨_, rfl, _, rfl, p, o, k, n, ws, rfl, hh, hF, fun H1 s1 => ⟨true, rfl, iteN (by decide) ?_⟩⟩
    obtain ⟨dx, hp⟩ := (hh.keep s1).kat
    refine ⟨_, rfl, p, dx, _, rfl, hp, noM, p, k, n, rfl, ⟨dx, hp⟩, rfl, _, rfl, ite2 (fun _ => q H1 s1) (fun _ => ?_)⟩
    refine ⟨_, rfl, _, rfl, p, o, k, n, ws, rfl, hh.keep s1, fun H2 s2 => ?_⟩
    refine ⟨_, _, rfl, rfl, qB (q H2 (s1.trans s2)) (decide_eq_true h6)⟩
def spCkO (K : PySem.W.Frag) (C : Addr) : Sp := fun vs H Q _ => ∃ (p o : Addr) (k : Nm) (n : Nat) (ws : List Int), vs = [.ref p, .ref o] ∧ KO K C H p o k n ws ∧ Form k n ws ∧ crP k n ws ≤ 60 ∧ ∀ H', Same H H' → Q .non H'
def spCkB (K : PySem.W.Frag) (C : Addr) : Sp := fun vs H Q _ => ∃ (p t o : Addr) (k : Nm) (n : Nat) (ws : List Int), vs = [.ref p, .ref t] ∧ SqT K H t [.ref o] ∧ KO K C H p o k n ws ∧ Form k n ws ∧ crP k n ws ≤ 60 ∧ ∀ H', Same H H' → Q .non H'
theorem body_check_orders {cdv : Value} {A : Around} {outer : List Env} {s : Shared} {H : Hp} {vs : List V} {Q : VK} {E : XK} (T : Tk K w mg C D) (F : FnP K "check_orders" "check_orders" s_check_orders f fd) (c_check_kind : Gd P w K mg base "check_kind" ["kind"] 1 (spCk C)) (c_is_told_order : Gd P w K mg base "is_told_order" ["kind", "value"] 4 (spTold K C))
    (hr : Room 4 (A.deeper (envOfC "check_orders" (defScope s_check_orders) s.heap.objs.size f cdv))) (h : spCkB K C vs H Q E) :
    ∃ t, PSs (cxOf CX0 P w K mg base ["kind", "orders", "order"] "check_orders" (defScope s_check_orders) f cdv A outer s H E).nox (defBody s_check_orders) t ∧ t { nx := fun _ H' => Q .non H', rt := Q } (start ["kind", "orders", "order"] vs) H := by
  obtain ⟨p, t, o, k, n, ws, rfl, hT, hh, hF, h6, q⟩ := h
  refine ⟨_, (pss_cons (ps_expr (pe_callG c_check_kind (hr.mono (by decide)) (by rfl) (pa_cons (pv 0) pa_nil)))
      (pss_one (ps_for PassesOwn.never rfl (pi_tup (pv 1)) (pg_name (i := 2) sc_check_orders.nd rfl (Or.inl rfl)) (pss_one (ps_if (pt_not (pt_val (pe_callG c_is_told_order (hr.mono (by decide)) (by rfl) (pa_cons (pv 0) (pa_cons (pv 2) pa_nil))))) (pss_one ps_never) pss_nil))))), ?_⟩
  refine ⟨_, rfl, p, k, n, rfl, hh.kat, ?_⟩
  refine ⟨_, rfl, t, rfl, ⟨_, hT⟩, ?_⟩
  refine for_tup (K := K) (a := t) (xs := [.ref o]) (fun i σ H2 => ∃ v, σ = [some (.ref p), some (.ref t), v] ∧ Same H H2) ⟨none, rfl, Same.refl H⟩ (fun i σ H2 _ h2 => by obtain ⟨_, _, s2⟩ := h2; exact Same.tup s2 hT) ?_ ?_
  · rintro i x σ H2 hi ⟨v, rfl, s2⟩
    have ex : x = .ref o := by
      match i, hi with
      | 0, hi => exact (Option.some.inj hi).symm
    subst ex
    refine ⟨_, rfl, _, rfl, p, o, k, n, ws, rfl, hh.keep s2, hF, h6, fun H3 s3 => ⟨true, rfl, ?_⟩⟩
    exact ⟨_, rfl, s2.trans s3⟩
  · rintro σ H2 ⟨v, rfl, s2⟩
    exact q H2 s2
theorem ok_check_orders (T : Tk K w mg C D) (F : FnP K "check_orders" "check_orders" s_check_orders f fd) (c_check_kind : Gd P w K mg base "check_kind" ["kind"] 1 (spCk C)) (c_is_told_order : Gd P w K mg base "is_told_order" ["kind", "value"] 4 (spTold K C)) : FnR P w K mg base CX0 5 f (spCkO K C) := by
  obtain ⟨oc, od, dV, kV, doc, pm, an, cdv, ct, osl, rfl, lk, hcd, hD, hK⟩ := id F.ex
  rcases hD with ⟨_, rfl⟩ | ⟨e, _⟩
  · have R := StX.fn_star (P := P) (w := w) (mg := mg) (base := base) (CX := CX0) (ps := ["kind"]) (pv := "orders") (N := ["kind", "orders", "order"]) (sp := spCkB K C) (k := 4) lk hcd sc_check_orders StX.cxUp_none
      (StX.bind_star1 (B := fun us => bindArgs _ ⟨us, []⟩) (fun a => rfl) (fun a r rs => rfl)) (fun A outer s H vs Q E hr h => let ⟨t, p, q⟩ := body_check_orders T F c_check_kind c_is_told_order hr h; ⟨t, p.nox, q⟩)
    intro A outer s H us vs Q E hr e0 r h
    refine R A outer s H us vs Q E hr e0 r ?_
    obtain ⟨p, o, k, n, ws, rfl, hh, hF, h6, q⟩ := h
    refine ⟨[.ref p], [.ref o], rfl, rfl, (by show 1 ≤ sizeLine; decide), fun t nt => ?_⟩
    have u1 := Same.upd (o := .tup [V.ref o]) nt
    exact ⟨p, t, o, k, n, ws, rfl, SqT.of upd_same, hh.keep u1, hF, h6, fun H' s' => q H' (u1.trans s')⟩
  · exact absurd rfl e
def spCross2 (K : PySem.W.Frag) (C : Addr) : Sp := fun vs H Q _ => ∃ (p o : Addr) (k : Nm) (n : Nat) (ws : List Int), vs = [.ref p, .ref o] ∧ KO K C H p o k n ws ∧ Form k n ws ∧ crP k n ws ≤ 60 ∧ ∀ H', Same H H' → Q (.int (crP k n ws)) H'
def spFalls2 (K : PySem.W.Frag) (C : Addr) : Sp := fun vs H Q _ => ∃ (p o : Addr) (k : Nm) (n : Nat) (ws : List Int), vs = [.ref p, .ref o] ∧ KO K C H p o k n ws ∧ Form k n ws ∧ crP k n ws ≤ 60 ∧
  ∀ q H', Same H H' → H q = none → H' q = some (.lst ((fallsP k n ws).map V.int)) → Q (.ref q) H'
def spHeads2 (K : PySem.W.Frag) (C : Addr) : Sp := fun vs H Q _ => ∃ (p o : Addr) (k : Nm) (n : Nat) (ws : List Int), vs = [.ref p, .ref o] ∧ KO K C H p o k n ws ∧ Form k n ws ∧ crP k n ws ≤ 60 ∧
  ∀ q H', Same H H' → H q = none → H' q = some (.lst ((fallsP k n (invP k n ws)).map V.int)) → Q (.ref q) H'
def spStepped2 (K : PySem.W.Frag) (C : Addr) : Sp := fun vs H Q _ => ∃ (p o : Addr) (k : Nm) (n : Nat) (ws : List Int) (z : Int), vs = [.ref p, .ref o, .int z] ∧ KO K C H p o k n ws ∧ Form k n ws ∧ crP k n ws ≤ 60 ∧ okS k n z ∧
  ∀ q H', Same H H' → H q = none → H' q = some (.lst ((stepped k n ws z).map V.int)) → Q (.ref q) H'
def spAhead2 (K : PySem.W.Frag) (C : Addr) : Sp := fun vs H Q _ => ∃ (p o : Addr) (k : Nm) (n : Nat) (ws : List Int) (z : Int), vs = [.ref p, .ref o, .int z] ∧ KO K C H p o k n ws ∧ Form k n ws ∧ crP k n ws ≤ 60 ∧ okS k n z ∧
  ∀ q H', Same H H' → H q = none → H' q = some (.lst ((aheadL k n ws z).map V.int)) → Q (.ref q) H'
end
end Sv

/-! Gains along rows: what a row of gains does depends only on what it does to the start. By the verifier: plain mathematics.
    f: what stands at each place of a whole line; S a b: how many places below a hold something of b or more; a gain is a (min, +) step on S. -/
namespace Sv
open PySem L2
/-- S counts, for f, the places below a that hold b or more -/
structure IsS (f : Int → Int) (S : Int → Int → Int) : Prop where
  up : ∀ a b, S (a + 1) b = S a b + (if b ≤ f a then 1 else 0)
  far : ∃ K : Int, ∀ a b, a + K ≤ b → S a b = 0
/-- at each place of D the greater one of the two that stand there and behind, at the next one the lesser -/
def gD (D : Int → Bool) (f : Int → Int) : Int → Int := fun p => if D p = true then max (f p) (f (p + 1)) else if D (p - 1) = true then min (f (p - 1)) (f p) else f p
def tD (D : Int → Bool) (S : Int → Int → Int) : Int → Int → Int := fun a b => if D (a - 1) = true then min (S (a + 1) b) (1 + S (a - 1) b) else S a b
theorem IsS.down {f : Int → Int} {S : Int → Int → Int} (h : IsS f S) (a b : Int) : S a b = S (a - 1) b + (if b ≤ f (a - 1) then 1 else 0) := by
  have := h.up (a - 1) b
  rw [Int.sub_add_cancel] at this
  exact this
theorem IsS.gain {f : Int → Int} {S : Int → Int → Int} {D : Int → Bool} (h : IsS f S) (hD : ∀ a, D a = true → D (a + 1) = false) : IsS (gD D f) (tD D S) := by
  refine ⟨fun a b => ?_, ?_⟩
  · have e1 : a + 1 - 1 = a := by omega
    unfold tD gD
    rw [e1]
    by_cases h1 : D a = true
    · have h2 : D (a - 1) ≠ true := fun z => by
        have := hD _ z
        rw [Int.sub_add_cancel] at this
        rw [this] at h1
        cases h1
      rw [if_pos h1, if_neg h2, if_pos h1]
      have u1 := h.up a b
      have u2 := h.up (a + 1) b
      by_cases x : b ≤ f a <;> by_cases y : b ≤ f (a + 1) <;> simp only [x, y, if_true, if_false] at u1 u2 <;> (split <;> omega)
    · rw [if_neg h1, if_neg h1]
      by_cases h2 : D (a - 1) = true
      · rw [if_pos h2, if_pos h2]
        have u1 := h.up a b
        have u2 := h.down a b
        by_cases x : b ≤ f a <;> by_cases y : b ≤ f (a - 1) <;> simp only [x, y, if_true, if_false] at u1 u2 <;> (split <;> omega)
      · rw [if_neg h2, if_neg h2]
        exact h.up a b
  · obtain ⟨K, hK⟩ := h.far
    refine ⟨K + 1, fun a b hab => ?_⟩
    unfold tD
    have h1 := hK a b (by omega)
    have h2 := hK (a + 1) b (by omega)
    have h3 := hK (a - 1) b (by omega)
    split <;> omega
theorem IsS.same {f : Int → Int} {S R : Int → Int → Int} (h : IsS f S) (g : IsS f R) : S = R := by
  funext a b
  obtain ⟨K, hK⟩ := h.far
  obtain ⟨L, hL⟩ := g.far
  have far0 : ∀ a, a + max K L ≤ b → S a b = R a b := fun a ha => by rw [hK a b (by omega), hL a b (by omega)]
  have up : ∀ m : Nat, S (b - max K L + (m : Int)) b = R (b - max K L + (m : Int)) b := by
    intro m
    induction m with
    | zero => exact far0 _ (by omega)
    | succ m ih =>
      have e : b - max K L + ((m + 1 : Nat) : Int) = b - max K L + (m : Int) + 1 := by omega
      rw [e, h.up, g.up, ih]
  by_cases ha : a + max K L ≤ b
  · exact far0 a ha
  · have := up (a - (b - max K L)).toNat
    have e : b - max K L + ((a - (b - max K L)).toNat : Int) = a := by omega
    rw [e] at this
    exact this
theorem IsS.inj {f g : Int → Int} {S : Int → Int → Int} (h : IsS f S) (k : IsS g S) : f = g := by
  funext a
  have h1 := h.up a (f a)
  have k1 := k.up a (f a)
  have h2 := h.up a (g a)
  have k2 := k.up a (g a)
  have r1 : f a ≤ f a := Int.le_refl _
  have r2 : g a ≤ g a := Int.le_refl _
  simp only [r1, r2, if_true] at h1 k2
  by_cases x : f a ≤ g a
  · by_cases y : g a ≤ f a
    · omega
    · simp only [y, if_false] at h2
      omega
  · simp only [x, if_false] at k1
    omega
/-- R is the least sum of V and S by way of all places between -/
def Rel (V S R : Int → Int → Int) : Prop := ∀ a b, (∀ c, R a b ≤ V a c + S c b) ∧ ∃ c, R a b = V a c + S c b
theorem Rel.gain {V S R : Int → Int → Int} (D : Int → Bool) (h : Rel V S R) : Rel (tD D V) S (tD D R) := by
  intro a b
  unfold tD
  by_cases hd : D (a - 1) = true
  · simp only [hd, if_true]
    have h1 := h (a + 1) b
    have h2 := h (a - 1) b
    refine ⟨fun c => ?_, ?_⟩
    · have x1 := h1.1 c
      have x2 := h2.1 c
      omega
    · obtain ⟨c1, e1⟩ := h1.2
      obtain ⟨c2, e2⟩ := h2.2
      by_cases hm : R (a + 1) b ≤ 1 + R (a - 1) b
      · refine ⟨c1, ?_⟩
        have x := h2.1 c1
        omega
      · refine ⟨c2, ?_⟩
        have x := h1.1 c2
        omega
  · simp only [hd, if_false]
    exact h a b
theorem Rel.same {V S R R' : Int → Int → Int} (h : Rel V S R) (k : Rel V S R') : R = R' := by
  funext a b
  obtain ⟨c, e⟩ := (h a b).2
  obtain ⟨c', e'⟩ := (k a b).2
  have x := (h a b).1 c'
  have y := (k a b).1 c
  omega
def sId : Int → Int → Int := fun a b => if b ≤ a then a - b else 0
theorem isS_id : IsS (fun p => p) sId := by
  refine ⟨fun a b => ?_, 0, fun a b h => ?_⟩
  · unfold sId
    (repeat' split) <;> omega
  · unfold sId
    split <;> omega
theorem IsS.near {f : Int → Int} {S : Int → Int → Int} (h : IsS f S) (b : Int) : ∀ (m : Nat) (a : Int), S a b ≤ S (a + (m : Int)) b ∧ S (a + (m : Int)) b ≤ S a b + (m : Int)
  | 0, a => by
    rw [show a + ((0 : Nat) : Int) = a by omega]
    exact ⟨by omega, by omega⟩
  | m + 1, a => by
    have i := h.near b m a
    have u := h.up (a + (m : Int)) b
    rw [show a + ((m + 1 : Nat) : Int) = a + (m : Int) + 1 by omega]
    split at u <;> omega
theorem rel_id {f : Int → Int} {S : Int → Int → Int} (h : IsS f S) : Rel sId S S := by
  intro a b
  refine ⟨fun c => ?_, a, ?_⟩
  · unfold sId
    by_cases hc : c ≤ a
    · have := (h.near b (a - c).toNat c).2
      rw [show c + ((a - c).toNat : Int) = a by omega] at this
      rw [if_pos hc]
      omega
    · have := (h.near b (c - a).toNat a).1
      rw [show a + ((c - a).toNat : Int) = c by omega] at this
      rw [if_neg hc]
      omega
  · unfold sId
    rw [if_pos (Int.le_refl _)]
    omega
/-- gains one behind another -/
def gDs (f : Int → Int) (Ds : List (Int → Bool)) : Int → Int := Ds.foldl (fun g D => gD D g) f
def tDs (S : Int → Int → Int) (Ds : List (Int → Bool)) : Int → Int → Int := Ds.foldl (fun T D => tD D T) S
def Apart (D : Int → Bool) : Prop := ∀ a, D a = true → D (a + 1) = false
theorem gains_isS : ∀ {Ds : List (Int → Bool)} {f : Int → Int} {S : Int → Int → Int}, (∀ D ∈ Ds, Apart D) → IsS f S → IsS (gDs f Ds) (tDs S Ds)
  | [], _, _, _, h => h
  | D :: Ds, f, S, hD, h => gains_isS (Ds := Ds) (f := gD D f) (S := tD D S) (fun E hE => hD E (List.mem_cons_of_mem _ hE)) (h.gain (hD D List.mem_cons_self))
theorem gains_rel : ∀ {Ds : List (Int → Bool)} {V S R : Int → Int → Int}, Rel V S R → Rel (tDs V Ds) S (tDs R Ds)
  | [], _, _, _, h => h
  | D :: Ds, V, S, R, h => gains_rel (Ds := Ds) (h.gain D)
/-- THE FACT: two rows of gains that do the same to the start do the same to all -/
theorem gains_indep {Ds Es : List (Int → Bool)} {f : Int → Int} {S : Int → Int → Int} (hD : ∀ D ∈ Ds, Apart D) (hE : ∀ D ∈ Es, Apart D) (h : IsS f S) (e : gDs (fun p => p) Ds = gDs (fun p => p) Es) : gDs f Ds = gDs f Es := by
  have a1 := gains_isS hD isS_id
  have a2 := gains_isS hE isS_id
  rw [← e] at a2
  have eV := a1.same a2
  have b1 := gains_rel (Ds := Ds) (rel_id h)
  have b2 := gains_rel (Ds := Es) (rel_id h)
  rw [eV] at b1
  have eR := b1.same b2
  have c1 := gains_isS hD h
  have c2 := gains_isS hE h
  rw [← eR] at c2
  exact c1.inj c2
end Sv

/-! Gains on orders are gains on a line of places: by the verifier. -/
namespace Sv
open PySem L2
/-- the place that stands at q: mirror orders have no place 0 -/
def pl (k : Nm) (q : Int) : Int := if k = .mi then (if 0 ≤ q then q + 1 else q) else q
def rng (k : Nm) (n : Nat) (q : Int) : Bool := decide (k = .mi → -(n : Int) ≤ q ∧ q < (n : Int))
def fn_ (k : Nm) (n : Nat) (w : List Int) (q : Int) : Int := if rng k n q = true then item k n w (pl k q) else pl k q
def sw (k : Nm) (n : Nat) (s q : Int) : Bool := if k = .mi then (if s = 0 then decide (q = -1) else decide (q = s - 1 ∨ q = -s - 1)) else decide ((q - s) % (n : Int) = 0)
theorem sw_apart {k : Nm} {n : Nat} {s : Int} (hK : okK k n = true) (hs : okS k n s) : Apart (sw k n s) := by
  intro a ha
  unfold sw at ha ⊢
  by_cases hk : k = .mi
  · rw [if_pos hk] at ha ⊢
    by_cases h0 : s = 0
    · rw [if_pos h0] at ha ⊢
      have := of_decide_eq_true ha
      exact decide_eq_false (by omega)
    · rw [if_neg h0] at ha ⊢
      have := of_decide_eq_true ha
      have := hs.1
      exact decide_eq_false (by omega)
  · rw [if_neg hk] at ha ⊢
    have h2 := okS_two hK hk hs
    have h := of_decide_eq_true ha
    refine decide_eq_false ?_
    rcases upto7 h2 with rfl | rfl | rfl | rfl | rfl | rfl <;> omega
theorem item_period {k : Nm} (hk : k ≠ .mi) {n : Nat} {w : List Int} {p q : Int} (h : p % (n : Int) = q % (n : Int)) : item k n w p = item k n w q + (p - q) := by
  rw [item_nm hk, item_nm hk, h]
  omega
theorem fn_nm {k : Nm} (hk : k ≠ .mi) (n : Nat) (w : List Int) (q : Int) : fn_ k n w q = item k n w q := by
  unfold fn_ rng pl
  rw [if_pos (decide_eq_true (fun e => absurd e hk)), if_neg hk]
theorem gD_at {D : Int → Bool} {f : Int → Int} {q : Int} (d : D q = true) : gD D f q = max (f q) (f (q + 1)) := if_pos d
theorem gD_next {D : Int → Bool} {f : Int → Int} {q : Int} (d : D q = false) (e : D (q - 1) = true) : gD D f q = min (f (q - 1)) (f q) := by
  unfold gD
  rw [d, e]
  rfl
theorem gD_none {D : Int → Bool} {f : Int → Int} {q : Int} (d : D q = false) (e : D (q - 1) = false) : gD D f q = f q := by
  unfold gD
  rw [d, e]
  rfl
theorem sw_mi0 (n : Nat) (q : Int) : sw .mi n 0 q = decide (q = -1) := by
  unfold sw
  rw [if_pos rfl, if_pos rfl]
theorem sw_mis {n : Nat} {s : Int} (h : s ≠ 0) (q : Int) : sw .mi n s q = decide (q = s - 1 ∨ q = -s - 1) := by
  unfold sw
  rw [if_pos rfl, if_neg h]
theorem sw_nm {k : Nm} (hk : k ≠ .mi) (n : Nat) (s q : Int) : sw k n s q = decide ((q - s) % (n : Int) = 0) := by
  unfold sw
  rw [if_neg hk]
theorem pl_pos {x : Int} (hx : 0 ≤ x) : pl .mi x = x + 1 := by unfold pl; rw [if_pos rfl, if_pos hx]
theorem pl_neg {x : Int} (hx : x < 0) : pl .mi x = x := by unfold pl; rw [if_pos rfl, if_neg (by omega)]
theorem fn_in {n : Nat} {w : List Int} {q : Int} (hq : -(n : Int) ≤ q ∧ q < n) : fn_ .mi n w q = item .mi n w (pl .mi q) := by
  unfold fn_ rng
  rw [if_pos (decide_eq_true (fun _ => hq))]
theorem fn_out {n : Nat} {w : List Int} {q : Int} (hq : ¬ (-(n : Int) ≤ q ∧ q < n)) : fn_ .mi n w q = pl .mi q := by
  unfold fn_ rng
  rw [if_neg (by simpa using hq)]
theorem pl_ok {n : Nat} {q : Int} (hq : -(n : Int) ≤ q ∧ q < n) : okP .mi n (pl .mi q) := fun _ => by
  by_cases h : 0 ≤ q
  · rw [pl_pos h]
    omega
  · rw [pl_neg (by omega)]
    omega
/-- what stands at a place behind a gain -/
theorem fn_after {n : Nat} {w : List Int} {s q : Int} (hK : okK .mi n = true) (hs : okS .mi n s) (hq : -(n : Int) ≤ q ∧ q < n) :
    fn_ .mi n (gained .mi n w s) q = if crossed .mi n w s = true then fn_ .mi n w q else item .mi n w (turned .mi n s (pl .mi q)) := by
  rw [fn_in hq, fn_in hq]
  unfold gained
  split
  · rfl
  · rw [item_step hK hs (pl_ok hq)]
theorem turned_far {n : Nat} {s q : Int} (hs : 0 ≤ s) (hq : -(n : Int) ≤ q ∧ q < n) (h1 : sw .mi n s q = false) (h2 : sw .mi n s (q - 1) = false) : turned .mi n s (pl .mi q) = pl .mi q := by
  have hp := (pl_ok hq rfl).1
  rw [turned_mi' n s _ hp hs]
  by_cases h0 : s = 0
  · subst h0
    rw [sw_mi0] at h1 h2
    have h1 := of_decide_eq_false h1
    have h2 := of_decide_eq_false h2
    rw [if_pos rfl]
    by_cases h : 0 ≤ q
    · rw [pl_pos h, if_neg (by omega)]
    · rw [pl_neg (by omega), if_neg (by omega)]
  · rw [sw_mis h0] at h1 h2
    have h1 := of_decide_eq_false h1
    have h2 := of_decide_eq_false h2
    rw [if_neg h0]
    by_cases h : 0 ≤ q
    · rw [pl_pos h, if_neg (by omega), if_neg (by omega), if_neg (by omega), if_neg (by omega)]
    · rw [pl_neg (by omega), if_neg (by omega), if_neg (by omega), if_neg (by omega), if_neg (by omega)]
theorem fn_gained_mi {n : Nat} {w : List Int} {s : Int} (hK : okK .mi n = true) (hs : okS .mi n s) : fn_ .mi n (gained .mi n w s) = gD (sw .mi n s) (fn_ .mi n w) := by
  funext q
  have h2 := okS_mi hs
  have hn := okK_le hK
  by_cases hq : -(n : Int) ≤ q ∧ q < n
  · rw [fn_after hK hs hq]
    cases d : sw .mi n s q with
    | true =>
      rw [gD_at d]
      by_cases h0 : s = 0
      · subst h0
        rw [sw_mi0] at d
        have d := of_decide_eq_true d
        subst d
        have e1 : item .mi n w (-1) = - item .mi n w 1 := item_neg n w 1 (by omega)
        have c : crossed .mi n w 0 = decide (item .mi n w 1 < item .mi n w (-1)) := by
          unfold crossed low
          rw [if_pos rfl, if_neg (by omega), turned_mi' n 0 _ (by omega) (by omega), if_pos rfl, if_pos (by omega)]
          rfl
        have f1 : fn_ .mi n w (-1) = item .mi n w (-1) := fn_in hq
        have f2 : fn_ .mi n w (-1 + 1) = item .mi n w 1 := fn_in (q := 0) (by omega)
        have t : turned .mi n 0 (pl .mi (-1)) = 1 := by
          rw [pl_neg (by omega), turned_mi' n 0 _ (by omega) (by omega), if_pos rfl, if_pos (by omega)]
          rfl
        rw [f1, f2, t]
        split
        · rename_i hc
          rw [c] at hc
          have := of_decide_eq_true hc
          omega
        · rename_i hc
          rw [c] at hc
          have : ¬ _ := fun z => hc (decide_eq_true z)
          omega
      · rw [sw_mis h0] at d
        have d := of_decide_eq_true d
        have e1 : item .mi n w (-s) = - item .mi n w s := item_neg n w s h0
        have e2 : item .mi n w (-(s + 1)) = - item .mi n w (s + 1) := item_neg n w (s + 1) (by omega)
        have c : crossed .mi n w s = decide (item .mi n w (s + 1) < item .mi n w s) := by
          unfold crossed low
          rw [if_pos rfl, if_pos (by omega), turned_mi' n s _ (by omega) (by omega), if_neg h0, if_pos rfl]
        rcases d with d | d
        · subst d
          have f1 : fn_ .mi n w (s - 1) = item .mi n w s := by rw [fn_in hq, pl_pos (by omega), Int.sub_add_cancel]
          have f2 : fn_ .mi n w (s - 1 + 1) = item .mi n w (s + 1) := by rw [Int.sub_add_cancel, fn_in (by omega), pl_pos (by omega)]
          have t : turned .mi n s (pl .mi (s - 1)) = s + 1 := by rw [pl_pos (by omega), Int.sub_add_cancel, turned_mi' n s _ (by omega) (by omega), if_neg h0, if_pos rfl]
          rw [f1, f2, t]
          split
          · rename_i hc
            rw [c] at hc
            have := of_decide_eq_true hc
            omega
          · rename_i hc
            rw [c] at hc
            have : ¬ _ := fun z => hc (decide_eq_true z)
            omega
        · subst d
          have f1 : fn_ .mi n w (-s - 1) = item .mi n w (-(s + 1)) := by rw [fn_in hq, pl_neg (by omega), show -s - 1 = -(s + 1) by omega]
          have f2 : fn_ .mi n w (-s - 1 + 1) = item .mi n w (-s) := by rw [Int.sub_add_cancel, fn_in (by omega), pl_neg (by omega)]
          have t : turned .mi n s (pl .mi (-s - 1)) = -s := by
            rw [pl_neg (by omega), turned_mi' n s _ (by omega) (by omega), if_neg h0, if_neg (by omega), if_neg (by omega), if_neg (by omega), if_pos (by omega)]
          rw [f1, f2, t]
          split
          · rename_i hc
            rw [c] at hc
            have := of_decide_eq_true hc
            omega
          · rename_i hc
            rw [c] at hc
            have : ¬ _ := fun z => hc (decide_eq_true z)
            omega
    | false =>
      cases d' : sw .mi n s (q - 1) with
      | true =>
        rw [gD_next d d']
        by_cases h0 : s = 0
        · subst h0
          rw [sw_mi0] at d'
          have d' := of_decide_eq_true d'
          have eq : q = 0 := by omega
          subst eq
          have e1 : item .mi n w (-1) = - item .mi n w 1 := item_neg n w 1 (by omega)
          have c : crossed .mi n w 0 = decide (item .mi n w 1 < item .mi n w (-1)) := by
            unfold crossed low
            rw [if_pos rfl, if_neg (by omega), turned_mi' n 0 _ (by omega) (by omega), if_pos rfl, if_pos (by omega)]
            rfl
          have f1 : fn_ .mi n w (0 - 1) = item .mi n w (-1) := fn_in (q := -1) (by omega)
          have f2 : fn_ .mi n w 0 = item .mi n w 1 := fn_in hq
          have t : turned .mi n 0 (pl .mi 0) = -1 := by
            rw [pl_pos (by omega), turned_mi' n 0 _ (by omega) (by omega), if_pos rfl, if_pos (by omega)]
            rfl
          rw [f1, f2, t]
          split
          · rename_i hc
            rw [c] at hc
            have := of_decide_eq_true hc
            omega
          · rename_i hc
            rw [c] at hc
            have : ¬ _ := fun z => hc (decide_eq_true z)
            omega
        · rw [sw_mis h0] at d'
          have d' := of_decide_eq_true d'
          have e1 : item .mi n w (-s) = - item .mi n w s := item_neg n w s h0
          have e2 : item .mi n w (-(s + 1)) = - item .mi n w (s + 1) := item_neg n w (s + 1) (by omega)
          have c : crossed .mi n w s = decide (item .mi n w (s + 1) < item .mi n w s) := by
            unfold crossed low
            rw [if_pos rfl, if_pos (by omega), turned_mi' n s _ (by omega) (by omega), if_neg h0, if_pos rfl]
          rcases d' with d' | d'
          · have eq : q = s := by omega
            subst eq
            have f1 : fn_ .mi n w (q - 1) = item .mi n w q := by rw [fn_in (by omega), pl_pos (by omega), Int.sub_add_cancel]
            have f2 : fn_ .mi n w q = item .mi n w (q + 1) := by rw [fn_in hq, pl_pos (by omega)]
            have t : turned .mi n q (pl .mi q) = q := by rw [pl_pos (by omega), turned_mi' n q _ (by omega) (by omega), if_neg h0, if_neg (by omega), if_pos rfl]
            rw [f1, f2, t]
            split
            · rename_i hc
              rw [c] at hc
              have := of_decide_eq_true hc
              omega
            · rename_i hc
              rw [c] at hc
              have : ¬ _ := fun z => hc (decide_eq_true z)
              omega
          · have eq : q = -s := by omega
            subst eq
            have f1 : fn_ .mi n w (-s - 1) = item .mi n w (-(s + 1)) := by rw [fn_in (by omega), pl_neg (by omega), show -s - 1 = -(s + 1) by omega]
            have f2 : fn_ .mi n w (-s) = item .mi n w (-s) := by rw [fn_in hq, pl_neg (by omega)]
            have t : turned .mi n s (pl .mi (-s)) = -(s + 1) := by
              rw [pl_neg (by omega), turned_mi' n s _ (by omega) (by omega), if_neg h0, if_neg (by omega), if_neg (by omega), if_pos rfl]
            rw [f1, f2, t]
            split
            · rename_i hc
              rw [c] at hc
              have := of_decide_eq_true hc
              omega
            · rename_i hc
              rw [c] at hc
              have : ¬ _ := fun z => hc (decide_eq_true z)
              omega
      | false =>
        rw [gD_none d d', turned_far h2.1 hq d d', fn_in hq]
        split <;> rfl
  · have d : sw .mi n s q = false := by
      by_cases h0 : s = 0
      · subst h0
        rw [sw_mi0]
        exact decide_eq_false (by omega)
      · rw [sw_mis h0]
        exact decide_eq_false (by omega)
    have d' : sw .mi n s (q - 1) = false := by
      by_cases h0 : s = 0
      · subst h0
        rw [sw_mi0]
        exact decide_eq_false (by omega)
      · rw [sw_mis h0]
        exact decide_eq_false (by omega)
    rw [gD_none d d', fn_out hq, fn_out hq]
theorem fn_gained_nm {k : Nm} (hk : k ≠ .mi) {n : Nat} {w : List Int} {s : Int} (hK : okK k n = true) (hs : okS k n s) : fn_ k n (gained k n w s) = gD (sw k n s) (fn_ k n w) := by
  funext q
  have h2 := okS_two hK hk hs
  have c : crossed k n w s = decide (item k n w (s + 1) < item k n w s) := by
    unfold crossed low
    rw [if_neg hk, turned_nm hk, if_pos (by rw [Int.sub_self]; rfl)]
  have G : fn_ k n (gained k n w s) q = if crossed k n w s = true then item k n w q else item k n w (turned k n s q) := by
    rw [fn_nm hk]
    unfold gained
    split
    · rfl
    · rw [item_step hK hs (fun e => absurd e hk)]
  rw [G, turned_nm hk]
  cases d : sw k n s q with
  | true =>
    rw [gD_at d, fn_nm hk, fn_nm hk]
    rw [sw_nm hk] at d
    have d := of_decide_eq_true d
    have m1 : q % (n : Int) = s % (n : Int) := by rcases upto7 h2 with rfl | rfl | rfl | rfl | rfl | rfl <;> omega
    have m2 : (q + 1) % (n : Int) = (s + 1) % (n : Int) := by rcases upto7 h2 with rfl | rfl | rfl | rfl | rfl | rfl <;> omega
    have p1 := item_period hk (w := w) m1
    have p2 := item_period hk (w := w) m2
    rw [if_pos d]
    split
    · rename_i hc
      rw [c] at hc
      have := of_decide_eq_true hc
      omega
    · rename_i hc
      rw [c] at hc
      have : ¬ _ := fun z => hc (decide_eq_true z)
      omega
  | false =>
    rw [sw_nm hk] at d
    have dn := of_decide_eq_false d
    rw [← sw_nm hk n s q] at d
    rw [if_neg dn]
    cases d' : sw k n s (q - 1) with
    | true =>
      rw [gD_next d d', fn_nm hk, fn_nm hk]
      rw [sw_nm hk] at d'
      have d' := of_decide_eq_true d'
      have hb : (q - s) % (n : Int) = 1 := by rcases upto7 h2 with rfl | rfl | rfl | rfl | rfl | rfl <;> omega
      have m1 : (q - 1) % (n : Int) = s % (n : Int) := by rcases upto7 h2 with rfl | rfl | rfl | rfl | rfl | rfl <;> omega
      have m2 : q % (n : Int) = (s + 1) % (n : Int) := by rcases upto7 h2 with rfl | rfl | rfl | rfl | rfl | rfl <;> omega
      have p1 := item_period hk (w := w) m1
      have p2 := item_period hk (w := w) m2
      rw [if_pos hb]
      split
      · rename_i hc
        rw [c] at hc
        have := of_decide_eq_true hc
        omega
      · rename_i hc
        rw [c] at hc
        have : ¬ _ := fun z => hc (decide_eq_true z)
        omega
    | false =>
      rw [gD_none d d', fn_nm hk]
      rw [sw_nm hk] at d'
      have d' := of_decide_eq_false d'
      have hb : ¬ (q - s) % (n : Int) = 1 := by rcases upto7 h2 with rfl | rfl | rfl | rfl | rfl | rfl <;> omega
      rw [if_neg hb]
      split <;> rfl
theorem fn_gained {k : Nm} {n : Nat} {w : List Int} {s : Int} (hK : okK k n = true) (hs : okS k n s) : fn_ k n (gained k n w s) = gD (sw k n s) (fn_ k n w) := by
  by_cases hk : k = .mi
  · subst hk
    exact fn_gained_mi hK hs
  · exact fn_gained_nm hk hK hs
end Sv

/-! What a row of gains does to an order depends only on the order that the row makes of the start; greedy products. By the verifier. -/
namespace Sv
open PySem L2
theorem pl_mono (k : Nm) {a b : Int} (h : a ≤ b) : pl k a ≤ pl k b := by
  unfold pl
  (repeat' split) <;> omega
theorem pl_inj (k : Nm) {a b : Int} (h : pl k a = pl k b) : a = b := by
  unfold pl at h
  (repeat' split at h) <;> omega
theorem pl_max (k : Nm) (a b : Int) : pl k (max a b) = max (pl k a) (pl k b) := by
  by_cases h : a ≤ b
  · have := pl_mono k h
    rw [show max a b = b by omega]
    omega
  · have := pl_mono k (show b ≤ a by omega)
    rw [show max a b = a by omega]
    omega
theorem pl_min (k : Nm) (a b : Int) : pl k (min a b) = min (pl k a) (pl k b) := by
  by_cases h : a ≤ b
  · have := pl_mono k h
    rw [show min a b = a by omega]
    omega
  · have := pl_mono k (show b ≤ a by omega)
    rw [show min a b = b by omega]
    omega
theorem gD_pl (k : Nm) (D : Int → Bool) (f : Int → Int) : gD D (fun p => pl k (f p)) = fun p => pl k (gD D f p) := by
  funext p
  unfold gD
  by_cases h1 : D p = true
  · rw [if_pos h1, if_pos h1, pl_max]
  · rw [if_neg h1, if_neg h1]
    by_cases h2 : D (p - 1) = true
    · rw [if_pos h2, if_pos h2, pl_min]
    · rw [if_neg h2, if_neg h2]
theorem gDs_pl (k : Nm) : ∀ (Ds : List (Int → Bool)) (f : Int → Int), gDs (fun p => pl k (f p)) Ds = fun p => pl k (gDs f Ds p)
  | [], _ => rfl
  | D :: Ds, f => by
    show gDs (gD D (fun p => pl k (f p))) Ds = _
    rw [gD_pl, gDs_pl k Ds]
    rfl
/-- the counts of the places themselves -/
def sPl (k : Nm) : Int → Int → Int := fun a b => sId a (if k = .mi then (if 0 < b then b - 1 else b) else b)
theorem isS_pl (k : Nm) : IsS (pl k) (sPl k) := by
  refine ⟨fun a b => ?_, 1, fun a b h => ?_⟩
  · unfold sPl sId pl
    by_cases hk : k = .mi
    · simp only [hk, if_true]
      (repeat' split) <;> omega
    · simp only [hk, if_false]
      (repeat' split) <;> omega
  · unfold sPl sId
    (repeat' split) <;> omega
theorem fn_start {k : Nm} {n : Nat} (hK : okK k n = true) : fn_ k n (startL k n) = pl k := by
  funext q
  have hn := okK_le hK
  unfold fn_
  by_cases h : rng k n q = true
  · rw [if_pos h]
    refine item_start hn.1 ?_
    intro hk
    subst hk
    have := of_decide_eq_true h rfl
    exact pl_ok this rfl
  · rw [if_neg h]
theorem fn_inj {k : Nm} {n : Nat} {w u : List Int} (hw : w.length = n) (hu : u.length = n) (h : fn_ k n w = fn_ k n u) : w = u := by
  refine ext_getD hw hu fun i hi => ?_
  have e := congrFun h (i : Int)
  by_cases hk : k = .mi
  · subst hk
    rw [fn_in (by omega), fn_in (by omega), pl_pos (by omega)] at e
    have a := item_off (k := .mi) (w := w) hi
    have b := item_off (k := .mi) (w := u) hi
    rw [show off .mi + (i : Int) = (i : Int) + 1 by show (1 : Int) + _ = _; omega] at a b
    rw [← a, ← b, e]
  · rw [fn_nm hk, fn_nm hk, item_in hk hi, item_in hk hi] at e
    exact e
def gains (k : Nm) (n : Nat) (w l : List Int) : List Int := l.foldl (gained k n) w
theorem gained_len {k : Nm} {n : Nat} {w : List Int} {s : Int} (h : w.length = n) : (gained k n w s).length = n := by
  unfold gained
  split
  · exact h
  · exact stepped_len _ _ _ _
theorem gains_len {k : Nm} {n : Nat} : ∀ {l w : List Int}, w.length = n → (gains k n w l).length = n
  | [], _, h => h
  | s :: l, w, h => gains_len (l := l) (w := gained k n w s) (gained_len h)
theorem gains_append (k : Nm) (n : Nat) (w l m : List Int) : gains k n w (l ++ m) = gains k n (gains k n w l) m := List.foldl_append
theorem fn_gains {k : Nm} {n : Nat} (hK : okK k n = true) : ∀ {l w : List Int}, (∀ s ∈ l, okS k n s) → fn_ k n (gains k n w l) = gDs (fn_ k n w) (l.map (sw k n))
  | [], _, _ => rfl
  | s :: l, w, hl => by
    show fn_ k n (gains k n (gained k n w s) l) = gDs (gD (sw k n s) (fn_ k n w)) (l.map (sw k n))
    rw [fn_gains hK (fun t ht => hl t (List.mem_cons_of_mem _ ht)), fn_gained hK (hl s List.mem_cons_self)]
theorem sw_all {k : Nm} {n : Nat} (hK : okK k n = true) {l : List Int} (hl : ∀ s ∈ l, okS k n s) : ∀ D ∈ l.map (sw k n), Apart D := fun D hD => by
  obtain ⟨s, hs, rfl⟩ := List.mem_map.mp hD
  exact sw_apart hK (hl s hs)
/-- rows of gains that do the same to the start do the same to each order that gains make -/
theorem gains_same {k : Nm} {n : Nat} {l m r : List Int} (hK : okK k n = true) (hl : ∀ s ∈ l, okS k n s) (hm : ∀ s ∈ m, okS k n s) (hr : ∀ s ∈ r, okS k n s) (e : gains k n (startL k n) l = gains k n (startL k n) m) :
    gains k n (gains k n (startL k n) r) l = gains k n (gains k n (startL k n) r) m := by
  have ls := startL_len k n
  refine fn_inj (k := k) (gains_len (gains_len ls)) (gains_len (gains_len ls)) ?_
  rw [fn_gains hK hl, fn_gains hK hm]
  have h1 := congrArg (fn_ k n) e
  rw [fn_gains hK hl, fn_gains hK hm, fn_start hK] at h1
  have h2 : gDs (fun p => p) (l.map (sw k n)) = gDs (fun p => p) (m.map (sw k n)) := by
    funext p
    have a := congrFun (gDs_pl k (l.map (sw k n)) (fun p => p)) p
    have b := congrFun (gDs_pl k (m.map (sw k n)) (fun p => p)) p
    have c := congrFun h1 p
    refine pl_inj k ?_
    rw [← a, ← b]
    exact c
  have hS := gains_isS (sw_all hK hr) (isS_pl k)
  rw [← fn_start hK, ← fn_gains hK hr] at hS
  exact gains_indep (sw_all hK hl) (sw_all hK hm) hS h2
/-- a row whose steps cross all new is a row of gains -/
theorem run_gains {k : Nm} {n : Nat} (hK : okK k n = true) : ∀ {l w : List Int}, (∀ s ∈ l, okS k n s) → Form k n w → crP k n (run k n w l) = crP k n w + (l.length : Int) → gains k n w l = run k n w l
  | [], _, _, _, _ => rfl
  | s :: l, w, hl, hF, hc => by
    have hl' : ∀ t ∈ l, okS k n t := fun t ht => hl t (List.mem_cons_of_mem _ ht)
    have h1 := cr_stepI hK (hl s List.mem_cons_self) hF
    have h2 := (run_form hK hl' h1.2).2
    have hc' : crP k n (run k n (stepped k n w s) l) = crP k n w + ((s :: l).length : Int) := hc
    rw [List.length_cons] at hc'
    have hn : ¬ crossed k n w s = true := fun z => by
      have := h1.1
      rw [if_pos z] at this
      omega
    have h3 := h1.1
    rw [if_neg hn] at h3
    show gains k n (gained k n w s) l = run k n (stepped k n w s) l
    have : gained k n w s = stepped k n w s := if_neg hn
    rw [this]
    exact run_gains hK hl' h1.2 (by omega)
/-- l is a least row of w -/
def Least (k : Nm) (n : Nat) (w l : List Int) : Prop := (∀ s ∈ l, okS k n s) ∧ run k n (startL k n) l = w ∧ (l.length : Int) = crP k n w
theorem Least.gains {k : Nm} {n : Nat} {w l : List Int} (hK : okK k n = true) (h : Least k n w l) : gains k n (startL k n) l = w := by
  obtain ⟨hl, e, c⟩ := h
  rw [← e]
  refine run_gains hK hl (form_start hK) ?_
  rw [e, cr_start hK, ← c]
  omega
theorem least_of {k : Nm} {n : Nat} {w : List Int} (hK : okK k n = true) (hF : Form k n w) : ∃ l, Least k n w l := by
  obtain ⟨l, hl, e, c⟩ := least_ex hK (crP k n w).toNat w hF (by omega)
  exact ⟨l, hl, e.symm, c⟩
/-- THE GREEDY PRODUCT: whichever least row of the second order is gained, the same comes out -/
theorem greedy_one {k : Nm} {n : Nat} {u v l m : List Int} (hK : okK k n = true) (hu : Form k n u) (hl : Least k n v l) (hm : Least k n v m) : gains k n u l = gains k n u m := by
  obtain ⟨r, hr⟩ := least_of hK hu
  have := gains_same hK hl.1 hm.1 hr.1 (by rw [hl.gains hK, hm.gains hK])
  rw [hr.gains hK] at this
  exact this
/-- .. and each row whose gains make the second order does too -/
theorem greedy_row {k : Nm} {n : Nat} {u v l m : List Int} (hK : okK k n = true) (hu : Form k n u) (hl : Least k n v l) (hm : ∀ s ∈ m, okS k n s) (e : gains k n (startL k n) m = v) : gains k n u m = gains k n u l := by
  obtain ⟨r, hr⟩ := least_of hK hu
  have := gains_same hK hm hl.1 hr.1 (by rw [hl.gains hK, e])
  rw [hr.gains hK] at this
  exact this
/-- associative: a row of gains of a product -/
theorem greedy_assoc {k : Nm} {n : Nat} {u v x lv lx lz : List Int} (hK : okK k n = true) (hu : Form k n u) (hv : Least k n v lv) (hx : Least k n x lx) (hz : Least k n (gains k n v lx) lz) :
    gains k n (gains k n u lv) lx = gains k n u lz := by
  rw [← gains_append]
  refine greedy_row hK hu hz (fun s hs => ?_) ?_
  · rcases List.mem_append.mp hs with h | h
    · exact hv.1 s h
    · exact hx.1 s h
  · rw [gains_append, hv.gains hK]
theorem gains_form {k : Nm} {n : Nat} (hK : okK k n = true) : ∀ {l w : List Int}, (∀ s ∈ l, okS k n s) → Form k n w → Form k n (gains k n w l)
  | [], _, _, h => h
  | s :: l, w, hl, h => by
    refine gains_form hK (l := l) (w := gained k n w s) (fun t ht => hl t (List.mem_cons_of_mem _ ht)) ?_
    unfold gained
    split
    · exact h
    · exact (cr_stepI hK (hl s List.mem_cons_self) h).2
end Sv

/-! The two items of a step differ; falls below a step that is done, by the verifier. -/
namespace Sv
open PySem L2
theorem after_eqv {k : Nm} {n : Nat} {w : List Int} {s : Nat} (hl : w.length = n) (hK : okK k n = true) (hs : okS k n (s : Int)) (e : (exch k n w s).1 = (exch k n w s).2) : after k n w s = w := by
  have hn := okK_le hK
  obtain ⟨_, h2⟩ := hs
  have hsn : s < n := by unfold many at h2; split at h2 <;> omega
  refine ext_getDS (after_lenS k n w s) fun j hj => ?_
  unfold after
  unfold exch at *
  cases k
  · have h1 : s + 1 < n := by unfold many at h2; rw [if_pos rfl] at h2; omega
    simp only [if_true] at *
    rw [getD_setS _ _ _ _ (by rw [List.length_set]; omega), getD_setS _ _ _ _ (by omega)]
    by_cases ja : j = s + 1
    · rw [if_pos ja, ja]; exact e
    · rw [if_neg ja]
      by_cases jb : j = s
      · rw [if_pos jb, jb]; exact e.symm
      · rw [if_neg jb]
  · by_cases e0 : s = 0
    · subst e0
      simp only [reduceCtorEq, if_false, false_and, if_true] at *
      rw [getD_setS _ _ _ _ (by omega)]
      by_cases j0 : j = 0
      · rw [if_pos j0, j0]; exact e
      · rw [if_neg j0]
    · simp only [reduceCtorEq, if_false, false_and, if_neg e0] at *
      rw [getD_setS _ _ _ _ (by rw [List.length_set]; omega), getD_setS _ _ _ _ (by omega)]
      by_cases ja : j = s
      · rw [if_pos ja, ja]; exact e
      · rw [if_neg ja]
        by_cases jb : j = s - 1
        · rw [if_pos jb, jb]; exact e.symm
        · rw [if_neg jb]
  · by_cases e0 : s + 1 = n
    · simp only [reduceCtorEq, if_false, if_pos e0, if_true, true_and] at *
      rw [getD_setS _ _ _ _ (by rw [List.length_set]; omega), getD_setS _ _ _ _ (by omega)]
      by_cases ja : j = 0
      · rw [if_pos ja, ja]; omega
      · rw [if_neg ja]
        by_cases jb : j = s
        · rw [if_pos jb, jb]; exact e.symm
        · rw [if_neg jb]
    · simp only [reduceCtorEq, if_false, true_and, if_neg e0, if_true] at *
      rw [getD_setS _ _ _ _ (by rw [List.length_set]; omega), getD_setS _ _ _ _ (by omega)]
      by_cases ja : j = s + 1
      · rw [if_pos ja, ja]; exact e
      · rw [if_neg ja]
        by_cases jb : j = s
        · rw [if_pos jb, jb]; exact e.symm
        · rw [if_neg jb]
theorem form_apart {k : Nm} {n : Nat} {w : List Int} {s : Nat} (hK : okK k n = true) (hF : Form k n w) (hs : okS k n (s : Int)) : (exch k n w s).1 ≠ (exch k n w s).2 := fun e => by
  have h := (cr_stepI hK hs hF).1
  rw [← after_eq hK hs hF.1, after_eqv hF.1 hK hs e] at h
  split at h <;> omega
/-- an order gains a step exactly where the spread rises -/
theorem rises {k : Nm} {n : Nat} {w : List Int} {s : Nat} (hK : okK k n = true) (hF : Form k n w) (hs : okS k n (s : Int)) :
    ((sprd k n w).getD s 0 < (sprd k n w).getD (s + 1) 0) ↔ crossed k n w (s : Int) = false := by
  have h1 := form_apart hK hF hs
  rw [sprd_at hF.1 hK hs] at h1
  have h2 := crossP_sprd hF.1 hK hs
  rw [cross_eq hK hs hF.1] at h2
  rw [h2]
  constructor
  · intro h
    exact decide_eq_false (by omega)
  · intro h
    have := of_decide_eq_false h
    dsimp only at h1
    omega
/-- the least step at which there may be a fall behind a step -/
def lch (k : Nm) (s m : Int) : Int := if s = 0 ∨ (k = .ri ∧ s = m - 1) then 0 else s - 1
theorem below {k : Nm} {n : Nat} {w : List Int} {s t : Nat} (hK : okK k n = true) (hl : w.length = n) (hs : okS k n (s : Int)) (h : ∀ t : Nat, (t : Int) < (s : Int) → crossP k n w t = false) (ht : (t : Int) < lch k s (many k n)) : crossP k n (after k n w s) t = false := by
  unfold lch at ht
  have hn := okK_le hK
  split at ht
  · omega
  · rename_i hc
    have hc1 : s ≠ 0 := fun z => hc (.inl (by omega))
    have hst : t + 1 < s := by omega
    have htS : okS k n (t : Int) := ⟨by omega, by have := hs.2; omega⟩
    have hw := h t (by omega)
    have hlen := sprd_len (k := k) hl hn.1
    have hsb : s + 1 < (sprd k n w).length := by have := hs.2; omega
    rw [crossP_sprd ((after_lenS k n w s).trans hl) hK htS, ← exIn_sprd hl hK hs]
    rw [crossP_sprd hl hK htS] at hw
    have sw : ∀ j, j < s → (swpS (sprd k n w) s).getD j 0 = (sprd k n w).getD j 0 := fun j hj => by
      rw [swpS_getD hsb, if_neg (by omega), if_neg (by omega)]
    have e : ∀ j, j < s → (exIn k (sprd k n w) s).getD j 0 = (sprd k n w).getD j 0 := fun j hj => by
      unfold exIn
      cases k
      · exact sw j hj
      · dsimp only
        rw [if_neg (by omega)]
        exact sw j hj
      · dsimp only
        have e2 : (many .ri n) = (n : Int) := by unfold many; rw [if_neg (by decide)]; omega
        rw [if_neg hc1, if_neg (fun z => hc (.inr ⟨rfl, by rw [hlen] at z; omega⟩))]
        exact sw j hj
    rw [e t (by omega), e (t + 1) hst]
    exact hw
theorem lch_le {k : Nm} {s : Nat} {m : Int} : 0 ≤ lch k s m ∧ lch k s m ≤ s := by
  unfold lch
  split <;> omega
theorem falls_none {k : Nm} {n : Nat} {w : List Int} (h : ∀ t : Nat, (t : Int) < many k n → crossP k n w t = false) : fallsP k n w = [] := by
  unfold fallsP
  rw [List.filter_eq_nil_iff.mpr (fun t ht => by
    have := List.mem_range.mp ht
    rw [h t (by omega)]
    exact Bool.false_ne_true)]
  rfl
end Sv

namespace Sv
open PySem L2
/-- the greedy product, by some least row of the second order -/
noncomputable def dem (k : Nm) (n : Nat) (w v : List Int) : List Int := by
  classical
  exact if h : ∃ l, Least k n v l then gains k n w h.choose else []
theorem dem_eq {k : Nm} {n : Nat} {w v l : List Int} (hK : okK k n = true) (hw : Form k n w) (hl : Least k n v l) : gains k n w l = dem k n w v := by
  unfold dem
  have h : ∃ l, Least k n v l := ⟨l, hl⟩
  rw [dif_pos h]
  exact greedy_one hK hw hl h.choose_spec
theorem dem_form {k : Nm} {n : Nat} {w v : List Int} (hK : okK k n = true) (hw : Form k n w) (hv : Form k n v) : Form k n (dem k n w v) := by
  obtain ⟨l, hl⟩ := least_of hK hv
  rw [← dem_eq hK hw hl]
  exact gains_form hK hl.1 hw
/-- a row that takes the opposite down to the start is a least row -/
theorem down_least {k : Nm} {n : Nat} {w l : List Int} (hK : okK k n = true) (hO : Ord k n w) (hl : ∀ s ∈ l, okS k n s) (e : run k n (invP k n w) l = startL k n) (c : (l.length : Int) = crP k n (invP k n w)) : Least k n w l := by
  refine ⟨hl, ?_, by rw [c, cr_inv hK hO]⟩
  have hi := hO.inv hK
  have hlen := (hi.1.form hK).1
  have h1 : invP k n w = run k n (startL k n) l.reverse := by
    have := run_rev hK hl hlen
    rw [e] at this
    exact this.symm
  have h2 := inv_run hK (rev_ok hl)
  rw [← h1, List.reverse_reverse, hi.2] at h2
  exact h2.symm
theorem gains_take {k : Nm} {n : Nat} {w l : List Int} {i : Nat} (h : i < l.length) : gains k n w (l.take (i + 1)) = gained k n (gains k n w (l.take i)) (l.getD i 0) := by
  have e : l[i]? = some (l.getD i 0) := by rw [List.getD_eq_getElem?_getD, List.getElem?_eq_getElem h]; rfl
  rw [List.take_add_one, e]
  show gains k n w (l.take i ++ [l.getD i 0]) = _
  rw [gains_append]
  rfl
end Sv

namespace Sv
open PySem PySem.Spec PyProof.Rows L2
def OrdsAt (K : PySem.W.Frag) (H : Hp) : List Addr → List (List Int) → Prop
  | [], [] => True
  | o :: os, ws :: wss => SqL K H o (ws.map V.int) ∧ OrdsAt K H os wss
  | _, _ => False
theorem OrdsAt.keep {K : PySem.W.Frag} {H H' : Hp} (e : Same H H') : ∀ {os : List Addr} {wss : List (List Int)}, OrdsAt K H os wss → OrdsAt K H' os wss
  | [], [], _ => trivial
  | o :: os, ws :: wss, h => ⟨e.seq h.1, OrdsAt.keep e h.2⟩
theorem OrdsAt.len {K : PySem.W.Frag} {H : Hp} : ∀ {os : List Addr} {wss : List (List Int)}, OrdsAt K H os wss → os.length = wss.length
  | [], [], _ => rfl
  | o :: os, ws :: wss, h => congrArg (· + 1) h.2.len
theorem OrdsAt.get {K : PySem.W.Frag} {H : Hp} : ∀ {os : List Addr} {wss : List (List Int)} {i : Nat} {x : V}, OrdsAt K H os wss → (os.map V.ref)[i]? = some x → ∃ o ws, x = .ref o ∧ wss[i]? = some ws ∧ SqL K H o (ws.map V.int)
  | [], [], i, x, _, e => by simp at e
  | o :: os, ws :: wss, 0, x, h, e => ⟨o, ws, (Option.some.inj e).symm, rfl, h.1⟩
  | o :: os, ws :: wss, i + 1, x, h, e => OrdsAt.get (os := os) (wss := wss) (i := i) h.2 e
theorem OrdsAt.snoc {K : PySem.W.Frag} {H : Hp} {o : Addr} {ws : List Int} (ho : SqL K H o (ws.map V.int)) : ∀ {os : List Addr} {wss : List (List Int)}, OrdsAt K H os wss → OrdsAt K H (os ++ [o]) (wss ++ [ws])
  | [], [], _ => ⟨ho, trivial⟩
  | u :: os, us :: wss, h => ⟨h.1, OrdsAt.snoc ho h.2⟩
section
variable {P : Program} {w : World} {K : PySem.W.Frag} {mg : Str → Option Value} {base : Heap} {f C D : Addr} {fd : FuncData}
def spFirstDown (K : PySem.W.Frag) (C : Addr) : Sp := fun vs H Q _ => ∃ (p o : Addr) (k : Nm) (n : Nat) (ws : List Int), vs = [.ref p, .ref o] ∧ KO K C H p o k n ws ∧ H o = some (.lst (ws.map V.int)) ∧ Form k n ws ∧ crP k n ws ≤ 500 ∧
  ∀ (q : Addr) (l : List Int) (H' : Hp), (∀ s ∈ l, okS k n s) → run k n ws l = startL k n → (l.length : Int) = crP k n ws → Same H H' → H q = none → H' q = some (.lst (l.map V.int)) → Q (.ref q) H'
theorem first_get {xs : List Int} (h : 0 < xs.length) : atI (xs.map V.int) 0 = some (.int (xs.getD 0 0)) := at_of (j := 0) rfl (map_getD h)
def spLeastCh : Sp := fun vs H Q _ => ∃ (k : Nm) (s m : Int), vs = [.str k.s, .int s, .int m] ∧ Q (.int (lch k s m)) H
def spFirstLeast (K : PySem.W.Frag) (C : Addr) : Sp := fun vs H Q _ => ∃ (p o : Addr) (k : Nm) (n : Nat) (ws : List Int), vs = [.ref p, .ref o] ∧ KO K C H p o k n ws ∧ Form k n ws ∧ crP k n ws ≤ 500 ∧
  ∀ (q : Addr) (l : List Int) (H' : Hp), Least k n ws l → Same H H' → H q = none → H' q = some (.lst (l.map V.int)) → Q (.ref q) H'
def spAfterGain (K : PySem.W.Frag) (C : Addr) : Sp := fun vs H Q _ => ∃ (p o : Addr) (k : Nm) (n : Nat) (ws : List Int) (z : Int), vs = [.ref p, .ref o, .int z] ∧ KO K C H p o k n ws ∧ okS k n z ∧
  ∀ q H', Same H H' → H q = none → H' q = some (.lst ((gained k n ws z).map V.int)) → Q (.ref q) H'
theorem gained_form {k : Nm} {n : Nat} {w : List Int} {s : Int} (hK : okK k n = true) (hs : okS k n s) (hF : Form k n w) : Form k n (gained k n w s) := gains_form hK (l := [s]) (fun t ht => by rw [List.mem_singleton.mp ht]; exact hs) hF
def spAfterGainA (K : PySem.W.Frag) (C : Addr) : Sp := fun vs H Q _ => ∃ (p o : Addr) (k : Nm) (n : Nat) (ws : List Int) (z : Int), vs = [.ref p, .ref o, .int z] ∧ KO K C H p o k n ws ∧ Form k n ws ∧ okS k n z ∧
  ∀ q H', Same H H' → H q = none → H' q = some (.lst ((invP k n (gained k n (invP k n ws) z)).map V.int)) → Q (.ref q) H'
def spAfterRow (K : PySem.W.Frag) (C : Addr) : Sp := fun vs H Q _ => ∃ (p o r : Addr) (k : Nm) (n : Nat) (ws l : List Int), vs = [.ref p, .ref o, .ref r] ∧ KO K C H p o k n ws ∧ Form k n ws ∧ SqL K H r (l.map V.int) ∧ (∀ s ∈ l, okS k n s) ∧
  ∀ q H', Same H H' → H q = none → H' q = some (.lst ((gains k n ws l).map V.int)) → Q (.ref q) H'
def spGreedyOf (K : PySem.W.Frag) (C : Addr) : Sp := fun vs H Q _ => ∃ (p o u : Addr) (k : Nm) (n : Nat) (ws us : List Int), vs = [.ref p, .ref o, .ref u] ∧ KO K C H p o k n ws ∧ SqL K H u (us.map V.int) ∧ Form k n ws ∧ Form k n us ∧ crP k n us ≤ 500 ∧
  ∀ q H', Same H H' → H q = none → H' q = some (.lst ((dem k n ws us).map V.int)) → Q (.ref q) H'
/-! ### checks of more orders; the calls -/
def spCkB2 (K : PySem.W.Frag) (C : Addr) : Sp := fun vs H Q _ => ∃ (p t : Addr) (os : List Addr) (k : Nm) (n : Nat) (wss : List (List Int)), vs = [.ref p, .ref t] ∧ SqT K H t (os.map V.ref) ∧ KAt C H p k n ∧ okK k n = true ∧ OrdsAt K H os wss ∧ (∀ ws ∈ wss, Form k n ws ∧ crP k n ws ≤ 60) ∧ ∀ H', Same H H' → Q .non H'
theorem body_check_orders2 {cdv : Value} {A : Around} {outer : List Env} {s : Shared} {H : Hp} {vs : List V} {Q : VK} {E : XK} (T : Tk K w mg C D) (F : FnP K "check_orders" "check_orders" s_check_orders f fd) (c_check_kind : Gd P w K mg base "check_kind" ["kind"] 1 (spCk C)) (c_is_told_order : Gd P w K mg base "is_told_order" ["kind", "value"] 4 (spTold K C))
    (hr : Room 4 (A.deeper (envOfC "check_orders" (defScope s_check_orders) s.heap.objs.size f cdv))) (h : spCkB2 K C vs H Q E) :
    ∃ t, PSs (cxOf CX0 P w K mg base ["kind", "orders", "order"] "check_orders" (defScope s_check_orders) f cdv A outer s H E).nox (defBody s_check_orders) t ∧ t { nx := fun _ H' => Q .non H', rt := Q } (start ["kind", "orders", "order"] vs) H := by
  obtain ⟨p, t, os, k, n, wss, rfl, hT, hk, hK, hO, hw, q⟩ := h
  refine ⟨_, (pss_cons (ps_expr (pe_callG c_check_kind (hr.mono (by decide)) (by rfl) (pa_cons (pv 0) pa_nil)))
      (pss_one (ps_for PassesOwn.never rfl (pi_tup (pv 1)) (pg_name (i := 2) sc_check_orders.nd rfl (Or.inl rfl)) (pss_one (ps_if (pt_not (pt_val (pe_callG c_is_told_order (hr.mono (by decide)) (by rfl) (pa_cons (pv 0) (pa_cons (pv 2) pa_nil))))) (pss_one ps_never) pss_nil))))), ?_⟩
  refine ⟨_, rfl, p, k, n, rfl, hk, ?_⟩
  refine ⟨_, rfl, t, rfl, ⟨_, hT⟩, ?_⟩
  refine for_tup (K := K) (a := t) (xs := os.map V.ref) (fun i σ H2 => ∃ v, σ = [some (.ref p), some (.ref t), v] ∧ Same H H2) ⟨none, rfl, Same.refl H⟩ (fun i σ H2 _ h2 => by obtain ⟨_, _, s2⟩ := h2; exact Same.tup s2 hT) ?_ ?_
  · rintro i x σ H2 hi ⟨v, rfl, s2⟩
    obtain ⟨o, ws, rfl, hg, hs⟩ := hO.get hi
    obtain ⟨hF, h6⟩ := hw ws (List.mem_of_getElem? hg)
    refine ⟨_, rfl, _, rfl, p, o, k, n, ws, rfl, ⟨hk.keep s2, s2.seq hs, hF.1, hK⟩, hF, h6, fun H3 s3 => ⟨true, rfl, ?_⟩⟩
    exact ⟨_, rfl, s2.trans s3⟩
  · rintro σ H2 ⟨v, rfl, s2⟩
    exact q H2 s2
def spCkOn (K : PySem.W.Frag) (C : Addr) : Sp := fun vs H Q _ => ∃ (p : Addr) (os : List Addr) (k : Nm) (n : Nat) (wss : List (List Int)), vs = .ref p :: os.map V.ref ∧ os.length ≤ 100 ∧ KAt C H p k n ∧ okK k n = true ∧ OrdsAt K H os wss ∧ (∀ ws ∈ wss, Form k n ws ∧ crP k n ws ≤ 60) ∧ ∀ H', Same H H' → Q .non H'
theorem ok_check_ordersN (T : Tk K w mg C D) (F : FnP K "check_orders" "check_orders" s_check_orders f fd) (c_check_kind : Gd P w K mg base "check_kind" ["kind"] 1 (spCk C)) (c_is_told_order : Gd P w K mg base "is_told_order" ["kind", "value"] 4 (spTold K C)) : FnR P w K mg base CX0 5 f (spCkOn K C) := by
  obtain ⟨oc, od, dV, kV, doc, pm, an, cdv, ct, osl, rfl, lk, hcd, hD, hK⟩ := id F.ex
  rcases hD with ⟨_, rfl⟩ | ⟨e, _⟩
  · have R := StX.fn_star (P := P) (w := w) (mg := mg) (base := base) (CX := CX0) (ps := ["kind"]) (pv := "orders") (N := ["kind", "orders", "order"]) (sp := spCkB2 K C) (k := 4) lk hcd sc_check_orders StX.cxUp_none
      (StX.bind_star1 (B := fun us => bindArgs _ ⟨us, []⟩) (fun a => rfl) (fun a r rs => rfl)) (fun A outer s H vs Q E hr h => let ⟨t, p, q⟩ := body_check_orders2 T F c_check_kind c_is_told_order hr h; ⟨t, p.nox, q⟩)
    intro A outer s H us vs Q E hr e0 r h
    refine R A outer s H us vs Q E hr e0 r ?_
    obtain ⟨p, os, k, n, wss, rfl, hz, hk, hK, hO, hw, q⟩ := h
    refine ⟨[.ref p], os.map V.ref, rfl, rfl, Nat.le_of_lt (small1000 (by rw [List.length_map]; omega)), fun t nt => ?_⟩
    have u1 := Same.upd (o := .tup (os.map V.ref)) nt
    exact ⟨p, t, os, k, n, wss, rfl, SqT.of upd_same, hk.keep u1, hK, hO.keep u1, hw, fun H' s' => q H' (u1.trans s')⟩
  · exact absurd rfl e
theorem one_ord {H : Hp} {o : Addr} {k : Nm} {n : Nat} {ws : List Int} (h : SqL K H o (ws.map V.int)) (hF : Form k n ws) (h6 : crP k n ws ≤ 60) : OrdsAt K H [o] [ws] ∧ ∀ us ∈ [ws], Form k n us ∧ crP k n us ≤ 60 :=
  ⟨⟨h, trivial⟩, fun us hu => by rw [List.mem_singleton.mp hu]; exact ⟨hF, h6⟩⟩
def spGained2 (K : PySem.W.Frag) (C : Addr) : Sp := fun vs H Q _ => ∃ (p o : Addr) (k : Nm) (n : Nat) (ws : List Int) (z : Int), vs = [.ref p, .ref o, .int z] ∧ KO K C H p o k n ws ∧ Form k n ws ∧ crP k n ws ≤ 60 ∧ okS k n z ∧
  ∀ q H', Same H H' → H q = none → H' q = some (.lst ((gained k n ws z).map V.int)) → Q (.ref q) H'
def spGainedA2 (K : PySem.W.Frag) (C : Addr) : Sp := fun vs H Q _ => ∃ (p o : Addr) (k : Nm) (n : Nat) (ws : List Int) (z : Int), vs = [.ref p, .ref o, .int z] ∧ KO K C H p o k n ws ∧ Form k n ws ∧ crP k n ws ≤ 60 ∧ okS k n z ∧
  ∀ q H', Same H H' → H q = none → H' q = some (.lst ((invP k n (gained k n (invP k n ws) z)).map V.int)) → Q (.ref q) H'
def spGreedy2 (K : PySem.W.Frag) (C : Addr) : Sp := fun vs H Q _ => ∃ (p o u : Addr) (k : Nm) (n : Nat) (ws us : List Int), vs = [.ref p, .ref o, .ref u] ∧ KO K C H p o k n ws ∧ SqL K H u (us.map V.int) ∧ Form k n ws ∧ crP k n ws ≤ 60 ∧ Form k n us ∧ crP k n us ≤ 60 ∧
  ∀ q H', Same H H' → H q = none → H' q = some (.lst ((dem k n ws us).map V.int)) → Q (.ref q) H'
noncomputable def demAll (k : Nm) (n : Nat) (wss : List (List Int)) : List Int := wss.foldl (dem k n) (startL k n)
theorem demAll_take {k : Nm} {n : Nat} {wss : List (List Int)} {i : Nat} {ws : List Int} (h : wss[i]? = some ws) : demAll k n (wss.take (i + 1)) = dem k n (demAll k n (wss.take i)) ws := by
  unfold demAll
  rw [take_succ h, List.foldl_append]
  rfl
theorem demAll_form {k : Nm} {n : Nat} (hK : okK k n = true) {wss : List (List Int)} (hw : ∀ ws ∈ wss, Form k n ws) : ∀ i, i ≤ wss.length → Form k n (demAll k n (wss.take i))
  | 0, _ => form_start hK
  | i + 1, h => by
    have e : wss[i]? = some wss[i] := List.getElem?_eq_getElem (by omega)
    rw [demAll_take e]
    exact dem_form hK (demAll_form hK hw i (by omega)) (hw _ (List.getElem_mem _))
def spGreedyAll (K : PySem.W.Frag) (C : Addr) : Sp := fun vs H Q _ => ∃ (p a : Addr) (os : List Addr) (k : Nm) (n : Nat) (wss : List (List Int)), vs = [.ref p, .ref a] ∧ KAt C H p k n ∧ okK k n = true ∧ SqL K H a (os.map V.ref) ∧ os.length ≤ 20 ∧ OrdsAt K H os wss ∧ (∀ ws ∈ wss, Form k n ws ∧ crP k n ws ≤ 60) ∧
  ∀ q H', Same H H' → H q = none → H' q = some (.lst ((demAll k n wss).map V.int)) → Q (.ref q) H'
end
end Sv

/-! Orders beneath one another, by counts; down steps. By the verifier: plain mathematics. -/
namespace Sv
open PySem L2
def swp (k : Nm) (n : Nat) (s q : Int) : Int := if sw k n s q = true then q + 1 else if sw k n s (q - 1) = true then q - 1 else q
theorem swp_mi (n : Nat) (s q : Int) : swp .mi n s q = if s = 0 then (if q = -1 then 0 else if q = 0 then -1 else q) else if q = s - 1 ∨ q = -s - 1 then q + 1 else if q = s ∨ q = -s then q - 1 else q := by
  unfold swp
  by_cases h : s = 0
  · subst h
    rw [sw_mi0, sw_mi0, if_pos rfl]
    simp only [decide_eq_true_eq]
    repeat' split
    all_goals omega
  · rw [sw_mis h, sw_mis h, if_neg h]
    simp only [decide_eq_true_eq]
    repeat' split
    all_goals omega
theorem turned_pl {n : Nat} {s q : Int} (hs : 0 ≤ s) (hq : -(n : Int) ≤ q ∧ q < n) : turned .mi n s (pl .mi q) = pl .mi (swp .mi n s q) := by
  have hp := (pl_ok hq rfl).1
  rw [turned_mi' n s _ hp hs, swp_mi]
  unfold pl
  simp only [if_true]
  by_cases h : s = 0
  · simp only [h, if_true]
    repeat' split
    all_goals omega
  · simp only [h, if_false]
    repeat' split
    all_goals omega
theorem fn_stepped {k : Nm} {n : Nat} {w : List Int} {s : Int} (hK : okK k n = true) (hs : okS k n s) : fn_ k n (stepped k n w s) = fun q => fn_ k n w (swp k n s q) := by
  funext q
  by_cases hk : k = .mi
  · subst hk
    have h2 := okS_mi hs
    by_cases hq : -(n : Int) ≤ q ∧ q < n
    · have hq' : -(n : Int) ≤ swp .mi n s q ∧ swp .mi n s q < n := by
        rw [swp_mi]
        repeat' split
        all_goals omega
      rw [fn_in hq, fn_in hq', item_step hK hs (pl_ok hq), turned_pl h2.1 hq]
    · have e : swp .mi n s q = q := by
        rw [swp_mi]
        repeat' split
        all_goals omega
      rw [e, fn_out hq, fn_out hq]
  · have h2 := okS_two hK hk hs
    rw [fn_nm hk, fn_nm hk, item_step hK hs (fun e => absurd e hk), turned_nm hk]
    congr 1
    unfold swp
    rw [sw_nm hk, sw_nm hk]
    simp only [decide_eq_true_eq]
    rcases upto7 h2 with rfl | rfl | rfl | rfl | rfl | rfl <;> (repeat' split) <;> omega
theorem up_of {k : Nm} {n : Nat} {w : List Int} {s q : Int} (hK : okK k n = true) (hs : okS k n s) (d : sw k n s q = true) :
    (crossed k n w s = true → fn_ k n w (q + 1) ≤ fn_ k n w q) ∧ (¬ crossed k n w s = true → fn_ k n w q ≤ fn_ k n w (q + 1)) := by
  have g := congrFun (fn_gained (w := w) hK hs) q
  rw [gD_at d] at g
  refine ⟨fun h => ?_, fun h => ?_⟩
  · unfold gained at g
    rw [if_pos h] at g
    omega
  · unfold gained at g
    rw [if_neg h, fn_stepped hK hs] at g
    have e : swp k n s q = q + 1 := if_pos d
    simp only [e] at g
    omega
/-- a fall taken away where there is one -/
def downed (k : Nm) (n : Nat) (w : List Int) (s : Int) : List Int := if crossed k n w s = true then stepped k n w s else w
def dD (D : Int → Bool) (f : Int → Int) : Int → Int := fun p => if D p = true then min (f p) (f (p + 1)) else if D (p - 1) = true then max (f (p - 1)) (f p) else f p
def uD (D : Int → Bool) (S : Int → Int → Int) : Int → Int → Int := fun a b => if D (a - 1) = true then max (S (a - 1) b) (S (a + 1) b - 1) else S a b
theorem fn_downed {k : Nm} {n : Nat} {w : List Int} {s : Int} (hK : okK k n = true) (hs : okS k n s) : fn_ k n (downed k n w s) = dD (sw k n s) (fn_ k n w) := by
  funext q
  have ap := sw_apart hK hs
  unfold dD
  by_cases d : sw k n s q = true
  · rw [if_pos d]
    have u := up_of (w := w) hK hs d
    unfold downed
    by_cases hc : crossed k n w s = true
    · have := u.1 hc
      rw [if_pos hc, fn_stepped hK hs]
      have e : swp k n s q = q + 1 := if_pos d
      simp only [e]
      omega
    · have := u.2 hc
      rw [if_neg hc]
      omega
  · rw [if_neg d]
    by_cases d' : sw k n s (q - 1) = true
    · rw [if_pos d']
      have u := up_of (w := w) hK hs d'
      rw [Int.sub_add_cancel] at u
      unfold downed
      by_cases hc : crossed k n w s = true
      · have := u.1 hc
        rw [if_pos hc, fn_stepped hK hs]
        have e : swp k n s q = q - 1 := by unfold swp; rw [if_neg d, if_pos d']
        simp only [e]
        omega
      · have := u.2 hc
        rw [if_neg hc]
        omega
    · rw [if_neg d']
      unfold downed
      split
      · rw [fn_stepped hK hs]
        have e : swp k n s q = q := by unfold swp; rw [if_neg d, if_neg d']
        simp only [e]
      · rfl
theorem IsS.lower {f : Int → Int} {S : Int → Int → Int} {D : Int → Bool} (h : IsS f S) (hD : Apart D) : IsS (dD D f) (uD D S) := by
  refine ⟨fun a b => ?_, ?_⟩
  · have e1 : a + 1 - 1 = a := by omega
    unfold uD dD
    rw [e1]
    by_cases h1 : D a = true
    · have h2 : D (a - 1) ≠ true := fun z => by
        have := hD _ z
        rw [Int.sub_add_cancel] at this
        rw [this] at h1
        cases h1
      rw [if_pos h1, if_neg h2, if_pos h1]
      have u1 := h.up a b
      have u2 := h.up (a + 1) b
      by_cases x : b ≤ f a <;> by_cases y : b ≤ f (a + 1) <;> simp only [x, y, if_true, if_false] at u1 u2 <;> (split <;> omega)
    · rw [if_neg h1, if_neg h1]
      by_cases h2 : D (a - 1) = true
      · rw [if_pos h2, if_pos h2]
        have u1 := h.up a b
        have u2 := h.down a b
        by_cases x : b ≤ f a <;> by_cases y : b ≤ f (a - 1) <;> simp only [x, y, if_true, if_false] at u1 u2 <;> (split <;> omega)
      · rw [if_neg h2, if_neg h2]
        exact h.up a b
  · obtain ⟨K, hK⟩ := h.far
    refine ⟨K + 1, fun a b hab => ?_⟩
    unfold uD
    have h1 := hK a b (by omega)
    have h2 := hK (a + 1) b (by omega)
    have h3 := hK (a - 1) b (by omega)
    split <;> omega
/-- beneath: nowhere more -/
def LeS (S R : Int → Int → Int) : Prop := ∀ a b, S a b ≤ R a b
theorem LeS.gain {S R : Int → Int → Int} (D : Int → Bool) (h : LeS S R) : LeS (tD D S) (tD D R) := fun a b => by
  have h1 := h a b
  have h2 := h (a + 1) b
  have h3 := h (a - 1) b
  unfold tD
  split <;> omega
theorem LeS.lower {S R : Int → Int → Int} (D : Int → Bool) (h : LeS S R) : LeS (uD D S) (uD D R) := fun a b => by
  have h1 := h a b
  have h2 := h (a + 1) b
  have h3 := h (a - 1) b
  unfold uD
  split <;> omega
theorem IsS.le_gain {f : Int → Int} {S : Int → Int → Int} (D : Int → Bool) (h : IsS f S) : LeS S (tD D S) := fun a b => by
  have h1 := h.near b 1 a
  have h2 := h.near b 1 (a - 1)
  rw [show a - 1 + ((1 : Nat) : Int) = a by omega] at h2
  rw [show a + ((1 : Nat) : Int) = a + 1 by omega] at h1
  unfold tD
  split <;> omega
theorem IsS.lower_le {f : Int → Int} {S : Int → Int → Int} (D : Int → Bool) (h : IsS f S) : LeS (uD D S) S := fun a b => by
  have h1 := h.near b 1 a
  have h2 := h.near b 1 (a - 1)
  rw [show a - 1 + ((1 : Nat) : Int) = a by omega] at h2
  rw [show a + ((1 : Nat) : Int) = a + 1 by omega] at h1
  unfold uD
  split <;> omega
theorem LeS.trans {S R T : Int → Int → Int} (h : LeS S R) (g : LeS R T) : LeS S T := fun a b => Int.le_trans (h a b) (g a b)
theorem LeS.anti {S R : Int → Int → Int} (h : LeS S R) (g : LeS R S) : S = R := by
  funext a b
  exact Int.le_antisymm (h a b) (g a b)
/-- the counts of an order -/
theorem counts_of {k : Nm} {n : Nat} {w : List Int} (hK : okK k n = true) (hF : Form k n w) : ∃ S, IsS (fn_ k n w) S := by
  obtain ⟨r, hr⟩ := least_of hK hF
  have hS := gains_isS (sw_all hK hr.1) (isS_pl k)
  rw [← fn_start hK, ← fn_gains hK hr.1, hr.gains hK] at hS
  exact ⟨_, hS⟩
/-- x lies beneath v -/
def Beneath (k : Nm) (n : Nat) (x v : List Int) : Prop := ∀ S R, IsS (fn_ k n x) S → IsS (fn_ k n v) R → LeS S R
theorem Beneath.refl {k : Nm} {n : Nat} (x : List Int) : Beneath k n x x := fun S R h g a b => by rw [h.same g]; exact Int.le_refl _
theorem Beneath.downed {k : Nm} {n : Nat} {x v : List Int} {s : Int} (hK : okK k n = true) (hs : okS k n s) (hx : Form k n x) (hv : Form k n v) (h : Beneath k n x v) : Beneath k n (downed k n x s) (downed k n v s) := by
  obtain ⟨S, hS⟩ := counts_of hK hx
  obtain ⟨R, hR⟩ := counts_of hK hv
  have a := hS.lower (sw_apart hK hs)
  have b := hR.lower (sw_apart hK hs)
  rw [← fn_downed hK hs] at a b
  intro S' R' h1 h2
  rw [h1.same a, h2.same b]
  exact (h S R hS hR).lower _
theorem start_beneath {k : Nm} {n : Nat} {x : List Int} (hK : okK k n = true) (hx : Form k n x) : Beneath k n (startL k n) x := by
  obtain ⟨r, hr⟩ := least_of hK hx
  have go : ∀ (l w : List Int) (S : Int → Int → Int), (∀ s ∈ l, okS k n s) → Form k n w → IsS (fn_ k n w) S → ∃ R, IsS (fn_ k n (gains k n w l)) R ∧ LeS S R := by
    intro l
    induction l with
    | nil => exact fun w S _ _ h => ⟨S, h, fun a b => Int.le_refl _⟩
    | cons s l ih =>
      intro w S hl hF h
      have hs := hl s List.mem_cons_self
      have g := h.gain (sw_apart hK hs)
      rw [← fn_gained hK hs] at g
      obtain ⟨R, h1, h2⟩ := ih (gained k n w s) _ (fun t ht => hl t (List.mem_cons_of_mem _ ht)) (gains_form hK (l := [s]) (fun t ht => by rw [List.mem_singleton.mp ht]; exact hs) hF) g
      exact ⟨R, h1, (h.le_gain _).trans h2⟩
  intro S R hS hR
  obtain ⟨R', h1, h2⟩ := go r (startL k n) S hr.1 (form_start hK) hS
  rw [hr.gains hK] at h1
  rw [hR.same h1]
  exact h2
theorem beneath_eq {k : Nm} {n : Nat} {x v : List Int} (hK : okK k n = true) (hx : Form k n x) (hv : Form k n v) (h : Beneath k n x v) (g : Beneath k n v x) : x = v := by
  obtain ⟨S, hS⟩ := counts_of hK hx
  obtain ⟨R, hR⟩ := counts_of hK hv
  have e := (h S R hS hR).anti (g R S hR hS)
  rw [← e] at hR
  exact fn_inj (k := k) hx.1 hv.1 (hS.inj hR)
def downs (k : Nm) (n : Nat) (w l : List Int) : List Int := l.foldl (downed k n) w
theorem downed_form {k : Nm} {n : Nat} {w : List Int} {s : Int} (hK : okK k n = true) (hs : okS k n s) (hF : Form k n w) : Form k n (downed k n w s) := by
  unfold downed
  split
  · exact (cr_stepI hK hs hF).2
  · exact hF
/-- the last step of a least row is a fall; without it the row is least -/
theorem Least.last {k : Nm} {n : Nat} {v l : List Int} {s : Int} (hK : okK k n = true) (h : Least k n v (l ++ [s])) : okS k n s ∧ Form k n v ∧ Least k n (downed k n v s) l := by
  obtain ⟨hl, e, c⟩ := h
  have hs := hl s (List.mem_append_right _ List.mem_cons_self)
  have hl' : ∀ t ∈ l, okS k n t := fun t ht => hl t (List.mem_append_left _ ht)
  have f := run_form hK hl' (form_start hK)
  rw [cr_start hK] at f
  rw [run_snoc] at e
  have st := cr_stepI hK hs f.1
  rw [List.length_append, List.length_singleton] at c
  have hF : Form k n v := by rw [← e]; exact st.2
  have nc : ¬ crossed k n (run k n (startL k n) l) s = true := fun z => by
    have := st.1
    rw [if_pos z, e] at this
    have := f.2
    omega
  have c1 := st.1
  rw [if_neg nc, e] at c1
  have back : stepped k n v s = run k n (startL k n) l := by rw [← e, step_step hK hs f.1.1]
  have vc : crossed k n v s = true := by
    cases z : crossed k n v s with
    | true => rfl
    | false =>
      have := (cr_stepI hK hs hF).1
      rw [z, back] at this
      simp at this
      omega
  have d : downed k n v s = run k n (startL k n) l := by
    unfold downed
    rw [if_pos vc, back]
  exact ⟨hs, hF, hl', d.symm, by rw [d]; omega⟩
/-- what lies beneath v is taken down to the start by each least row of v, the last step first -/
theorem beneath_down {k : Nm} {n : Nat} (hK : okK k n = true) : ∀ (m : Nat) {l x v : List Int}, l.length = m → Form k n x → Least k n v l → Beneath k n x v → downs k n x l.reverse = startL k n
  | 0, l, x, v, hm, hx, hl, hb => by
    have e : l = [] := List.length_eq_zero_iff.mp hm
    subst e
    have ev : v = startL k n := hl.2.1.symm
    rw [ev] at hb
    exact beneath_eq hK hx (form_start hK) hb (start_beneath hK hx)
  | m + 1, l, x, v, hm, hx, hl, hb => by
    rcases List.eq_nil_or_concat l with rfl | ⟨l', s, rfl⟩
    · simp at hm
    · rw [List.concat_eq_append] at *
      obtain ⟨hs, hF, hl'⟩ := hl.last hK
      rw [List.reverse_append]
      show downs k n (downed k n x s) l'.reverse = _
      exact beneath_down hK m (by simpa using hm) (downed_form hK hs hx) hl' (hb.downed hK hs hx hF)
/-- a part of a row makes what lies beneath what the row makes -/
theorem part_beneath {k : Nm} {n : Nat} (hK : okK k n = true) {m l : List Int} (h : m.Sublist l) : ∀ {y v : List Int}, (∀ s ∈ l, okS k n s) → Form k n y → Form k n v → Beneath k n y v → Beneath k n (run k n y m) (gains k n v l) := by
  induction h with
  | slnil => exact fun _ _ _ h => h
  | cons s _ ih =>
    intro y v hl hy hv hb
    have hs := hl s List.mem_cons_self
    refine ih (fun t ht => hl t (List.mem_cons_of_mem _ ht)) hy (gains_form hK (l := [s]) (fun t ht => by rw [List.mem_singleton.mp ht]; exact hs) hv) ?_
    obtain ⟨S, hS⟩ := counts_of hK hy
    obtain ⟨R, hR⟩ := counts_of hK hv
    have g := hR.gain (sw_apart hK hs)
    rw [← fn_gained hK hs] at g
    intro S' R' h1 h2
    rw [h1.same hS, h2.same g]
    exact (hb S R hS hR).trans (hR.le_gain _)
  | cons_cons s _ ih =>
    intro y v hl hy hv hb
    have hs := hl s List.mem_cons_self
    refine ih (fun t ht => hl t (List.mem_cons_of_mem _ ht)) (cr_stepI hK hs hy).2 (gains_form hK (l := [s]) (fun t ht => by rw [List.mem_singleton.mp ht]; exact hs) hv) ?_
    obtain ⟨S, hS⟩ := counts_of hK hy
    obtain ⟨R, hR⟩ := counts_of hK hv
    have g := hR.gain (sw_apart hK hs)
    rw [← fn_gained hK hs] at g
    have gs := hS.gain (sw_apart hK hs)
    rw [← fn_gained hK hs] at gs
    intro S' R' h1 h2
    rw [h2.same g]
    refine LeS.trans ?_ ((hb S R hS hR).gain _)
    by_cases hc : crossed k n y s = true
    · have d := hS.lower (sw_apart hK hs)
      rw [← fn_downed hK hs] at d
      have e : downed k n y s = stepped k n y s := if_pos hc
      rw [e] at d
      rw [h1.same d]
      exact (hS.lower_le _).trans (hS.le_gain _)
    · have e : gained k n y s = stepped k n y s := if_neg hc
      rw [e] at gs
      rw [h1.same gs]
      exact fun a b => Int.le_refl _
end Sv

/-! Halves of greedy products: by the verifier, plain mathematics. -/
namespace Sv
open PySem L2
/-- the steps of a row that are gained -/
def gsub (k : Nm) (n : Nat) : List Int → List Int → List Int
  | _, [] => []
  | w, s :: l => if crossed k n w s = true then gsub k n w l else s :: gsub k n (stepped k n w s) l
theorem gsub_sub {k : Nm} {n : Nat} : ∀ (l w : List Int), (gsub k n w l).Sublist l
  | [], _ => List.Sublist.slnil
  | s :: l, w => by
    unfold gsub
    split
    · exact List.Sublist.cons s (gsub_sub l w)
    · exact (gsub_sub l _).cons_cons s
theorem gsub_run {k : Nm} {n : Nat} (hK : okK k n = true) : ∀ {l w : List Int}, (∀ s ∈ l, okS k n s) → Form k n w → run k n w (gsub k n w l) = gains k n w l ∧ crP k n (gains k n w l) = crP k n w + ((gsub k n w l).length : Int)
  | [], w, _, _ => ⟨rfl, by show crP k n w = crP k n w + 0; omega⟩
  | s :: l, w, hl, hF => by
    have hs := hl s List.mem_cons_self
    have hl' : ∀ t ∈ l, okS k n t := fun t ht => hl t (List.mem_cons_of_mem _ ht)
    by_cases hc : crossed k n w s = true
    · have e : gained k n w s = w := if_pos hc
      have g : gsub k n w (s :: l) = gsub k n w l := if_pos hc
      have r := gsub_run hK hl' hF
      show run k n w (gsub k n w (s :: l)) = gains k n (gained k n w s) l ∧ crP k n (gains k n (gained k n w s) l) = _
      rw [g, e]
      exact r
    · have e : gained k n w s = stepped k n w s := if_neg hc
      have g : gsub k n w (s :: l) = s :: gsub k n (stepped k n w s) l := if_neg hc
      have st := cr_stepI hK hs hF
      rw [if_neg hc] at st
      have r := gsub_run hK hl' st.2
      show run k n w (gsub k n w (s :: l)) = gains k n (gained k n w s) l ∧ crP k n (gains k n (gained k n w s) l) = _
      rw [g, e]
      refine ⟨r.1, ?_⟩
      rw [r.2, st.1, List.length_cons]
      omega
/-- what stands behind the first factor -/
theorem rest_eq {k : Nm} {n : Nat} {u m : List Int} (hK : okK k n = true) (hu : Form k n u) (hm : ∀ s ∈ m, okS k n s) : prodP k n (invP k n u) (run k n u m) = run k n (startL k n) m := by
  obtain ⟨l, hl, e⟩ := form_ord hK hu
  subst e
  have hF := (run_form hK hm hu).1
  rw [prodP_eq hF, inv_run hK hl]
  have e1 : (startL k n).map (item k n (run k n (startL k n) m)) = run k n (startL k n) m := map_item (run_len (startL_len _ _))
  have e2 : (startL k n).map (item k n (run k n (run k n (startL k n) l) m)) = run k n (run k n (startL k n) l) m := map_item hF.1
  rw [← e1]
  conv => lhs; rw [← e2]
  rw [List.map_map]
  apply List.map_congr_left
  intro p hp
  have ho := startL_okP hp
  show item k n (run k n (startL k n) l.reverse) (item k n (run k n (run k n (startL k n) l) m) p) = _
  rw [item_run hK hm ho, item_runS hK hl (turns_ok hm ho), item_runS hK (rev_ok hl) (turns_ok hl (turns_ok hm ho)), turns_rev hK hl (turns_ok hm ho), item_runS hK hm ho]
/-- a row ahead: the orders of rows are products -/
theorem prod_rows {k : Nm} {n : Nat} {l m : List Int} (hK : okK k n = true) (hl : ∀ s ∈ l, okS k n s) (hm : ∀ s ∈ m, okS k n s) : prodP k n (run k n (startL k n) l) (run k n (startL k n) m) = run k n (startL k n) (l ++ m) := by
  have hF := (run_form hK hm (form_start hK)).1
  rw [prodP_eq hF, run_append]
  have e2 : (startL k n).map (item k n (run k n (startL k n) m)) = run k n (startL k n) m := map_item (run_len (startL_len _ _))
  have hFl := (run_form hK hl (form_start hK)).1
  have e1 : (startL k n).map (item k n (run k n (run k n (startL k n) l) m)) = run k n (run k n (startL k n) l) m := map_item (run_len hFl.1)
  rw [← e1]
  conv => lhs; rw [← e2]
  rw [List.map_map]
  apply List.map_congr_left
  intro p hp
  have ho := startL_okP hp
  show item k n (run k n (startL k n) l) (item k n (run k n (startL k n) m) p) = _
  rw [item_runS hK hm ho, item_run hK hm ho]
theorem gained_twice {k : Nm} {n : Nat} {w : List Int} {s : Int} (hK : okK k n = true) (hs : okS k n s) (hF : Form k n w) : gained k n (gained k n w s) s = gained k n w s := by
  by_cases hc : crossed k n w s = true
  · have e : gained k n w s = w := if_pos hc
    rw [e, e]
  · have e : gained k n w s = stepped k n w s := if_neg hc
    rw [e]
    have st := cr_stepI hK hs hF
    rw [if_neg hc] at st
    have st2 := (cr_stepI hK hs st.2).1
    rw [step_step hK hs hF.1] at st2
    have : crossed k n (stepped k n w s) s = true := by
      cases z : crossed k n (stepped k n w s) s with
      | true => rfl
      | false =>
        rw [z] at st2
        simp at st2
        omega
    exact if_pos this
/-- a step ahead of a least row: either all is least, or nothing is won -/
theorem ahead_two {k : Nm} {n : Nat} {W r : List Int} {s : Int} (hK : okK k n = true) (hs : okS k n s) (hr : Least k n W r) :
    (Least k n (gains k n (startL k n) (s :: r)) (s :: r)) ∨ gains k n (startL k n) (s :: r) = W := by
  obtain ⟨hl, e, c⟩ := hr
  have hF : Form k n W := by rw [← e]; exact (run_form hK hl (form_start hK)).1
  have hcons : ∀ t ∈ s :: r, okS k n t := fun t ht => by
    rcases List.mem_cons.mp ht with rfl | h
    · exact hs
    · exact hl t h
  have a1 := ahead_run hK hs hl
  rw [e] at a1
  have a2 := ahead_cr hK hs (form_ord hK hF)
  rw [a1] at a2
  by_cases hc : crossed k n (invP k n W) s = true
  · right
    rw [if_pos hc] at a2
    have hF' := a2.1.form hK
    obtain ⟨l', hl'⟩ := least_of hK hF'
    have hcons' : ∀ t ∈ s :: l', okS k n t := fun t ht => by
      rcases List.mem_cons.mp ht with rfl | h
      · exact hs
      · exact hl'.1 t h
    have b1 := ahead_run hK hs hl'.1
    rw [hl'.2.1, ← a1, ahead_ahead hK hs hF] at b1
    have L1 : Least k n W (s :: l') := ⟨hcons', b1.symm, by rw [List.length_cons]; have := hl'.2.2; omega⟩
    have L0 : Least k n W r := ⟨hl, e, c⟩
    have g := gains_same (r := [s]) hK hl hcons' (fun t ht => by rw [List.mem_singleton.mp ht]; exact hs) (by rw [L0.gains hK, L1.gains hK])
    show gains k n (gains k n (startL k n) [s]) r = W
    rw [g]
    show gains k n (gained k n (gained k n (startL k n) s) s) l' = W
    rw [gained_twice hK hs (form_start hK)]
    exact L1.gains hK
  · left
    rw [if_neg hc] at a2
    have g : gains k n (startL k n) (s :: r) = run k n (startL k n) (s :: r) := run_gains hK hcons (form_start hK) (by rw [cr_start hK, a2.2, List.length_cons]; omega)
    rw [g]
    exact ⟨hcons, rfl, by rw [a2.2, List.length_cons]; omega⟩
/-- the greedy product as the second order behind a part of the first one's row -/
theorem part_ex {k : Nm} {n : Nat} {v lv : List Int} (hK : okK k n = true) (hv : Least k n v lv) : ∀ {l : List Int}, (∀ s ∈ l, okS k n s) → ∃ m, m.Sublist l ∧ Least k n (gains k n (startL k n) (l ++ lv)) (m ++ lv)
  | [], _ => ⟨[], List.Sublist.slnil, by
      show Least k n (gains k n (startL k n) lv) lv
      rw [hv.gains hK]
      exact hv⟩
  | s :: l, hl => by
    have hs := hl s List.mem_cons_self
    have hl' : ∀ t ∈ l, okS k n t := fun t ht => hl t (List.mem_cons_of_mem _ ht)
    obtain ⟨m, hm, L⟩ := part_ex hK hv hl'
    have hall : ∀ t ∈ l ++ lv, okS k n t := fun t ht => by
      rcases List.mem_append.mp ht with h | h
      · exact hl' t h
      · exact hv.1 t h
    have g := gains_same (r := [s]) hK hall L.1 (fun t ht => by rw [List.mem_singleton.mp ht]; exact hs) (L.gains hK).symm
    have e : gains k n (startL k n) (s :: l ++ lv) = gains k n (startL k n) (s :: (m ++ lv)) := g
    rcases ahead_two hK hs L with h | h
    · exact ⟨s :: m, hm.cons_cons s, by rw [e]; exact h⟩
    · exact ⟨m, List.Sublist.cons s hm, by rw [e, h]; exact L⟩
end Sv

/-! What is lacking: gains and down steps are adjoint. By the verifier: plain mathematics. -/
namespace Sv
open PySem L2
theorem adjS {f g : Int → Int} {S R : Int → Int → Int} {D : Int → Bool} (hS : IsS f S) (hR : IsS g R) (hD : Apart D) : LeS S (tD D R) ↔ LeS (uD D S) R := by
  have stepR : ∀ a b, R a b ≤ R (a + 1) b ∧ R (a + 1) b ≤ R a b + 1 := fun a b => hR.near b 1 a
  have stepS : ∀ a b, S a b ≤ S (a + 1) b ∧ S (a + 1) b ≤ S a b + 1 := fun a b => hS.near b 1 a
  constructor
  · intro h a b
    unfold uD
    by_cases hd : D (a - 1) = true
    · rw [if_pos hd]
      have n1 : ¬ D (a - 1 - 1) = true := fun z => by
        have := hD _ z
        rw [Int.sub_add_cancel] at this
        rw [this] at hd
        cases hd
      have n2 : ¬ D (a + 1 - 1) = true := fun z => by
        have := hD _ hd
        rw [Int.sub_add_cancel] at this
        rw [Int.add_sub_cancel, this] at z
        cases z
      have h1 := h (a - 1) b
      have h2 := h (a + 1) b
      unfold tD at h1 h2
      rw [if_neg n1] at h1
      rw [if_neg n2] at h2
      have r1 := (stepR (a - 1) b).1
      have r2 := (stepR a b).2
      rw [Int.sub_add_cancel] at r1
      omega
    · rw [if_neg hd]
      have h1 := h a b
      unfold tD at h1
      rw [if_neg hd] at h1
      exact h1
  · intro h a b
    unfold tD
    by_cases hd : D (a - 1) = true
    · rw [if_pos hd]
      have n1 : ¬ D (a - 1 - 1) = true := fun z => by
        have := hD _ z
        rw [Int.sub_add_cancel] at this
        rw [this] at hd
        cases hd
      have n2 : ¬ D (a + 1 - 1) = true := fun z => by
        have := hD _ hd
        rw [Int.sub_add_cancel] at this
        rw [Int.add_sub_cancel, this] at z
        cases z
      have h1 := h (a - 1) b
      have h2 := h (a + 1) b
      unfold uD at h1 h2
      rw [if_neg n1] at h1
      rw [if_neg n2] at h2
      have r1 := (stepS (a - 1) b).2
      have r2 := (stepS a b).1
      rw [Int.sub_add_cancel] at r1
      omega
    · rw [if_neg hd]
      have h1 := h a b
      unfold uD at h1
      rw [if_neg hd] at h1
      exact h1
theorem gained_form2 {k : Nm} {n : Nat} {w : List Int} {s : Int} (hK : okK k n = true) (hs : okS k n s) (hF : Form k n w) : Form k n (gained k n w s) :=
  gains_form hK (l := [s]) (fun t ht => by rw [List.mem_singleton.mp ht]; exact hs) hF
theorem adj_one {k : Nm} {n : Nat} {x v : List Int} {s : Int} (hK : okK k n = true) (hs : okS k n s) (hx : Form k n x) (hv : Form k n v) :
    Beneath k n x (gained k n v s) ↔ Beneath k n (downed k n x s) v := by
  obtain ⟨S, hS⟩ := counts_of hK hx
  obtain ⟨R, hR⟩ := counts_of hK hv
  have a := hR.gain (sw_apart hK hs)
  rw [← fn_gained hK hs] at a
  have b := hS.lower (sw_apart hK hs)
  rw [← fn_downed hK hs] at b
  have key := adjS hS hR (sw_apart hK hs)
  constructor
  · intro h S' R' h1 h2
    rw [h1.same b, h2.same hR]
    exact key.mp (h S _ hS a)
  · intro h S' R' h1 h2
    rw [h1.same hS, h2.same a]
    exact key.mpr (h _ R b hR)
theorem downs_append (k : Nm) (n : Nat) (w l m : List Int) : downs k n w (l ++ m) = downs k n (downs k n w l) m := List.foldl_append
theorem downs_form {k : Nm} {n : Nat} (hK : okK k n = true) : ∀ {l w : List Int}, (∀ s ∈ l, okS k n s) → Form k n w → Form k n (downs k n w l)
  | [], _, _, h => h
  | s :: l, w, hl, h => downs_form hK (l := l) (w := downed k n w s) (fun t ht => hl t (List.mem_cons_of_mem _ ht)) (downed_form hK (hl s List.mem_cons_self) h)
theorem adj {k : Nm} {n : Nat} (hK : okK k n = true) : ∀ {l x v : List Int}, (∀ s ∈ l, okS k n s) → Form k n x → Form k n v → (Beneath k n x (gains k n v l) ↔ Beneath k n (downs k n x l.reverse) v)
  | [], x, v, _, _, _ => Iff.rfl
  | s :: l, x, v, hl, hx, hv => by
    have hs := hl s List.mem_cons_self
    have hl' : ∀ t ∈ l, okS k n t := fun t ht => hl t (List.mem_cons_of_mem _ ht)
    have h1 := adj hK hl' hx (gained_form2 hK hs hv)
    have h2 := adj_one (x := downs k n x l.reverse) hK hs (downs_form hK (rev_ok hl') hx) hv
    rw [List.reverse_cons, downs_append]
    exact h1.trans h2
theorem Beneath.trans {k : Nm} {n : Nat} {x y z : List Int} (hK : okK k n = true) (hy : Form k n y) (h : Beneath k n x y) (g : Beneath k n y z) : Beneath k n x z := by
  obtain ⟨R, hR⟩ := counts_of hK hy
  exact fun S T hS hT => (h S R hS hR).trans (g R T hR hT)
theorem beneath_start {k : Nm} {n : Nat} {x : List Int} (hK : okK k n = true) (hx : Form k n x) : Beneath k n x (startL k n) ↔ x = startL k n :=
  ⟨fun h => beneath_eq hK hx (form_start hK) h (start_beneath hK hx), fun h => by rw [h]; exact Beneath.refl _⟩
/-- x lies beneath what a row makes by gains just if taking the row off, from behind, leads to the start -/
theorem beneath_row {k : Nm} {n : Nat} {l x : List Int} (hK : okK k n = true) (hl : ∀ s ∈ l, okS k n s) (hx : Form k n x) : Beneath k n x (gains k n (startL k n) l) ↔ downs k n x l.reverse = startL k n :=
  (adj hK hl hx (form_start hK)).trans (beneath_start hK (downs_form hK (rev_ok hl) hx))
theorem beneath_least {k : Nm} {n : Nat} {l x v : List Int} (hK : okK k n = true) (hl : Least k n v l) (hx : Form k n x) : Beneath k n x v ↔ downs k n x l.reverse = startL k n := by
  have := beneath_row hK hl.1 hx
  rw [hl.gains hK] at this
  exact this
/-- the steps that are taken off -/
theorem downs_sub {k : Nm} {n : Nat} : ∀ (l w : List Int), ∃ m, m.Sublist l ∧ downs k n w l = run k n w m
  | [], w => ⟨[], List.Sublist.slnil, rfl⟩
  | s :: l, w => by
    by_cases hc : crossed k n w s = true
    · obtain ⟨m, hm, e⟩ := downs_sub (k := k) (n := n) l (stepped k n w s)
      refine ⟨s :: m, hm.cons_cons s, ?_⟩
      show downs k n (downed k n w s) l = run k n (stepped k n w s) m
      have : downed k n w s = stepped k n w s := if_pos hc
      rw [this]
      exact e
    · obtain ⟨m, hm, e⟩ := downs_sub (k := k) (n := n) l w
      refine ⟨m, List.Sublist.cons s hm, ?_⟩
      show downs k n (downed k n w s) l = run k n w m
      have : downed k n w s = w := if_neg hc
      rw [this]
      exact e
theorem part_of {k : Nm} {n : Nat} {l x : List Int} (hK : okK k n = true) (hl : ∀ s ∈ l, okS k n s) (hx : Form k n x) (h : Beneath k n x (gains k n (startL k n) l)) : ∃ m, m.Sublist l ∧ run k n (startL k n) m = x := by
  have e := (beneath_row hK hl hx).mp h
  obtain ⟨m, hm, e2⟩ := downs_sub (k := k) (n := n) l.reverse x
  rw [e] at e2
  have hmo : ∀ s ∈ m, okS k n s := fun s hs => rev_ok hl s (hm.subset hs)
  have := run_rev hK hmo hx.1
  rw [← e2] at this
  refine ⟨m.reverse, ?_, this⟩
  have := hm.reverse
  rw [List.reverse_reverse] at this
  exact this
theorem Least.rev {k : Nm} {n : Nat} {v l : List Int} (hK : okK k n = true) (h : Least k n v l) : Least k n (invP k n v) l.reverse := by
  obtain ⟨hl, e, c⟩ := h
  have hO : Ord k n v := ⟨l, hl, e.symm⟩
  refine ⟨rev_ok hl, ?_, by rw [List.length_reverse, cr_inv hK hO]; exact c⟩
  rw [← inv_run hK hl, e]
theorem inv_form {k : Nm} {n : Nat} {v : List Int} (hK : okK k n = true) (hv : Form k n v) : Form k n (invP k n v) := ((form_ord hK hv).inv hK).1.form hK
theorem inv_inv {k : Nm} {n : Nat} {v : List Int} (hK : okK k n = true) (hv : Form k n v) : invP k n (invP k n v) = v := ((form_ord hK hv).inv hK).2
theorem sub_ok {k : Nm} {n : Nat} {m l : List Int} (h : m.Sublist l) (hl : ∀ s ∈ l, okS k n s) : ∀ s ∈ m, okS k n s := fun s hs => hl s (h.subset hs)
theorem beneath_inv_row {k : Nm} {n : Nat} {l x : List Int} (hK : okK k n = true) (hl : ∀ s ∈ l, okS k n s) (hx : Form k n x) (h : Beneath k n x (gains k n (startL k n) l)) : Beneath k n (invP k n x) (gains k n (startL k n) l.reverse) := by
  obtain ⟨m, hm, e⟩ := part_of hK hl hx h
  have hmo := sub_ok hm hl
  rw [← e, inv_run hK hmo]
  exact part_beneath hK hm.reverse (rev_ok hl) (form_start hK) (form_start hK) (Beneath.refl _)
theorem beneath_inv1 {k : Nm} {n : Nat} {x v : List Int} (hK : okK k n = true) (hx : Form k n x) (hv : Form k n v) (h : Beneath k n x v) : Beneath k n (invP k n x) (invP k n v) := by
  obtain ⟨l, hl⟩ := least_of hK hv
  rw [← hl.gains hK] at h
  have := beneath_inv_row hK hl.1 hx h
  rw [(hl.rev hK).gains hK] at this
  exact this
theorem beneath_inv {k : Nm} {n : Nat} {x v : List Int} (hK : okK k n = true) (hx : Form k n x) (hv : Form k n v) : Beneath k n (invP k n x) (invP k n v) ↔ Beneath k n x v := by
  refine ⟨fun h => ?_, beneath_inv1 hK hx hv⟩
  have := beneath_inv1 hK (inv_form hK hx) (inv_form hK hv) h
  rw [inv_inv hK hx, inv_inv hK hv] at this
  exact this
theorem dem_row {k : Nm} {n : Nat} {u v lu lv : List Int} (hK : okK k n = true) (hu : Least k n u lu) (hv : Least k n v lv) : gains k n (startL k n) (lu ++ lv) = dem k n u v := by
  have hF : Form k n u := by rw [← hu.2.1]; exact (run_form hK hu.1 (form_start hK)).1
  rw [gains_append, hu.gains hK]
  exact dem_eq hK hF hv
theorem app_ok {k : Nm} {n : Nat} {l m : List Int} (hl : ∀ s ∈ l, okS k n s) (hm : ∀ s ∈ m, okS k n s) : ∀ s ∈ l ++ m, okS k n s := fun s hs => by
  rcases List.mem_append.mp hs with h | h
  · exact hl s h
  · exact hm s h
theorem dem_inv_le {k : Nm} {n : Nat} {u v : List Int} (hK : okK k n = true) (hu : Form k n u) (hv : Form k n v) : Beneath k n (invP k n (dem k n u v)) (dem k n (invP k n v) (invP k n u)) := by
  obtain ⟨lu, hlu⟩ := least_of hK hu
  obtain ⟨lv, hlv⟩ := least_of hK hv
  have h := beneath_inv_row hK (app_ok hlu.1 hlv.1) (dem_form hK hu hv) (by rw [dem_row hK hlu hlv]; exact Beneath.refl _)
  rw [List.reverse_append, dem_row hK (hlv.rev hK) (hlu.rev hK)] at h
  exact h
/-- the opposite of a greedy product -/
theorem dem_inv {k : Nm} {n : Nat} {u v : List Int} (hK : okK k n = true) (hu : Form k n u) (hv : Form k n v) : invP k n (dem k n u v) = dem k n (invP k n v) (invP k n u) := by
  have hd := dem_form hK hu hv
  have hd' := dem_form hK (inv_form hK hv) (inv_form hK hu)
  refine beneath_eq hK (inv_form hK hd) hd' (dem_inv_le hK hu hv) ?_
  have h := dem_inv_le hK (inv_form hK hv) (inv_form hK hu)
  rw [inv_inv hK hu, inv_inv hK hv] at h
  have h2 := beneath_inv1 hK (inv_form hK hd') hd h
  rw [inv_inv hK hd'] at h2
  exact h2
theorem dem_assoc {k : Nm} {n : Nat} {u v x : List Int} (hK : okK k n = true) (hu : Form k n u) (hv : Form k n v) (hx : Form k n x) : dem k n (dem k n u v) x = dem k n u (dem k n v x) := by
  obtain ⟨lv, hlv⟩ := least_of hK hv
  obtain ⟨lx, hlx⟩ := least_of hK hx
  have hd := dem_form hK hv hx
  rw [← dem_eq hK hv hlx] at hd
  obtain ⟨lz, hlz⟩ := least_of hK hd
  have := greedy_assoc hK hu hlv hlx hlz
  rw [dem_eq hK hu hlv, dem_eq hK (dem_form hK hu hv) hlx, dem_eq hK hu hlz, dem_eq hK hv hlx] at this
  exact this
theorem take_succ_ {w : List Int} {i : Nat} {z : Int} (e : w[i]? = some z) : w.take (i + 1) = w.take i ++ [z] := by rw [List.take_add_one, e]; rfl
theorem downs_take {k : Nm} {n : Nat} {w l : List Int} {i : Nat} (h : i < l.length) : downs k n w (l.take (i + 1)) = downed k n (downs k n w (l.take i)) (l.getD i 0) := by
  have e : l[i]? = some (l.getD i 0) := by rw [List.getD_eq_getElem?_getD, List.getElem?_eq_getElem h]; rfl
  rw [take_succ_ e]
  unfold downs
  rw [List.foldl_append]
  rfl
theorem downed_len {k : Nm} {n : Nat} {w : List Int} {s : Int} (h : w.length = n) : (downed k n w s).length = n := by
  unfold downed
  split
  · exact stepped_len _ _ _ _
  · exact h
theorem downs_len {k : Nm} {n : Nat} : ∀ {l w : List Int}, w.length = n → (downs k n w l).length = n
  | [], _, h => h
  | s :: l, w, h => downs_len (l := l) (w := downed k n w s) (downed_len h)
/-- what is lacking behind x for g -/
noncomputable def lack (k : Nm) (n : Nat) (x g : List Int) : List Int := by
  classical
  exact if h : ∃ l, Least k n x l then invP k n (downs k n (invP k n g) h.choose) else []
theorem lack_adj0 {k : Nm} {n : Nat} {x g y l : List Int} (hK : okK k n = true) (hl : Least k n x l) (hx : Form k n x) (hg : Form k n g) (hy : Form k n y) :
    Beneath k n (invP k n (downs k n (invP k n g) l)) y ↔ Beneath k n g (dem k n x y) := by
  have hd := downs_form hK hl.1 (inv_form hK hg)
  rw [← beneath_inv hK (inv_form hK hd) hy, inv_inv hK hd]
  have h1 := adj (l := l.reverse) hK (rev_ok hl.1) (inv_form hK hg) (inv_form hK hy)
  rw [List.reverse_reverse] at h1
  rw [← h1, dem_eq hK (inv_form hK hy) (hl.rev hK), ← dem_inv hK hx hy, beneath_inv hK hg (dem_form hK hx hy)]
theorem lack_uniq {k : Nm} {n : Nat} {a b : List Int} (hK : okK k n = true) (ha : Form k n a) (hb : Form k n b) (h : ∀ y, Form k n y → (Beneath k n a y ↔ Beneath k n b y)) : a = b :=
  beneath_eq hK ha hb ((h b hb).mpr (Beneath.refl _)) ((h a ha).mp (Beneath.refl _))
theorem lack_eq {k : Nm} {n : Nat} {x g l : List Int} (hK : okK k n = true) (hl : Least k n x l) (hg : Form k n g) : invP k n (downs k n (invP k n g) l) = lack k n x g := by
  have hx : Form k n x := by rw [← hl.2.1]; exact (run_form hK hl.1 (form_start hK)).1
  unfold lack
  have h : ∃ l, Least k n x l := ⟨l, hl⟩
  rw [dif_pos h]
  have f1 := inv_form hK (downs_form hK hl.1 (inv_form hK hg))
  have f2 := inv_form hK (downs_form hK h.choose_spec.1 (inv_form hK hg))
  exact lack_uniq hK f1 f2 fun y hy => (lack_adj0 hK hl hx hg hy).trans (lack_adj0 hK h.choose_spec hx hg hy).symm
theorem lack_form {k : Nm} {n : Nat} {x g : List Int} (hK : okK k n = true) (hx : Form k n x) (hg : Form k n g) : Form k n (lack k n x g) := by
  obtain ⟨l, hl⟩ := least_of hK hx
  rw [← lack_eq hK hl hg]
  exact inv_form hK (downs_form hK hl.1 (inv_form hK hg))
/-- THE FACT: what is lacking lies beneath just what brings the goal beneath -/
theorem lack_adj {k : Nm} {n : Nat} {x g y : List Int} (hK : okK k n = true) (hx : Form k n x) (hg : Form k n g) (hy : Form k n y) : Beneath k n (lack k n x g) y ↔ Beneath k n g (dem k n x y) := by
  obtain ⟨l, hl⟩ := least_of hK hx
  rw [← lack_eq hK hl hg]
  exact lack_adj0 hK hl hx hg hy
theorem least_start {k : Nm} {n : Nat} (hK : okK k n = true) : Least k n (startL k n) [] := ⟨(fun s h => by cases h), rfl, by rw [cr_start hK]; rfl⟩
theorem dem_startR {k : Nm} {n : Nat} {x : List Int} (hK : okK k n = true) (hx : Form k n x) : dem k n x (startL k n) = x := (dem_eq hK hx (least_start hK)).symm
theorem dem_startLf {k : Nm} {n : Nat} {x : List Int} (hK : okK k n = true) (hx : Form k n x) : dem k n (startL k n) x = x := by
  obtain ⟨l, hl⟩ := least_of hK hx
  rw [← dem_eq hK (form_start hK) hl]
  exact hl.gains hK
theorem lack_none {k : Nm} {n : Nat} {x g : List Int} (hK : okK k n = true) (hx : Form k n x) (hg : Form k n g) : lack k n x g = startL k n ↔ Beneath k n g x := by
  have h := lack_adj hK hx hg (form_start hK)
  rw [dem_startR hK hx] at h
  rw [← h]
  exact (beneath_start hK (lack_form hK hx hg)).symm
theorem lack_dem {k : Nm} {n : Nat} {x y g : List Int} (hK : okK k n = true) (hx : Form k n x) (hy : Form k n y) (hg : Form k n g) : lack k n (dem k n x y) g = lack k n y (lack k n x g) := by
  have hd := dem_form hK hx hy
  have hl := lack_form hK hx hg
  refine lack_uniq hK (lack_form hK hd hg) (lack_form hK hy hl) fun z hz => ?_
  rw [lack_adj hK hd hg hz, lack_adj hK hy hl hz, lack_adj hK hx hg (dem_form hK hy hz), dem_assoc hK hx hy hz]
theorem lack_full {k : Nm} {n : Nat} {x g : List Int} (hK : okK k n = true) (hx : Form k n x) (hg : Form k n g) : Beneath k n g (dem k n x (lack k n x g)) := (lack_adj hK hx hg (lack_form hK hx hg)).mp (Beneath.refl _)
theorem lack_of_start {k : Nm} {n : Nat} {g : List Int} (hK : okK k n = true) (hg : Form k n g) : lack k n (startL k n) g = g := by
  refine lack_uniq hK (lack_form hK (form_start hK) hg) hg fun y hy => ?_
  rw [lack_adj hK (form_start hK) hg hy, dem_startLf hK hy]
theorem lack_for_start {k : Nm} {n : Nat} {x : List Int} (hK : okK k n = true) (hx : Form k n x) : lack k n x (startL k n) = startL k n := (lack_none hK hx (form_start hK)).mpr (start_beneath hK hx)
theorem downs_cr {k : Nm} {n : Nat} (hK : okK k n = true) : ∀ {l w : List Int}, (∀ s ∈ l, okS k n s) → Form k n w → crP k n (downs k n w l) ≤ crP k n w ∧ crP k n w ≤ crP k n (downs k n w l) + (l.length : Int)
  | [], w, _, _ => by constructor <;> (show _ ≤ _; simp [downs])
  | s :: l, w, hl, h => by
    have hs := hl s List.mem_cons_self
    have h1 := cr_stepI hK hs h
    have h2 := downs_cr hK (l := l) (w := downed k n w s) (fun t ht => hl t (List.mem_cons_of_mem _ ht)) (downed_form hK hs h)
    show crP k n (downs k n (downed k n w s) l) ≤ _ ∧ _ ≤ crP k n (downs k n (downed k n w s) l) + _
    rw [List.length_cons]
    have h3 : crP k n (downed k n w s) ≤ crP k n w ∧ crP k n w ≤ crP k n (downed k n w s) + 1 := by
      unfold downed
      split
      · rename_i hc
        have := h1.1
        rw [if_pos hc] at this
        omega
      · omega
    omega
theorem lack_cr {k : Nm} {n : Nat} {x g : List Int} (hK : okK k n = true) (hx : Form k n x) (hg : Form k n g) : crP k n (lack k n x g) ≤ crP k n g ∧ crP k n g ≤ crP k n (lack k n x g) + crP k n x := by
  obtain ⟨l, hl⟩ := least_of hK hx
  rw [← lack_eq hK hl hg]
  have f := downs_form hK hl.1 (inv_form hK hg)
  have c := downs_cr hK hl.1 (inv_form hK hg)
  rw [cr_inv hK (form_ord hK f)]
  rw [cr_inv hK (form_ord hK hg)] at c
  have := hl.2.2
  omega
theorem beneath_cr {k : Nm} {n : Nat} {x v : List Int} (hK : okK k n = true) (hx : Form k n x) (hv : Form k n v) (h : Beneath k n x v) : crP k n x ≤ crP k n v := by
  obtain ⟨l, hl⟩ := least_of hK hv
  have e := (beneath_least hK hl hx).mp h
  have c := (downs_cr hK (rev_ok hl.1) hx).2
  rw [e, cr_start hK, List.length_reverse] at c
  have := hl.2.2
  omega
/-- what is less than what is lacking does not do -/
theorem lack_min {k : Nm} {n : Nat} {x g y : List Int} (hK : okK k n = true) (hx : Form k n x) (hg : Form k n g) (hy : Form k n y) (hc : crP k n y < crP k n (lack k n x g)) : ¬ Beneath k n g (dem k n x y) := fun h => by
  have := beneath_cr hK (lack_form hK hx hg) hy ((lack_adj hK hx hg hy).mpr h)
  omega
/-- what is lacking ahead of x -/
noncomputable def lackA (k : Nm) (n : Nat) (x g : List Int) : List Int := invP k n (lack k n (invP k n x) (invP k n g))
theorem lackA_form {k : Nm} {n : Nat} {x g : List Int} (hK : okK k n = true) (hx : Form k n x) (hg : Form k n g) : Form k n (lackA k n x g) := inv_form hK (lack_form hK (inv_form hK hx) (inv_form hK hg))
theorem lackA_adj {k : Nm} {n : Nat} {x g y : List Int} (hK : okK k n = true) (hx : Form k n x) (hg : Form k n g) (hy : Form k n y) : Beneath k n (lackA k n x g) y ↔ Beneath k n g (dem k n y x) := by
  unfold lackA
  have hl := lack_form hK (inv_form hK hx) (inv_form hK hg)
  rw [← beneath_inv hK (inv_form hK hl) hy, inv_inv hK hl, lack_adj hK (inv_form hK hx) (inv_form hK hg) (inv_form hK hy), ← dem_inv hK hy hx, beneath_inv hK hg (dem_form hK hy hx)]
theorem lack_lackA {k : Nm} {n : Nat} {x y g : List Int} (hK : okK k n = true) (hx : Form k n x) (hy : Form k n y) (hg : Form k n g) : lackA k n y (lack k n x g) = lack k n x (lackA k n y g) := by
  have h1 := lack_form hK hx hg
  have h2 := lackA_form hK hy hg
  refine lack_uniq hK (lackA_form hK hy h1) (lack_form hK hx h2) fun z hz => ?_
  rw [lackA_adj hK hy h1 hz, lack_adj hK hx hg (dem_form hK hz hy), lack_adj hK hx h2 hz, lackA_adj hK hy hg (dem_form hK hx hz), dem_assoc hK hx hz hy]
end Sv

namespace Sv
open PySem PySem.Spec PyProof.Rows L2
section
variable {P : Program} {w : World} {K : PySem.W.Frag} {mg : Str → Option Value} {base : Heap} {f C D : Addr} {fd : FuncData}
def spLack (K : PySem.W.Frag) (C : Addr) : Sp := fun vs H Q _ => ∃ (p o u : Addr) (k : Nm) (n : Nat) (ws us : List Int), vs = [.ref p, .ref o, .ref u] ∧ KO K C H p o k n ws ∧ SqL K H u (us.map V.int) ∧ Form k n ws ∧ Form k n us ∧ crP k n ws ≤ 500 ∧
  ∀ q H', Same H H' → H q = none → H' q = some (.lst ((lack k n ws us).map V.int)) → Q (.ref q) H'
def spLackA (K : PySem.W.Frag) (C : Addr) : Sp := fun vs H Q _ => ∃ (p o u : Addr) (k : Nm) (n : Nat) (ws us : List Int), vs = [.ref p, .ref o, .ref u] ∧ KO K C H p o k n ws ∧ SqL K H u (us.map V.int) ∧ Form k n ws ∧ Form k n us ∧ crP k n ws ≤ 500 ∧
  ∀ q H', Same H H' → H q = none → H' q = some (.lst ((lackA k n ws us).map V.int)) → Q (.ref q) H'
def spLack2 (K : PySem.W.Frag) (C : Addr) (g : Nm → Nat → List Int → List Int → List Int) : Sp := fun vs H Q _ => ∃ (p o u : Addr) (k : Nm) (n : Nat) (ws us : List Int), vs = [.ref p, .ref o, .ref u] ∧ KO K C H p o k n ws ∧ SqL K H u (us.map V.int) ∧ Form k n ws ∧ crP k n ws ≤ 60 ∧ Form k n us ∧ crP k n us ≤ 60 ∧
  ∀ q H', Same H H' → H q = none → H' q = some (.lst ((g k n ws us).map V.int)) → Q (.ref q) H'
def spOpp2 (K : PySem.W.Frag) (C : Addr) : Sp := fun vs H Q _ => ∃ (p o : Addr) (k : Nm) (n : Nat) (ws : List Int), vs = [.ref p, .ref o] ∧ KO K C H p o k n ws ∧ Form k n ws ∧ crP k n ws ≤ 60 ∧ ∀ q H', Same H H' → H q = none → H' q = some (.lst ((invP k n ws).map V.int)) → Q (.ref q) H'
theorem ok_opposite (T : Tk K w mg C D) (F : FnP K "opposite" "opposite" s_opposite f fd) (c_check_orders : Rd P w K mg base "check_orders" 5 (spCkOn K C)) (c_opposite_of : Gd P w K mg base "opposite_of" ["kind", "order"] 2 (spOpp K C)) : FnOk P w K mg base CX0 6 f fd ["kind", "order"] (spOpp2 K C) := by
  refine okN F sc_opposite (fun vs H Q E h => ?_) (fun cdv A outer s H vs Q E hr h => ?_)
  · obtain ⟨p, o, k, n, ws, rfl, _⟩ := h
    rfl
  · obtain ⟨p, o, k, n, ws, rfl, hh, hF, h6, q⟩ := h
    obtain ⟨o1, o2⟩ := one_ord hh.ord hF h6
    refine ⟨_, (pss_cons (ps_expr (pe_callRG c_check_orders (hr.mono (by decide)) (by rfl) (pa_cons (pv 0) (pa_cons (pv 1) pa_nil))))
      (pss_one (ps_ret (pe_callG c_opposite_of (hr.mono (by decide)) (by rfl) (pa_cons (pv 0) (pa_cons (pv 1) pa_nil)))))), ?_⟩
    refine ⟨_, rfl, _, rfl, p, [o], k, n, [ws], rfl, (by simp), hh.kat, hh.ok, o1, o2, fun H1 s1 => ?_⟩
    exact ⟨_, rfl, _, rfl, p, o, k, n, ws, rfl, hh.keep s1, hF, fun r H2 s2 nr hr => q r H2 (s1.trans s2) (s1.free nr) hr⟩
noncomputable def lackB (k : Nm) (n : Nat) (x y g : List Int) : List Int := lackA k n y (lack k n x g)
def spLackB (K : PySem.W.Frag) (C : Addr) : Sp := fun vs H Q _ => ∃ (p o u v : Addr) (k : Nm) (n : Nat) (ws us ys : List Int), vs = [.ref p, .ref o, .ref u, .ref v] ∧ KO K C H p o k n ws ∧ SqL K H u (us.map V.int) ∧ SqL K H v (ys.map V.int) ∧ Form k n ws ∧ crP k n ws ≤ 60 ∧ Form k n us ∧ crP k n us ≤ 60 ∧ Form k n ys ∧ crP k n ys ≤ 60 ∧
  ∀ q H', Same H H' → H q = none → H' q = some (.lst ((lackB k n ws us ys).map V.int)) → Q (.ref q) H'
end
end Sv

namespace Sv
open PySem PySem.Spec PyProof.Rows L2
def gRev (us ws : List V) : List V := us ++ ws.reverse
theorem cut_takeN (ws : List Int) {i : Nat} (h : i ≤ ws.length) : cutV (ws.map V.int) none (some (i : Int)) = (ws.take i).map V.int := by
  unfold cutV
  rw [show HT.sIx (ws.map V.int).length (ws.map V.int).length (some (i : Int)) = min i (ws.map V.int).length from HT.sIx_nat _ _ i, HT.sIx_none, List.length_map, List.drop_zero, Nat.sub_zero, Nat.min_eq_left h, List.map_take]
theorem cut_dropN (ws : List Int) {i : Nat} (h : i ≤ ws.length) : cutV (ws.map V.int) (some (i : Int)) none = (ws.drop i).map V.int := by
  unfold cutV
  rw [show HT.sIx (ws.map V.int).length 0 (some (i : Int)) = min i (ws.map V.int).length from HT.sIx_nat _ _ i, HT.sIx_none, List.length_map, Nat.min_eq_left h, List.map_drop]
  exact List.take_of_length_le (by rw [List.length_drop, List.length_map]; omega)
theorem upd_selfN {H : Hp} {p : Addr} {o : HO} (_ : H p = none) : L2.upd H p o p = some o := upd_same
theorem gains_crN {k : Nm} {n : Nat} (hK : okK k n = true) : ∀ {l w : List Int}, (∀ s ∈ l, okS k n s) → Form k n w → crP k n (gains k n w l) ≤ crP k n w + (l.length : Int)
  | [], w, _, _ => by show crP k n w ≤ crP k n w + 0; omega
  | s :: l, w, hl, h => by
    have hs := hl s List.mem_cons_self
    have h1 := cr_stepI hK hs h
    have h2 := gains_crN hK (l := l) (w := gained k n w s) (fun t ht => hl t (List.mem_cons_of_mem _ ht)) (gained_form hK hs h)
    show crP k n (gains k n (gained k n w s) l) ≤ _
    rw [List.length_cons]
    have h3 : crP k n (gained k n w s) ≤ crP k n w + 1 := by
      unfold gained
      split
      · omega
      · have := h1.1
        split at this <;> omega
    omega
theorem run_takeN {k : Nm} {n : Nat} {w l : List Int} {i : Nat} (h : i < l.length) : run k n w (l.take (i + 1)) = stepped k n (run k n w (l.take i)) (l.getD i 0) := by
  have e : l[i]? = some (l.getD i 0) := by rw [List.getD_eq_getElem?_getD, List.getElem?_eq_getElem h]; rfl
  rw [take_succ e, run_snoc]
theorem down_revN {k : Nm} {n : Nat} {ws fs : List Int} (hK : okK k n = true) (hl : ws.length = n) (hfs : ∀ s ∈ fs, okS k n s) (e : run k n ws fs = startL k n) (c : (fs.length : Int) = crP k n ws) : Least k n ws fs.reverse := by
  have := run_rev hK (l := fs) (w := ws) hfs hl
  rw [e] at this
  exact ⟨rev_ok hfs, this, by rw [List.length_reverse]; exact c⟩
section
variable {P : Program} {w : World} {K : PySem.W.Frag} {mg : Str → Option Value} {base : Heap} {f C D : Addr} {fd : FuncData}
/-- an order of a kind -/
structure OO (K : PySem.W.Frag) (H : Hp) (o : Addr) (k : Nm) (n : Nat) (ws : List Int) : Prop where
  ord : SqL K H o (ws.map V.int)
  len : ws.length = n
  ok : okK k n = true
theorem OO.keep {H H' : Hp} {o : Addr} {k : Nm} {n : Nat} {ws : List Int} (h : OO K H o k n ws) (e : Same H H') : OO K H' o k n ws := ⟨e.seq h.ord, h.len, h.ok⟩
def spStartN (K : PySem.W.Frag) : Sp := fun vs H Q _ => ∃ (k : Nm) (n : Nat), vs = [.str k.s, .int (n : Int)] ∧ n ≤ 100 ∧ ∀ q H', Same H H' → H q = none → H' q = some (.lst ((startL k n).map V.int)) → Q (.ref q) H'
theorem ok_startN (T : Tx K mg) (F : FnP K "_law_start" "_law_start" s__law_start f fd) : FnOk P w K mg base CX0 1 f fd ["_law_name", "_law_size"] (spStartN K) := by
  refine okN F sc__law_start (fun vs H Q E h => ?_) (fun cdv A outer s H vs Q E hr h => ?_)
  · obtain ⟨k, n, rfl, _⟩ := h
    rfl
  · obtain ⟨k, n, rfl, hn, q⟩ := h
    refine ⟨_, (pss_one (ps_ret (pe_lc (own := [(("_law_place" : Str), 2)]) (g := (gName 2)) (tt := tYes) rfl sc__law_start.nd (pi_range1 (by rfl) T.m_range (pa_cons (pv 1) pa_nil)) (blkOk_by (own := [(("_law_place" : Str), 2)]) (N := ["_law_name", "_law_size", "_law_place"]) (sc := defScope s__law_start) (by decide +kernel)) (fun _ _ _ _ _ => (pg_name (i := 2) sc__law_start.nd rfl (Or.inl rfl))) (fun _ _ _ _ _ => pts_nil) (fun _ _ _ _ _ => (pe_op op_add (pv 2) (pe_callTy call_int1 (by rfl) T.m_int (by decide +kernel) (pa_cons (pe_cmpR op_eq (pv 0) pe_str (nomark _)) pa_nil))))))), ?_⟩
    refine ⟨_, rfl, n, rfl, by omega, by omega, fun D nD => ?_⟩
    refine lc_range (lo := 0) (n := n) (fun i H2 => H2 D = some (.lst (((startL k n).take i).map V.int)) ∧ Same H H2) ⟨upd_same, Same.upd nD⟩ ?_ ?_
    · rintro i H2 hi ⟨hD, s2⟩
      rw [Int.zero_add]
      refine ⟨rfl, ?_⟩
      refine ⟨_, rfl, _, rfl, rfl, .inr ⟨_, rfl, _, _, rfl, rfl, ?_⟩⟩
      refine ⟨_, hD, ?_, ?_, Same_updD s2 nD⟩
      · rw [List.length_map, List.length_take, startL_len]
        exact small1000 (by omega)
      · rw [upd_same, take_succ (startL_get k n i hi), List.map_append, off_dec, Int.add_comm]
        rfl
    · rintro H2 ⟨hD, s2⟩
      rw [List.take_of_length_le (by rw [startL_len]; exact Nat.le_refl _)] at hD
      exact q D H2 s2 nD hD
def spManyN (K : PySem.W.Frag) : Sp := fun vs H Q _ => ∃ (o : Addr) (k : Nm) (n : Nat) (ws : List Int), vs = [.str k.s, .ref o] ∧ OO K H o k n ws ∧ Q (.int (many k n)) H
theorem ok_stepsN (T : Tx K mg) (F : FnP K "_law_steps" "_law_steps" s__law_steps f fd) : FnOk P w K mg base CX0 1 f fd ["_law_name", "_law_order"] (spManyN K) := by
  refine okN F sc__law_steps (fun vs H Q E h => ?_) (fun cdv A outer s H vs Q E hr h => ?_)
  · obtain ⟨o, k, n, ws, rfl, _⟩ := h
    rfl
  · obtain ⟨o, k, n, ws, rfl, hh, q⟩ := h
    refine ⟨_, (pss_one (ps_ret (pe_op op_sub (pe_callB call_len_seq (by rfl) T.m_len (by decide +kernel) (pa_cons (pv 1) pa_nil)) (pe_callTy call_int1 (by rfl) T.m_int (by decide +kernel) (pa_cons (pe_cmpR op_eq (pv 0) pe_str (nomark _)) pa_nil))))), ?_⟩
    refine ⟨_, rfl, o, _, rfl, .inl hh.ord, _, rfl, rfl, .inr ⟨_, rfl, _, _, rfl, rfl, ?_⟩⟩
    refine qI q ?_
    rw [List.length_map, hh.len]
    exact many_dec k n
def spCrossN (K : PySem.W.Frag) : Sp := fun vs H Q _ => ∃ (o : Addr) (k : Nm) (n : Nat) (ws : List Int) (z : Int), vs = [.str k.s, .ref o, .int z] ∧ OO K H o k n ws ∧ okS k n z ∧ Q (.bl (crossed k n ws z)) H
theorem ok_crossN (T : Tx K mg) (F : FnP K "_law_crossed" "_law_crossed" s__law_crossed f fd) : FnOk P w K mg base CX0 1 f fd ["_law_name", "_law_order", "_law_step"] (spCrossN K) := by
  refine okN F sc__law_crossed (fun vs H Q E h => ?_) (fun cdv A outer s H vs Q E hr h => ?_)
  · obtain ⟨o, k, n, ws, z, rfl, _⟩ := h
    rfl
  · obtain ⟨o, k, n, ws, z, rfl, hh, hz, q⟩ := h
    have hl := hh.len
    obtain ⟨z, rfl⟩ := step_of hz
    rw [← cross_eq hh.ok hz hl] at q
    unfold crossP at q
    refine ⟨_, (pss_cons (ps_if (pt_cmpR op_eq (pv 0) pe_str (nomark _)) (pss_one (ps_ret (pe_ifExp (pt_cmpR op_eq (pv 2) pe_int (nomark _)) (pe_cmpR op_lt (pe_ix ix_list (pv 1) pe_int (fun _ _ => rfl)) pe_int (nomark _)) (pe_cmpR op_gt (pe_ix ix_list (pv 1) (pe_op op_sub (pv 2) pe_int) (fun _ _ => rfl)) (pe_ix ix_list (pv 1) (pv 2) (fun _ _ => rfl)) (nomark _))))) pss_nil)
      (pss_cons (ps_if (PW.pt (pw_and (pt_cmpR op_eq (pv 0) pe_str (nomark _)) (pw_and1 (pt_cmpR op_eq (pv 2) (pe_op op_sub (pe_callB call_len_seq (by rfl) T.m_len (by decide +kernel) (pa_cons (pv 1) pa_nil)) pe_int) (nomark _))))) (pss_one (ps_ret (pe_cmpR op_gt (pe_ix ix_list (pv 1) (pv 2) (fun _ _ => rfl)) (pe_op op_add (pe_ix ix_list (pv 1) pe_int (fun _ _ => rfl)) (pe_callB call_len_seq (by rfl) T.m_len (by decide +kernel) (pa_cons (pv 1) pa_nil))) (nomark _)))) pss_nil)
      (pss_one (ps_ret (pe_cmpR op_gt (pe_ix ix_list (pv 1) (pv 2) (fun _ _ => rfl)) (pe_ix ix_list (pv 1) (pe_op op_add (pv 2) pe_int) (fun _ _ => rfl)) (nomark _)))))), ?_⟩
    refine ⟨_, rfl, rfl, _, rfl, ite2 (fun hk => ?_) (fun hk => ?_)⟩
    · have ek := is_mi hk
      subst ek
      have h1 := okS_mi hz
      refine ⟨_, rfl, rfl, _, rfl, ite2 (fun h0 => ?_) (fun h0 => ?_)⟩
      · have e0 : (z : Int) = 0 := V.int.inj (of_decide_eq_true h0)
        have e0' : z = 0 := by omega
        subst e0'
        rw [exch_mi0] at q
        refine ⟨_, rfl, o, _, _, _, rfl, rfl, hh.ord, atI_nat (j := 0) (map_getD (by omega)), _, _, rfl, rfl, ?_⟩
        refine qB q ?_
        exact decide_eq_decide.mpr ⟨fun h => by omega, fun h => by omega⟩
      · have e0 : ¬ (z : Int) = 0 := fun e => h0 (decide_eq_true (congrArg V.int e))
        rw [exch_mis (by omega)] at q
        refine ⟨_, rfl, _, rfl, _, _, rfl, rfl, o, _, _, _, rfl, rfl, hh.ord, at_of (j := z - 1) (by omega) (map_getD (by omega)), _, rfl, _, rfl, o, _, _, _, rfl, rfl, hh.ord, atI_nat (map_getD (by omega)), _, _, rfl, rfl, q⟩
    · have ek := not_mi hk
      have hsn : z < n := by
        obtain ⟨_, h⟩ := hz
        unfold many at h
        split at h <;> omega
      have hlm : (ws.map V.int).length = n := by rw [List.length_map, hl]
      by_cases hr2 : k = .ri
      · subst hr2
        refine ⟨_, rfl, rfl, _, rfl, iteP (by decide +kernel) ?_⟩
        refine ⟨_, rfl, _, rfl, o, _, rfl, .inl hh.ord, _, _, rfl, rfl, rfl, _, rfl, ?_⟩
        by_cases e2 : z + 1 = n
        · refine iteP (decide_eq_true (congrArg V.int (by omega))) ?_
          rw [exch_ril e2] at q
          refine ⟨_, rfl, _, rfl, o, _, _, _, rfl, rfl, hh.ord, atI_nat (map_getD (by omega)), _, rfl, o, _, _, _, rfl, rfl, hh.ord, atI_nat (j := 0) (map_getD (by omega)), _, rfl, o, _, rfl, .inl hh.ord, _, _, rfl, rfl, _, _, rfl, rfl, ?_⟩
          rw [hlm]
          exact q
        · refine iteN (fun h => by have := V.int.inj (of_decide_eq_true h); omega) ?_
          have e : exch .ri n ws z = (ws.getD z 0, ws.getD (z + 1) 0) := by
            unfold exch
            rw [if_neg (by decide), if_pos rfl, if_neg (by omega)]
          rw [e] at q
          exact ⟨_, rfl, _, rfl, o, _, _, _, rfl, rfl, hh.ord, atI_nat (map_getD (by omega)), _, rfl, _, rfl, _, _, rfl, rfl, o, _, _, _, rfl, rfl, hh.ord, at_of (j := z + 1) (by omega) (map_getD (by omega)), _, _, rfl, rfl, q⟩
      · have ep : k = .pl := by cases k <;> simp_all
        subst ep
        have h1 := st_pl hz
        refine ⟨_, rfl, rfl, _, rfl, iteN (fun h => hr2 (by rw [s_ri] at h; exact of_decide_eq_true h)) ?_⟩
        exact ⟨_, rfl, _, rfl, o, _, _, _, rfl, rfl, hh.ord, atI_nat (map_getD (by omega)), _, rfl, _, rfl, _, _, rfl, rfl, o, _, _, _, rfl, rfl, hh.ord, at_of (j := z + 1) (by omega) (map_getD (by omega)), _, _, rfl, rfl, q⟩
def spSteppedN (K : PySem.W.Frag) : Sp := fun vs H Q _ => ∃ (o : Addr) (k : Nm) (n : Nat) (ws : List Int) (z : Int), vs = [.str k.s, .ref o, .int z] ∧ OO K H o k n ws ∧ okS k n z ∧ ∀ q H', Same H H' → H q = none → H' q = some (.lst ((stepped k n ws z).map V.int)) → Q (.ref q) H'
theorem ok_steppedN (T : Tx K mg) (F : FnP K "_law_stepped" "_law_stepped" s__law_stepped f fd) : FnOk P w K mg base CX0 1 f fd ["_law_name", "_law_order", "_law_step"] (spSteppedN K) := by
  refine okN F sc__law_stepped (fun vs H Q E h => ?_) (fun cdv A outer s H vs Q E hr h => ?_)
  · obtain ⟨o, k, n, ws, z, rfl, _⟩ := h
    rfl
  · obtain ⟨o, k, n, ws, z, rfl, hh, hz, q⟩ := h
    have hl := hh.len
    obtain ⟨z, rfl⟩ := step_of hz
    rw [← after_eq hh.ok hz hl] at q
    have hn := okK_le hh.ok
    refine ⟨_, (pss_cons (ps_set (i := 3) sc__law_stepped.nd rfl (by first | exact Or.inl rfl | exact Or.inr rfl) (pe_callTy call_list_of (by rfl) T.m_list (by decide +kernel) (pa_cons (pv 1) pa_nil)))
      (pss_cons (ps_if (PW.pt (pw_and (pt_cmpR op_eq (pv 0) pe_str (nomark _)) (pw_and1 (pt_cmpR op_eq (pv 2) pe_int (nomark _))))) (pss_one (ps_asg (pe_op op_sub pe_int (pe_ix ix_list (pv 1) pe_int (fun _ _ => rfl))) (pg_sub (pv 3) pe_int set_list))) (pss_one (ps_if (PW.pt (pw_and (pt_cmpR op_eq (pv 0) pe_str (nomark _)) (pw_and1 (pt_cmpR op_eq (pv 2) (pe_op op_sub (pe_callB call_len_seq (by rfl) T.m_len (by decide +kernel) (pa_cons (pv 1) pa_nil)) pe_int) (nomark _))))) (pss_one (ps_asg (pe_tup (pa_cons (pe_op op_sub (pe_ix ix_list (pv 1) (pv 2) (fun _ _ => rfl)) (pe_callB call_len_seq (by rfl) T.m_len (by decide +kernel) (pa_cons (pv 1) pa_nil))) (pa_cons (pe_op op_add (pe_ix ix_list (pv 1) pe_int (fun _ _ => rfl)) (pe_callB call_len_seq (by rfl) T.m_len (by decide +kernel) (pa_cons (pv 1) pa_nil))) pa_nil))) (pg_tup rfl (pgs_cons (pg_sub (pv 3) pe_int set_list) (pgs_cons (pg_sub (pv 3) (pv 2) set_list) pgs_nil))))) (pss_cons (ps_set (i := 4) sc__law_stepped.nd rfl (by first | exact Or.inl rfl | exact Or.inr rfl) (pe_op op_sub (pv 2) (pe_callTy call_int1 (by rfl) T.m_int (by decide +kernel) (pa_cons (pe_cmpR op_eq (pv 0) pe_str (nomark _)) pa_nil))))
      (pss_one (ps_asg (pe_tup (pa_cons (pe_ix ix_list (pv 1) (pe_op op_add (pv 4) pe_int) (fun _ _ => rfl)) (pa_cons (pe_ix ix_list (pv 1) (pv 4) (fun _ _ => rfl)) pa_nil))) (pg_tup rfl (pgs_cons (pg_sub (pv 3) (pv 4) set_list) (pgs_cons (pg_sub (pv 3) (pe_op op_add (pv 4) pe_int) set_list) pgs_nil)))))))))
      (pss_one (ps_ret (pv 3))))), ?_⟩
    refine ⟨_, rfl, o, _, rfl, .inl hh.ord, fun m nm => ?_⟩
    have u1 := Same.upd (o := .lst (ws.map V.int)) nm
    have em : (L2.upd H m (.lst (ws.map V.int))) m = some (.lst (ws.map V.int)) := upd_same
    have h1 := hh.keep u1
    have hlm : (ws.map V.int).length = n := by rw [List.length_map, hl]
    generalize L2.upd H m (.lst (ws.map V.int)) = H1 at *
    by_cases hk : k = .mi
    · subst hk
      have h2 := okS_mi hz
      refine ⟨_, rfl, rfl, _, rfl, iteP (by decide +kernel) ?_⟩
      refine ⟨_, rfl, rfl, _, rfl, ite2 (fun h0 => ?_) (fun h0 => ?_)⟩
      · have e0 : (z : Int) = 0 := V.int.inj (of_decide_eq_true h0)
        have e0' : z = 0 := by omega
        subst e0'
        rw [after_mi0] at q
        refine ⟨_, rfl, o, _, _, _, rfl, rfl, h1.ord, atI_nat (j := 0) (map_getD (by omega)), _, _, rfl, rfl, ?_⟩
        refine ⟨_, rfl, m, _, _, 0, rfl, rfl, em, ixN_nat (i := 0) (by rw [hlm]; omega), ?_⟩
        refine ⟨_, rfl, q m _ (fun b y e => ?_) nm ?_⟩
        · rw [upd_ne (ne_of_none e nm)]
          exact u1 _ _ e
        · rw [upd_same]
          show some (HO.lst ((ws.map V.int).set 0 (.int (0 - ws.getD 0 0)))) = _
          rw [Int.zero_sub, set_map]
      · have e0 : ¬ (z : Int) = 0 := fun e => h0 (decide_eq_true (congrArg V.int e))
        rw [after_mis (by omega)] at q
        refine ⟨_, rfl, rfl, _, rfl, iteN (by decide +kernel) ?_⟩
        refine ⟨_, rfl, _, rfl, rfl, .inr ⟨_, rfl, _, _, rfl, rfl, ?_⟩⟩
        refine ⟨_, rfl, _, rfl, _, _, rfl, rfl, o, _, _, _, rfl, rfl, h1.ord, at_of (j := z) (by rw [off_dec]; show (z : Int) - 1 + 1 = _; omega) (map_getD (by omega)), _, rfl, _, rfl, o, _, _, _, rfl, rfl, h1.ord, at_of (j := z - 1) (by rw [off_dec]; show (z : Int) - 1 = _; omega) (map_getD (by omega)), (by show 2 ≤ sizeLine; decide), fun t nt => ?_⟩
        have hm2 : m ≠ t := ne_of_none em nt
        have em2 := (upd_ne (o := .tup [.int (ws.getD z 0), .int (ws.getD (z - 1) 0)]) hm2).trans em
        have u3 := u1.trans (Same.upd (o := .tup [.int (ws.getD z 0), .int (ws.getD (z - 1) 0)]) nt)
        refine ⟨t, _, rfl, SqT.of upd_same, rfl, _, _, rfl, _, rfl, _, rfl, m, _, _, z - 1, rfl, rfl, em2, (by rw [off_dec]; show ixN _ ((z : Int) - 1) = _; rw [show (z : Int) - 1 = ((z - 1 : Nat) : Int) by omega]; exact ixN_nat (by rw [hlm]; omega)), ?_⟩
        refine ⟨_, _, rfl, _, rfl, _, rfl, _, _, rfl, rfl, m, _, _, z, rfl, rfl, upd_same, (by rw [off_dec, List.length_set, hlm]; show ixN _ ((z : Int) - 1 + 1) = _; rw [Int.sub_add_cancel]; exact ixN_nat (by omega)), rfl, ?_⟩
        refine ⟨_, rfl, q m _ (fun b y e => ?_) nm ?_⟩
        · rw [upd_ne (ne_of_none e nm), upd_ne (ne_of_none e nm)]
          exact u3 _ _ e
        · rw [upd_same, set_map, set_map]
    · have nmi : ¬ decide (V.str k.s = V.str "mirror") = true := fun h => hk (is_mi h)
      have hsn : z < n := by
        obtain ⟨_, h⟩ := hz
        unfold many at h
        split at h <;> omega
      refine ⟨_, rfl, rfl, _, rfl, iteN nmi ?_⟩
      have inner : ∀ (_ : z + 1 < n), True := fun _ => trivial
      by_cases hr2 : k = .ri
      · subst hr2
        refine ⟨_, rfl, rfl, _, rfl, iteP (by decide +kernel) ?_⟩
        refine ⟨_, rfl, _, rfl, o, _, rfl, .inl h1.ord, _, _, rfl, rfl, rfl, _, rfl, ?_⟩
        by_cases e2 : z + 1 = n
        · refine iteP (decide_eq_true (congrArg V.int (by omega))) ?_
          rw [after_ril e2] at q
          refine ⟨_, rfl, _, rfl, o, _, _, _, rfl, rfl, h1.ord, atI_nat (map_getD (by omega)), _, rfl, o, _, rfl, .inl h1.ord, _, _, rfl, rfl, _, rfl, o, _, _, _, rfl, rfl, h1.ord, atI_nat (j := 0) (map_getD (by omega)), _, rfl, o, _, rfl, .inl h1.ord, _, _, rfl, rfl, (by show 2 ≤ sizeLine; decide), fun t nt => ?_⟩
          rw [hlm]
          have hn2 := (of_decide_eq_true hh.ok : 2 ≤ n ∧ n ≤ 5).1
          have hm2 : m ≠ t := ne_of_none em nt
          have em2 := (upd_ne (o := .tup [.int (ws.getD z 0 - (n : Int)), .int (ws.getD 0 0 + (n : Int))]) hm2).trans em
          have u3 := u1.trans (Same.upd (o := .tup [.int (ws.getD z 0 - (n : Int)), .int (ws.getD 0 0 + (n : Int))]) nt)
          refine ⟨t, _, rfl, SqT.of upd_same, rfl, _, _, rfl, _, rfl, m, _, _, 0, rfl, rfl, em2, ixN_nat (i := 0) (by rw [hlm]; omega), ?_⟩
          refine ⟨_, _, rfl, _, rfl, _, rfl, m, _, _, z, rfl, rfl, upd_same, (by rw [List.length_set, hlm]; exact ixN_nat (by omega)), rfl, ?_⟩
          refine ⟨_, rfl, q m _ (fun b y e => ?_) nm ?_⟩
          · rw [upd_ne (ne_of_none e nm), upd_ne (ne_of_none e nm)]
            exact u3 _ _ e
          · rw [upd_same, set_map, set_map, List.set_comm _ _ (show (0 : Nat) ≠ z by omega)]
        · refine iteN (fun h => by have := V.int.inj (of_decide_eq_true h); omega) ?_
          rw [after_in hk (by omega)] at q
          refine ⟨_, rfl, _, rfl, rfl, .inr ⟨_, rfl, _, _, rfl, rfl, ?_⟩⟩
          have eo : (if decide (V.str (Nm.ri).s = V.str "mirror") = true then (1 : Int) else 0) = 0 := off_dec .ri
          refine ⟨_, rfl, _, rfl, _, _, rfl, rfl, o, _, _, _, rfl, rfl, h1.ord, at_of (j := z + 1) (by rw [eo]; omega) (map_getD (by omega)), _, rfl, _, rfl, o, _, _, _, rfl, rfl, h1.ord, at_of (j := z) (by rw [eo]; omega) (map_getD (by omega)), (by show 2 ≤ sizeLine; decide), fun t nt => ?_⟩
          have hm2 : m ≠ t := ne_of_none em nt
          have em2 := (upd_ne (o := .tup [.int (ws.getD (z + 1) 0), .int (ws.getD z 0)]) hm2).trans em
          have u3 := u1.trans (Same.upd (o := .tup [.int (ws.getD (z + 1) 0), .int (ws.getD z 0)]) nt)
          refine ⟨t, _, rfl, SqT.of upd_same, rfl, _, _, rfl, _, rfl, _, rfl, m, _, _, z, rfl, rfl, em2, (by rw [eo, Int.sub_zero]; exact ixN_nat (by rw [hlm]; omega)), ?_⟩
          refine ⟨_, _, rfl, _, rfl, _, rfl, _, _, rfl, rfl, m, _, _, z + 1, rfl, rfl, upd_same, (by rw [eo, Int.sub_zero, List.length_set, hlm]; exact ixN_nat (i := z + 1) (by omega)), rfl, ?_⟩
          refine ⟨_, rfl, q m _ (fun b y e => ?_) nm ?_⟩
          · rw [upd_ne (ne_of_none e nm), upd_ne (ne_of_none e nm)]
            exact u3 _ _ e
          · rw [upd_same, set_map, set_map]
      · have ep : k = .pl := by cases k <;> simp_all
        subst ep
        have h2 := st_pl hz
        refine ⟨_, rfl, rfl, _, rfl, iteN (fun h => hr2 (by rw [s_ri] at h; exact of_decide_eq_true h)) ?_⟩
        rw [after_in hk (by omega)] at q
        refine ⟨_, rfl, _, rfl, rfl, .inr ⟨_, rfl, _, _, rfl, rfl, ?_⟩⟩
        have eo : (if decide (V.str (Nm.pl).s = V.str "mirror") = true then (1 : Int) else 0) = 0 := off_dec .pl
        refine ⟨_, rfl, _, rfl, _, _, rfl, rfl, o, _, _, _, rfl, rfl, h1.ord, at_of (j := z + 1) (by rw [eo]; omega) (map_getD (by omega)), _, rfl, _, rfl, o, _, _, _, rfl, rfl, h1.ord, at_of (j := z) (by rw [eo]; omega) (map_getD (by omega)), (by show 2 ≤ sizeLine; decide), fun t nt => ?_⟩
        have hm2 : m ≠ t := ne_of_none em nt
        have em2 := (upd_ne (o := .tup [.int (ws.getD (z + 1) 0), .int (ws.getD z 0)]) hm2).trans em
        have u3 := u1.trans (Same.upd (o := .tup [.int (ws.getD (z + 1) 0), .int (ws.getD z 0)]) nt)
        refine ⟨t, _, rfl, SqT.of upd_same, rfl, _, _, rfl, _, rfl, _, rfl, m, _, _, z, rfl, rfl, em2, (by rw [eo, Int.sub_zero]; exact ixN_nat (by rw [hlm]; omega)), ?_⟩
        refine ⟨_, _, rfl, _, rfl, _, rfl, _, _, rfl, rfl, m, _, _, z + 1, rfl, rfl, upd_same, (by rw [eo, Int.sub_zero, List.length_set, hlm]; exact ixN_nat (i := z + 1) (by omega)), rfl, ?_⟩
        refine ⟨_, rfl, q m _ (fun b y e => ?_) nm ?_⟩
        · rw [upd_ne (ne_of_none e nm), upd_ne (ne_of_none e nm)]
          exact u3 _ _ e
        · rw [upd_same, set_map, set_map]
end
end Sv

namespace Sv
open PySem PySem.Spec PyProof.Rows L2
section
variable {P : Program} {w : World} {K : PySem.W.Frag} {mg : Str → Option Value} {base : Heap} {f C D : Addr} {fd : FuncData}
def spFallsN (K : PySem.W.Frag) : Sp := fun vs H Q _ => ∃ (o : Addr) (k : Nm) (n : Nat) (ws : List Int), vs = [.str k.s, .ref o] ∧ OO K H o k n ws ∧ ∀ q H', Same H H' → H q = none → H' q = some (.lst ((fallsP k n ws).map V.int)) → Q (.ref q) H'
theorem ok_fallsN (T : Tx K mg) (F : FnP K "_law_falls" "_law_falls" s__law_falls f fd) (c_law_steps : Gd P w K mg base "_law_steps" ["_law_name", "_law_order"] 1 (spManyN K)) (c_law_crossed : Gd P w K mg base "_law_crossed" ["_law_name", "_law_order", "_law_step"] 1 (spCrossN K)) : FnOk P w K mg base CX0 2 f fd ["_law_name", "_law_order"] (spFallsN K) := by
  refine okN F sc__law_falls (fun vs H Q E h => ?_) (fun cdv A outer s H vs Q E hr h => ?_)
  · obtain ⟨o, k, n, ws, rfl, _⟩ := h
    rfl
  · obtain ⟨o, k, n, ws, rfl, hh, q⟩ := h
    have hm := many_nn hh.ok
    refine ⟨_, (pss_one (ps_ret (pe_lc (own := [(("_law_step" : Str), 2)]) (g := (gName 2)) rfl sc__law_falls.nd (pi_range1 (by rfl) T.m_range (pa_cons (pe_callG c_law_steps (hr.mono (by decide)) (by rfl) (pa_cons (pv 0) (pa_cons (pv 1) pa_nil))) pa_nil)) (blkOk_by (own := [(("_law_step" : Str), 2)]) (N := ["_law_name", "_law_order", "_law_step"]) (sc := defScope s__law_falls) (by decide +kernel)) (fun _ _ _ _ _ => (pg_name (i := 2) sc__law_falls.nd rfl (Or.inl rfl))) (fun _ _ _ _ _ => pts_one (pt_val (pe_callG c_law_crossed (hr.mono (by decide)) (by rfl) (pa_cons (pv 0) (pa_cons (pv 1) (pa_cons (pv 2) pa_nil)))))) (fun _ _ _ _ _ => (pv 2))))), ?_⟩
    refine ⟨_, rfl, _, rfl, o, k, n, ws, rfl, hh, (many k n).toNat, by rw [Int.toNat_of_nonneg hm.1], by omega, by omega, fun D nD => ?_⟩
    refine lc_range (lo := 0) (n := (many k n).toNat) (fun i H2 => H2 D = some (.lst ((((List.range i).filter (crossP k n ws)).map fun (s : Nat) => (s : Int)).map V.int)) ∧ Same H H2) ⟨upd_same, Same.upd nD⟩ ?_ ?_
    · rintro i H2 hi ⟨hD, s2⟩
      rw [Int.zero_add]
      have hs : okS k n (i : Int) := ⟨by omega, by omega⟩
      refine ⟨rfl, ?_⟩
      refine ⟨_, rfl, _, rfl, _, rfl, o, k, n, ws, _, rfl, hh.keep s2, hs, _, rfl, ?_⟩
      rw [← cross_eq hh.ok hs hh.len]
      rw [List.range_succ, List.filter_append]
      by_cases hc : crossP k n ws i = true
      · refine iteP hc ?_
        refine ⟨_, rfl, _, hD, ?_, ?_, Same_updD s2 nD⟩
        · rw [List.length_map, List.length_map]
          exact small1000 (by have := List.length_filter_le (crossP k n ws) (List.range i); rw [List.length_range] at this; omega)
        · rw [push_int, List.map_append]
          simp [hc]
      · refine iteN hc ?_
        refine ⟨?_, s2⟩
        rw [hD]
        simp [hc]
    · rintro H2 ⟨hD, s2⟩
      exact q D H2 s2 nD hD
def spRowN (K : PySem.W.Frag) : Sp := fun vs H Q _ => ∃ (o : Addr) (k : Nm) (n : Nat) (ws : List Int), vs = [.str k.s, .ref o] ∧ OO K H o k n ws ∧ Form k n ws ∧ crP k n ws ≤ 500 ∧
  ∀ (q : Addr) (l : List Int) (H' : Hp), Least k n ws l → Same H H' → H q = none → H' q = some (.lst (l.map V.int)) → Q (.ref q) H'
theorem ok_rowN (T : Tx K mg) (F : FnP K "_law_row" "_law_row" s__law_row f fd) (c_law_falls : Gd P w K mg base "_law_falls" ["_law_name", "_law_order"] 2 (spFallsN K)) (c_law_stepped : Gd P w K mg base "_law_stepped" ["_law_name", "_law_order", "_law_step"] 1 (spSteppedN K)) : FnOk P w K mg base CX0 3 f fd ["_law_name", "_law_order"] (spRowN K) := by
  refine okN F sc__law_row (fun vs H Q E h => ?_) (fun cdv A outer s H vs Q E hr h => ?_)
  · obtain ⟨o, k, n, ws, rfl, _⟩ := h
    rfl
  · obtain ⟨o, k, n, ws, rfl, hh, hF, h5, q⟩ := h
    refine ⟨_, (pss_cons (ps_par (i := 2) (j := 3) (by rfl) sc__law_row.nd rfl rfl (by decide) rfl rfl (pa_cons (pe_lst pa_nil) (pa_cons (pe_callTy call_list_of (by rfl) T.m_list (by decide +kernel) (pa_cons (pv 1) pa_nil)) pa_nil)) (by rfl))
      (pss_cons (ps_for PassesOwn.never rfl (pi_range1 (by rfl) T.m_range (pa_cons pe_int pa_nil)) (pg_name (i := 4) sc__law_row.nd rfl (Or.inl rfl)) (pss_cons (ps_set (i := 5) sc__law_row.nd rfl (by first | exact Or.inl rfl | exact Or.inr rfl) (pe_callG c_law_falls (hr.mono (by decide)) (by rfl) (pa_cons (pv 0) (pa_cons (pv 3) pa_nil))))
      (pss_cons (ps_if (pt_cmpR (op_eqD hr.units) (pv 5) (pe_lst pa_nil) (nomark _)) (pss_one ps_break) pss_nil)
      (pss_cons (ps_set (i := 3) sc__law_row.nd rfl (by first | exact Or.inl rfl | exact Or.inr rfl) (pe_callG c_law_stepped (hr.mono (by decide)) (by rfl) (pa_cons (pv 0) (pa_cons (pv 3) (pa_cons (pe_ix ix_list (pv 5) pe_int (fun _ _ => rfl)) pa_nil)))))
      (pss_one (ps_expr (pe_bm PySem.F.plainAttrs_list PySem.F.slot_list_append PySem.F.type_list_append mt_append (pv 2) (pa_cons (pe_ix ix_list (pv 5) pe_int (fun _ _ => rfl)) pa_nil))))))))
      (pss_one (ps_ret (pe_revL (pv 2)))))), ?_⟩
    refine ⟨Nat.zero_le _, fun lf nf => ?_⟩
    have u1 := Same.upd (o := .lst []) nf
    refine ⟨_, rfl, o, _, rfl, .inl (u1.seq hh.ord), fun ll nl => ?_⟩
    have u2 := u1.trans (Same.upd (o := .lst (ws.map V.int)) nl)
    have hlf : (L2.upd (L2.upd H lf (.lst [])) ll (.lst (ws.map V.int))) lf = some (.lst []) := by
      rw [upd_ne (ne_of_none upd_same nl), upd_same]
    refine ⟨_, _, rfl, ?_⟩
    refine ⟨600, rfl, by decide, by decide, ?_⟩
    have fin : ∀ (fs u : List Int) (H4 : Hp), Same H H4 → H4 lf = some (.lst (fs.map V.int)) → (∀ s ∈ fs, okS k n s) → run k n ws fs = u → crP k n u + (fs.length : Int) = crP k n ws → u = startL k n → ∀ p, H4 p = none → Q (.ref p) (L2.upd H4 p (.lst (fs.map V.int).reverse)) := by
      intro fs u H4 s4 hlf4 hfs hrun hcr hu p np
      refine q p fs.reverse _ (down_revN hh.ok hh.len hfs (by rw [hrun, hu]) (by rw [hu, cr_start hh.ok] at hcr; omega)) (s4.trans (Same.upd np)) (s4.free np) ?_
      rw [upd_same, List.map_reverse]
    refine for_range (lo := 0) (n := 600) (fun i σ H4 => ∃ (ll : Addr) (fs u : List Int) (v5 v6 : Option V), σ = [some (.str k.s), some (.ref o), some (.ref lf), some (.ref ll), v5, v6] ∧ fs.length = i ∧ Same H H4 ∧ H4 lf = some (.lst (fs.map V.int)) ∧ SqL K H4 ll (u.map V.int) ∧ ll ≠ lf ∧
        (∀ s ∈ fs, okS k n s) ∧ run k n ws fs = u ∧ Form k n u ∧ crP k n u + (fs.length : Int) = crP k n ws)
      ⟨ll, [], ws, none, none, rfl, rfl, u2, hlf, SqL.of upd_same, (ne_of_none upd_same nl).symm, (fun s h => by cases h), rfl, hF, by show crP k n ws + 0 = _; omega⟩ ?_ ?_
    · rintro i σ H4 hi ⟨ll, fs, u, v5, v6, rfl, hfl, s4, hlf4, hll, ell, hfs, hrun, hFu, hcr⟩
      have cu := cr_nn k n u
      refine ⟨_, rfl, _, rfl, ll, k, n, u, rfl, ⟨hll, hFu.1, hh.ok⟩, fun D H5 s5 nD hD => ?_⟩
      have s45 := s4.trans s5
      have hlf5 := s5 _ _ hlf4
      have nDf : D ≠ lf := (ne_of_none hlf4 nD).symm
      refine ⟨_, rfl, Nat.zero_le _, fun e ne => ?_⟩
      have ue := Same.upd (o := .lst []) ne
      refine ⟨_, _, dp_list (SqL.of (ue _ _ hD)), Dp.lst (xs := []) (ds := []) (SqL.of upd_same) .nil, shaped_ints _, rfl, _, rfl, ?_⟩
      have ee : PyData.eqv (.list ((fallsP k n u).map PyData.int)) (.list []) = decide (fallsP k n u = []) := eqv_l (fallsP k n u) []
      rw [ee]
      have hlf6 := ue _ _ hlf5
      refine ite2 (fun hc => ?_) (fun hc => ?_)
      · have hnil := of_decide_eq_true hc
        have hu := falls_nil hh.ok hFu hnil
        exact ⟨_, rfl, lf, _, rfl, SqL.of hlf6, fun p np => fin fs u _ (s45.trans ue) hlf6 hfs hrun hcr hu p np⟩
      · have hnil : fallsP k n u ≠ [] := fun z => hc (decide_eq_true z)
        have hpos : 0 < (fallsP k n u).length := List.length_pos_iff.mpr hnil
        have hDs := SqL.of (K := K) (ue _ _ hD)
        have s46 := s45.trans ue
        have hll6 := ue.seq (s5.seq hll)
        obtain ⟨hsS, hsC⟩ := (mem_fallsP hh.ok hFu.1).mp (mem_getD (w := fallsP k n u) (i := 0) (by omega))
        have hg := first_get hpos
        generalize hz : (fallsP k n u).getD (0) 0 = z at hsS hsC hg
        have hst := cr_stepI hh.ok hsS hFu
        rw [if_pos hsC] at hst
        have cs := cr_nn k n (stepped k n u z)
        refine ⟨_, rfl, _, rfl, _, rfl, D, _, _, _, rfl, rfl, hDs, hg, ll, k, n, u, z, rfl, ⟨hll6, hFu.1, hh.ok⟩, hsS, fun l8 H8 s8 n8 h8 => ?_⟩
        have hlf8 := s8 _ _ hlf6
        have hD8 := s8 _ _ (ue _ _ hD)
        refine ⟨_, rfl, .inl ⟨rfl, _, SqL.of hlf8⟩, _, rfl, D, _, _, _, rfl, rfl, SqL.of hD8, hg, lf, _, _, rfl, rfl, hlf8, ?_, ?_⟩
        · rw [List.length_map]
          exact small1000 (by omega)
        have xf : SameX lf H8 (L2.upd H8 lf (.lst (fs.map V.int ++ [.int z]))) := SameX.upd
        have el8 : l8 ≠ lf := (ne_of_none hlf6 n8).symm
        refine ⟨l8, fs ++ [z], stepped k n u z, _, _, rfl, by rw [List.length_append, hfl]; rfl, Same_updD (s46.trans s8) nf, push_int _ _ _ _, SqL.of (xf _ _ h8 el8), el8, ?_, ?_, hst.2, ?_⟩
        · intro s hs
          rcases List.mem_append.mp hs with h | h
          · exact hfs s h
          · rw [List.mem_singleton.mp h]
            exact hsS
        · rw [run_snoc, hrun]
        · rw [List.length_append, List.length_singleton]
          omega
    · rintro σ H4 ⟨ll, fs, u, v5, v6, rfl, hfl, s4, hlf4, hll, ell, hfs, hrun, hFu, hcr⟩
      have cu := cr_nn k n u
      exact absurd hcr (by omega)
def spMadeN (K : PySem.W.Frag) : Sp := fun vs H Q _ => ∃ (r : Addr) (k : Nm) (n : Nat) (l : List Int), vs = [.str k.s, .int (n : Int), .ref r] ∧ okK k n = true ∧ SqL K H r (l.map V.int) ∧ (∀ s ∈ l, okS k n s) ∧
  ∀ q H', Same H H' → H q = none → H' q = some (.lst ((run k n (startL k n) l).map V.int)) → Q (.ref q) H'
theorem ok_madeN (T : Tx K mg) (F : FnP K "_law_made" "_law_made" s__law_made f fd) (c_law_start : Gd P w K mg base "_law_start" ["_law_name", "_law_size"] 1 (spStartN K)) (c_law_stepped : Gd P w K mg base "_law_stepped" ["_law_name", "_law_order", "_law_step"] 1 (spSteppedN K)) : FnOk P w K mg base CX0 2 f fd ["_law_name", "_law_size", "_law_row_here"] (spMadeN K) := by
  refine okN F sc__law_made (fun vs H Q E h => ?_) (fun cdv A outer s H vs Q E hr h => ?_)
  · obtain ⟨r, k, n, l, rfl, _⟩ := h
    rfl
  · obtain ⟨r, k, n, l, rfl, hK, hR, hl, q⟩ := h
    have hn := okK_le hK
    refine ⟨_, (pss_cons (ps_set (i := 3) sc__law_made.nd rfl (by first | exact Or.inl rfl | exact Or.inr rfl) (pe_callG c_law_start (hr.mono (by decide)) (by rfl) (pa_cons (pv 0) (pa_cons (pv 1) pa_nil))))
      (pss_cons (ps_for PassesOwn.never rfl (pi_list (pv 2)) (pg_name (i := 4) sc__law_made.nd rfl (Or.inl rfl)) (pss_one (ps_set (i := 3) sc__law_made.nd rfl (by first | exact Or.inl rfl | exact Or.inr rfl) (pe_callG c_law_stepped (hr.mono (by decide)) (by rfl) (pa_cons (pv 0) (pa_cons (pv 3) (pa_cons (pv 4) pa_nil)))))))
      (pss_one (ps_ret (pv 3))))), ?_⟩
    refine ⟨_, rfl, _, rfl, k, n, rfl, by omega, fun a H1 s1 na ha => ?_⟩
    refine ⟨_, rfl, r, rfl, ⟨_, s1.seq hR⟩, ?_⟩
    refine for_list (K := K) (a := r) (xs := l.map V.int) (fun i σ H2 => ∃ (fo : Addr) (v : Option V), σ = [some (.str k.s), some (.int (n : Int)), some (.ref r), some (.ref fo), v] ∧ H fo = none ∧ H2 fo = some (.lst ((run k n (startL k n) (l.take i)).map V.int)) ∧ Same H H2)
      ⟨a, none, rfl, na, ha, s1⟩ (fun i σ H2 _ h2 => by obtain ⟨_, _, _, _, _, s2⟩ := h2; exact s2.seq hR) ?_ ?_
    · rintro i x σ H2 hi ⟨fo, v, rfl, nf, hF, s2⟩
      obtain ⟨hj, rfl⟩ := at_map hi
      refine ⟨_, rfl, _, rfl, _, rfl, fo, k, n, _, _, rfl, ⟨SqL.of hF, run_len (startL_len _ _), hK⟩, hl _ (mem_getD hj), fun q2 H3 s3 nq hq3 => ?_⟩
      refine ⟨q2, _, rfl, s2.free nq, ?_, s2.trans s3⟩
      rw [run_takeN hj]
      exact hq3
    · rintro σ H2 ⟨fo, v, rfl, nf, hF, s2⟩
      rw [List.length_map, List.take_of_length_le (Nat.le_refl _)] at hF
      exact ⟨_, rfl, q fo H2 s2 nf hF⟩
def spGreedyN (K : PySem.W.Frag) : Sp := fun vs H Q _ => ∃ (o u : Addr) (k : Nm) (n : Nat) (ws us : List Int), vs = [.str k.s, .ref o, .ref u] ∧ OO K H o k n ws ∧ OO K H u k n us ∧ Form k n ws ∧ Form k n us ∧ crP k n us ≤ 500 ∧
  ∀ q H', Same H H' → H q = none → H' q = some (.lst ((dem k n ws us).map V.int)) → Q (.ref q) H'
def spBeneathN (K : PySem.W.Frag) : Sp := fun vs H Q _ => ∃ (o u : Addr) (k : Nm) (n : Nat) (ws us : List Int), vs = [.str k.s, .ref o, .ref u] ∧ OO K H o k n ws ∧ OO K H u k n us ∧ Form k n ws ∧ Form k n us ∧ crP k n us ≤ 500 ∧
  ∀ (b : Bool) H', Same H H' → (b = true ↔ Beneath k n ws us) → Q (.bl b) H'
def spOrderN (K : PySem.W.Frag) : Sp := fun vs H Q _ => ∃ (g : Addr) (a b c : Int) (k : Nm) (n m : Nat), vs = [.ref g, .str k.s, .int (n : Int), .int (m : Int)] ∧ GenAt H g a b c ∧ (0 ≤ c ∧ c ≤ 800000) ∧ okK k n = true ∧ m ≤ 1000 ∧
  ∀ (q : Addr) (ws : List Int) (a' c' : Int) (H' : Hp), Form k n ws → crP k n ws ≤ (m : Int) → 0 ≤ c' → c' ≤ c + 1 + m → GenAt H' g a' b c' → SameX g H H' → H q = none → q ≠ g → H' q = some (.lst (ws.map V.int)) → Q (.ref q) H'
end
end Sv

namespace Sv
open PySem PySem.Spec PyProof.Rows L2
theorem ne_self (xs : List Int) : ¬ ((!PyData.eqv (.list (xs.map PyData.int)) (.list (xs.map PyData.int))) = true) := by rw [eqv_l]; simp
theorem dem_cr {k : Nm} {n : Nat} {u v : List Int} (hK : okK k n = true) (hu : Form k n u) (hv : Form k n v) : crP k n (dem k n u v) ≤ crP k n u + crP k n v := by
  obtain ⟨l, hl⟩ := least_of hK hv
  rw [← dem_eq hK hu hl, ← hl.2.2]
  exact gains_crN hK hl.1 hu
theorem inv_cr {k : Nm} {n : Nat} {u : List Int} (hK : okK k n = true) (hu : Form k n u) : crP k n (invP k n u) = crP k n u := cr_inv hK (form_ord hK hu)
def LstsAt (H : Hp) (g L : Addr) : List Addr → List (List Int) → Prop
  | [], [] => True
  | o :: os, ws :: wss => (H o = some (.lst (ws.map V.int)) ∧ o ≠ g ∧ o ≠ L) ∧ LstsAt H g L os wss
  | _, _ => False
theorem LstsAt.keepX {H H' : Hp} {g L : Addr} (e : SameX g H H') : ∀ {os : List Addr} {wss : List (List Int)}, LstsAt H g L os wss → LstsAt H' g L os wss
  | [], [], _ => trivial
  | o :: os, ws :: wss, h => ⟨⟨e _ _ h.1.1 h.1.2.1, h.1.2⟩, LstsAt.keepX e h.2⟩
theorem LstsAt.upd {H : Hp} {g L : Addr} {x : HO} : ∀ {os : List Addr} {wss : List (List Int)}, LstsAt H g L os wss → LstsAt (L2.upd H L x) g L os wss
  | [], [], _ => trivial
  | o :: os, ws :: wss, h => ⟨⟨by rw [upd_ne h.1.2.2]; exact h.1.1, h.1.2⟩, LstsAt.upd h.2⟩
theorem LstsAt.snoc {H : Hp} {g L o : Addr} {ws : List Int} (ho : H o = some (.lst (ws.map V.int))) (hg : o ≠ g ∧ o ≠ L) : ∀ {os : List Addr} {wss : List (List Int)}, LstsAt H g L os wss → LstsAt H g L (os ++ [o]) (wss ++ [ws])
  | [], [], _ => ⟨⟨ho, hg⟩, trivial⟩
  | u :: os, us :: wss, h => ⟨h.1, LstsAt.snoc ho hg h.2⟩
theorem push_ref (H : Hp) (D : Addr) (os : List Addr) (o : Addr) : L2.upd H D (.lst (os.map V.ref ++ [.ref o])) D = some (.lst ((os ++ [o]).map V.ref)) := by
  rw [upd_same, List.map_append]
  rfl
theorem three {os : List Addr} {wss : List (List Int)} {H : Hp} {g L : Addr} (hl : os.length = 3) (h : LstsAt H g L os wss) : ∃ o1 o2 o3 w1 w2 w3, os = [o1, o2, o3] ∧ wss = [w1, w2, w3] ∧ (H o1 = some (.lst (w1.map V.int)) ∧ o1 ≠ g) ∧ (H o2 = some (.lst (w2.map V.int)) ∧ o2 ≠ g) ∧ (H o3 = some (.lst (w3.map V.int)) ∧ o3 ≠ g) := by
  match os, wss, hl, h with
  | [o1, o2, o3], [w1, w2, w3], _, h => exact ⟨o1, o2, o3, w1, w2, w3, rfl, rfl, ⟨h.1.1, h.1.2.1⟩, ⟨h.2.1.1, h.2.1.2.1⟩, ⟨h.2.2.1.1, h.2.2.1.2.1⟩⟩
theorem LstsAt.updg {H : Hp} {g L : Addr} {x : HO} : ∀ {os : List Addr} {wss : List (List Int)}, LstsAt H g L os wss → LstsAt (L2.upd H g x) g L os wss
  | [], [], _ => trivial
  | o :: os, ws :: wss, h => ⟨⟨by rw [upd_ne h.1.2.1]; exact h.1.1, h.1.2⟩, LstsAt.updg h.2⟩
theorem LstsAt.keep {H H' : Hp} {g L : Addr} (e : Same H H') : ∀ {os : List Addr} {wss : List (List Int)}, LstsAt H g L os wss → LstsAt H' g L os wss
  | [], [], _ => trivial
  | o :: os, ws :: wss, h => ⟨⟨e _ _ h.1.1, h.1.2⟩, LstsAt.keep e h.2⟩
def FList (H : Hp) : List Addr → List (List Int) → Prop
  | [], [] => True
  | o :: os, ws :: wss => H o = some (.lst (ws.map V.int)) ∧ FList H os wss
  | _, _ => False
theorem FList.keep {H H' : Hp} (e : Same H H') : ∀ {os : List Addr} {wss : List (List Int)}, FList H os wss → FList H' os wss
  | [], [], _ => trivial
  | o :: os, ws :: wss, h => ⟨e _ _ h.1, FList.keep e h.2⟩
theorem FList.len {H : Hp} : ∀ {os : List Addr} {wss : List (List Int)}, FList H os wss → os.length = wss.length
  | [], [], _ => rfl
  | o :: os, ws :: wss, h => congrArg (· + 1) h.2.len
theorem FList.get {H : Hp} : ∀ {os : List Addr} {wss : List (List Int)} {i : Nat} {x : V}, FList H os wss → (os.map V.ref)[i]? = some x → ∃ o ws, x = .ref o ∧ wss[i]? = some ws ∧ H o = some (.lst (ws.map V.int))
  | [], [], i, x, _, e => by simp at e
  | o :: os, ws :: wss, 0, x, h, e => ⟨o, ws, (Option.some.inj e).symm, rfl, h.1⟩
  | o :: os, ws :: wss, i + 1, x, h, e => FList.get (os := os) (wss := wss) (i := i) h.2 e
theorem FList.append {H : Hp} {ps : List Addr} {vss : List (List Int)} (g : FList H ps vss) : ∀ {os : List Addr} {wss : List (List Int)}, FList H os wss → FList H (os ++ ps) (wss ++ vss)
  | [], [], _ => g
  | o :: os, ws :: wss, h => ⟨h.1, FList.append g h.2⟩
theorem LstsAt.fl {H : Hp} {g L : Addr} : ∀ {os : List Addr} {wss : List (List Int)}, LstsAt H g L os wss → FList H os wss
  | [], [], _ => trivial
  | o :: os, ws :: wss, h => ⟨h.1.1, LstsAt.fl h.2⟩
theorem putK_len {κ : Type} [DecidableEq κ] (kvs : List (κ × V)) (k : κ) (v : V) : (putK kvs k v).length ≤ kvs.length + 1 := by
  unfold putK
  split
  · rw [List.length_map]
    omega
  · rw [List.length_append]
    exact Nat.le_refl _
def keyL (ws : List Int) : List L2.Key := ws.map Sum.inl
theorem keyL_inj {a b : List Int} : keyL a = keyL b ↔ a = b := by
  refine ⟨fun h => ?_, fun h => by rw [h]⟩
  unfold keyL at h
  exact (List.map_inj_right (fun x y e => Sum.inl.inj e)).mp h
theorem keyL_V (ws : List Int) : (keyL ws).map kV = ws.map V.int := by
  unfold keyL
  rw [List.map_map]
  rfl
theorem cr_zero {k : Nm} {n : Nat} {ws : List Int} (hK : okK k n = true) (hF : Form k n ws) (h : crP k n ws ≤ 0) : ws = startL k n := by
  obtain ⟨l, hl, e, c⟩ := least_of hK hF
  have : l = [] := List.length_eq_zero_iff.mp (by have := cr_nn k n ws; omega)
  subst this
  exact e.symm
/-- the orders of i crossings -/
def Lvl (k : Nm) (n i : Nat) (vss : List (List Int)) : Prop := (∀ ws ∈ vss, Form k n ws ∧ crP k n ws = (i : Int)) ∧ ∀ ws, Form k n ws → crP k n ws = (i : Int) → ws ∈ vss
def Upto (k : Nm) (n i : Nat) (wss : List (List Int)) : Prop := (∀ ws ∈ wss, Form k n ws ∧ crP k n ws ≤ (i : Int)) ∧ ∀ ws, Form k n ws → crP k n ws ≤ (i : Int) → ws ∈ wss
theorem lvl_next {k : Nm} {n i : Nat} {vss uss : List (List Int)} (hK : okK k n = true) (h : Lvl k n i vss) (hu : ∀ ws ∈ uss, Form k n ws ∧ crP k n ws = ((i + 1 : Nat) : Int)) (hc : ∀ v ∈ vss, ∀ s, okS k n s → ¬ crossed k n v s = true → stepped k n v s ∈ uss) : Lvl k n (i + 1) uss := by
  refine ⟨hu, fun ws hF hcr => ?_⟩
  have hne : fallsP k n ws ≠ [] := fun e => by
    have := falls_nil hK hF e
    rw [this, cr_start hK] at hcr
    omega
  have hpos : 0 < (fallsP k n ws).length := List.length_pos_iff.mpr hne
  obtain ⟨hs, hx⟩ := (mem_fallsP hK hF.1).mp (mem_getD (w := fallsP k n ws) (i := 0) hpos)
  generalize (fallsP k n ws).getD 0 0 = s at hs hx
  have st := cr_stepI hK hs hF
  rw [if_pos hx] at st
  have back := step_step hK hs hF.1
  have st2 := cr_stepI hK hs st.2
  rw [back] at st2
  have hn : ¬ crossed k n (stepped k n ws s) s = true := fun z => by
    have := st2.1
    rw [if_pos z] at this
    omega
  have := hc _ (h.2 _ st.2 (by omega)) s hs hn
  rw [back] at this
  exact this
theorem upto_next {k : Nm} {n i : Nat} {wss uss : List (List Int)} (h : Upto k n i wss) (g : Lvl k n (i + 1) uss) : Upto k n (i + 1) (wss ++ uss) := by
  refine ⟨fun ws hw => ?_, fun ws hF hc => ?_⟩
  · rcases List.mem_append.mp hw with x | x
    · have := h.1 ws x
      exact ⟨this.1, by omega⟩
    · have := g.1 ws x
      exact ⟨this.1, by omega⟩
  · by_cases hi : crP k n ws ≤ (i : Int)
    · exact List.mem_append_left _ (h.2 ws hF hi)
    · exact List.mem_append_right _ (g.2 ws hF (by omega))
section
variable {P : Program} {w : World} {K : PySem.W.Frag} {mg : Str → Option Value} {base : Heap} {f C D : Addr} {fd : FuncData}
def spKindS : Sp := fun vs H Q _ => ∃ (g : Addr) (a b c : Int), vs = [.ref g] ∧ GenAt H g a b c ∧ (0 ≤ c ∧ c ≤ 900000) ∧
  ∀ (t : Addr) (k : Nm) (n : Nat) (a' c' : Int) (H' : Hp), okK k n = true → many k n ≤ 4 → 0 ≤ c' → c' ≤ c + 6 → GenAt H' g a' b c' → SameX g H H' → H t = none → t ≠ g → H' t = some (.tup [.str k.s, .int (n : Int)]) → Q (.ref t) H'
def spAllN (K : PySem.W.Frag) : Sp := fun vs H Q _ => ∃ (k : Nm) (n m : Nat), vs = [.str k.s, .int (n : Int), .int (m : Int)] ∧ okK k n = true ∧ many k n ≤ 4 ∧ m ≤ 4 ∧
  ∀ (q : Addr) (os : List Addr) (wss : List (List Int)) (H' : Hp), Same H H' → H q = none → H' q = some (.lst (os.map V.ref)) → FList H' os wss → Upto k n m wss → os.length ≤ 512 → Q (.ref q) H'
end
end Sv

namespace Sv
open PySem PySem.Spec PyProof.Rows L2
/-- what is left of an order behind one that begins it; ahead of one that ends it -/
abbrev restB (k : Nm) (n : Nat) (ws us : List Int) : List Int := prodP k n (invP k n ws) us
abbrev restA (k : Nm) (n : Nat) (ws us : List Int) : List Int := prodP k n us (invP k n ws)
theorem prodP_len (k : Nm) (n : Nat) (ws us : List Int) : (prodP k n ws us).length = us.length := by
  unfold prodP
  rw [List.length_map]
section
variable {P : Program} {w : World} {K : PySem.W.Frag} {mg : Str → Option Value} {base : Heap} {f C D : Addr} {fd : FuncData}
def spRest (K : PySem.W.Frag) (C : Addr) (g : Nm → Nat → List Int → List Int → List Int) : Sp := fun vs H Q _ => ∃ (p o u : Addr) (k : Nm) (n : Nat) (ws us : List Int), vs = [.ref p, .ref o, .ref u] ∧ KO K C H p o k n ws ∧ SqL K H u (us.map V.int) ∧ Form k n ws ∧ Form k n us ∧
  ∀ v H', Same H H' → (crP k n ws + crP k n (g k n ws us) = crP k n us → ∃ q, v = .ref q ∧ H q = none ∧ H' q = some (.lst ((g k n ws us).map V.int))) → (¬ crP k n ws + crP k n (g k n ws us) = crP k n us → v = .non) → Q v H'
theorem ok_rest_of (T : Tk K w mg C D) (F : FnP K "rest_of" "rest_of" s_rest_of f fd) (c_opposite_of : Gd P w K mg base "opposite_of" ["kind", "order"] 2 (spOpp K C)) (c_product_of : Gd P w K mg base "product_of" ["kind", "one", "other"] 3 (spProd K C)) (c_count_crossings : Gd P w K mg base "count_crossings" ["kind", "order"] 2 (spCount K C)) : FnOk P w K mg base CX0 4 f fd ["kind", "one", "other"] (spRest K C restB) := by
  refine okN F sc_rest_of (fun vs H Q E h => ?_) (fun cdv A outer s H vs Q E hr h => ?_)
  · obtain ⟨p, o, u, k, n, ws, us, rfl, _⟩ := h
    rfl
  · obtain ⟨p, o, u, k, n, ws, us, rfl, hh, hU, hF, hFu, q⟩ := h
    have hn := okK_le hh.ok
    have FI := inv_form hh.ok hF
    refine ⟨_, (pss_cons (ps_set (i := 3) sc_rest_of.nd rfl (by first | exact Or.inl rfl | exact Or.inr rfl) (pe_callG c_product_of (hr.mono (by decide)) (by rfl) (pa_cons (pv 0) (pa_cons (pe_callG c_opposite_of (hr.mono (by decide)) (by rfl) (pa_cons (pv 0) (pa_cons (pv 1) pa_nil))) (pa_cons (pv 2) pa_nil)))))
      (pss_cons (ps_set (i := 4) sc_rest_of.nd rfl (by first | exact Or.inl rfl | exact Or.inr rfl) (pe_op op_add (pe_callG c_count_crossings (hr.mono (by decide)) (by rfl) (pa_cons (pv 0) (pa_cons (pv 1) pa_nil))) (pe_callG c_count_crossings (hr.mono (by decide)) (by rfl) (pa_cons (pv 0) (pa_cons (pv 3) pa_nil)))))
      (pss_one (ps_ret (pe_ifExp (pt_cmpR op_eq (pv 4) (pe_callG c_count_crossings (hr.mono (by decide)) (by rfl) (pa_cons (pv 0) (pa_cons (pv 2) pa_nil))) (nomark _)) (pv 3) pe_non))))), ?_⟩
    refine ⟨_, rfl, _, rfl, _, rfl, p, o, k, n, ws, rfl, hh, hF, fun a H1 s1 na ha => ?_⟩
    refine ⟨_, rfl, p, a, u, k, n, _, us, rfl, ⟨hh.kat.keep s1, SqL.of ha, FI.1, hh.ok⟩, s1.seq hU, by rw [hFu.1]; omega, form_okQ hFu, fun b H2 s2 nb hb => ?_⟩
    have s12 := s1.trans s2
    have hbl : (restB k n ws us).length = n := by rw [prodP_len, hFu.1]
    have kb : ∀ {Hx : Hp}, Same H2 Hx → KO K C Hx p b k n (restB k n ws us) := fun e => ⟨hh.kat.keep (s12.trans e), SqL.of (e _ _ hb), hbl, hh.ok⟩
    refine ⟨_, rfl, _, rfl, p, o, k, n, ws, rfl, hh.keep s12, fun H3 s3 => ?_⟩
    refine ⟨_, rfl, _, rfl, p, b, k, n, _, rfl, kb s3, fun H4 s4 => ⟨_, _, rfl, rfl, ?_⟩⟩
    have s14 := (s12.trans s3).trans s4
    refine ⟨_, rfl, _, rfl, _, rfl, p, u, k, n, us, rfl, ⟨hh.kat.keep s14, s14.seq hU, hFu.1, hh.ok⟩, fun H5 s5 => ⟨rfl, _, rfl, ite2 (fun hc => ?_) (fun hc => ?_)⟩⟩
    · have e : crP k n ws + crP k n (restB k n ws us) = crP k n us := V.int.inj (of_decide_eq_true hc)
      exact ⟨_, rfl, q _ H5 (s14.trans s5) (fun _ => ⟨b, rfl, s1.free nb, ((s3.trans s4).trans s5) _ _ hb⟩) fun h => absurd e h⟩
    · have e : ¬ crP k n ws + crP k n (restB k n ws us) = crP k n us := fun z => hc (decide_eq_true (congrArg V.int z))
      exact q _ H5 (s14.trans s5) (fun h => absurd h e) fun _ => rfl
theorem ok_rest_ahead_of (T : Tk K w mg C D) (F : FnP K "rest_ahead_of" "rest_ahead_of" s_rest_ahead_of f fd) (c_opposite_of : Gd P w K mg base "opposite_of" ["kind", "order"] 2 (spOpp K C)) (c_product_of : Gd P w K mg base "product_of" ["kind", "one", "other"] 3 (spProd K C)) (c_count_crossings : Gd P w K mg base "count_crossings" ["kind", "order"] 2 (spCount K C)) : FnOk P w K mg base CX0 4 f fd ["kind", "one", "other"] (spRest K C restA) := by
  refine okN F sc_rest_ahead_of (fun vs H Q E h => ?_) (fun cdv A outer s H vs Q E hr h => ?_)
  · obtain ⟨p, o, u, k, n, ws, us, rfl, _⟩ := h
    rfl
  · obtain ⟨p, o, u, k, n, ws, us, rfl, hh, hU, hF, hFu, q⟩ := h
    have hn := okK_le hh.ok
    have FI := inv_form hh.ok hF
    refine ⟨_, (pss_cons (ps_set (i := 3) sc_rest_ahead_of.nd rfl (by first | exact Or.inl rfl | exact Or.inr rfl) (pe_callG c_product_of (hr.mono (by decide)) (by rfl) (pa_cons (pv 0) (pa_cons (pv 2) (pa_cons (pe_callG c_opposite_of (hr.mono (by decide)) (by rfl) (pa_cons (pv 0) (pa_cons (pv 1) pa_nil))) pa_nil)))))
      (pss_cons (ps_set (i := 4) sc_rest_ahead_of.nd rfl (by first | exact Or.inl rfl | exact Or.inr rfl) (pe_op op_add (pe_callG c_count_crossings (hr.mono (by decide)) (by rfl) (pa_cons (pv 0) (pa_cons (pv 3) pa_nil))) (pe_callG c_count_crossings (hr.mono (by decide)) (by rfl) (pa_cons (pv 0) (pa_cons (pv 1) pa_nil)))))
      (pss_one (ps_ret (pe_ifExp (pt_cmpR op_eq (pv 4) (pe_callG c_count_crossings (hr.mono (by decide)) (by rfl) (pa_cons (pv 0) (pa_cons (pv 2) pa_nil))) (nomark _)) (pv 3) pe_non))))), ?_⟩
    refine ⟨_, rfl, _, rfl, _, rfl, _, rfl, p, o, k, n, ws, rfl, hh, hF, fun a H1 s1 na ha => ?_⟩
    refine ⟨p, u, a, k, n, us, _, rfl, ⟨hh.kat.keep s1, s1.seq hU, hFu.1, hh.ok⟩, SqL.of ha, by rw [FI.1]; omega, form_okQ FI, fun b H2 s2 nb hb => ?_⟩
    have s12 := s1.trans s2
    have hbl : (restA k n ws us).length = n := by rw [prodP_len, FI.1]
    have kb : ∀ {Hx : Hp}, Same H2 Hx → KO K C Hx p b k n (restA k n ws us) := fun e => ⟨hh.kat.keep (s12.trans e), SqL.of (e _ _ hb), hbl, hh.ok⟩
    refine ⟨_, rfl, _, rfl, p, b, k, n, _, rfl, kb (Same.refl H2), fun H3 s3 => ?_⟩
    refine ⟨_, rfl, _, rfl, p, o, k, n, ws, rfl, hh.keep (s12.trans s3), fun H4 s4 => ⟨_, _, rfl, rfl, ?_⟩⟩
    have s14 := (s12.trans s3).trans s4
    refine ⟨_, rfl, _, rfl, _, rfl, p, u, k, n, us, rfl, ⟨hh.kat.keep s14, s14.seq hU, hFu.1, hh.ok⟩, fun H5 s5 => ⟨rfl, _, rfl, ite2 (fun hc => ?_) (fun hc => ?_)⟩⟩
    · have e : crP k n (restA k n ws us) + crP k n ws = crP k n us := V.int.inj (of_decide_eq_true hc)
      exact ⟨_, rfl, q _ H5 (s14.trans s5) (fun _ => ⟨b, rfl, s1.free nb, ((s3.trans s4).trans s5) _ _ hb⟩) fun h => absurd (by rw [Int.add_comm]; exact e) h⟩
    · have e : ¬ crP k n (restA k n ws us) + crP k n ws = crP k n us := fun z => hc (decide_eq_true (congrArg V.int z))
      exact q _ H5 (s14.trans s5) (fun h => absurd (by rw [Int.add_comm]; exact h) e) fun _ => rfl
end
end Sv

namespace Sv
open PySem PySem.Spec PyProof.Rows L2
section
variable {P : Program} {w : World} {K : PySem.W.Frag} {mg : Str → Option Value} {base : Heap} {f C D : Addr} {fd : FuncData}
def spBegins (K : PySem.W.Frag) (C : Addr) (g : Nm → Nat → List Int → List Int → List Int) : Sp := fun vs H Q _ => ∃ (p o u : Addr) (k : Nm) (n : Nat) (ws us : List Int), vs = [.ref p, .ref o, .ref u] ∧ KO K C H p o k n ws ∧ SqL K H u (us.map V.int) ∧ Form k n ws ∧ crP k n ws ≤ 60 ∧ Form k n us ∧ crP k n us ≤ 60 ∧
  ∀ H', Same H H' → Q (.bl (decide (crP k n ws + crP k n (g k n ws us) = crP k n us))) H'
theorem ok_begins (T : Tk K w mg C D) (F : FnP K "begins" "begins" s_begins f fd) (c_check_orders : Rd P w K mg base "check_orders" 5 (spCkOn K C)) (c_rest_of : Gd P w K mg base "rest_of" ["kind", "one", "other"] 4 (spRest K C restB)) : FnOk P w K mg base CX0 6 f fd ["kind", "one", "other"] (spBegins K C restB) := by
  refine okN F sc_begins (fun vs H Q E h => ?_) (fun cdv A outer s H vs Q E hr h => ?_)
  · obtain ⟨p, o, u, k, n, ws, us, rfl, _⟩ := h
    rfl
  · obtain ⟨p, o, u, k, n, ws, us, rfl, hh, hU, hF, h6, hFu, h6u, q⟩ := h
    refine ⟨_, (pss_cons (ps_expr (pe_callRG c_check_orders (hr.mono (by decide)) (by rfl) (pa_cons (pv 0) (pa_cons (pv 1) (pa_cons (pv 2) pa_nil)))))
      (pss_one (ps_ret (pe_cmpR op_notN (pe_callG c_rest_of (hr.mono (by decide)) (by rfl) (pa_cons (pv 0) (pa_cons (pv 1) (pa_cons (pv 2) pa_nil)))) pe_non (nomark _))))), ?_⟩
    refine ⟨_, rfl, _, rfl, _, rfl, p, [o, u], k, n, [ws, us], rfl, (by simp), hh.kat, hh.ok, ⟨hh.ord, hU, trivial⟩, fun x hx => ?_, fun H1 s1 => ?_⟩
    · rcases List.mem_cons.mp hx with rfl | hx
      · exact ⟨hF, h6⟩
      · rw [List.mem_singleton.mp hx]
        exact ⟨hFu, h6u⟩
    refine ⟨_, rfl, _, rfl, _, rfl, p, o, u, k, n, ws, us, rfl, hh.keep s1, s1.seq hU, hF, hFu, fun v H2 s2 e1 e2 => ?_⟩
    by_cases hc : crP k n ws + crP k n (restB k n ws us) = crP k n us
    · obtain ⟨b, rfl, _, _⟩ := e1 hc
      exact ⟨rfl, qB (q H2 (s1.trans s2)) (by rw [decide_eq_true hc]; rfl)⟩
    · cases e2 hc
      exact ⟨rfl, qB (q H2 (s1.trans s2)) (by rw [decide_eq_false hc]; rfl)⟩
theorem ok_ends (T : Tk K w mg C D) (F : FnP K "ends" "ends" s_ends f fd) (c_check_orders : Rd P w K mg base "check_orders" 5 (spCkOn K C)) (c_rest_ahead_of : Gd P w K mg base "rest_ahead_of" ["kind", "one", "other"] 4 (spRest K C restA)) : FnOk P w K mg base CX0 6 f fd ["kind", "one", "other"] (spBegins K C restA) := by
  refine okN F sc_ends (fun vs H Q E h => ?_) (fun cdv A outer s H vs Q E hr h => ?_)
  · obtain ⟨p, o, u, k, n, ws, us, rfl, _⟩ := h
    rfl
  · obtain ⟨p, o, u, k, n, ws, us, rfl, hh, hU, hF, h6, hFu, h6u, q⟩ := h
    refine ⟨_, (pss_cons (ps_expr (pe_callRG c_check_orders (hr.mono (by decide)) (by rfl) (pa_cons (pv 0) (pa_cons (pv 1) (pa_cons (pv 2) pa_nil)))))
      (pss_one (ps_ret (pe_cmpR op_notN (pe_callG c_rest_ahead_of (hr.mono (by decide)) (by rfl) (pa_cons (pv 0) (pa_cons (pv 1) (pa_cons (pv 2) pa_nil)))) pe_non (nomark _))))), ?_⟩
    refine ⟨_, rfl, _, rfl, _, rfl, p, [o, u], k, n, [ws, us], rfl, (by simp), hh.kat, hh.ok, ⟨hh.ord, hU, trivial⟩, fun x hx => ?_, fun H1 s1 => ?_⟩
    · rcases List.mem_cons.mp hx with rfl | hx
      · exact ⟨hF, h6⟩
      · rw [List.mem_singleton.mp hx]
        exact ⟨hFu, h6u⟩
    refine ⟨_, rfl, _, rfl, _, rfl, p, o, u, k, n, ws, us, rfl, hh.keep s1, s1.seq hU, hF, hFu, fun v H2 s2 e1 e2 => ?_⟩
    by_cases hc : crP k n ws + crP k n (restA k n ws us) = crP k n us
    · obtain ⟨b, rfl, _, _⟩ := e1 hc
      exact ⟨rfl, qB (q H2 (s1.trans s2)) (by rw [decide_eq_true hc]; rfl)⟩
    · cases e2 hc
      exact ⟨rfl, qB (q H2 (s1.trans s2)) (by rw [decide_eq_false hc]; rfl)⟩
end
end Sv

namespace Sv
open PySem PySem.Spec PyProof.Rows L2
section
variable {P : Program} {w : World} {K : PySem.W.Frag} {mg : Str → Option Value} {base : Heap} {f C D : Addr} {fd : FuncData}
/-- two orders of one kind, as the calls let them -/
structure TwoO (K : PySem.W.Frag) (C : Addr) (H : Hp) (p o u : Addr) (k : Nm) (n : Nat) (ws us : List Int) : Prop where
  ko : KO K C H p o k n ws
  ord2 : SqL K H u (us.map V.int)
  form1 : Form k n ws
  form2 : Form k n us
  cr1 : crP k n ws ≤ 60
  cr2 : crP k n us ≤ 60
theorem TwoO.keep {H H' : Hp} {p o u : Addr} {k : Nm} {n : Nat} {ws us : List Int} (h : TwoO K C H p o u k n ws us) (e : Same H H') : TwoO K C H' p o u k n ws us := ⟨h.ko.keep e, e.seq h.ord2, h.form1, h.form2, h.cr1, h.cr2⟩
theorem TwoO.all {H : Hp} {p o u : Addr} {k : Nm} {n : Nat} {ws us : List Int} (h : TwoO K C H p o u k n ws us) : OrdsAt K H [o, u] [ws, us] ∧ ∀ x ∈ [ws, us], Form k n x ∧ crP k n x ≤ 60 :=
  ⟨⟨h.ko.ord, h.ord2, trivial⟩, fun x hx => by
    rcases List.mem_cons.mp hx with rfl | hx
    · exact ⟨h.form1, h.cr1⟩
    · rw [List.mem_singleton.mp hx]
      exact ⟨h.form2, h.cr2⟩⟩
theorem TwoO.ko2 {H : Hp} {p o u : Addr} {k : Nm} {n : Nat} {ws us : List Int} (h : TwoO K C H p o u k n ws us) : KO K C H p u k n us := ⟨h.ko.kat, h.ord2, h.form2.1, h.ko.ok⟩
def spProduct (K : PySem.W.Frag) (C : Addr) : Sp := fun vs H Q _ => ∃ (p o u : Addr) (k : Nm) (n : Nat) (ws us : List Int), vs = [.ref p, .ref o, .ref u] ∧ TwoO K C H p o u k n ws us ∧ ∀ q H', Same H H' → H q = none → H' q = some (.lst ((prodP k n ws us).map V.int)) → Q (.ref q) H'
def spLost (K : PySem.W.Frag) (C : Addr) : Sp := fun vs H Q _ => ∃ (p o u : Addr) (k : Nm) (n : Nat) (ws us : List Int), vs = [.ref p, .ref o, .ref u] ∧ TwoO K C H p o u k n ws us ∧ ∀ H', Same H H' → Q (.int (crP k n ws + crP k n us - crP k n (dem k n ws us))) H'
def spHalves (K : PySem.W.Frag) (C : Addr) : Sp := fun vs H Q _ => ∃ (p o u : Addr) (k : Nm) (n : Nat) (ws us : List Int), vs = [.ref p, .ref o, .ref u] ∧ TwoO K C H p o u k n ws us ∧
  ∀ (q a b : Addr) (H' : Hp), Same H H' → H q = none → H a = none → H b = none → a ≠ b → H' q = some (.tup [.ref a, .ref b]) → H' a = some (.lst ((prodP k n (dem k n ws us) (invP k n us)).map V.int)) → H' b = some (.lst ((prodP k n (invP k n ws) (dem k n ws us)).map V.int)) → Q (.ref q) H'
end
end Sv

/-! One order begins another one: by the crossed pairs of the long row; all small orders, decided. By the verifier. -/
namespace Sv
open PySem L2
/-- the long row, with so many rounds to either side -/
def lineP (k : Nm) (n r : Nat) (w : List Int) : List Int := match k with
  | .pl => w
  | .mi => w.reverse.map (fun x => 0 - x) ++ w
  | .ri => (List.range (2 * r + 1)).flatMap fun (i : Nat) => w.map fun x => x + ((i : Int) - (r : Int)) * (n : Int)
/-- the pairs of a row that stand the wrong way about -/
def prs : List Int → List (Int × Int)
  | [] => []
  | h :: t => ((t.filter fun l => decide (l < h)).map fun l => (l, h)) ++ prs t
def pairsP (k : Nm) (n : Nat) (w : List Int) : List (Int × Int) := prs (lineP k n 7 w)
def leastP (k : Nm) (n : Nat) (w : List Int) : List (Int × Int) := (pairsP k n w).filter fun q => decide (k ≠ .ri) || (decide (0 ≤ q.1) && decide (q.1 < (n : Int)))
def dueP (k : Nm) (n : Nat) (w u : List Int) : Bool := (leastP k n w).all fun q => decide (q ∈ pairsP k n u)
def bgP (k : Nm) (n : Nat) (w u : List Int) : Bool := decide (crP k n w + crP k n (prodP k n (invP k n w) u) = crP k n u)
def enP (k : Nm) (n : Nat) (w u : List Int) : Bool := decide (crP k n w + crP k n (prodP k n u (invP k n w)) = crP k n u)
def ddp : List (List Int) → List (List Int)
  | [] => []
  | x :: xs => if x ∈ ddp xs then ddp xs else x :: ddp xs
def upsP (k : Nm) (n : Nat) (v : List Int) : List (List Int) := ((List.range (many k n).toNat).filter fun (s : Nat) => !crossed k n v (s : Int)).map fun (s : Nat) => stepped k n v (s : Int)
def lvlP (k : Nm) (n : Nat) : Nat → List (List Int)
  | 0 => [startL k n]
  | i + 1 => ddp ((lvlP k n i).flatMap (upsP k n))
def allP (k : Nm) (n : Nat) : List (List Int) := lvlP k n 0 ++ lvlP k n 1 ++ lvlP k n 2 ++ lvlP k n 3 ++ lvlP k n 4
/-- what is asked of two orders, their pairs worked out once -/
def askP (k : Nm) (n : Nat) (ia : List Int) (ca : Int) (ls : List (Int × Int)) (b : List Int) (cb : Int) (ps : List (Int × Int)) : Bool :=
  (ls.all fun q => decide (q ∈ ps)) == decide (ca + crP k n (prodP k n ia b) = cb)
def askAll (k : Nm) (n : Nat) : Bool :=
  (allP k n).all fun a => (allP k n).all fun b => askP k n (invP k n a) (crP k n a) (leastP k n a) b (crP k n b) (leastP k n b)
theorem due_least (k : Nm) (n : Nat) (a b : List Int) : dueP k n a b = (leastP k n a).all fun q => decide (q ∈ leastP k n b) := by
  unfold dueP
  refine Bool.eq_iff_iff.mpr ?_
  rw [List.all_eq_true, List.all_eq_true]
  have h : ∀ q, q ∈ leastP k n a → (decide (q ∈ pairsP k n b) = true ↔ decide (q ∈ leastP k n b) = true) := fun q hq => by
    rw [decide_eq_true_iff, decide_eq_true_iff]
    have hf := (List.mem_filter.mp hq).2
    exact ⟨fun z => List.mem_filter.mpr ⟨z, hf⟩, fun z => (List.mem_filter.mp z).1⟩
  exact ⟨fun z q hq => (h q hq).mp (z q hq), fun z q hq => (h q hq).mpr (z q hq)⟩
def smallK : List (Nm × Nat) := [(.pl, 1), (.pl, 2), (.pl, 3), (.pl, 4), (.pl, 5), (.mi, 1), (.mi, 2), (.mi, 3), (.ri, 2), (.ri, 3), (.ri, 4)]
end Sv

/-! repr of lists: defs that are called while no repr is under way, by the verifier. -/
namespace Sv
open PySem PySem.Spec PyProof.Rows L2
/-- a def's promise, for calls while no repr is under way -/
structure FnG (P : Program) (w : World) (K : PySem.W.Frag) (mg : Str → Option Value) (base : Heap) (k : Nat) (f : Addr) (fd : FuncData) (ps : List Str) (sp : Sp) : Prop where
  len : ∀ vs H Q E, sp vs H Q E → vs.length = ps.length
  go : ∀ (A : Around) (outer : List Env) (s : Shared) (H : Hp) (args : Args) (us : List Value) (vs : List V) (Q : VK) (E : XK), A.guards = some [] → Room k A → Env0 P w K mg base A outer s H → BindsTo s fd args (ps.zip us) → Vals vs us → sp vs H Q E → codeAny (model P w) A (.call (.ref f) args) (CR CX0 outer P w H s Q E) s
section
variable {P : Program} {w : World} {K : PySem.W.Frag} {mg : Str → Option Value} {base : Heap} {x qual : Str} {params : Arguments} {body : List Stmt} {scope : Scope} {dvs : List V} {kws : List (Str × V)} {f : Addr} {fd : FuncData} {N ps : List Str} {k : Nat} {sp : Sp}
theorem okG (F : FunD K x qual params body scope dvs kws f fd) (S : FnScope N ps scope) (len : ∀ vs H Q E, sp vs H Q E → vs.length = ps.length)
    (hb : ∀ (cdv : Value) (A : Around) (outer : List Env) (s : Shared) (H : Hp) (vs : List V) (Q : VK) (E : XK), (A.deeper (envOfC qual scope s.heap.objs.size f cdv)).guards = some [] → Room k (A.deeper (envOfC qual scope s.heap.objs.size f cdv)) → sp vs H Q E →
      ∃ t, PSs (cxOf CX0 P w K mg base N qual scope f cdv A outer s H E).nox body t ∧ t { nx := fun _ H' => Q .non H', rt := Q } (start N vs) H) : FnG P w K mg base (k + 1) f fd ps sp := by
  obtain ⟨oc, od, dV, kV, doc, pm, an, cdv, ct, osl, rfl, lk, hcd, _, _⟩ := F.ex
  refine ⟨len, fun A outer s H args us vs Q E hg hr e0 hbind rv hsp => ?_⟩
  have up : ∀ b o, base.get? b = some o → s.heap.get? b = some o := fun b o e => (e0.bs b o e).1
  have kin := e0.mod.kin.keeps up
  obtain ⟨t, pt, tt⟩ := hb cdv A outer s H vs Q E hg (hr.deeper _) hsp
  have par : ∀ y ∈ ps.zip us, scope.names.lookup y.1 = some .local ∨ (scope.names.lookup y.1 = some .cell ∧ ((cellsFrom (s.heap.objs.size + 1) scope.names []).lookup y.1).isSome = true) := fun y hy =>
    (S.par y.1 (List.of_mem_zip (show (y.1, y.2) ∈ _ from hy)).1).elim .inl fun q => .inr ⟨q, PySem.W.cellsFrom_some _ _ _ (.inl q)⟩
  refine codeAny_call_function hr.depth (kin _ _ lk) rfl S.co S.gen rfl (PySem.W.codeRec_of kin hcd) (hbind _ _ _ _ (wpAny_newFunctionEnv_cells S.kind par fun env he s1 hx => ?_))
  subst he
  refine ⟨(e0.mod.nolimit.keeps up).keeps hx.toInCall.keep, codeAny_func (wpAny_mono (pt.nox.run [] s1 (start N vs) H _ (L2.inv_start S hr.hd e0 (len _ _ _ _ hsp) rv hx) tt) ?_ fun _ _ z => z)⟩
  intro fl s' hs
  match fl, hs with
  | .ret _, ⟨v, _, H', J, rq, q⟩ => exact ⟨v, H', J.os, J.bare, J.base, J.hok, rq, q⟩
  | .next, ⟨_, H', J, q⟩ => exact ⟨.non, H', J.os, J.bare, J.base, J.hok, rfl, q⟩
  | .brk, ⟨_, _, _, q⟩ => exact q.elim
  | .cont, ⟨_, _, _, q⟩ => exact q.elim
end
/-- the module's name x is a def with such a promise -/
structure GdG (P : Program) (w : World) (K : PySem.W.Frag) (mg : Str → Option Value) (base : Heap) (x : Str) (ps : List Str) (k : Nat) (sp : Sp) : Prop where
  ex : ∃ (f : Addr) (fd : FuncData), FnG P w K mg base k f fd ps sp ∧ mg x = some (.ref f) ∧ PySem.W.keepIn K (.ref f) = true ∧ Binds K fd ps []
section
variable {X : Cx} {k : Nat} {ps : List Str} {sp : Sp} {x : Str} {p pos : Pos} {e : Expr} {es : List Expr} {t : TA}
theorem pe_callGG (G : GdG X.prog X.w X.K X.mg X.base x ps k sp) (gs : X.A.guards = some []) (hr : Room k X.A) (hg : Gl X x)
    (ha : PA X (e :: es) t) (hdb : (x == ("__debug__" : Str)) = false := by decide) (he : starEach (e :: es) X.env = (false, eval e X.env) :: starEach es X.env := by rfl) (hpl : (backTo pos (starEach es X.env)).any (·.1) = false := by rfl) :
    PE X (.Call (.Name x p) (e :: es) [] pos) (tCall sp [] E0 t) := by
  obtain ⟨f, fd, F, gm, kp, b⟩ := G.ex
  refine ⟨fun pins s σ H Q I h => wpAny_Call_Name_kw (ld_glob I hg gm (PySem.W.callWith_K (h₀ := X.base) I.ok.mod.kin kp (thn (ha.run pos pins s σ H _ I h) fun us s1 hq => ?_) he hpl) hdb)⟩
  obtain ⟨vs, H1, I1, r, q⟩ := hq
  have q2 : sp (vs ++ []) H1 Q E0 := q
  rw [List.append_nil] at q2
  have hl : (us ++ []).length = ps.length := by
    rw [List.append_nil, ← r.length]
    exact F.len _ _ _ _ q2
  refine ⟨I1.kIn, wpAny_call (codeAny_mono (F.go X.A X.stack s1 H1 ⟨us, []⟩ (us ++ []) vs Q E0 gs hr I1.env0 (b s1 us I1.kIn hl) (by rw [List.append_nil]; exact r) q2) fun res s' hq => ?_)⟩
  match res, hq with
  | .error z, hq => exact pass0 pins σ H1 s1 z s' I1 hq
  | .ok (.ret _), hq => exact I1.after hq
  | .ok .next, hq => exact hq.elim
  | .ok .brk, hq => exact hq.elim
  | .ok .cont, hq => exact hq.elim
/-- repr of a list that is known as a whole -/
theorem call_reprL (gs : X.A.guards = some []) (hr : Room k X.A) : CallR X (.builtin "repr") (fun xs H Q => ∃ a d, xs = [.ref a] ∧ Dp X.K H (.ref a) d ∧ d.showable = true ∧ d.hasDict = false ∧ d.depth ≤ 100 ∧ d.shown.length ≤ sizeLine ∧ Q (.str d.shown) H) := by
  intro pins s σ H xs us Q I r h
  obtain ⟨a, d, rfl, hd, hs, hn, hdp, hl, q⟩ := h
  obtain ⟨u, rfl, hu⟩ := vals1 r
  obtain rfl : u = Value.ref a := hu
  obtain ⟨as, hR⟩ := Dp.reads I d _ _ hd rfl
  refine PySem.repr_of_reads' hR hs (fun z => by rw [hn] at z; cases z) gs (by have := hr.un; omega) (fun b o e => e) (fun h' v tk keep => ⟨.str d.shown, H, I.kept (t' := tk) keep, ⟨v, rfl⟩, q⟩) hl
end
/-- the script's list, as the law's def finds it -/
theorem script_heap {P : Program} {w : World} {K : PySem.W.Frag} {s : Shared} {a : Addr} {vs : List Value} {ns : List Int} (KX : K.In s.heap) (ha : s.heap.get? a = some { cls := .type "list", data := .seq vs.toArray }) (hi : IntsAre vs ns) (hl : ns.length ≤ sizeLine) :
    ∃ H : Hp, (∀ b u, H b = some u → b = a ∧ u = .frz { cls := .type "list", data := .seq vs.toArray } (.lst (ns.map V.int)) ∧ K.lookup a = none) ∧ SqL K H a (ns.map V.int) ∧ HOk P w H s.heap := by
  have rv := vals_ints hi
  by_cases hk : K.lookup a = none
  · refine ⟨fun b => if b = a then some (.frz { cls := .type "list", data := .seq vs.toArray } (.lst (ns.map V.int))) else none, fun b u z => ?_, .inl (.inr ⟨_, if_pos rfl⟩), fun b u z => ?_⟩
    all_goals
      by_cases hb : b = a
      · have e := (if_pos hb).symm.trans z
        cases e
        subst hb
        first
          | exact ⟨rfl, rfl, hk⟩
          | exact ⟨ha, by rw [List.length_map]; exact hl, vs, _, rv, ha⟩
      · have e := (if_neg hb).symm.trans z
        cases e
  · obtain ⟨o, ho⟩ := Option.ne_none_iff_exists'.mp hk
    have e := KX a o ho
    rw [ha] at e
    cases e
    refine ⟨fun _ => none, fun b u z => (by cases (show (none : Option HO) = some u from z)), .inr ⟨_, vs.toArray, _, ho, rfl, rfl, rfl, by rw [List.size_toArray, hi.length]; exact hl, by simpa using rv⟩, fun b u z => (by cases (show (none : Option HO) = some u from z))⟩
theorem lawG {P : Program} {w : World} {K : PySem.W.Frag} {mg mb : Str → Option Value} {k : Nat} {fa a : Addr} {fd : FuncData} {x : Str} {sp : Sp} {s : Shared} {vs : List Value} {ns : List Int}
    (KX : K.In s.heap) (hns : s.heap.Ns mainGlobals mg) (hb : s.heap.Ns builtinsNs mb) (hbb : ∀ x : Str, x ≠ "__name__" → mb x = bootBuiltins x) (hlim : s.heap.NoLimit) (hgn : s.gens = #[]) (ha : s.heap.get? a = some { cls := .type "list", data := .seq vs.toArray })
    (hi : IntsAre vs ns) (hl : ns.length ≤ sizeLine) (hr : Room k callerA) (F : ∀ base : Heap, K.In base → base.Ns mainGlobals mg → FnG P w K mg base k fa fd [x] sp) (hbind : ∀ (s : Shared) (u : Value), BindsTo s fd ⟨[u], []⟩ [(x, u)])
    (hsp : ∀ H : Hp, SqL K H a (ns.map V.int) → sp [.ref a] H (fun v _ => v = .bl true) fun _ _ _ => False) :
    codeAny (model P w) callerA (.call (.ref fa) ⟨[.ref a], []⟩) (fun r s' => r = .ok (.ret (.bool true)) ∧ OldK s.heap s'.heap ∧ s'.os = s.os ∧ AllBare s'.gens) s := by
  obtain ⟨H, hH, hS, hok⟩ := script_heap (P := P) (w := w) KX ha hi hl
  have hid : ∀ {b : Addr} {o : Obj}, s.heap.get? b = some o → b ≠ a → (hidT s.heap H).get? b = some o := fun {b o} e n => hidT_get e (by
    cases q : H b with
    | none => rfl
    | some u => exact absurd (hH b u q).1 n)
  have nsH : ∀ {b : Addr} {m : Str → Option Value}, s.heap.Ns b m → (hidT s.heap H).Ns b m := fun {b m} ⟨o, es, ep, e, d, r⟩ => ⟨o, es, ep, hid e (fun z => by
    subst z
    rw [ha] at e
    cases e
    cases (show Data.seq vs.toArray _ = Data.dict es ep from d)), d, r⟩
  have kinH : K.In (hidT s.heap H) := fun b o e => by
    by_cases z : b = a
    · subst z
      exact hidT_get (KX b o e) (by
        cases q : H b with
        | none => rfl
        | some u => rw [(hH b u q).2.2] at e; cases e)
    · exact hid (KX b o e) z
  have md : Mod K mg (hidT s.heap H) := ⟨kinH, nsH hns, ⟨mb, nsH hb, hbb⟩, hlim.imp fun mc h => ⟨nsH h.1, h.2⟩⟩
  have env : Env0 P w K mg (hidT s.heap H) callerA [] s H := { frames := rfl, mod := md, bs := fun b o e => of_hidT e, bsz := Nat.le_of_eq (hidT_size _ _), funs := trivial, frf := fun b z => (by cases (show b ∈ ([] : List Addr) from z)), hok := hok, bare := .of_eq hgn }
  refine codeAny_mono ((F _ kinH (nsH hns)).go callerA [] s H ⟨[.ref a], []⟩ [.ref a] [.ref a] _ _ rfl hr env (hbind s (.ref a)) (.cons rfl .nil) (hsp H hS)) fun r s' h => ?_
  match r, h with
  | .error _, h => exact h.elim
  | .ok .next, h => exact h.elim
  | .ok .brk, h => exact h.elim
  | .ok .cont, h => exact h.elim
  | .ok (.ret u), ⟨v, H', os, bare, un, hok', rv, q⟩ =>
    have qv : v = .bl true := q
    subst qv
    obtain rfl : u = Value.bool true := rv
    refine ⟨rfl, OldK.of_keep fun b o e => ?_, os, bare⟩
    cases q2 : H b with
    | none => exact un.keep b o e q2 (fun z => by cases (show b ∈ ([] : List Addr) from z)) (by simp)
    | some u =>
      obtain ⟨rfl, rfl, _⟩ := hH b u q2
      have z1 := (hok b _ q2).1
      rw [e] at z1
      cases z1
      exact (hok' b _ (un.frzs b _ _ q2)).1
/-- the goal behind the head, for a law whose defs call repr -/
theorem walkG {l : PySem.W.OpenLaw} {n k : Nat} {q : Program} {loose : List Str} {XP : (Str → Option Value) → Heap → Prop} {YP : World → Heap → Prop} {d : DefRec} {K : Params → PySem.W.Frag} {sp : World → Sp} {x : Str}
    (hn : l.most = some n) (hn2 : n ≤ sizeLine) (hdf : d.params.defaults = []) (hr : Room k callerA) (hY : ∀ (w : World) (h : Heap), YP w h → (K w.params).In h)
    (F : ∀ (w : World) (mg : Str → Option Value) (fa : Addr) (h : Heap), (K w.params).In h → h.Ns mainGlobals mg → mg d.name = some (.ref fa) → ∃ fd : FuncData, (∀ (s : Shared) (u : Value), BindsTo s fd ⟨[u], []⟩ [(x, u)]) ∧ ∀ base : Heap, (K w.params).In base → base.Ns mainGlobals mg → FnG l.prog w (K w.params) mg base k fa fd [x] (sp w))
    (hsp : ∀ (w : World) (H : Hp) (a : Addr) (ns : List Int), ns.length ≤ n → SqL (K w.params) H a (ns.map V.int) → sp w [.ref a] H (fun v _ => v = .bl true) fun _ _ _ => False) :
    PySem.W.WalkO q loose XP YP l.row.toRowW d [] (fun f vs => PySem.call f vs) := by
  refine Att.attach_call hn hdf fun w s₀ s₁ mg mb fa o pm cd doc a vs ns G Y ho hd hcd hmg hobj hints hlen hg => ?_
  obtain ⟨fd, hbd, hF⟩ := F w mg fa _ (hY w _ Y) G.T.g hmg
  exact lawG (hY w _ Y) G.T.g G.T.b G.T.builtins G.T.nolimit hg hobj hints (Nat.le_trans hlen hn2) hr hF hbd fun H hS => hsp w H a ns hlen hS
end Sv

/-! Lists of orders as repr shows them: small enough, by the verifier. -/
namespace Sv
open PySem PySem.Spec PyProof.Rows L2
def dL (w : List Int) : PyData := .list (w.map .int)
theorem intsD : ∀ ns : List Int, (∀ n ∈ ns, n.natAbs < 10 ^ 12) → PyData.leavesShortAll 13 (ns.map .int) = true ∧ PyData.weightAll (ns.map .int) ≤ 41 * ns.length ∧ PyData.depthAll (ns.map .int) = 0 ∧ PyData.showableAll (ns.map .int) = true ∧ PyData.hasDictAll (ns.map .int) = false
  | [], _ => ⟨rfl, Nat.le_refl _, rfl, rfl, rfl⟩
  | n :: r, h => by
    obtain ⟨a, b, c, d, e⟩ := intsD r fun m hm => h m (List.mem_cons_of_mem _ hm)
    have hn := h n (List.mem_cons_self ..)
    have hlog : n.natAbs.log2 < 40 := by
      by_cases z : n.natAbs = 0
      · rw [z]; decide
      · exact (Nat.log2_lt z).mpr (by omega)
    refine ⟨?_, ?_, ?_, ?_, ?_⟩
    · simp only [List.map_cons, PyData.leavesShortAll, PyData.leavesShort, Bool.and_eq_true, decide_eq_true_eq]
      exact ⟨PyData.shown_int_le hn, a⟩
    · simp only [List.map_cons, PyData.weightAll, PyData.weight, List.length_cons]
      split <;> omega
    · simp only [List.map_cons, PyData.depthAll, PyData.depth, c]
      rfl
    · simp only [List.map_cons, PyData.showableAll, PyData.showable, Bool.and_eq_true, decide_eq_true_eq]
      exact ⟨by omega, d⟩
    · simp only [List.map_cons, PyData.hasDictAll, PyData.hasDict, e, Bool.or_false]
theorem listsD : ∀ wss : List (List Int), (∀ w ∈ wss, w.length ≤ 1000 ∧ ∀ n ∈ w, n.natAbs < 10 ^ 12) → PyData.leavesShortAll 13 (wss.map dL) = true ∧ PyData.weightAll (wss.map dL) ≤ 41001 * wss.length ∧ PyData.depthAll (wss.map dL) ≤ 1 ∧ PyData.showableAll (wss.map dL) = true ∧ PyData.hasDictAll (wss.map dL) = false
  | [], _ => ⟨rfl, Nat.le_refl _, Nat.zero_le _, rfl, rfl⟩
  | w :: r, h => by
    obtain ⟨a, b, c, d, e⟩ := listsD r fun m hm => h m (List.mem_cons_of_mem _ hm)
    obtain ⟨hl, hw⟩ := h w (List.mem_cons_self ..)
    obtain ⟨a1, b1, c1, d1, e1⟩ := intsD w hw
    refine ⟨?_, ?_, ?_, ?_, ?_⟩
    · simp only [List.map_cons, PyData.leavesShortAll, dL, PyData.leavesShort, Bool.and_eq_true]
      exact ⟨a1, a⟩
    · simp only [List.map_cons, PyData.weightAll, dL, PyData.weight, List.length_cons] at b ⊢
      omega
    · simp only [List.map_cons, PyData.depthAll, dL, PyData.depth, c1]
      omega
    · simp only [List.map_cons, PyData.showableAll, dL, PyData.showable, Bool.and_eq_true]
      exact ⟨d1, d⟩
    · simp only [List.map_cons, PyData.hasDictAll, dL, PyData.hasDict, e1, e, Bool.or_false]
/-- what the rule for repr asks of a list of orders -/
theorem showLs {wss : List (List Int)} (h : ∀ w ∈ wss, w.length ≤ 1000 ∧ ∀ n ∈ w, n.natAbs < 10 ^ 12) (hl : wss.length ≤ 20) : (PyData.list (wss.map dL)).showable = true ∧ (PyData.list (wss.map dL)).hasDict = false ∧ (PyData.list (wss.map dL)).depth ≤ 100 ∧ (PyData.list (wss.map dL)).shown.length ≤ sizeLine := by
  obtain ⟨a, b, c, d, e⟩ := listsD wss h
  refine ⟨by simpa only [PyData.showable] using d, by simpa only [PyData.hasDict] using e, ?_, PyData.shown_fits (B := 13) (by decide) (by decide) (by simpa only [PyData.leavesShort] using a) ?_⟩
  · simp only [PyData.depth]
    omega
  · simp only [PyData.weight]
    have : (2 : Nat) ^ 20 = 1048576 := by decide
    omega
theorem showL {w : List Int} (h : ∀ n ∈ w, n.natAbs < 10 ^ 12) (hl : w.length ≤ 1000) : (dL w).showable = true ∧ (dL w).hasDict = false ∧ (dL w).depth ≤ 100 ∧ (dL w).shown.length ≤ sizeLine := by
  obtain ⟨a, b, c, d, e⟩ := intsD w h
  refine ⟨by simpa only [dL, PyData.showable] using d, by simpa only [dL, PyData.hasDict] using e, ?_, PyData.shown_fits (B := 13) (by decide) (by decide) (by simpa only [dL, PyData.leavesShort] using a) ?_⟩
  · simp only [dL, PyData.depth, c]
    omega
  · simp only [dL, PyData.weight]
    have : (2 : Nat) ^ 20 = 1048576 := by decide
    omega
/-! how great items can be -/
theorem bnd_after {k : Nm} {n : Nat} {w : List Int} {s : Nat} {B : Nat} (hs : okS k n (s : Int)) (hl : w.length = n) (h : ∀ j, (w.getD j 0).natAbs ≤ B) (j : Nat) : ((after k n w s).getD j 0).natAbs ≤ B + n := by
  obtain ⟨_, h2⟩ := hs
  have hsn : s < n := by unfold many at h2; split at h2 <;> omega
  have h0 := h 0
  have hs0 := h s
  have hs1 := h (s + 1)
  have hsm := h (s - 1)
  have hj := h j
  unfold after exch
  cases k
  · have h1 : s + 1 < n := by unfold many at h2; rw [if_pos rfl] at h2; omega
    simp only [if_true]
    rw [getD_setS _ _ _ _ (by rw [List.length_set]; omega), getD_setS _ _ _ _ (by omega)]
    repeat' split
    all_goals omega
  · by_cases e0 : s = 0
    · subst e0
      simp only [reduceCtorEq, if_false, false_and, if_true]
      rw [getD_setS _ _ _ _ (by omega)]
      split <;> omega
    · simp only [reduceCtorEq, if_false, false_and, if_neg e0]
      rw [getD_setS _ _ _ _ (by rw [List.length_set]; omega), getD_setS _ _ _ _ (by omega)]
      repeat' split
      all_goals omega
  · by_cases e0 : s + 1 = n
    · simp only [reduceCtorEq, if_false, if_pos e0, if_true, true_and]
      rw [getD_setS _ _ _ _ (by rw [List.length_set]; omega), getD_setS _ _ _ _ (by omega)]
      repeat' split
      all_goals omega
    · simp only [reduceCtorEq, if_false, true_and, if_neg e0, if_true]
      rw [getD_setS _ _ _ _ (by rw [List.length_set]; omega), getD_setS _ _ _ _ (by omega)]
      repeat' split
      all_goals omega
theorem bnd_run {k : Nm} {n : Nat} (hK : okK k n = true) : ∀ {l w : List Int} {B : Nat}, (∀ s ∈ l, okS k n s) → w.length = n → (∀ j, (w.getD j 0).natAbs ≤ B) → ∀ j, ((run k n w l).getD j 0).natAbs ≤ B + n * l.length
  | [], w, B, _, _, h, j => Nat.le_trans (h j) (Nat.le_add_right _ _)
  | s :: l, w, B, hs, hl, h, j => by
    obtain ⟨t, rfl⟩ := step_of (hs s (List.mem_cons_self ..))
    have ht := hs (t : Int) (List.mem_cons_self ..)
    have h1 : ∀ j, ((stepped k n w (t : Int)).getD j 0).natAbs ≤ B + n := fun j => by
      rw [← after_eq hK ht hl]
      exact bnd_after ht hl h j
    have := bnd_run hK (l := l) (w := stepped k n w (t : Int)) (B := B + n) (fun s h => hs s (List.mem_cons_of_mem _ h)) (stepped_len _ _ _ _) h1 j
    show ((run k n (stepped k n w (t : Int)) l).getD j 0).natAbs ≤ B + n * (l.length + 1)
    rw [Nat.mul_add, Nat.mul_one]
    omega
theorem bnd_start (k : Nm) (n j : Nat) : ((startL k n).getD j 0).natAbs ≤ n := by
  by_cases h : j < n
  · rw [startL_getD k n j h]
    unfold off
    split <;> omega
  · rw [List.getD_eq_getElem?_getD, List.getElem?_eq_none (by rw [startL_len]; omega)]
    simp
/-- the items of an order made by a short row -/
theorem bnd_made {k : Nm} {n : Nat} {l : List Int} (hK : okK k n = true) (hl : ∀ s ∈ l, okS k n s) (hz : l.length ≤ 1000) : ∀ x ∈ run k n (startL k n) l, x.natAbs < 10 ^ 12 := fun x hx => by
  obtain ⟨j, hj, e⟩ := List.mem_iff_getElem.mp hx
  have h := bnd_run hK hl (startL_len k n) (bnd_start k n) j
  rw [List.getD_eq_getElem?_getD, List.getElem?_eq_getElem hj, Option.getD_some, e] at h
  have hn := okK_le hK
  have : n * l.length ≤ 7 * 1000 := Nat.mul_le_mul hn.2 hz
  omega
end Sv

namespace Sv
open PySem PySem.Spec PyProof.Rows L2
theorem mem_ddp {x : List Int} : ∀ {l : List (List Int)}, x ∈ ddp l ↔ x ∈ l
  | [] => Iff.rfl
  | y :: l => by
    have ih := mem_ddp (x := x) (l := l)
    unfold ddp
    by_cases h : y ∈ ddp l
    · rw [if_pos h, ih, List.mem_cons]
      refine ⟨.inr, fun e => e.elim (fun e => ?_) id⟩
      rw [e]
      exact mem_ddp.mp h
    · rw [if_neg h, List.mem_cons, List.mem_cons, ih]
theorem lvlP_ok {k : Nm} {n : Nat} (hK : okK k n = true) : ∀ i, Lvl k n i (lvlP k n i)
  | 0 => by
    refine ⟨fun ws hw => ?_, fun ws hF hc => ?_⟩
    · rw [List.mem_singleton.mp hw, cr_start hK]
      exact ⟨form_start hK, by omega⟩
    · rw [cr_zero hK hF (by omega)]
      exact List.mem_singleton.mpr rfl
  | i + 1 => by
    have ih := lvlP_ok hK i
    have hmn := many_nn hK
    refine lvl_next hK ih (fun ws hw => ?_) fun v hv s hs hn => ?_
    · obtain ⟨v, hv, h⟩ := List.mem_flatMap.mp (mem_ddp.mp hw)
      obtain ⟨s, h1, rfl⟩ := List.mem_map.mp h
      obtain ⟨h2, h3⟩ := List.mem_filter.mp h1
      have hs : okS k n (s : Int) := ⟨by omega, by have := List.mem_range.mp h2; omega⟩
      obtain ⟨f, c⟩ := ih.1 v hv
      have st := cr_stepI hK hs f
      rw [if_neg (by intro e; rw [e] at h3; cases h3)] at st
      exact ⟨st.2, by omega⟩
    · refine mem_ddp.mpr (List.mem_flatMap.mpr ⟨v, hv, List.mem_map.mpr ⟨s.toNat, List.mem_filter.mpr ⟨List.mem_range.mpr (by have := hs.1; have := hs.2; omega), ?_⟩, ?_⟩⟩)
      · rw [Int.toNat_of_nonneg hs.1, Bool.eq_false_iff.mpr hn]
        rfl
      · rw [Int.toNat_of_nonneg hs.1]
theorem allP_all {k : Nm} {n : Nat} {w : List Int} (hK : okK k n = true) (hF : Form k n w) (h : crP k n w ≤ 4) : w ∈ allP k n := by
  have c := cr_nn k n w
  have e : crP k n w = ((crP k n w).toNat : Int) := by omega
  have m := (lvlP_ok hK (crP k n w).toNat).2 w hF e
  have h5 : (crP k n w).toNat = 0 ∨ (crP k n w).toNat = 1 ∨ (crP k n w).toNat = 2 ∨ (crP k n w).toNat = 3 ∨ (crP k n w).toNat = 4 := by omega
  unfold allP
  simp only [List.mem_append]
  rcases h5 with h | h | h | h | h <;> rw [h] at m <;> simp [m]
theorem due_ok {k : Nm} {n : Nat} (hK : okK k n = true) (h : askAll k n = true) {a b : List Int} (fa : Form k n a) (fb : Form k n b) (ca : crP k n a ≤ 4) (cb : crP k n b ≤ 4) : dueP k n a b = bgP k n a b := by
  have := List.all_eq_true.mp (List.all_eq_true.mp h a (allP_all hK fa ca)) b (allP_all hK fb cb)
  unfold askP at this
  rw [← due_least] at this
  exact eq_of_beq this
theorem prod_inv_eq {k : Nm} {n : Nat} {a b : List Int} (hK : okK k n = true) (fa : Form k n a) (fb : Form k n b) : prodP k n (invP k n b) a = invP k n (prodP k n (invP k n a) b) ∧ Form k n (prodP k n (invP k n a) b) := by
  obtain ⟨la, ha⟩ := least_of hK fa
  obtain ⟨lb, hb⟩ := least_of hK fb
  have ra := rev_ok ha.1
  have rb := rev_ok hb.1
  have e1 := prod_rows hK ra hb.1
  rw [← inv_run hK ha.1, ha.2.1, hb.2.1] at e1
  have e2 := prod_rows hK rb ha.1
  rw [← inv_run hK hb.1, ha.2.1, hb.2.1] at e2
  have hs : ∀ s ∈ la.reverse ++ lb, okS k n s := fun s hs => (List.mem_append.mp hs).elim (ra s) (hb.1 s)
  refine ⟨?_, ?_⟩
  · rw [e1, e2, inv_run hK hs, List.reverse_append, List.reverse_reverse]
  · rw [e1]
    exact (run_form hK hs (form_start hK)).1
theorem ends_eq {k : Nm} {n : Nat} {a b : List Int} (hK : okK k n = true) (fa : Form k n a) (fb : Form k n b) : decide (crP k n (invP k n a) + crP k n (restA k n (invP k n a) (invP k n b)) = crP k n (invP k n b)) = bgP k n a b := by
  have p := prod_inv_eq hK fa fb
  show decide (crP k n (invP k n a) + crP k n (prodP k n (invP k n b) (invP k n (invP k n a))) = crP k n (invP k n b)) = _
  rw [inv_inv hK fa, inv_cr hK fa, inv_cr hK fb, p.1, inv_cr hK p.2]
  rfl
theorem back_eq {k : Nm} {n : Nat} {a b : List Int} (hK : okK k n = true) (fa : Form k n a) (fb : Form k n b) (h : bgP k n a b = true) : bgP k n b a = decide (a = b) := by
  have p := prod_inv_eq hK fa fb
  have h1 := of_decide_eq_true h
  have c0 := cr_nn k n (prodP k n (invP k n a) b)
  unfold bgP
  rw [p.1, inv_cr hK p.2]
  refine Bool.eq_iff_iff.mpr ?_
  rw [decide_eq_true_iff, decide_eq_true_iff]
  constructor
  · intro h2
    have z := cr_zero hK p.2 (by omega)
    obtain ⟨la, ha⟩ := least_of hK fa
    obtain ⟨lb, hb⟩ := least_of hK fb
    have q := p.1
    rw [z] at q
    have e1 := prod_rows hK ha.1 (rev_ok ha.1)
    rw [ha.2.1] at e1
    have r := prod_rows hK (rev_ok ha.1) hb.1
    rw [← inv_run hK ha.1, ha.2.1, hb.2.1, z, show ∀ l m : List Int, run k n (startL k n) (l ++ m) = run k n (run k n (startL k n) l) m from fun l m => by unfold run; rw [List.foldl_append], ← inv_run hK ha.1, ha.2.1] at r
    have e2 := run_rev hK (l := lb) (w := invP k n a) hb.1 (inv_form hK fa).1
    rw [← r] at e2
    have e3 : invP k n b = invP k n a := by
      rw [← hb.2.1, inv_run hK hb.1]
      exact e2
    have e4 := congrArg (invP k n) e3
    rw [inv_inv hK fa, inv_inv hK fb] at e4
    exact e4.symm
  · intro e
    subst e
    omega
section
variable {P : Program} {w : World} {K : PySem.W.Frag} {mg : Str → Option Value} {base : Heap} {f C D : Addr} {fd : FuncData}
def spKindD : Sp := fun vs H Q _ => ∃ (g : Addr) (a b c : Int), vs = [.ref g] ∧ GenAt H g a b c ∧ (0 ≤ c ∧ c ≤ 900000) ∧
  ∀ (t : Addr) (k : Nm) (n : Nat) (a' c' : Int) (H' : Hp), okK k n = true → many k n ≤ 4 ∧ (k = .mi → n ≤ 3) → 0 ≤ c' → c' ≤ c + 6 → GenAt H' g a' b c' → SameX g H H' → H t = none → t ≠ g → H' t = some (.tup [.str k.s, .int (n : Int)]) → Q (.ref t) H'
theorem ok_kindD (T : Tx K mg) (F : FnP K "_law_kind" "_law_kind" s__law_kind f fd) (c_law_random : Gd P w K mg base "_law_random" ["_law_generator_here", "_law_bound"] 2 spRandom) : FnOk P w K mg base CX0 3 f fd ["_law_generator_here"] spKindD := by
  refine okN F sc__law_kind (fun vs H Q E h => ?_) (fun cdv A outer s H vs Q E hr h => ?_)
  · obtain ⟨g, a, b, c, rfl, _⟩ := h
    rfl
  · obtain ⟨g, a, b, c, rfl, hg, ⟨c0, c1⟩, q⟩ := h
    refine ⟨_, (pss_cons (ps_set (i := 1) sc__law_kind.nd rfl (by first | exact Or.inl rfl | exact Or.inr rfl) (pe_ix ix_list (pe_lst (pa_cons pe_str (pa_cons pe_str (pa_cons pe_str pa_nil)))) (pe_callG c_law_random (hr.mono (by decide)) (by rfl) (pa_cons (pv 0) (pa_cons pe_int pa_nil))) (fun _ _ => rfl)))
      (pss_cons (ps_if (pt_cmpR op_eq (pv 1) pe_str (nomark _)) (pss_one (ps_ret (pe_tup (pa_cons (pv 1) (pa_cons (pe_op op_add pe_int (pe_callG c_law_random (hr.mono (by decide)) (by rfl) (pa_cons (pv 0) (pa_cons pe_int pa_nil)))) pa_nil))))) pss_nil)
      (pss_one (ps_ret (pe_tup (pa_cons (pv 1) (pa_cons (pe_ix ix_list (pe_lst (pa_cons (pe_op op_add pe_int (pe_callG c_law_random (hr.mono (by decide)) (by rfl) (pa_cons (pv 0) (pa_cons pe_int pa_nil)))) (pa_cons (pe_op op_add pe_int (pe_callG c_law_random (hr.mono (by decide)) (by rfl) (pa_cons (pv 0) (pa_cons pe_int pa_nil)))) pa_nil))) (pe_callTy call_int1 (by rfl) T.m_int (by decide +kernel) (pa_cons (pe_cmpR op_eq (pv 1) pe_str (nomark _)) pa_nil)) (fun _ _ => rfl)) pa_nil))))))), ?_⟩
    refine ⟨(by show 3 ≤ sizeLine; decide), fun l1 n1 => ?_⟩
    have f0 : Same H (L2.upd H l1 (.lst names3)) := Same.upd n1
    refine ⟨_, rfl, g, a, b, c, 3, rfl, hg.upd n1, ⟨by decide, by decide⟩, ⟨c0, by omega⟩, fun r1 a1 c2 H1 p0 p1 p2 p3 g1 x1 => ?_⟩
    have l1g : l1 ≠ g := (ne_of_none hg n1).symm
    obtain ⟨k, hk⟩ := nm_of p0 p1
    have e1 : H1 l1 = some (.lst names3) := x1 _ _ upd_same l1g
    refine ⟨l1, names3, r1, .str k.s, rfl, rfl, SqL.of e1, hk, ?_⟩
    have s1 : SameX g H H1 := (Same.x g f0).trans x1
    refine ⟨_, rfl, rfl, _, rfl, ite2 (fun hp => ?_) (fun hp => ?_)⟩
    · have ep : k = .pl := by rw [s_pl] at hp; exact of_decide_eq_true hp
      subst ep
      refine ⟨_, rfl, _, rfl, g, a1, b, c2, 5, rfl, g1, ⟨by decide, by decide⟩, ⟨p2, by omega⟩, fun r2 a2 c3 H2 q0 q1 q2 q3 g2 x2 => ?_⟩
      refine ⟨_, _, rfl, rfl, (by show 2 ≤ sizeLine; decide), fun t nt => ?_⟩
      have e2 : (1 : Int) + r2 = (((1 + r2).toNat : Nat) : Int) := by omega
      refine q t .pl (1 + r2).toNat a2 c3 _ (decide_eq_true (by omega)) ⟨(by unfold many; rw [if_pos rfl]; omega), fun e => by cases e⟩ q2 (by omega) (g2.upd nt) ((s1.trans x2).trans (Same.x g (Same.upd nt))) ((s1.trans x2).free hg g2 nt) (ne_of_none g2 nt).symm ?_
      rw [upd_same, ← e2]
    · have ep : k ≠ .pl := fun e => hp (by rw [s_pl]; exact decide_eq_true e)
      refine ⟨_, rfl, _, rfl, g, a1, b, c2, 3, rfl, g1, ⟨by decide, by decide⟩, ⟨p2, by omega⟩, fun r2 a2 c3 H2 q0 q1 q2 q3 g2 x2 => ?_⟩
      refine ⟨_, _, rfl, rfl, _, rfl, g, a2, b, c3, 3, rfl, g2, ⟨by decide, by decide⟩, ⟨q2, by omega⟩, fun r3 a3 c4 H3 t0 t1 t2 t3 g3 x3 => ?_⟩
      refine ⟨_, _, rfl, rfl, (by show 2 ≤ sizeLine; decide), fun l2 n2 => ?_⟩
      have s3 : SameX g H H3 := (s1.trans x2).trans x3
      have g4 : GenAt (L2.upd H3 l2 (.lst [.int (1 + r2), .int (2 + r3)])) g a3 b c4 := g3.upd n2
      have s4 : SameX g H (L2.upd H3 l2 (.lst [.int (1 + r2), .int (2 + r3)])) := s3.trans (Same.x g (Same.upd n2))
      have e2 : (L2.upd H3 l2 (.lst [.int (1 + r2), .int (2 + r3)])) l2 = some (.lst [.int (1 + r2), .int (2 + r3)]) := upd_same
      generalize L2.upd H3 l2 (.lst [.int (1 + r2), .int (2 + r3)]) = H4 at *
      obtain ⟨j, n, hj, hn, hok, hma⟩ : ∃ (j n : Nat), (if decide (V.str k.s = V.str "ring") = true then (1 : Int) else 0) = (j : Int) ∧ ([V.int (1 + r2), V.int (2 + r3)])[j]? = some (.int (n : Int)) ∧ okK k n = true ∧ many k n ≤ 4 ∧ (k = .mi → n ≤ 3) := by
        cases k with
        | pl => exact absurd rfl ep
        | mi =>
          refine ⟨0, (1 + r2).toNat, by rw [s_ri]; rfl, ?_, decide_eq_true (by omega), (by unfold many; rw [if_neg (by decide)]; omega), fun _ => by omega⟩
          rw [Int.toNat_of_nonneg (by omega)]
          rfl
        | ri =>
          refine ⟨1, (2 + r3).toNat, by rw [s_ri]; rfl, ?_, decide_eq_true (by omega), (by unfold many; rw [if_neg (by decide)]; omega), fun e => by cases e⟩
          rw [Int.toNat_of_nonneg (by omega)]
          rfl
      refine ⟨_, rfl, rfl, .inr ⟨_, rfl, ?_⟩⟩
      refine ⟨l2, _, _, _, rfl, rfl, SqL.of e2, at_of (j := j) hj hn, (by show 2 ≤ sizeLine; decide), fun t nt => ?_⟩
      exact q t k n a3 c4 _ hok hma t2 (by omega) (g4.upd nt) (s4.trans (Same.x g (Same.upd nt))) (s4.free hg g4 nt) (ne_of_none g4 nt).symm upd_same
def spAllD (K : PySem.W.Frag) : Sp := fun vs H Q _ => ∃ (k : Nm) (n m : Nat), vs = [.str k.s, .int (n : Int), .int (m : Int)] ∧ okK k n = true ∧ many k n ≤ 4 ∧ m ≤ 4 ∧
  ∀ (q : Addr) (os : List Addr) (wss : List (List Int)) (H' : Hp), Same H H' → H q = none → H' q = some (.lst (os.map V.ref)) → FList H' os wss → Upto k n m wss → wss.Nodup → (∀ o ∈ os, H o = none) → os.length ≤ 512 → Q (.ref q) H'
theorem ok_allD (T : Tx K mg) (F : FnP K "_law_all" "_law_all" s__law_all f fd) (c_law_start : Gd P w K mg base "_law_start" ["_law_name", "_law_size"] 1 (spStartN K)) (c_law_steps : Gd P w K mg base "_law_steps" ["_law_name", "_law_order"] 1 (spManyN K))
    (c_law_crossed : Gd P w K mg base "_law_crossed" ["_law_name", "_law_order", "_law_step"] 1 (spCrossN K)) (c_law_stepped : Gd P w K mg base "_law_stepped" ["_law_name", "_law_order", "_law_step"] 1 (spSteppedN K)) : FnOk P w K mg base CX0 2 f fd ["_law_name", "_law_size", "_law_most"] (spAllD K) := by
  refine okN F sc__law_all (fun vs H Q E h => ?_) (fun cdv A outer s H vs Q E hr h => ?_)
  · obtain ⟨k, n, m, rfl, _⟩ := h
    rfl
  · obtain ⟨k, n, m, rfl, hK, hm4, hmm, q⟩ := h
    have hn := okK_le hK
    have hmn := many_nn hK
    refine ⟨_, (pss_cons (ps_par (i := 3) (j := 4) (by rfl) sc__law_all.nd rfl rfl (by decide) rfl rfl (pa_cons (pe_lst (pa_cons (pe_callG c_law_start (hr.mono (by decide)) (by rfl) (pa_cons (pv 0) (pa_cons (pv 1) pa_nil))) pa_nil)) (pa_cons (pe_lst (pa_cons (pe_callG c_law_start (hr.mono (by decide)) (by rfl) (pa_cons (pv 0) (pa_cons (pv 1) pa_nil))) pa_nil)) pa_nil)) (by rfl))
      (pss_cons (ps_for PassesOwn.never rfl (pi_range1 (by rfl) T.m_range (pa_cons (pv 2) pa_nil)) (pg_name (i := 5) sc__law_all.nd rfl (Or.inl rfl)) (pss_cons (ps_par (i := 6) (j := 7) (by rfl) sc__law_all.nd rfl rfl (by decide) rfl rfl (pa_cons pe_dnewT (pa_cons (pe_lst pa_nil) pa_nil)) (by rfl))
      (pss_cons (ps_for PassesOwn.never rfl (pi_list (pv 4)) (pg_name (i := 8) sc__law_all.nd rfl (Or.inl rfl)) (pss_one (ps_for PassesOwn.never rfl (pi_range1 (by rfl) T.m_range (pa_cons (pe_callG c_law_steps (hr.mono (by decide)) (by rfl) (pa_cons (pv 0) (pa_cons (pv 8) pa_nil))) pa_nil)) (pg_name (i := 9) sc__law_all.nd rfl (Or.inl rfl)) (pss_cons (ps_set (i := 10) sc__law_all.nd rfl (by first | exact Or.inl rfl | exact Or.inr rfl) (pe_callG c_law_stepped (hr.mono (by decide)) (by rfl) (pa_cons (pv 0) (pa_cons (pv 8) (pa_cons (pv 9) pa_nil)))))
      (pss_one (ps_if (PW.pt (pw_and (pt_not (pt_val (pe_callG c_law_crossed (hr.mono (by decide)) (by rfl) (pa_cons (pv 0) (pa_cons (pv 8) (pa_cons (pv 9) pa_nil)))))) (pw_and1 (pt_cmp (pc_dnotin (hu_of hr) (pe_callTy call_tuple_of (by rfl) T.m_tuple (by decide +kernel) (pa_cons (pv 10) pa_nil)) (pv 6)))))) (pss_cons (ps_dput (hu_of hr) (pv 6) (pe_callTy call_tuple_of (by rfl) T.m_tuple (by decide +kernel) (pa_cons (pv 10) pa_nil)) pe_bl (by rfl))
      (pss_one (ps_expr (pe_bm PySem.F.plainAttrs_list PySem.F.slot_list_append PySem.F.type_list_append mt_append (pv 7) (pa_cons (pv 10) pa_nil))))) pss_nil))))))
      (pss_one (ps_par (i := 3) (j := 4) (by rfl) sc__law_all.nd rfl rfl (by decide) rfl rfl (pa_cons (pe_op op_cat (pv 3) (pv 7)) (pa_cons (pv 7) pa_nil)) (by rfl))))))
      (pss_one (ps_ret (pv 3))))), ?_⟩
    refine ⟨_, rfl, _, rfl, k, n, rfl, by omega, fun a1 H1 s1 na1 ha1 => ?_⟩
    refine ⟨(by show 1 ≤ sizeLine; decide), fun f0 nf0 => ?_⟩
    have u2 := Same.upd (o := .lst [.ref a1]) nf0
    refine ⟨_, rfl, _, rfl, k, n, rfl, by omega, fun a2 H3 s3 na2 ha2 => ?_⟩
    refine ⟨(by show 1 ≤ sizeLine; decide), fun l0 nl0 => ?_⟩
    have u4 := Same.upd (o := .lst [.ref a2]) nl0
    refine ⟨_, _, rfl, ?_⟩
    refine ⟨_, rfl, m, rfl, by omega, by omega, ?_⟩
    have hf0 := u4 _ _ (s3 _ _ (upd_selfN (o := .lst [.ref a1]) nf0))
    have s04 := ((s1.trans u2).trans s3).trans u4
    refine for_range (lo := 0) (n := m) (fun i σ H5 => ∃ (fa la : Addr) (os ls : List Addr) (wss vss : List (List Int)) (v5 v6 v7 v8 v9 v10 : Option V), σ = [some (.str k.s), some (.int (n : Int)), some (.int (m : Int)), some (.ref fa), some (.ref la), v5, v6, v7, v8, v9, v10] ∧ Same H H5 ∧ H fa = none ∧ H5 fa = some (.lst (os.map V.ref)) ∧ FList H5 os wss ∧ H5 la = some (.lst (ls.map V.ref)) ∧ FList H5 ls vss ∧ Upto k n i wss ∧ Lvl k n i vss ∧ os.length ≤ 2 * 4 ^ i ∧ ls.length ≤ 4 ^ i ∧ wss.Nodup ∧ (∀ o ∈ os, H o = none))
      ⟨f0, l0, [a1], [a2], [startL k n], [startL k n], none, none, none, none, none, none, rfl, s04, s1.free nf0, hf0, ⟨((u2.trans s3).trans u4) _ _ ha1, trivial⟩, upd_same, ⟨u4 _ _ ha2, trivial⟩, ?_, ?_, by simp, by simp, by simp, fun o ho => by rw [List.mem_singleton.mp ho]; exact na1⟩ ?_ ?_
    · refine ⟨fun ws hw => ?_, fun ws hF hc => ?_⟩
      · rw [List.mem_singleton.mp hw, cr_start hK]
        exact ⟨form_start hK, by omega⟩
      · rw [cr_zero hK hF (by omega)]
        exact List.mem_singleton.mpr rfl
    · refine ⟨fun ws hw => ?_, fun ws hF hc => ?_⟩
      · rw [List.mem_singleton.mp hw, cr_start hK]
        exact ⟨form_start hK, by omega⟩
      · rw [cr_zero hK hF (by omega)]
        exact List.mem_singleton.mpr rfl
    · rintro i σ H5 hi ⟨fa, la, os, ls, wss, vss, v5, v6, v7, v8, v9, v10, rfl, s5, nfa, hfa, hO, hla, hL, hU, hV, c1, c2, hnd, hfo⟩
      have hp4 : 4 ^ i ≤ 64 := by
        have : 4 ^ i ≤ 4 ^ 3 := Nat.pow_le_pow_right (by decide) (by omega)
        omega
      refine fun ka nka => ⟨Nat.zero_le _, fun fu nfu => ⟨_, _, rfl, ?_⟩⟩
      have w6 := (Same.upd (o := .dT []) nka).trans (Same.upd (o := .lst []) nfu)
      have kfu : ka ≠ fu := ne_of_none upd_same nfu
      have nfu5 : H5 fu = none := (Same.upd (o := .dT []) nka).free nfu
      have hka6 : (L2.upd (L2.upd H5 ka (.dT [])) fu (.lst [])) ka = some (.dT []) := by rw [upd_ne kfu, upd_same]
      have hfu6 : (L2.upd (L2.upd H5 ka (.dT [])) fu (.lst [])) fu = some (.lst []) := upd_same
      generalize L2.upd (L2.upd H5 ka (.dT [])) fu (.lst []) = H6 at *
      refine ⟨_, rfl, la, rfl, ⟨_, SqL.of (w6 _ _ hla)⟩, ?_⟩
      refine for_list (K := K) (a := la) (xs := ls.map V.ref) (fun j σ H7 => ∃ (gs : List Addr) (uss : List (List Int)) (kvs : List (List L2.Key × V)) (v8 v9 v10 : Option V), σ = [some (.str k.s), some (.int (n : Int)), some (.int (m : Int)), some (.ref fa), some (.ref la), some (.int (0 + (i : Int))), some (.ref ka), some (.ref fu), v8, v9, v10] ∧ Same H5 H7 ∧ H7 ka = some (.dT kvs) ∧ H7 fu = some (.lst (gs.map V.ref)) ∧ LstsAt H7 ka fu gs uss ∧ kvs.length ≤ gs.length ∧ gs.length ≤ 4 * j ∧
          (∀ ws, (valV kvs (keyL ws)).isSome = true ↔ ws ∈ uss) ∧ (∀ ws ∈ uss, Form k n ws ∧ crP k n ws = ((i + 1 : Nat) : Int)) ∧ (∀ j' < j, ∀ s, okS k n s → ¬ crossed k n (vss.getD j' []) s = true → stepped k n (vss.getD j' []) s ∈ uss) ∧ uss.Nodup ∧ (∀ o ∈ gs, H o = none))
        ⟨[], [], [], v8, v9, v10, rfl, w6, hka6, hfu6, trivial, Nat.le_refl _, Nat.zero_le _, (fun ws => by simp [valV_nil]), (fun ws h => by cases h), (fun j' h => absurd h (Nat.not_lt_zero _)), List.nodup_nil, (fun o h => by cases h)⟩
        (fun j σ H7 _ h7 => by obtain ⟨_, _, _, _, _, _, _, s7, _⟩ := h7; exact SqL.of (s7 _ _ hla)) ?_ ?_
      · rintro j x σ H7 hj ⟨gs, uss, kvs, v8, v9, v10, rfl, s7, hka, hfu, hG, e1, e2, hk, hu, hc, hn2, hgf⟩
        obtain ⟨o, ws, rfl, hjv, ho⟩ := hL.get hj
        have hjl : j < ls.length := by
          have := (List.getElem?_eq_some_iff.mp hj).1
          rw [List.length_map] at this
          exact this
        have hgd : vss.getD j [] = ws := by rw [List.getD_eq_getElem?_getD, hjv]; rfl
        obtain ⟨hF, hcr⟩ := hV.1 ws (List.mem_of_getElem? hjv)
        have o7 : OO K H7 o k n ws := ⟨SqL.of (s7 _ _ ho), hF.1, hK⟩
        refine ⟨_, rfl, _, rfl, o, k, n, ws, rfl, o7, (many k n).toNat, by rw [Int.toNat_of_nonneg hmn.1], by omega, by omega, ?_⟩
        refine for_range (lo := 0) (n := (many k n).toNat) (fun t σ H8 => ∃ (gs : List Addr) (uss : List (List Int)) (kvs : List (List L2.Key × V)) (v9 v10 : Option V), σ = [some (.str k.s), some (.int (n : Int)), some (.int (m : Int)), some (.ref fa), some (.ref la), some (.int (0 + (i : Int))), some (.ref ka), some (.ref fu), some (.ref o), v9, v10] ∧ Same H5 H8 ∧ H8 ka = some (.dT kvs) ∧ H8 fu = some (.lst (gs.map V.ref)) ∧ LstsAt H8 ka fu gs uss ∧ kvs.length ≤ gs.length ∧ gs.length ≤ 4 * j + t ∧
            (∀ ws, (valV kvs (keyL ws)).isSome = true ↔ ws ∈ uss) ∧ (∀ ws ∈ uss, Form k n ws ∧ crP k n ws = ((i + 1 : Nat) : Int)) ∧ (∀ j' < j, ∀ s, okS k n s → ¬ crossed k n (vss.getD j' []) s = true → stepped k n (vss.getD j' []) s ∈ uss) ∧ (∀ t' < t, ¬ crossed k n ws (t' : Int) = true → stepped k n ws (t' : Int) ∈ uss) ∧ uss.Nodup ∧ (∀ o ∈ gs, H o = none))
          ⟨gs, uss, kvs, v9, v10, rfl, s7, hka, hfu, hG, e1, e2, hk, hu, hc, (fun t' h => absurd h (Nat.not_lt_zero _)), hn2, hgf⟩ ?_ ?_
        · rintro t σ H8 ht ⟨gs, uss, kvs, v9, v10, rfl, s8, hka, hfu, hG, e1, e2, hk, hu, hc, hd, hn2, hgf⟩
          rw [Int.zero_add]
          have hz : okS k n (t : Int) := ⟨by omega, by omega⟩
          have o8 : OO K H8 o k n ws := ⟨SqL.of (s8 _ _ ho), hF.1, hK⟩
          refine ⟨_, rfl, _, rfl, _, rfl, o, k, n, ws, _, rfl, o8, hz, fun r H9 s9 nr hr9 => ?_⟩
          have rka : r ≠ ka := (ne_of_none hka nr).symm
          have rfu : r ≠ fu := (ne_of_none hfu nr).symm
          have hka9 := s9 _ _ hka
          have hfu9 := s9 _ _ hfu
          have hst := cr_stepI hK hz hF
          refine ⟨_, rfl, _, rfl, _, rfl, o, k, n, ws, _, rfl, o8.keep s9, hz, _, rfl, ?_⟩
          by_cases hx : crossed k n ws (t : Int) = true
          · refine iteN (by rw [hx]; decide) ?_
            refine iteN (by decide) ?_
            refine ⟨gs, uss, kvs, _, _, rfl, s8.trans s9, hka9, hfu9, hG.keep s9, e1, by omega, hk, hu, hc, fun t' ht' hn' => ?_, hn2, hgf⟩
            by_cases e : t' = t
            · subst e
              exact absurd hx hn'
            · exact hd t' (by omega) hn'
          · rw [if_neg hx] at hst
            refine iteP (by rw [Bool.eq_false_iff.mpr hx]; rfl) ?_
            refine ⟨_, rfl, r, _, rfl, .inl ⟨SqL.of hr9, fun tb ntb => ?_⟩⟩
            have ub := Same.upd (o := .tup ((stepped k n ws (t : Int)).map V.int)) ntb
            have htb := upd_selfN (o := .tup ((stepped k n ws (t : Int)).map V.int)) ntb
            refine ⟨_, rfl, ka, _, rfl, DGet.t (k := keyL (stepped k n ws (t : Int))) (ub _ _ hka9) (by rw [keyL_V]; exact htb), _, rfl, ?_⟩
            by_cases hin : stepped k n ws (t : Int) ∈ uss
            · have his := (hk _).mpr hin
              refine iteN (by rw [his]; decide) ?_
              refine ⟨gs, uss, kvs, _, _, rfl, (s8.trans s9).trans ub, ub _ _ hka9, ub _ _ hfu9, (hG.keep s9).keep ub, e1, by omega, hk, hu, hc, fun t' ht' hn' => ?_, hn2, hgf⟩
              by_cases e : t' = t
              · subst e
                exact hin
              · exact hd t' (by omega) hn'
            · have his : ¬ (valV kvs (keyL (stepped k n ws (t : Int)))).isSome = true := fun z => hin ((hk _).mp z)
              refine iteP (by rw [Bool.eq_false_iff.mpr his]; rfl) ?_
              refine ⟨_, rfl, _, rfl, r, _, rfl, .inl ⟨SqL.of (ub _ _ hr9), fun tc ntc => ?_⟩⟩
              have uc := ub.trans (Same.upd (o := .tup ((stepped k n ws (t : Int)).map V.int)) ntc)
              have htc := upd_selfN (o := .tup ((stepped k n ws (t : Int)).map V.int)) ntc
              have hkac := uc _ _ hka9
              have hfuc := uc _ _ hfu9
              have hrc := uc _ _ hr9
              have hGc := (hG.keep s9).keep uc
              have s8c := (s8.trans s9).trans uc
              generalize L2.upd (L2.upd H9 tb (.tup ((stepped k n ws (t : Int)).map V.int))) tc (.tup ((stepped k n ws (t : Int)).map V.int)) = H10 at *
              refine ⟨ka, _, rfl, DPut.t (k := keyL (stepped k n ws (t : Int))) hkac (by rw [keyL_V]; exact htc) (small1000 (by omega)), ?_⟩
              have hfud : (L2.upd H10 ka (.dT (putK kvs (keyL (stepped k n ws (t : Int))) (.bl true)))) fu = some (.lst (gs.map V.ref)) := by rw [upd_ne kfu.symm]; exact hfuc
              have hrd : (L2.upd H10 ka (.dT (putK kvs (keyL (stepped k n ws (t : Int))) (.bl true)))) r = some (.lst ((stepped k n ws (t : Int)).map V.int)) := by rw [upd_ne rka]; exact hrc
              have hkad : (L2.upd H10 ka (.dT (putK kvs (keyL (stepped k n ws (t : Int))) (.bl true)))) ka = some (.dT (putK kvs (keyL (stepped k n ws (t : Int))) (.bl true))) := upd_same
              have hGd := hGc.updg (x := .dT (putK kvs (keyL (stepped k n ws (t : Int))) (.bl true)))
              have s8d := Same_updD (o := .dT (putK kvs (keyL (stepped k n ws (t : Int))) (.bl true))) s8c nka
              generalize L2.upd H10 ka (.dT (putK kvs (keyL (stepped k n ws (t : Int))) (.bl true))) = H11 at *
              refine ⟨_, rfl, .inl ⟨rfl, _, SqL.of hfud⟩, _, rfl, fu, _, _, rfl, rfl, hfud, ?_, ?_⟩
              · rw [List.length_map]
                exact small1000 (by omega)
              have hpl := putK_len kvs (keyL (stepped k n ws (t : Int))) (.bl true)
              refine ⟨gs ++ [r], uss ++ [stepped k n ws (t : Int)], _, _, _, rfl, Same_updD s8d nfu5, by rw [upd_ne kfu]; exact hkad, push_ref _ _ _ _, LstsAt.snoc (by rw [upd_ne rfu]; exact hrd) ⟨rka, rfu⟩ hGd.upd, ?_, ?_, ?_, ?_, ?_, ?_, ?_, ?_⟩
              · rw [List.length_append, List.length_singleton]
                omega
              · rw [List.length_append, List.length_singleton]
                omega
              · intro us
                rw [valV_put, List.mem_append, List.mem_singleton]
                by_cases e : us = stepped k n ws (t : Int)
                · rw [if_pos (keyL_inj.mpr e)]
                  exact ⟨fun _ => .inr e, fun _ => rfl⟩
                · rw [if_neg (fun z => e (keyL_inj.mp z)), hk us]
                  exact ⟨.inl, fun z => z.resolve_right e⟩
              · intro us hus
                rcases List.mem_append.mp hus with z | z
                · exact hu us z
                · rw [List.mem_singleton.mp z]
                  exact ⟨hst.2, by omega⟩
              · exact fun j' hj' s' hs' hn' => List.mem_append_left _ (hc j' hj' s' hs' hn')
              · intro t' ht' hn'
                by_cases e : t' = t
                · subst e
                  exact List.mem_append_right _ (List.mem_singleton.mpr rfl)
                · exact List.mem_append_left _ (hd t' (by omega) hn')
              · refine List.nodup_append.mpr ⟨hn2, by simp, fun a ha b hb e => ?_⟩
                rw [List.mem_singleton.mp hb] at e
                exact hin (e ▸ ha)
              · intro z hz
                rcases List.mem_append.mp hz with z' | z'
                · exact hgf z z'
                · rw [List.mem_singleton.mp z']
                  exact (s5.trans s8).free nr
        · rintro σ H8 ⟨gs, uss, kvs, v9, v10, rfl, s8, hka, hfu, hG, e1, e2, hk, hu, hc, hd, hn2, hgf⟩
          refine ⟨gs, uss, kvs, _, _, _, rfl, s8, hka, hfu, hG, e1, by omega, hk, hu, fun j' hj' s' hs' hn' => ?_, hn2, hgf⟩
          by_cases e : j' = j
          · subst e
            rw [hgd] at hn' ⊢
            obtain ⟨z, rfl⟩ := step_of hs'
            exact hd z (by have := hs'.2; omega) hn'
          · exact hc j' (by omega) s' hs' hn'
      · rintro σ H8 ⟨gs, uss, kvs, v8, v9, v10, rfl, s8, hka, hfu, hG, e1, e2, hk, hu, hc, hn2, hgf⟩
        rw [List.length_map] at e2 hc
        have hfa8 := s8 _ _ hfa
        refine ⟨_, rfl, _, rfl, fa, fu, _, _, rfl, rfl, hfa8, hfu, ?_, fun fc nc => ?_⟩
        · rw [List.length_map, List.length_map]
          exact Nat.le_of_lt (small1000 (by omega))
        have ud := Same.upd (o := .lst (os.map V.ref ++ gs.map V.ref)) nc
        have hV' : Lvl k n (i + 1) uss := lvl_next hK hV hu (fun v hv s' hs' hn' => by
          obtain ⟨j', hj', ej⟩ := List.mem_iff_getElem.mp hv
          have eg : vss.getD j' [] = v := by rw [List.getD_eq_getElem?_getD, List.getElem?_eq_getElem hj', ej]; rfl
          have := hc j' (by rw [hL.len]; exact hj') s' hs'
          rw [eg] at this
          exact this hn')
        refine ⟨_, rfl, _, _, rfl, ?_⟩
        refine ⟨fc, fu, os ++ gs, gs, wss ++ uss, uss, _, _, _, _, _, _, rfl, (s5.trans s8).trans ud, (s5.trans s8).free nc, by rw [upd_same, List.map_append], FList.append (hG.fl.keep ud) ((hO.keep s8).keep ud), ud _ _ hfu, hG.fl.keep ud, upto_next hU hV', hV', ?_, ?_, ?_, fun z hz => (List.mem_append.mp hz).elim (hfo z) (hgf z)⟩
        · rw [List.length_append, Nat.pow_succ]
          omega
        · rw [Nat.pow_succ]
          omega
        · refine List.nodup_append.mpr ⟨hnd, hn2, fun a ha b hb e => ?_⟩
          have h1 := (hU.1 a ha).2
          have h2 := (hV'.1 b hb).2
          rw [e, h2] at h1
          omega
    · rintro σ H5 ⟨fa, la, os, ls, wss, vss, v5, v6, v7, v8, v9, v10, rfl, s5, nfa, hfa, hO, hla, hL, hU, hV, c1, c2, hnd, hfo⟩
      have hp4 : 4 ^ m ≤ 256 := by
        have : 4 ^ m ≤ 4 ^ 4 := Nat.pow_le_pow_right (by decide) hmm
        omega
      exact ⟨_, rfl, q fa os wss H5 s5 nfa hfa hO hU hnd hfo (by omega)⟩
end
end Sv

namespace Sv
open PySem PySem.Spec PyProof.Rows L2
theorem run_app (k : Nm) (n : Nat) (w l m : List Int) : run k n w (l ++ m) = run k n (run k n w l) m := by
  unfold run
  rw [List.foldl_append]
theorem prod_run {k : Nm} {n : Nat} {a l b : List Int} (hK : okK k n = true) (fa : Form k n a) (hl : Least k n b l) : run k n a l = prodP k n a b := by
  obtain ⟨la, ha⟩ := least_of hK fa
  have e := prod_rows hK ha.1 hl.1
  rw [ha.2.1, hl.2.1, run_app, ha.2.1] at e
  exact e.symm
theorem PairsAt.app {H : Hp} {us : List Addr} {qs : List (Int × Int)} (g : PairsAt H us qs) : ∀ {ts : List Addr} {ps : List (Int × Int)}, PairsAt H ts ps → PairsAt H (ts ++ us) (ps ++ qs)
  | [], [], _ => g
  | t :: ts, p :: ps, h => ⟨h.1, PairsAt.app g h.2⟩
theorem prs_at (line : List Int) {i : Nat} (h : i < line.length) : prs (line.drop i) = (((line.drop (i + 1)).filter fun l => decide (l < line.getD i 0)).map fun l => (l, line.getD i 0)) ++ prs (line.drop (i + 1)) := by
  rw [List.drop_eq_getElem_cons h]
  have e : line.getD i 0 = line[i] := by rw [List.getD_eq_getElem?_getD, List.getElem?_eq_getElem h]; rfl
  rw [e]
  rfl
/-- the pairs of the places below i -/
def prsTo (line : List Int) : Nat → List (Int × Int)
  | 0 => []
  | i + 1 => prsTo line i ++ (((line.drop (i + 1)).filter fun l => decide (l < line.getD i 0)).map fun l => (l, line.getD i 0))
theorem prsTo_all (line : List Int) : ∀ i, i ≤ line.length → prsTo line i ++ prs (line.drop i) = prs line
  | 0, _ => by rw [List.drop_zero]; rfl
  | i + 1, h => by
    have ih := prsTo_all line i (by omega)
    rw [prs_at line (by omega)] at ih
    show (prsTo line i ++ _) ++ _ = _
    rw [List.append_assoc]
    exact ih
theorem prsTo_len (line : List Int) : ∀ i, (prsTo line i).length ≤ i * line.length
  | 0 => Nat.zero_le _
  | i + 1 => by
    show (prsTo line i ++ _).length ≤ _
    rw [List.length_append, List.length_map]
    have h1 := prsTo_len line i
    have h2 := List.length_filter_le (fun l => decide (l < line.getD i 0)) (line.drop (i + 1))
    rw [List.length_drop] at h2
    rw [Nat.add_mul, Nat.one_mul]
    omega
theorem big_ok {x : Nat} (h : x ≤ 100000) : x ≤ sizeLine := Nat.le_trans h (by decide +kernel)
theorem cut_fromN (ws : List Int) {i : Nat} (h : i ≤ ws.length) : cutV (ws.map V.int) (some (i : Int)) none = (ws.drop i).map V.int := by
  unfold cutV
  rw [show HT.sIx (ws.map V.int).length 0 (some (i : Int)) = min i (ws.map V.int).length from HT.sIx_nat _ _ i, HT.sIx_none, List.length_map, Nat.min_eq_left h, List.map_drop]
  exact List.take_of_length_le (by rw [List.length_drop, List.length_map]; omega)
def lineTo (n r : Nat) (w : List Int) (i : Nat) : List Int := (List.range i).flatMap fun (j : Nat) => w.map fun x => x + ((j : Int) - (r : Int)) * (n : Int)
theorem lineTo_len (n r : Nat) (w : List Int) : ∀ i, (lineTo n r w i).length = i * w.length
  | 0 => by simp [lineTo]
  | i + 1 => by
    have ih := lineTo_len n r w i
    unfold lineTo at ih ⊢
    rw [List.range_succ, List.flatMap_append, List.length_append, ih, List.flatMap_singleton, List.length_map, Nat.add_mul, Nat.one_mul]
theorem lineTo_succ (n r : Nat) (w : List Int) (i : Nat) : lineTo n r w (i + 1) = lineTo n r w i ++ w.map fun x => x + ((i : Int) - (r : Int)) * (n : Int) := by
  unfold lineTo
  rw [List.range_succ, List.flatMap_append, List.flatMap_singleton]
theorem lineP_len {k : Nm} {n : Nat} {w : List Int} (h : w.length = n) (hn : n ≤ 7) : (lineP k n 7 w).length ≤ 105 := by
  cases k with
  | pl => show w.length ≤ 105; omega
  | mi =>
    show (w.reverse.map _ ++ w).length ≤ 105
    rw [List.length_append, List.length_map, List.length_reverse]
    omega
  | ri =>
    have := lineTo_len n 7 w 15
    show (lineTo n 7 w 15).length ≤ 105
    rw [this, h]
    omega
section
variable {P : Program} {w : World} {K : PySem.W.Frag} {mg : Str → Option Value} {base : Heap} {f C D : Addr} {fd : FuncData}
def spProdN (K : PySem.W.Frag) : Sp := fun vs H Q _ => ∃ (o u : Addr) (k : Nm) (n : Nat) (ws us : List Int), vs = [.str k.s, .ref o, .ref u] ∧ OO K H o k n ws ∧ OO K H u k n us ∧ Form k n ws ∧ Form k n us ∧ crP k n us ≤ 500 ∧
  ∀ q H', Same H H' → H q = none → H' q = some (.lst ((prodP k n ws us).map V.int)) → Q (.ref q) H'
theorem ok_prodN (T : Tx K mg) (F : FnP K "_law_product" "_law_product" s__law_product f fd) (c_law_row : Gd P w K mg base "_law_row" ["_law_name", "_law_order"] 3 (spRowN K)) (c_law_stepped : Gd P w K mg base "_law_stepped" ["_law_name", "_law_order", "_law_step"] 1 (spSteppedN K)) : FnOk P w K mg base CX0 4 f fd ["_law_name", "_law_one", "_law_other"] (spProdN K) := by
  refine okN F sc__law_product (fun vs H Q E h => ?_) (fun cdv A outer s H vs Q E hr h => ?_)
  · obtain ⟨o, u, k, n, ws, us, rfl, _⟩ := h
    rfl
  · obtain ⟨o, u, k, n, ws, us, rfl, ho, hu, fw, fu, hc, q⟩ := h
    refine ⟨_, (pss_cons (ps_set (i := 3) sc__law_product.nd rfl (by first | exact Or.inl rfl | exact Or.inr rfl) (pe_callTy call_list_of (by rfl) T.m_list (by decide +kernel) (pa_cons (pv 1) pa_nil)))
      (pss_cons (ps_for PassesOwn.never rfl (pi_list (pe_callG c_law_row (hr.mono (by decide)) (by rfl) (pa_cons (pv 0) (pa_cons (pv 2) pa_nil)))) (pg_name (i := 4) sc__law_product.nd rfl (Or.inl rfl)) (pss_one (ps_set (i := 3) sc__law_product.nd rfl (by first | exact Or.inl rfl | exact Or.inr rfl) (pe_callG c_law_stepped (hr.mono (by decide)) (by rfl) (pa_cons (pv 0) (pa_cons (pv 3) (pa_cons (pv 4) pa_nil)))))))
      (pss_one (ps_ret (pv 3))))), ?_⟩
    refine ⟨_, rfl, o, _, rfl, .inl ho.ord, fun l0 nl0 => ?_⟩
    have u0 := Same.upd (o := .lst (ws.map V.int)) nl0
    have h0 := upd_selfN (o := .lst (ws.map V.int)) nl0
    refine ⟨_, rfl, _, rfl, u, k, n, us, rfl, hu.keep u0, fu, hc, fun r l H1 hl s1 nr hr1 => ⟨r, rfl, ⟨_, SqL.of hr1⟩, ?_⟩⟩
    refine for_list (K := K) (a := r) (xs := l.map V.int) (fun i σ H2 => ∃ (fo : Addr) (v : Option V), σ = [some (.str k.s), some (.ref o), some (.ref u), some (.ref fo), v] ∧ H fo = none ∧ H2 fo = some (.lst ((run k n ws (l.take i)).map V.int)) ∧ Same H1 H2)
      ⟨l0, none, rfl, nl0, s1 _ _ h0, Same.refl _⟩ (fun i σ H2 _ h2 => by obtain ⟨_, _, _, _, _, s2⟩ := h2; exact s2.seq (SqL.of hr1)) ?_ ?_
    · rintro i x σ H2 hi ⟨fo, v, rfl, nf, hF, s2⟩
      obtain ⟨hj, rfl⟩ := at_map hi
      have hz := hl.1 _ (mem_getD hj)
      have hF1 := (run_form ho.ok (l := l.take i) (fun s hs => hl.1 s (List.mem_of_mem_take hs)) fw).1
      refine ⟨_, rfl, _, rfl, _, rfl, fo, k, n, _, _, rfl, ⟨SqL.of hF, hF1.1, ho.ok⟩, hz, fun q2 H3 s3 nq2 hq2 => ?_⟩
      refine ⟨q2, _, rfl, ((u0.trans s1).trans s2).free nq2, ?_, s2.trans s3⟩
      rw [run_takeN hj]
      exact hq2
    · rintro σ H2 ⟨fo, v, rfl, nf, hF, s2⟩
      rw [List.length_map, List.take_length, prod_run ho.ok fw hl] at hF
      exact ⟨_, rfl, q fo H2 ((u0.trans s1).trans s2) nf hF⟩
def spOppN (K : PySem.W.Frag) : Sp := fun vs H Q _ => ∃ (o : Addr) (k : Nm) (n : Nat) (ws : List Int), vs = [.str k.s, .ref o] ∧ OO K H o k n ws ∧ Form k n ws ∧ crP k n ws ≤ 500 ∧
  ∀ q H', Same H H' → H q = none → H' q = some (.lst ((invP k n ws).map V.int)) → Q (.ref q) H'
theorem ok_oppN (T : Tx K mg) (F : FnP K "_law_opposite" "_law_opposite" s__law_opposite f fd) (c_law_row : Gd P w K mg base "_law_row" ["_law_name", "_law_order"] 3 (spRowN K)) (c_law_made : Gd P w K mg base "_law_made" ["_law_name", "_law_size", "_law_row_here"] 2 (spMadeN K)) : FnOk P w K mg base CX0 4 f fd ["_law_name", "_law_order"] (spOppN K) := by
  refine okN F sc__law_opposite (fun vs H Q E h => ?_) (fun cdv A outer s H vs Q E hr h => ?_)
  · obtain ⟨o, k, n, ws, rfl, _⟩ := h
    rfl
  · obtain ⟨o, k, n, ws, rfl, ho, fw, hc, q⟩ := h
    refine ⟨_, (pss_one (ps_ret (pe_callG c_law_made (hr.mono (by decide)) (by rfl) (pa_cons (pv 0) (pa_cons (pe_callB call_len_seq (by rfl) T.m_len (by decide +kernel) (pa_cons (pv 1) pa_nil)) (pa_cons (pe_revL (pe_callG c_law_row (hr.mono (by decide)) (by rfl) (pa_cons (pv 0) (pa_cons (pv 1) pa_nil)))) pa_nil)))))), ?_⟩
    refine ⟨_, rfl, _, rfl, o, _, rfl, .inl ho.ord, _, rfl, _, rfl, o, k, n, ws, rfl, ho, fw, hc, fun r l H1 hl s1 nr hr1 => ?_⟩
    refine ⟨r, _, rfl, SqL.of hr1, fun b nb => ?_⟩
    have u2 := Same.upd (o := .lst (l.map V.int).reverse) nb
    have hb : (L2.upd H1 b (.lst (l.map V.int).reverse)) b = some (.lst (l.reverse.map V.int)) := by rw [upd_same, List.map_reverse]
    refine ⟨b, k, n, l.reverse, (by rw [List.length_map, ho.len]; rfl), ho.ok, SqL.of hb, rev_ok hl.1, fun q2 H3 s3 nq2 hq2 => ?_⟩
    refine q q2 H3 ((s1.trans u2).trans s3) ((s1.trans u2).free nq2) ?_
    rw [hq2, ← inv_run ho.ok hl.1, hl.2.1]
theorem cr_len {k : Nm} {n : Nat} {ws l : List Int} (h : Least k n ws l) : ((l.map V.int).length : Int) = crP k n ws := by rw [List.length_map]; exact h.2.2
def spBeginN (K : PySem.W.Frag) : Sp := fun vs H Q _ => ∃ (o u : Addr) (k : Nm) (n : Nat) (ws us : List Int), vs = [.str k.s, .ref o, .ref u] ∧ OO K H o k n ws ∧ OO K H u k n us ∧ Form k n ws ∧ Form k n us ∧ crP k n us ≤ 20 ∧ crP k n ws ≤ 20 ∧
  ∀ H', Same H H' → Q (.bl (bgP k n ws us)) H'
theorem ok_beginN (T : Tx K mg) (F : FnP K "_law_begins" "_law_begins" s__law_begins f fd) (c_law_row : Gd P w K mg base "_law_row" ["_law_name", "_law_order"] 3 (spRowN K)) (c_law_opposite : Gd P w K mg base "_law_opposite" ["_law_name", "_law_order"] 4 (spOppN K)) (c_law_product : Gd P w K mg base "_law_product" ["_law_name", "_law_one", "_law_other"] 4 (spProdN K)) : FnOk P w K mg base CX0 5 f fd ["_law_name", "_law_one", "_law_other"] (spBeginN K) := by
  refine okN F sc__law_begins (fun vs H Q E h => ?_) (fun cdv A outer s H vs Q E hr h => ?_)
  · obtain ⟨o, u, k, n, ws, us, rfl, _⟩ := h
    rfl
  · obtain ⟨o, u, k, n, ws, us, rfl, ho, hu, fw, fu, hc, hcw, q⟩ := h
    have hK := ho.ok
    have pf := (prod_inv_eq hK fw fu).2
    have fi := inv_form hK fw
    refine ⟨_, (pss_cons (ps_set (i := 3) sc__law_begins.nd rfl (by first | exact Or.inl rfl | exact Or.inr rfl) (pe_callG c_law_product (hr.mono (by decide)) (by rfl) (pa_cons (pv 0) (pa_cons (pe_callG c_law_opposite (hr.mono (by decide)) (by rfl) (pa_cons (pv 0) (pa_cons (pv 1) pa_nil))) (pa_cons (pv 2) pa_nil)))))
      (pss_one (ps_ret (pe_cmpR op_eq (pe_op op_add (pe_callB call_len_seq (by rfl) T.m_len (by decide +kernel) (pa_cons (pe_callG c_law_row (hr.mono (by decide)) (by rfl) (pa_cons (pv 0) (pa_cons (pv 1) pa_nil))) pa_nil)) (pe_callB call_len_seq (by rfl) T.m_len (by decide +kernel) (pa_cons (pe_callG c_law_row (hr.mono (by decide)) (by rfl) (pa_cons (pv 0) (pa_cons (pv 3) pa_nil))) pa_nil))) (pe_callB call_len_seq (by rfl) T.m_len (by decide +kernel) (pa_cons (pe_callG c_law_row (hr.mono (by decide)) (by rfl) (pa_cons (pv 0) (pa_cons (pv 2) pa_nil))) pa_nil)) (nomark _))))), ?_⟩
    refine ⟨_, rfl, _, rfl, _, rfl, o, k, n, ws, rfl, ho, fw, by omega, fun a H1 s1 na ha => ?_⟩
    refine ⟨_, rfl, a, u, k, n, _, us, rfl, ⟨SqL.of ha, fi.1, hK⟩, hu.keep s1, fi, fu, by omega, fun b H2 s2 nb hb => ?_⟩
    have s12 := s1.trans s2
    have cb : crP k n (prodP k n (invP k n ws) us) ≤ 500 := by
      obtain ⟨lu, hlu⟩ := least_of hK fu
      rw [← prod_run hK fi hlu]
      have := (run_form hK hlu.1 fi).2
      have h2 := hlu.2.2
      have h3 := inv_cr hK fw
      omega
    refine ⟨_, rfl, _, rfl, o, k, n, ws, rfl, ho.keep s12, fw, by omega, fun r1 l1 H3 hl1 s3 nr1 hr1 => ⟨r1, _, rfl, .inl (SqL.of hr1), ?_⟩⟩
    have s13 := s12.trans s3
    refine ⟨_, rfl, _, rfl, b, k, n, _, rfl, ⟨SqL.of (s3 _ _ hb), pf.1, hK⟩, pf, cb, fun r2 l2 H4 hl2 s4 nr2 hr2 => ⟨r2, _, rfl, .inl (SqL.of hr2), ?_⟩⟩
    have s14 := s13.trans s4
    refine ⟨_, _, rfl, rfl, ?_⟩
    refine ⟨_, rfl, _, rfl, u, k, n, us, rfl, hu.keep s14, fu, by omega, fun r3 l3 H5 hl3 s5 nr3 hr3 => ⟨r3, _, rfl, .inl (SqL.of hr3), rfl, ?_⟩⟩
    refine qB (q H5 (s14.trans s5)) ?_
    rw [cr_len hl1, cr_len hl2, cr_len hl3]
    unfold bgP
    refine Bool.eq_iff_iff.mpr ?_
    rw [decide_eq_true_iff, decide_eq_true_iff]
    exact ⟨V.int.inj, congrArg V.int⟩
end
end Sv

namespace Sv
open PySem PySem.Spec PyProof.Rows L2
section
variable {P : Program} {w : World} {K : PySem.W.Frag} {mg : Str → Option Value} {base : Heap} {f C D : Addr} {fd : FuncData}
def spLineN (K : PySem.W.Frag) : Sp := fun vs H Q _ => ∃ (o : Addr) (k : Nm) (n : Nat) (ws : List Int), vs = [.str k.s, .ref o, .int 7] ∧ OO K H o k n ws ∧
  ∀ q H', Same H H' → H q = none → H' q = some (.lst ((lineP k n 7 ws).map V.int)) → Q (.ref q) H'
theorem ok_lineN (T : Tx K mg) (F : FnP K "_law_line" "_law_line" s__law_line f fd) : FnOk P w K mg base CX0 1 f fd ["_law_name", "_law_order", "_law_rounds"] (spLineN K) := by
  refine okN F sc__law_line (fun vs H Q E h => ?_) (fun cdv A outer s H vs Q E hr h => ?_)
  · obtain ⟨o, k, n, ws, rfl, _⟩ := h
    rfl
  · obtain ⟨o, k, n, ws, rfl, ho, q⟩ := h
    have hn := okK_le ho.ok
    have hl := ho.len
    refine ⟨_, (pss_cons (ps_if (pt_cmpR op_eq (pv 0) pe_str (nomark _)) (pss_one (ps_ret (pe_callTy call_list_of (by rfl) T.m_list (by decide +kernel) (pa_cons (pv 1) pa_nil)))) pss_nil)
      (pss_cons (ps_if (pt_cmpR op_eq (pv 0) pe_str (nomark _)) (pss_one (ps_ret (pe_op op_cat (pe_lc (own := [(("_law_item" : Str), 5)]) (g := (gName 5)) (tt := tYes) rfl sc__law_line.nd (pi_list (pe_revL (pv 1))) (blkOk_by (own := [(("_law_item" : Str), 5)]) (N := ["_law_name", "_law_order", "_law_rounds", "_law_found", "_law_number", "_law_item"]) (sc := defScope s__law_line) (by decide +kernel)) (fun _ _ _ _ _ => (pg_name (i := 5) sc__law_line.nd rfl (Or.inl rfl))) (fun _ _ _ _ _ => pts_nil) (fun _ _ _ _ _ => (pe_op op_sub pe_int (pv 5)))) (pe_callTy call_list_of (by rfl) T.m_list (by decide +kernel) (pa_cons (pv 1) pa_nil))))) pss_nil)
      (pss_cons (ps_set (i := 3) sc__law_line.nd rfl (by first | exact Or.inl rfl | exact Or.inr rfl) (pe_lst pa_nil))
      (pss_cons (ps_for PassesOwn.never rfl (pi_range2 (by rfl) T.m_range (pa_cons (pe_op op_sub pe_int (pv 2)) (pa_cons (pe_op op_add (pv 2) pe_int) pa_nil))) (pg_name (i := 4) sc__law_line.nd rfl (Or.inr rfl)) (pss_one (ps_set (i := 3) sc__law_line.nd rfl (by first | exact Or.inl rfl | exact Or.inr rfl) (pe_op op_cat (pv 3) (pe_lc (own := [(("_law_item" : Str), 5)]) (g := (gName 5)) (tt := tYes) rfl sc__law_line.nd (pi_list (pv 1)) (blkOk_by (own := [(("_law_item" : Str), 5)]) (N := ["_law_name", "_law_order", "_law_rounds", "_law_found", "_law_number", "_law_item"]) (sc := defScope s__law_line) (by decide +kernel)) (fun _ _ _ _ _ => (pg_name (i := 5) sc__law_line.nd rfl (Or.inl rfl))) (fun _ _ _ _ _ => pts_nil) (fun _ _ _ _ _ => (pe_op op_add (pv 5) (pe_op op_mul (pv 4) (pe_callB (show CallR _ (.builtin "len") (rLenK K) from call_len_seq) (by rfl) T.m_len (by decide +kernel) (pa_cons (pv 1) pa_nil))))))))))
      (pss_one (ps_ret (pv 3))))))), ?_⟩
    refine ⟨_, rfl, rfl, _, rfl, ite2 (fun hk => ?_) (fun hk => ?_)⟩
    · rw [s_pl] at hk
      have ek := of_decide_eq_true hk
      subst ek
      exact ⟨_, rfl, o, _, rfl, .inl ho.ord, fun b nb => q b _ (Same.upd nb) nb upd_same⟩
    rw [s_pl] at hk
    have hk1 : k ≠ .pl := fun e => hk (decide_eq_true e)
    refine ⟨_, rfl, rfl, _, rfl, ite2 (fun hk2 => ?_) (fun hk2 => ?_)⟩
    · rw [s_mi] at hk2
      have ek := of_decide_eq_true hk2
      subst ek
      refine ⟨_, rfl, o, _, rfl, ho.ord, fun b nb => ?_⟩
      have u1 := Same.upd (o := .lst (ws.map V.int).reverse) nb
      have hb : (L2.upd H b (.lst (ws.map V.int).reverse)) b = some (.lst (ws.reverse.map V.int)) := by rw [upd_same, List.map_reverse]
      generalize L2.upd H b (.lst (ws.map V.int).reverse) = H1 at *
      refine ⟨b, rfl, ⟨_, SqL.of hb⟩, fun L nL => ?_⟩
      refine lc_list (K := K) (a := b) (xs := ws.reverse.map V.int) (fun i H2 => H2 L = some (.lst (((ws.reverse.take i).map fun x => 0 - x).map V.int)) ∧ Same H1 H2) ⟨by rw [List.take_zero]; exact upd_same, Same.upd nL⟩ (fun i H2 _ h2 => h2.2.seq (SqL.of hb)) ?_ ?_
      · rintro i x H2 hi ⟨hL, s2⟩
        obtain ⟨hj, rfl⟩ := at_map hi
        refine ⟨rfl, ?_⟩
        refine ⟨_, rfl, _, _, rfl, rfl, _, hL, ?_, ?_, Same_updD s2 nL⟩
        · rw [List.length_map, List.length_map]
          exact small1000 (by have := List.length_take_le' i ws.reverse; rw [List.length_reverse] at this; omega)
        · have e : ws.reverse.take (i + 1) = ws.reverse.take i ++ [ws.reverse.getD i 0] := by rw [List.take_add_one, List.getD_eq_getElem?_getD, List.getElem?_eq_getElem hj]; rfl
          rw [upd_same, e, List.map_append, List.map_append]
          rfl
      · rintro H2 ⟨hL, s2⟩
        rw [List.length_map, List.take_length] at hL
        have s02 := u1.trans s2
        refine ⟨_, rfl, o, _, rfl, .inl (s02.seq ho.ord), fun l2 nl2 => ?_⟩
        have u3 := Same.upd (o := .lst (ws.map V.int)) nl2
        refine ⟨L, l2, _, _, rfl, rfl, u3 _ _ hL, upd_same, ?_, fun z nz => ?_⟩
        · rw [List.length_map, List.length_map, List.length_map, List.length_reverse]
          exact Nat.le_of_lt (small1000 (by omega))
        · refine q z _ ((s02.trans u3).trans (Same.upd nz)) ((s02.trans u3).free nz) ?_
          rw [upd_same, ← List.map_append]
          rfl
    · rw [s_mi] at hk2
      have hk3 : k = .ri := by
        cases k with
        | pl => exact absurd rfl hk1
        | mi => exact absurd (decide_eq_true rfl) hk2
        | ri => rfl
      subst hk3
      refine ⟨Nat.zero_le _, fun lf nf => ?_⟩
      have u1 := Same.upd (o := .lst []) nf
      refine ⟨_, rfl, _, _, rfl, rfl, _, rfl, _, _, rfl, rfl, 0 - 7, 7 + 1, rfl, ⟨by decide, by decide, by decide, by decide⟩, ?_⟩
      refine for_range (lo := 0 - 7) (n := 15) (fun i σ H2 => ∃ (fo : Addr) (v4 v5 : Option V), σ = [some (.str Nm.ri.s), some (.ref o), some (.int 7), some (.ref fo), v4, v5] ∧ H fo = none ∧ H2 fo = some (.lst ((lineTo n 7 ws i).map V.int)) ∧ Same H H2)
        ⟨lf, none, none, rfl, nf, upd_same, u1⟩ ?_ ?_
      · rintro i σ H2 hi ⟨fo, v4, v5, rfl, nfo, hfo, s2⟩
        have hll := lineTo_len n 7 ws i
        have hb : i * ws.length ≤ 15 * 7 := Nat.mul_le_mul (by omega) (by omega)
        refine ⟨_, rfl, _, rfl, o, rfl, ⟨_, s2.seq ho.ord⟩, fun L nL => ?_⟩
        refine lc_list (K := K) (a := o) (xs := ws.map V.int) (fun j H3 => H3 L = some (.lst (((ws.take j).map fun x => x + ((i : Int) - ((7 : Nat) : Int)) * (n : Int)).map V.int)) ∧ Same H2 H3) ⟨by rw [List.take_zero]; exact upd_same, Same.upd nL⟩ (fun j H3 _ h3 => (s2.trans h3.2).seq ho.ord) ?_ ?_
        · rintro j x H3 hj ⟨hL, s3⟩
          obtain ⟨hjl, rfl⟩ := at_map hj
          refine ⟨rfl, ?_⟩
          refine ⟨_, rfl, _, rfl, _, rfl, o, _, rfl, .inl ((s2.trans s3).seq ho.ord), _, _, rfl, rfl, .inl ⟨by omega, by omega⟩, _, _, rfl, rfl, _, hL, ?_, ?_, Same_updD s3 nL⟩
          · rw [List.length_map, List.length_map]
            exact small1000 (by have := List.length_take_le' j ws; omega)
          · have e : ws.take (j + 1) = ws.take j ++ [ws.getD j 0] := by rw [List.take_add_one, List.getD_eq_getElem?_getD, List.getElem?_eq_getElem hjl]; rfl
            have e2 : ws.getD j 0 + (0 - 7 + (i : Int)) * ((ws.map V.int).length : Int) = ws.getD j 0 + ((i : Int) - ((7 : Nat) : Int)) * (n : Int) := by
              rw [List.length_map, hl]
              rw [show (0 - 7 + (i : Int)) = ((i : Int) - ((7 : Nat) : Int)) by omega]
            rw [upd_same, e, List.map_append, List.map_append]
            show some (HO.lst (_ ++ [V.int (ws.getD j 0 + (0 - 7 + (i : Int)) * ((ws.map V.int).length : Int))])) = _
            rw [e2]
            rfl
        · rintro H3 ⟨hL, s3⟩
          rw [List.length_map, List.take_length] at hL
          refine ⟨fo, L, _, _, rfl, rfl, s3 _ _ hfo, hL, ?_, fun z nz => ?_⟩
          · rw [List.length_map, List.length_map, List.length_map, hll]
            exact Nat.le_of_lt (small1000 (by omega))
          · refine ⟨z, _, _, rfl, (s2.trans s3).free nz, ?_, (s2.trans s3).trans (Same.upd nz)⟩
            rw [upd_same, ← List.map_append, lineTo_succ]
      · rintro σ H2 ⟨fo, v4, v5, rfl, nfo, hfo, s2⟩
        exact ⟨_, rfl, q fo H2 s2 nfo hfo⟩
def spPairsN (K : PySem.W.Frag) : Sp := fun vs H Q _ => ∃ (o : Addr) (k : Nm) (n : Nat) (ws : List Int), vs = [.str k.s, .ref o, .int 7] ∧ OO K H o k n ws ∧
  ∀ (q : Addr) (ts : List Addr) (H' : Hp), Same H H' → H q = none → H' q = some (.lst (ts.map V.ref)) → PairsAt H' ts (pairsP k n ws) → (∀ t ∈ ts, H t = none) → Q (.ref q) H'
theorem ok_pairsN (T : Tx K mg) (F : FnP K "_law_pairs" "_law_pairs" s__law_pairs f fd) (c_law_line : Gd P w K mg base "_law_line" ["_law_name", "_law_order", "_law_rounds"] 1 (spLineN K)) : FnOk P w K mg base CX0 2 f fd ["_law_name", "_law_order", "_law_rounds"] (spPairsN K) := by
  refine okN F sc__law_pairs (fun vs H Q E h => ?_) (fun cdv A outer s H vs Q E hr h => ?_)
  · obtain ⟨o, k, n, ws, rfl, _⟩ := h
    rfl
  · obtain ⟨o, k, n, ws, rfl, ho, q⟩ := h
    have hn := okK_le ho.ok
    have hll := lineP_len (k := k) ho.len hn.2
    refine ⟨_, (pss_cons (ps_par (i := 3) (j := 4) (by rfl) sc__law_pairs.nd rfl rfl (by decide) rfl rfl (pa_cons (pe_callG c_law_line (hr.mono (by decide)) (by rfl) (pa_cons (pv 0) (pa_cons (pv 1) (pa_cons (pv 2) pa_nil)))) (pa_cons (pe_lst pa_nil) pa_nil)) (by rfl))
      (pss_cons (ps_for PassesOwn.never rfl (pi_enum (by rfl) T.m_enumerate (pa_cons (pv 3) pa_nil)) (pg_tup rfl (pgs_cons (pg_name (i := 5) sc__law_pairs.nd rfl (Or.inl rfl)) (pgs_cons (pg_name (i := 6) sc__law_pairs.nd rfl (Or.inr rfl)) pgs_nil))) (pss_one (ps_set (i := 4) sc__law_pairs.nd rfl (by first | exact Or.inl rfl | exact Or.inr rfl) (pe_op op_cat (pv 4) (pe_lc (own := [(("_law_low" : Str), 7)]) (g := (gName 7)) rfl sc__law_pairs.nd (pi_list (pe_slice sl_list (pv 3) (po_some (pe_op op_add (pv 5) pe_int)) po_none)) (blkOk_by (own := [(("_law_low" : Str), 7)]) (N := ["_law_name", "_law_order", "_law_rounds", "_law_line_here", "_law_found", "_law_at", "_law_high", "_law_low"]) (sc := defScope s__law_pairs) (by decide +kernel)) (fun _ _ _ _ _ => (pg_name (i := 7) sc__law_pairs.nd rfl (Or.inl rfl))) (fun _ _ _ _ _ => pts_one (pt_cmpR op_lt (pv 7) (pv 6) (nomark _))) (fun _ _ _ _ _ => (pe_tup (pa_cons (pv 7) (pa_cons (pv 6) pa_nil)))))))))
      (pss_one (ps_ret (pv 4))))), ?_⟩
    refine ⟨_, rfl, _, rfl, _, rfl, o, k, n, ws, rfl, ho, fun a H1 s1 na ha => ?_⟩
    unfold pairsP at q
    generalize lineP k n 7 ws = line at *
    refine ⟨Nat.zero_le _, fun lf nf => ⟨_, _, rfl, ?_⟩⟩
    have u1 := Same.upd (o := .lst []) nf
    have s2 := s1.trans u1
    have ha2 := u1 _ _ ha
    have hlf := upd_selfN (o := .lst []) nf
    generalize L2.upd H1 lf (.lst []) = H2 at *
    refine ⟨_, rfl, a, _, rfl, SqL.of ha2, ?_⟩
    refine for_it (walk_enum (K := K) (a := a) (xs := line.map V.int)) (fun i σ H3 => ∃ (fo : Addr) (ts : List Addr) (v5 v6 v7 : Option V), σ = [some (.str k.s), some (.ref o), some (.int 7), some (.ref a), some (.ref fo), v5, v6, v7] ∧ H fo = none ∧ H3 fo = some (.lst (ts.map V.ref)) ∧ PairsAt H3 ts (prsTo line i) ∧ (∀ t ∈ ts, H t = none) ∧ Same H2 H3)
      ⟨lf, [], none, none, none, rfl, s1.free nf, hlf, trivial, (fun t h => by cases h), Same.refl _⟩ (fun i σ H3 _ h3 => by obtain ⟨_, _, _, _, _, _, _, _, _, _, s3⟩ := h3; exact s3.seq (SqL.of ha2)) ?_ ?_
    · rintro i x σ H3 H4 hi ⟨fo, ts, v5, v6, v7, rfl, nfo, hfo, hP, hfr, s3⟩ ⟨t, a1, b, rfl, nt, rfl, hka, hkb⟩
      obtain ⟨hj, rfl⟩ := at_map hkb
      cases hka
      rw [List.length_map] at hi
      have ut := Same.upd (o := .tup [.int (i : Nat), .int (line.getD i 0)]) nt
      refine ⟨t, _, rfl, SqT.of upd_same, rfl, _, _, rfl, _, _, rfl, rfl, ?_⟩
      have s4 := s3.trans ut
      have hfo4 := ut _ _ hfo
      have hP4 := hP.keep ut
      generalize L2.upd H3 t (.tup [.int (i : Nat), .int (line.getD i 0)]) = H4 at *
      have ha4 := s4 _ _ ha2
      refine ⟨_, rfl, _, rfl, _, rfl, _, _, rfl, rfl, _, rfl, a, _, rfl, SqL.of ha4, fun c nc => ?_⟩
      have ecut : cutV (line.map V.int) (some ((i : Int) + 1)) none = (line.drop (i + 1)).map V.int := cut_fromN line (i := i + 1) (by omega)
      rw [ecut]
      have uc := Same.upd (o := .lst ((line.drop (i + 1)).map V.int)) nc
      have hc := upd_selfN (o := .lst ((line.drop (i + 1)).map V.int)) nc
      have s5 := s4.trans uc
      have hfo5 := uc _ _ hfo4
      have hP5 := hP4.keep uc
      generalize L2.upd H4 c (.lst ((line.drop (i + 1)).map V.int)) = H5 at *
      have hdl : (line.drop (i + 1)).length ≤ 105 := by rw [List.length_drop]; omega
      generalize hrest : line.drop (i + 1) = rest at *
      refine ⟨c, rfl, ⟨_, SqL.of hc⟩, fun L nL => ?_⟩
      refine lc_list (K := K) (a := c) (xs := rest.map V.int) (fun j H6 => ∃ us : List Addr, H6 L = some (.lst (us.map V.ref)) ∧ PairsAt H6 us (((rest.take j).filter fun l => decide (l < line.getD i 0)).map fun l => (l, line.getD i 0)) ∧ (∀ t ∈ us, H t = none) ∧ us.length ≤ j ∧ Same H5 H6)
        ⟨[], upd_same, by rw [List.take_zero]; trivial, (fun t h => by cases h), Nat.le_refl _, Same.upd nL⟩ (fun j H6 _ h6 => by obtain ⟨_, _, _, _, _, s6⟩ := h6; exact s6.seq (SqL.of hc)) ?_ ?_
      · rintro j x H6 hj6 ⟨us, hL, hPu, hfu, hul, s6⟩
        obtain ⟨hjl, rfl⟩ := at_map hj6
        have e : rest.take (j + 1) = rest.take j ++ [rest.getD j 0] := by rw [List.take_add_one, List.getD_eq_getElem?_getD, List.getElem?_eq_getElem hjl]; rfl
        rw [e, List.filter_append, List.map_append]
        refine ⟨rfl, ?_⟩
        refine ⟨_, rfl, _, rfl, _, _, rfl, rfl, _, rfl, ?_⟩
        by_cases hlt : rest.getD j 0 < line.getD i 0
        · refine iteP (decide_eq_true hlt) ?_
          rw [show [rest.getD j 0].filter (fun l => decide (l < line.getD i 0)) = [rest.getD j 0] from by rw [List.filter_cons, if_pos (decide_eq_true hlt)]; rfl]
          refine ⟨_, rfl, _, rfl, (by show 2 ≤ sizeLine; decide), fun tt ntt => ?_⟩
          have w1 := Same.upd (o := .tup [.int (rest.getD j 0), .int (line.getD i 0)]) ntt
          have htt := upd_selfN (o := .tup [.int (rest.getD j 0), .int (line.getD i 0)]) ntt
          have hL7 := w1 _ _ hL
          refine ⟨_, hL7, ?_, us ++ [tt], ?_, ?_, ?_, ?_, Same_updD (s6.trans w1) nL⟩
          · rw [List.length_map]
            exact small1000 (by omega)
          · rw [upd_same, List.map_append]
            rfl
          · exact PairsAt.updL hL7 (PairsAt.snoc htt (hPu.keep w1))
          · intro y hy
            rcases List.mem_append.mp hy with hy | hy
            · exact hfu y hy
            · rw [List.mem_singleton.mp hy]
              exact s2.free (s5.free (s6.free ntt))
          · rw [List.length_append, List.length_singleton]
            omega
        · refine iteN (fun h => hlt (of_decide_eq_true h)) ?_
          rw [show [rest.getD j 0].filter (fun l => decide (l < line.getD i 0)) = [] from by rw [List.filter_cons, if_neg (fun h => hlt (of_decide_eq_true h))]; rfl, List.map_nil, List.append_nil]
          exact ⟨us, hL, hPu, hfu, by omega, s6⟩
      · rintro H6 ⟨us, hL, hPu, hfu, hul, s6⟩
        rw [List.length_map] at hul
        rw [List.length_map, List.take_length] at hPu
        have hts : ts.length ≤ 105 * 105 := by
          rw [hP.len]
          have h1 := prsTo_len line i
          have h2 : i * line.length ≤ 105 * 105 := Nat.mul_le_mul (by omega) hll
          omega
        refine ⟨fo, L, _, _, rfl, rfl, s6 _ _ hfo5, hL, ?_, fun z nz => ?_⟩
        · rw [List.length_map, List.length_map]
          exact big_ok (by omega)
        · have uz := Same.upd (o := .lst (ts.map V.ref ++ us.map V.ref)) nz
          refine ⟨z, ts ++ us, _, _, _, rfl, s2.free ((s5.trans s6).free nz), by rw [upd_same, List.map_append], ?_, ?_, (s5.trans s6).trans uz⟩
          · show PairsAt _ _ (prsTo line i ++ (((line.drop (i + 1)).filter fun l => decide (l < line.getD i 0)).map fun l => (l, line.getD i 0)))
            rw [hrest]
            exact PairsAt.app (hPu.keep uz) ((hP5.keep s6).keep uz)
          · intro y hy
            exact (List.mem_append.mp hy).elim (hfr y) (hfu y)
    · rintro σ H3 ⟨fo, ts, v5, v6, v7, rfl, nfo, hfo, hP, hfr, s3⟩
      rw [List.length_map] at hP
      have e := prsTo_all line line.length (Nat.le_refl _)
      rw [List.drop_length] at e
      have e2 : prsTo line line.length = prs line := by rw [← e]; exact (List.append_nil _).symm
      rw [e2] at hP
      exact ⟨_, rfl, q fo ts H3 (s2.trans s3) nfo hfo hP hfr⟩
end
end Sv

/-! One order begins another one by crossed pairs: all pairs of small orders, decided. By the verifier. -/
namespace Sv
open PySem L2
theorem ask_pl1 : askAll .pl 1 = true := by decide +kernel
theorem ask_pl2 : askAll .pl 2 = true := by decide +kernel
theorem ask_pl3 : askAll .pl 3 = true := by decide +kernel
theorem ask_pl4 : askAll .pl 4 = true := by decide +kernel
theorem ask_pl5 : askAll .pl 5 = true := by decide +kernel
theorem ask_mi1 : askAll .mi 1 = true := by decide +kernel
theorem ask_mi2 : askAll .mi 2 = true := by decide +kernel
theorem ask_mi3 : askAll .mi 3 = true := by decide +kernel
theorem ask_ri2 : askAll .ri 2 = true := by decide +kernel
theorem ask_ri3 : askAll .ri 3 = true := by decide +kernel
theorem ask_ri4 : askAll .ri 4 = true := by decide +kernel
theorem ask_all {k : Nm} {n : Nat} (hK : okK k n = true) (hm : many k n ≤ 4) (hi : k = .mi → n ≤ 3) : askAll k n = true := by
  cases k with
  | pl =>
    have h5 : n ≤ 5 := by unfold many at hm; rw [if_pos rfl] at hm; omega
    have h1 : 1 ≤ n := by have := okK_le hK; omega
    obtain rfl | rfl | rfl | rfl | rfl : n = 1 ∨ n = 2 ∨ n = 3 ∨ n = 4 ∨ n = 5 := by omega
    · exact ask_pl1
    · exact ask_pl2
    · exact ask_pl3
    · exact ask_pl4
    · exact ask_pl5
  | mi =>
    have h3 := hi rfl
    have h1 : 1 ≤ n := by have := okK_le hK; omega
    obtain rfl | rfl | rfl : n = 1 ∨ n = 2 ∨ n = 3 := by omega
    · exact ask_mi1
    · exact ask_mi2
    · exact ask_mi3
  | ri =>
    have h5 : n ≤ 4 := by unfold many at hm; rw [if_neg (by decide)] at hm; omega
    have h1 : 2 ≤ n := by have h := of_decide_eq_true hK; omega
    obtain rfl | rfl | rfl : n = 2 ∨ n = 3 ∨ n = 4 := by omega
    · exact ask_ri2
    · exact ask_ri3
    · exact ask_ri4
end Sv

namespace Sv
open PySem PySem.Spec PyProof.Rows L2
theorem room65 {k : Nat} {A : Around} (hr : Room k A) : A.units + 65 < cLine := by
  have := hr.un
  omega
section
variable {X : Cx} {k : Nat}
def bS (b : Bool) : Str := if b then "True" else "False"
theorem call_reprB : CallR X (.builtin "repr") (fun xs H Q => ∃ b, xs = [.bl b] ∧ Q (.str (bS b)) H) := by
  intro pins s σ H xs us Q I r h
  obtain ⟨b, rfl, q⟩ := h
  obtain ⟨u, rfl, hu⟩ := vals1 r
  cases (show u = Value.bool b from hu)
  refine PySem.P.repr_of_bool ?_
  exact ⟨.str (bS b), H, I.tok _, ⟨s.toks, by cases b <;> rfl⟩, q⟩
end
/-- two numbers as the program's pair -/
def pd (q : Int × Int) : PyData := .tuple [.int q.1, .int q.2]
theorem eqv_pd (p q : Int × Int) : PyData.eqv (pd p) (pd q) = decide (p = q) := by
  obtain ⟨a, b⟩ := p
  obtain ⟨c, d⟩ := q
  have h := eqv_l [a, b] [c, d]
  rw [PyData.eqv] at h
  unfold pd
  rw [PyData.eqv]
  refine Eq.trans h ?_
  refine Bool.eq_iff_iff.mpr ?_
  rw [decide_eq_true_iff, decide_eq_true_iff]
  constructor
  · intro e
    injection e with e1 e2
    injection e2 with e3
    rw [e1, e3]
  · intro e
    injection e with e1 e2
    rw [e1, e2]
theorem any_pd (q : Int × Int) (ps : List (Int × Int)) : ((ps.map pd).any fun z => PyData.eqv z (pd q)) = decide (q ∈ ps) := by
  refine Bool.eq_iff_iff.mpr ?_
  rw [decide_eq_true_iff, List.any_map, List.any_eq_true]
  constructor
  · rintro ⟨u, hu, e⟩
    have e2 : PyData.eqv (pd u) (pd q) = true := e
    rw [eqv_pd] at e2
    exact of_decide_eq_true e2 ▸ hu
  · intro h
    refine ⟨q, h, ?_⟩
    show PyData.eqv (pd q) (pd q) = true
    rw [eqv_pd]
    exact decide_eq_true rfl
theorem pd_lay : ∀ ps : List (Int × Int), PyData.canLayAll0 (ps.map pd) = true
  | [] => rfl
  | q :: r => by
    show (PyData.canLay0 (pd q) && PyData.canLayAll0 (r.map pd)) = true
    rw [pd_lay r]
    rfl
theorem pd_depth : ∀ ps : List (Int × Int), PyData.depthAll (ps.map pd) ≤ 1
  | [] => Nat.zero_le _
  | q :: r => by
    have h := pd_depth r
    have e : PyData.depth (pd q) = 1 := by simp [pd, PyData.depth, PyData.depthAll]
    show max (PyData.depth (pd q)) (PyData.depthAll (r.map pd)) ≤ 1
    omega
theorem pd_shaped (ps : List (Int × Int)) : SeqAt.shaped (.list (ps.map pd)) = true := by
  have h := pd_depth ps
  have e : PyData.depth (.list (ps.map pd)) = PyData.depthAll (ps.map pd) + 1 := by simp [PyData.depth]
  unfold SeqAt.shaped
  rw [show PyData.canLay0 (.list (ps.map pd)) = PyData.canLayAll0 (ps.map pd) from rfl, pd_lay, decide_eq_true (by omega)]
  rfl
theorem pd_shaped1 (q : Int × Int) : SeqAt.shaped (pd q) = true := by
  have e : PyData.depth (pd q) = 1 := by simp [pd, PyData.depth, PyData.depthAll]
  unfold SeqAt.shaped
  rw [e]
  rfl
theorem eqv_pd_nil (ps : List (Int × Int)) : PyData.eqv (.list (ps.map pd)) (.list []) = decide (ps = []) := by
  cases ps with
  | nil => rw [PyData.eqv]; rfl
  | cons q r => rw [PyData.eqv]; rfl
theorem dp_pd {K : PySem.W.Frag} {H : Hp} {t : Addr} {q : Int × Int} (h : H t = some (.tup [.int q.1, .int q.2])) : Dp K H (.ref t) (pd q) := Dp.tup (SqT.of h) (.cons (.int _) (.cons (.int _) .nil))
theorem dp_pds {K : PySem.W.Frag} {H : Hp} : ∀ {ts : List Addr} {ps : List (Int × Int)}, PairsAt H ts ps → DpAll K H (ts.map V.ref) (ps.map pd)
  | [], [], _ => .nil
  | t :: ts, p :: ps, h => .cons (dp_pd h.1) (dp_pds h.2)
theorem PairsAt.keepX {H H' : Hp} {g : Addr} (e : SameX g H H') : ∀ {ts : List Addr} {ps : List (Int × Int)}, (∀ t ∈ ts, t ≠ g) → PairsAt H ts ps → PairsAt H' ts ps
  | [], [], _, _ => trivial
  | t :: ts, p :: ps, hn, h => ⟨e _ _ h.1 (hn t (List.mem_cons_self ..)), PairsAt.keepX e (fun x hx => hn x (List.mem_cons_of_mem _ hx)) h.2⟩
/-- what lies in the place of an order: the order and its pairs -/
def RowE (H : Hp) (g : Addr) (k : Nm) (n : Nat) (o pl : Addr) (ws : List Int) : Prop :=
  (H o = some (.lst (ws.map V.int)) ∧ o ≠ g ∧ pl ≠ g) ∧ ∃ ts : List Addr, H pl = some (.lst (ts.map V.ref)) ∧ PairsAt H ts (pairsP k n ws) ∧ ∀ t ∈ ts, t ≠ g
theorem RowE.keepX {H H' : Hp} {g o pl : Addr} {k : Nm} {n : Nat} {ws : List Int} (h : RowE H g k n o pl ws) (e : SameX g H H') : RowE H' g k n o pl ws := by
  obtain ⟨⟨h1, h2, h3⟩, ts, h4, h5, h6⟩ := h
  exact ⟨⟨e _ _ h1 h2, h2, h3⟩, ts, e _ _ h4 h3, h5.keepX e h6, h6⟩
structure WD (C g : Addr) (H : Hp) (p ev pr : Addr) (k : Nm) (n : Nat) (os pls : List Addr) (wss : List (List Int)) : Prop where
  kat : KAt C H p k n
  hev : H ev = some (.lst (os.map V.ref))
  hpr : H pr = some (.lst (pls.map V.ref))
  ne : p ≠ g ∧ ev ≠ g ∧ pr ≠ g
  ln : os.length = wss.length ∧ pls.length = wss.length
  row : ∀ (i : Nat) (o pl : Addr) (ws : List Int), os[i]? = some o → pls[i]? = some pl → wss[i]? = some ws → RowE H g k n o pl ws
theorem WD.keepX {C g : Addr} {H H' : Hp} {p ev pr : Addr} {k : Nm} {n : Nat} {os pls : List Addr} {wss : List (List Int)} (h : WD C g H p ev pr k n os pls wss) (e : SameX g H H') : WD C g H' p ev pr k n os pls wss :=
  ⟨let ⟨dx, z⟩ := h.kat; ⟨dx, e _ _ z h.ne.1⟩, e _ _ h.hev h.ne.2.1, e _ _ h.hpr h.ne.2.2, h.ne, h.ln, fun i o pl ws h1 h2 h3 => (h.row i o pl ws h1 h2 h3).keepX e⟩
theorem WD.keep {C g : Addr} {H H' : Hp} {p ev pr : Addr} {k : Nm} {n : Nat} {os pls : List Addr} {wss : List (List Int)} (h : WD C g H p ev pr k n os pls wss) (e : Same H H') : WD C g H' p ev pr k n os pls wss := h.keepX (Same.x g e)
theorem WD.get {C g : Addr} {H : Hp} {p ev pr : Addr} {k : Nm} {n : Nat} {os pls : List Addr} {wss : List (List Int)} (h : WD C g H p ev pr k n os pls wss) {j : Nat} (hj : j < os.length) : ∃ (o pl : Addr) (ws : List Int), os[j]? = some o ∧ pls[j]? = some pl ∧ wss[j]? = some ws ∧ RowE H g k n o pl ws := by
  have e1 := List.getElem?_eq_getElem hj
  have l2 : j < pls.length := by have := h.ln; omega
  have l3 : j < wss.length := by have := h.ln; omega
  have e2 := List.getElem?_eq_getElem l2
  have e3 := List.getElem?_eq_getElem l3
  exact ⟨_, _, _, e1, e2, e3, h.row j _ _ _ e1 e2 e3⟩
theorem atI_ref {os : List Addr} {j : Nat} {o : Addr} (h : os[j]? = some o) : atI (os.map V.ref) (j : Int) = some (.ref o) := atI_nat (by rw [List.getElem?_map, h]; rfl)
theorem if_mid {k : Nm} {n : Nat} {σ : L2.St} {H : Hp} {Q : VK} (h1 : σ[1]? = some (some (V.str k.s))) (h2 : σ[2]? = some (some (V.int (n : Int)))) (h : ∀ mv : Int, (k = .ri → mv = (n : Int)) → Q (.int mv) H) : tIf (tTest (tOp rNe (tVar 1) (tC (.str ("ring" : Str))))) (tC (.int 0)) (tVar 2) σ H Q := by
  refine ⟨_, h1, rfl, _, rfl, ite2 (fun hp => h 0 fun e => ?_) (fun hp => ⟨_, h2, h n fun _ => rfl⟩)⟩
  subst e
  exact absurd hp (by decide)
theorem pairs_le {k : Nm} {n : Nat} {w : List Int} (h : w.length = n) (hn : n ≤ 7) : (pairsP k n w).length ≤ 105 * 105 := by
  unfold pairsP
  have hl := lineP_len (k := k) h hn
  generalize lineP k n 7 w = line at *
  have e := prsTo_all line line.length (Nat.le_refl _)
  rw [List.drop_length] at e
  have e2 : prsTo line line.length = prs line := by rw [← e]; exact (List.append_nil _).symm
  rw [← e2]
  exact Nat.le_trans (prsTo_len line line.length) (Nat.mul_le_mul hl hl)
theorem ne_v {a b : V} (h : a = b) : ¬ ((!decide (a = b)) = true) := by simp [h]
theorem due_filter (l ps : List (Int × Int)) : decide ((l.filter fun q => !decide (q ∈ ps)) = []) = l.all fun q => decide (q ∈ ps) := by
  refine Bool.eq_iff_iff.mpr ?_
  rw [decide_eq_true_iff, List.filter_eq_nil_iff, List.all_eq_true]
  refine forall_congr' fun q => forall_congr' fun _ => ?_
  cases decide (q ∈ ps) <;> simp
/-- the pairs that are asked -/
def flt (k : Nm) (n : Nat) (q : Int × Int) : Bool := decide (k ≠ .ri) || (decide (0 ≤ q.1) && decide (q.1 < (n : Int)))
theorem tt_ok {K : PySem.W.Frag} {k : Nm} {n : Nat} {mv : Int} {t : Addr} {q : Int × Int} {σ : L2.St} {H : Hp} {Q : Bool → Hp → Prop} (h1 : σ[1]? = some (some (V.str k.s))) (h6 : σ[6]? = some (some (V.int mv))) (h15 : σ[15]? = some (some (V.ref t))) (ht : SqT K H t [.int q.1, .int q.2]) (hmv : k = .ri → mv = (n : Int)) (h : Q (flt k n q) H) :
    tOr (tTest (tOp rNe (tVar 1) (tC (.str ("ring" : Str))))) (tTest (tChain (rI0 fun i j => V.bl (decide (i ≤ j))) (rI0 fun i j => V.bl (decide (i < j))) (tC (.int 0)) (tOp (rIxT K) (tVar 15) (tC (.int 0))) (tVar 6))) σ H Q := by
  refine ⟨_, h1, rfl, _, rfl, ?_⟩
  unfold flt at h
  by_cases e : k = .ri
  · rw [hmv e] at h6
    subst e
    refine iteN (by decide) ?_
    refine ⟨_, h15, t, _, _, V.int q.1, rfl, rfl, ht, rfl, _, _, rfl, rfl, _, rfl, ite2 (fun h0 => ?_) (fun h0 => ?_)⟩
    · refine ⟨_, h6, _, _, rfl, rfl, _, rfl, ?_⟩
      rw [h0] at h
      exact h
    · refine ⟨_, rfl, ?_⟩
      rw [Bool.eq_false_iff.mpr h0] at h
      exact h
  · refine iteP (by cases k <;> first | exact absurd rfl e | decide +kernel) ?_
    rw [decide_eq_true e] at h
    exact h
section
variable {P : Program} {w : World} {K : PySem.W.Frag} {mg : Str → Option Value} {base : Heap} {f C D : Addr} {fd : FuncData}
def spRightG : Sp := fun vs H Q _ => ∃ (g : Addr) (a b c : Int), vs = [.ref g] ∧ GenAt H g a b c ∧ (0 ≤ c ∧ c ≤ 10000) ∧ ∀ H', SameX g H H' → Q (.bl true) H'
theorem ok_right59 (T : Tk K w mg C D) (F : FnP K "_law_right" "_law_right" s__law_right f fd)
    (c_Kind : Cd P w K mg base "Kind" C ["self", "name", "size"] 2 (spInit C)) (c_law_random : Gd P w K mg base "_law_random" ["_law_generator_here", "_law_bound"] 2 spRandom) (c_law_kind : Gd P w K mg base "_law_kind" ["_law_generator_here"] 3 spKindD)
    (c_law_all : Gd P w K mg base "_law_all" ["_law_name", "_law_size", "_law_most"] 2 (spAllD K)) (c_law_pairs : Gd P w K mg base "_law_pairs" ["_law_name", "_law_order", "_law_rounds"] 2 (spPairsN K))
    (c_law_begins : Gd P w K mg base "_law_begins" ["_law_name", "_law_one", "_law_other"] 5 (spBeginN K))
    (c_begins : Gd P w K mg base "begins" ["kind", "one", "other"] 6 (spBegins K C restB)) (c_beginsKw : GdK P w K mg base "begins" ["kind", "one", "other"] ["other", "one", "kind"] gRev 6 (spBegins K C restB)) (c_ends : Gd P w K mg base "ends" ["kind", "one", "other"] 6 (spBegins K C restA)) (c_opposite : Gd P w K mg base "opposite" ["kind", "order"] 6 (spOpp2 K C)) :
    FnOk P w K mg base CX0 7 f fd ["_law_generator_here"] spRightG := by
  refine okN F sc__law_right (fun vs H Q E h => ?_) (fun cdv A outer s H vs Q E hr h => ?_)
  · obtain ⟨g, a, b, c, rfl, _⟩ := h
    rfl
  · obtain ⟨g, a, b, c, rfl, hg, ⟨c0, c1⟩, q⟩ := h
    refine ⟨_, (pss_cons (ps_asg (pe_callG c_law_kind (hr.mono (by decide)) (by rfl) (pa_cons (pv 0) pa_nil)) (pg_tup rfl (pgs_cons (pg_name (i := 1) sc__law_right.nd rfl (Or.inr rfl)) (pgs_cons (pg_name (i := 2) sc__law_right.nd rfl (Or.inl rfl)) pgs_nil))))
      (pss_cons (ps_par (i := 3) (j := 4) (by rfl) sc__law_right.nd rfl rfl (by decide) rfl rfl (pa_cons (pe_makeG c_Kind (hr.mono (by decide)) (by rfl) (pa_cons (pv 1) (pa_cons (pv 2) pa_nil))) (pa_cons (pe_callG c_law_all (hr.mono (by decide)) (by rfl) (pa_cons (pv 1) (pa_cons (pv 2) (pa_cons (pe_op op_add pe_int (pe_callG c_law_random (hr.mono (by decide)) (by rfl) (pa_cons (pv 0) (pa_cons pe_int pa_nil)))) pa_nil)))) pa_nil)) (by rfl))
      (pss_cons (ps_set (i := 5) sc__law_right.nd rfl (by first | exact Or.inl rfl | exact Or.inr rfl) (pe_lc (own := [(("_law_order" : Str), 14)]) (g := (gName 14)) (tt := tYes) rfl sc__law_right.nd (pi_list (pv 4)) (blkOk_by (own := [(("_law_order" : Str), 14)]) (N := ["_law_generator_here", "_law_name", "_law_size", "_law_kind_here", "_law_every", "_law_pairs_here", "_law_middle", "_law_turn", "_law_at", "_law_beside", "_law_one", "_law_other", "_law_least", "_law_due", "_law_order", "_law_pair"]) (sc := defScope s__law_right) (by decide +kernel)) (fun _ _ _ _ _ => (pg_name (i := 14) sc__law_right.nd rfl (Or.inl rfl))) (fun _ _ _ _ _ => pts_nil) (fun _ _ _ _ _ => (pe_callG c_law_pairs (hr.mono (by decide)) (by rfl) (pa_cons (pv 1) (pa_cons (pv 14) (pa_cons pe_int pa_nil)))))))
      (pss_cons (ps_set (i := 6) sc__law_right.nd rfl (by first | exact Or.inl rfl | exact Or.inr rfl) (pe_ifExp (pt_cmpR op_ne (pv 1) pe_str (nomark _)) pe_int (pv 2)))
      (pss_cons (ps_for PassesOwn.never rfl (pi_range1 (by rfl) T.m_range (pa_cons pe_int pa_nil)) (pg_name (i := 7) sc__law_right.nd rfl (Or.inl rfl)) (pss_cons (ps_asg (pe_tup (pa_cons (pe_callG c_law_random (hr.mono (by decide)) (by rfl) (pa_cons (pv 0) (pa_cons (pe_callB call_len_seq (by rfl) T.m_len (by decide +kernel) (pa_cons (pv 4) pa_nil)) pa_nil))) (pa_cons (pe_callG c_law_random (hr.mono (by decide)) (by rfl) (pa_cons (pv 0) (pa_cons (pe_callB call_len_seq (by rfl) T.m_len (by decide +kernel) (pa_cons (pv 4) pa_nil)) pa_nil))) pa_nil))) (pg_tup rfl (pgs_cons (pg_name (i := 8) sc__law_right.nd rfl (Or.inl rfl)) (pgs_cons (pg_name (i := 9) sc__law_right.nd rfl (Or.inr rfl)) pgs_nil))))
      (pss_cons (ps_par (i := 10) (j := 11) (by rfl) sc__law_right.nd rfl rfl (by decide) rfl rfl (pa_cons (pe_ix ix_list (pv 4) (pv 8) (fun _ _ => rfl)) (pa_cons (pe_ix ix_list (pv 4) (pv 9) (fun _ _ => rfl)) pa_nil)) (by rfl))
      (pss_cons (ps_setLc (i := 12) (own := [(("_law_pair" : Str), 15)]) (g := (gName 15)) rfl sc__law_right.nd rfl rfl (sw_true rfl rfl rfl (by decide +kernel)) (pi_list (pe_ix (show IxR _ (rIxL K) from ix_list) (pv 5) (pv 8) (fun _ _ => rfl))) (blkOk_by (own := [(("_law_pair" : Str), 15)]) (N := ["_law_generator_here", "_law_name", "_law_size", "_law_kind_here", "_law_every", "_law_pairs_here", "_law_middle", "_law_turn", "_law_at", "_law_beside", "_law_one", "_law_other", "_law_least", "_law_due", "_law_order", "_law_pair"]) (sc := defScope s__law_right) (by decide +kernel)) (fun _ _ _ _ _ => (pg_name (i := 15) sc__law_right.nd rfl (Or.inl rfl))) (fun _ _ _ _ _ => pts_one (PW.pt (pw_or (pt_cmpR op_ne (pv 1) pe_str (nomark _)) (pw_or1 (pt_chain op_le op_lt pe_int (pe_ix (show IxR _ (rIxT K) from ix_tup) (pv 15) pe_int (fun _ _ => rfl)) (pv 6)))))) (fun _ _ _ _ _ => (pv 15)))
      (pss_cons (ps_set (i := 13) sc__law_right.nd rfl (by first | exact Or.inl rfl | exact Or.inr rfl) (pe_cmpR (op_eqD hr.units) (pe_lc (own := [(("_law_pair" : Str), 15)]) (g := (gName 15)) rfl sc__law_right.nd (pi_list (pv 12)) (blkOk_by (own := [(("_law_pair" : Str), 15)]) (N := ["_law_generator_here", "_law_name", "_law_size", "_law_kind_here", "_law_every", "_law_pairs_here", "_law_middle", "_law_turn", "_law_at", "_law_beside", "_law_one", "_law_other", "_law_least", "_law_due", "_law_order", "_law_pair"]) (sc := defScope s__law_right) (by decide +kernel)) (fun _ _ _ _ _ => (pg_name (i := 15) sc__law_right.nd rfl (Or.inl rfl))) (fun _ _ _ _ _ => pts_one (pt_cmpR (show OpR _ (compareOp .NotIn) (rNotInD K) from op_notInD (room65 hr)) (pv 15) (pe_ix (show IxR _ (rIxL K) from ix_list) (pv 5) (pv 9) (fun _ _ => rfl)) (by with_unfolding_all rfl))) (fun _ _ _ _ _ => (pv 15))) (pe_lst pa_nil) (nomark _)))
      (pss_cons (ps_if (PW.pt (pw_or (pt_cmpR op_ne (pe_callB call_reprB (by rfl) T.m_repr (by decide +kernel) (pa_cons (pe_callG c_begins (hr.mono (by decide)) (by rfl) (pa_cons (pv 3) (pa_cons (pv 10) (pa_cons (pv 11) pa_nil)))) pa_nil)) (pe_callB call_reprB (by rfl) T.m_repr (by decide +kernel) (pa_cons (pv 13) pa_nil)) (nomark _)) (pw_or (pt_cmpR op_ne (pv 13) (pe_callG c_law_begins (hr.mono (by decide)) (by rfl) (pa_cons (pv 1) (pa_cons (pv 10) (pa_cons (pv 11) pa_nil)))) (nomark _)) (pw_or1 (pt_cmpR op_ne (pe_callKG c_beginsKw (hr.mono (by decide)) (by rfl) (pk_cons (pv 11) (pk_cons (pv 10) (pk_cons (pv 3) pk_nil)))) (pv 13) (nomark _)))))) (pss_one (ps_ret pe_bl)) pss_nil)
      (pss_cons (ps_if (pt_cmpR op_ne (pe_callB call_reprB (by rfl) T.m_repr (by decide +kernel) (pa_cons (pe_callG c_ends (hr.mono (by decide)) (by rfl) (pa_cons (pv 3) (pa_cons (pe_callG c_opposite (hr.mono (by decide)) (by rfl) (pa_cons (pv 3) (pa_cons (pv 10) pa_nil))) (pa_cons (pe_callG c_opposite (hr.mono (by decide)) (by rfl) (pa_cons (pv 3) (pa_cons (pv 11) pa_nil))) pa_nil)))) pa_nil)) (pe_callB call_reprB (by rfl) T.m_repr (by decide +kernel) (pa_cons (pv 13) pa_nil)) (nomark _)) (pss_one (ps_ret pe_bl)) pss_nil)
      (pss_one (ps_if (PW.pt (pw_and (pt_val (pv 13)) (pw_and1 (pt_cmpR op_ne (pe_callB call_reprB (by rfl) T.m_repr (by decide +kernel) (pa_cons (pe_callG c_begins (hr.mono (by decide)) (by rfl) (pa_cons (pv 3) (pa_cons (pv 11) (pa_cons (pv 10) pa_nil)))) pa_nil)) (pe_callB call_reprB (by rfl) T.m_repr (by decide +kernel) (pa_cons (pe_cmpR op_eq (pv 8) (pv 9) (nomark _)) pa_nil)) (nomark _))))) (pss_one (ps_ret pe_bl)) pss_nil)))))))))
      (pss_one (ps_ret pe_bl))))))), ?_⟩
    refine ⟨_, rfl, g, a, b, c, rfl, hg, ⟨c0, by omega⟩, fun t k n a1 c2 H1 hK hmn c20 c21 g1 x1 nt htg hT => ?_⟩
    have hn := okK_le hK
    refine ⟨t, _, rfl, SqT.of hT, rfl, _, _, rfl, _, _, rfl, rfl, ?_⟩
    refine ⟨_, rfl, _, rfl, fun p dx np ndx nex => ?_⟩
    refine ⟨p, dx, k, n, rfl, hK, upd_same, fun H2 h2 kp2 => ⟨rfl, ?_⟩⟩
    have s2 : Same H1 H2 := L2.Same.made np ndx kp2
    have hpg : p ≠ g := (ne_of_none g1 np).symm
    have g2 : GenAt H2 g a1 b c2 := s2 _ _ g1
    refine ⟨_, rfl, _, rfl, _, rfl, g, a1, b, c2, 2, rfl, g2, ⟨by decide, by decide⟩, ⟨c20, by omega⟩, fun r a2 c3 H3 r0 r1 c30 c31 g3 x3 => ?_⟩
    obtain ⟨j, rfl⟩ : ∃ j : Nat, r = (j : Int) := ⟨r.toNat, by omega⟩
    have h3 := x3 _ _ h2 hpg
    refine ⟨_, _, rfl, rfl, k, n, 3 + j, by simp, hK, hmn.1, by omega, fun ev os wss H4 s4 nev hev hfl hup hnd hfo hlen => ?_⟩
    have h4 := s4 _ _ h3
    have g4 : GenAt H4 g a2 b c3 := s4 _ _ g3
    have evg : ev ≠ g := (ne_of_none g3 nev).symm
    have ogs : ∀ o ∈ os, o ≠ g := fun o ho => (ne_of_none g3 (hfo o ho)).symm
    have x04 : SameX g H H4 := ((x1.trans (Same.x g s2)).trans x3).trans (Same.x g s4)
    have hF : ∀ ws ∈ wss, Form k n ws ∧ crP k n ws ≤ 4 := fun ws hw => ⟨(hup.1 ws hw).1, by have := (hup.1 ws hw).2; omega⟩
    clear s4 x3 s2 x1 kp2 nev hfo g1 g2 g3 h2 h3 hT
    refine ⟨_, _, rfl, ?_⟩
    -- the pairs of every order
    refine ⟨_, rfl, ev, rfl, ⟨_, SqL.of hev⟩, fun L nL => ?_⟩
    have Lg : L ≠ g := (ne_of_none g4 nL).symm
    refine lc_list (K := K) (a := ev) (xs := os.map V.ref) (fun i H5 => ∃ pls : List Addr, pls.length = i ∧ H5 L = some (.lst (pls.map V.ref)) ∧ Same H4 H5 ∧ (∀ (j : Nat) (pl : Addr) (ws : List Int), pls[j]? = some pl → wss[j]? = some ws → H4 pl = none ∧ pl ≠ L ∧ ∃ ts : List Addr, H5 pl = some (.lst (ts.map V.ref)) ∧ PairsAt H5 ts (pairsP k n ws) ∧ ∀ t ∈ ts, H4 t = none))
      ⟨[], rfl, upd_same, Same.upd nL, fun j pl ws h => by simp at h⟩ (fun i H5 _ h5 => by obtain ⟨_, _, _, s5, _⟩ := h5; exact s5.seq (SqL.of hev)) ?_ ?_
    · rintro i x H5 hi ⟨pls, hpl, hD, s5, hrow⟩
      obtain ⟨o, ws, rfl, hjv, ho⟩ := (hfl.keep s5).get hi
      have hil : i < os.length := by
        have := (List.getElem?_eq_some_iff.mp hi).1
        rw [List.length_map] at this
        exact this
      have Fo := hF ws (List.mem_of_getElem? hjv)
      refine ⟨rfl, ?_⟩
      refine ⟨_, rfl, _, rfl, o, k, n, ws, rfl, ⟨SqL.of ho, Fo.1.1, hK⟩, fun pl ts H6 s6 npl hpl6 hP htf => ?_⟩
      have hD6 := s6 _ _ hD
      have plL : pl ≠ L := (ne_of_none hD npl).symm
      refine ⟨_, hD6, ?_, pls ++ [pl], by rw [List.length_append, hpl]; rfl, push_ref _ _ _ _, Same_updD (s5.trans s6) nL, fun j' pl' ws' h1 h2 => ?_⟩
      · rw [List.length_map]
        exact small1000 (by omega)
      by_cases hj' : j' < pls.length
      · rw [List.getElem?_append_left hj'] at h1
        obtain ⟨z1, z2, ts', z3, z4, z5⟩ := hrow j' pl' ws' h1 h2
        exact ⟨z1, z2, ts', by rw [upd_ne z2]; exact s6 _ _ z3, PairsAt.updL hD6 (z4.keep s6), z5⟩
      · have ej : j' = i := by
          have := (List.getElem?_eq_some_iff.mp h1).1
          rw [List.length_append, List.length_singleton] at this
          omega
        subst ej
        rw [List.getElem?_append_right (by omega), hpl, Nat.sub_self] at h1
        cases h1
        rw [hjv] at h2
        cases h2
        exact ⟨s5.free npl, plL, ts, by rw [upd_ne plL]; exact hpl6, PairsAt.updL hD6 hP, fun t ht => s5.free (htf t ht)⟩
    rintro H5 ⟨pls, hpl, hD, s5, hrow⟩
    rw [List.length_map] at hpl
    have hls : os.length = wss.length := hfl.len
    have hpos : 0 < os.length := by
      have h0 := hup.2 (startL k n) (form_start hK) (by rw [cr_start hK]; omega)
      have := List.length_pos_of_mem h0
      omega
    have W : WD C g H5 p ev L k n os pls wss := by
      refine ⟨⟨dx, s5 _ _ h4⟩, s5 _ _ hev, hD, ⟨hpg, evg, Lg⟩, ⟨hls, by omega⟩, fun i o pl ws e1 e2 e3 => ?_⟩
      obtain ⟨z1, z2, ts, z3, z4, z5⟩ := hrow i pl ws e2 e3
      obtain ⟨o', ws', f1, f2, f3⟩ := (hfl.keep s5).get (i := i) (x := .ref o) (by rw [List.getElem?_map, e1]; rfl)
      cases f1
      rw [e3] at f2
      cases f2
      exact ⟨⟨f3, ogs o (List.mem_of_getElem? e1), (ne_of_none g4 z1).symm⟩, ts, z3, z4, fun t ht => (ne_of_none g4 (z5 t ht)).symm⟩
    have g5 : GenAt H5 g a2 b c3 := s5 _ _ g4
    have x05 : SameX g H H5 := x04.trans (Same.x g s5)
    clear hrow hfl hD s5 nL hev ogs h4 g4 x04
    refine if_mid (k := k) (n := n) rfl rfl fun mv hmv => ?_
    refine ⟨60, rfl, by decide, by decide, ?_⟩
    refine for_range (lo := 0) (n := 60) (fun i σ H7 => ∃ (v7 v8 v9 v10 v11 v12 v13 : Option V) (a' c' : Int), σ = [some (.ref g), some (.str k.s), some (.int (n : Int)), some (.ref p), some (.ref ev), some (.ref L), some (.int mv), v7, v8, v9, v10, v11, v12, v13, none, none] ∧ GenAt H7 g a' b c' ∧ (0 ≤ c' ∧ c' ≤ 11000 + 100 * i) ∧ SameX g H5 H7)
      ⟨none, none, none, none, none, none, none, a2, c3, rfl, g5, ⟨c30, by omega⟩, SameX.refl g H5⟩ ?_ ?_
    · rintro i σ H7 hi ⟨v7, v8, v9, v10, v11, v12, v13, a', c', rfl, g7, ⟨d0, d1⟩, x7⟩
      have W7 := W.keepX x7
      refine ⟨_, rfl, _, rfl, ev, _, rfl, .inl (SqL.of W7.hev), g, a', b, c', _, rfl, g7, ⟨by rw [List.length_map]; omega, by have := small1000 (n := 0) (by decide); rw [List.length_map]; omega⟩, ⟨d0, by omega⟩, fun r1 a8 c8 H8 p0 p1 p2 p3 g8 x8 => ?_⟩
      rw [List.length_map] at p1
      obtain ⟨ja, rfl⟩ : ∃ j : Nat, r1 = (j : Int) := ⟨r1.toNat, by omega⟩
      have W8 := W7.keepX x8
      refine ⟨_, rfl, _, rfl, ev, _, rfl, .inl (SqL.of W8.hev), g, a8, b, c8, _, rfl, g8, ⟨by rw [List.length_map]; omega, by have := small1000 (n := 0) (by decide); rw [List.length_map]; omega⟩, ⟨p2, by omega⟩, fun r2 a9 c9 H9 q0 q1 q2 q3 g9 x9 => ?_⟩
      rw [List.length_map] at q1
      obtain ⟨jb, rfl⟩ : ∃ j : Nat, r2 = (j : Int) := ⟨r2.toNat, by omega⟩
      have W9 := W8.keepX x9
      refine ⟨(by show 2 ≤ sizeLine; decide), fun tt ntt => ?_⟩
      have u1 := Same.upd (o := .tup [V.int (ja : Int), V.int (jb : Int)]) ntt
      have htt := upd_selfN (o := .tup [V.int (ja : Int), V.int (jb : Int)]) ntt
      have W10 := W9.keep u1
      have g10 : GenAt _ g a9 b c9 := u1 _ _ g9
      have x10 : SameX g H5 _ := ((x7.trans x8).trans x9).trans (Same.x g u1)
      generalize L2.upd H9 tt (.tup [V.int (ja : Int), V.int (jb : Int)]) = H10 at *
      refine ⟨tt, _, rfl, SqT.of htt, rfl, _, _, rfl, _, _, rfl, rfl, ?_⟩
      have hc9 : 0 ≤ c9 ∧ c9 ≤ 11000 + 100 * ((i + 1 : Nat) : Int) := ⟨q2, by omega⟩
      clear u1 htt ntt W9 x9 g9 q2 q3 W8 x8 g8 p2 p3 W7 x7 g7 d0 d1
      have hW5 : ∀ ws ∈ wss, ws.length = n := fun ws hw => (hF ws hw).1.1
      obtain ⟨o, pl, ws, eo, epl, ews, hR⟩ := W10.get (j := ja) (by omega)
      obtain ⟨u, ql, us, eu, eql, eus, hR2⟩ := W10.get (j := jb) (by omega)
      have Fo := hF ws (List.mem_of_getElem? ews)
      have Fu := hF us (List.mem_of_getElem? eus)
      refine ⟨_, rfl, _, rfl, ev, _, _, V.ref o, rfl, rfl, SqL.of W10.hev, atI_ref eo, ?_⟩
      refine ⟨_, rfl, _, rfl, ev, _, _, V.ref u, rfl, rfl, SqL.of W10.hev, atI_ref eu, ?_⟩
      obtain ⟨⟨ho, og, plg⟩, ts, hpl0, hP, htg'⟩ := hR
      obtain ⟨⟨hu, ug, qlg⟩, rs, hql0, hPu, hrg⟩ := hR2
      refine ⟨_, _, rfl, ?_⟩
      -- the pairs of the one
      refine ⟨_, rfl, _, rfl, L, _, _, V.ref pl, rfl, rfl, SqL.of W10.hpr, atI_ref epl, pl, rfl, ⟨_, SqL.of hpl0⟩, fun M nM => ?_⟩
      have hPl := hP.len
      have hPl2 := pairs_le (k := k) (w := ws) (hW5 ws (List.mem_of_getElem? ews)) hn.2
      refine lc_list (K := K) (a := pl) (xs := ts.map V.ref) (fun j H11 => ∃ zs : List Addr, H11 M = some (.lst (zs.map V.ref)) ∧ PairsAt H10 zs (((pairsP k n ws).take j).filter (flt k n)) ∧ zs.length ≤ j ∧ Same H10 H11)
        ⟨[], upd_same, by rw [List.take_zero]; trivial, Nat.le_refl _, Same.upd nM⟩ (fun j H11 _ h11 => by obtain ⟨_, _, _, _, s11⟩ := h11; exact s11.seq (SqL.of hpl0)) ?_ ?_
      · rintro j x H11 hj ⟨zs, hM, hZ, hzl, s11⟩
        obtain ⟨t', q', rfl, eq', ht'⟩ := hP.get hj
        have hjl : j < ts.length := by
          have := (List.getElem?_eq_some_iff.mp hj).1
          rw [List.length_map] at this
          exact this
        have e : (pairsP k n ws).take (j + 1) = (pairsP k n ws).take j ++ [q'] := by rw [List.take_add_one, eq']; rfl
        rw [e, List.filter_append]
        refine ⟨rfl, ?_⟩
        refine tt_ok (K := K) (k := k) (n := n) (mv := mv) (t := t') (q := q') rfl rfl rfl (SqT.of (s11 _ _ ht')) hmv ?_
        by_cases hf : flt k n q' = true
        · refine iteP hf ?_
          rw [show [q'].filter (flt k n) = [q'] from by rw [List.filter_cons, if_pos hf]; rfl]
          refine ⟨_, rfl, _, hM, ?_, zs ++ [t'], push_ref _ _ _ _, PairsAt.snoc ht' hZ, ?_, Same_updD s11 nM⟩
          · rw [List.length_map]
            exact big_ok (by omega)
          · rw [List.length_append, List.length_singleton]
            omega
        · refine iteN hf ?_
          rw [show [q'].filter (flt k n) = [] from by rw [List.filter_cons, if_neg hf]; rfl, List.append_nil]
          exact ⟨zs, hM, hZ, by omega, s11⟩
      rintro H11 ⟨zs, hM, hZ, hzl, s11⟩
      rw [List.length_map, hPl, List.take_length] at hZ
      rw [List.length_map] at hzl
      have hZ11 := hZ.keep s11
      have hPu11 := hPu.keep s11
      have W11 := W10.keep s11
      have hql11 := s11 _ _ hql0
      -- what is due
      refine ⟨_, rfl, M, rfl, ⟨_, SqL.of hM⟩, fun N nN => ?_⟩
      have hZl := hZ.len
      refine lc_list (K := K) (a := M) (xs := zs.map V.ref) (fun j H12 => ∃ ys : List Addr, H12 N = some (.lst (ys.map V.ref)) ∧ PairsAt H11 ys (((leastP k n ws).take j).filter fun q => !decide (q ∈ pairsP k n us)) ∧ ys.length ≤ j ∧ Same H11 H12)
        ⟨[], upd_same, by rw [List.take_zero]; trivial, Nat.le_refl _, Same.upd nN⟩ (fun j H12 _ h12 => by obtain ⟨_, _, _, _, s12⟩ := h12; exact s12.seq (SqL.of hM)) ?_ ?_
      · rintro j x H12 hj ⟨ys, hN, hY, hyl, s12⟩
        obtain ⟨t', q', rfl, eq', ht'⟩ := hZ11.get hj
        have hjl : j < zs.length := by
          have := (List.getElem?_eq_some_iff.mp hj).1
          rw [List.length_map] at this
          exact this
        have e : (leastP k n ws).take (j + 1) = (leastP k n ws).take j ++ [q'] := by
          rw [List.take_add_one, show (leastP k n ws)[j]? = some q' from eq']
          rfl
        rw [e, List.filter_append]
        refine ⟨rfl, ?_⟩
        refine ⟨_, rfl, _, rfl, _, rfl, L, _, _, V.ref ql, rfl, rfl, SqL.of (s12 _ _ W11.hpr), atI_ref eql, pd q', (pairsP k n us).map pd, dp_pd (s12 _ _ ht'), Dp.lst (SqL.of (s12 _ _ hql11)) (dp_pds (hPu11.keep s12)), pd_shaped1 _, pd_shaped _, _, rfl, ?_⟩
        rw [any_pd]
        by_cases hf : (!decide (q' ∈ pairsP k n us)) = true
        · refine iteP hf ?_
          rw [show [q'].filter (fun q => !decide (q ∈ pairsP k n us)) = [q'] from by rw [List.filter_cons, if_pos hf]; rfl]
          refine ⟨_, rfl, _, hN, ?_, ys ++ [t'], push_ref _ _ _ _, PairsAt.snoc ht' hY, ?_, Same_updD s12 nN⟩
          · rw [List.length_map]
            exact big_ok (by omega)
          · rw [List.length_append, List.length_singleton]
            omega
        · refine iteN hf ?_
          rw [show [q'].filter (fun q => !decide (q ∈ pairsP k n us)) = [] from by rw [List.filter_cons, if_neg hf]; rfl, List.append_nil]
          exact ⟨ys, hN, hY, by omega, s12⟩
      rintro H12 ⟨ys, hN, hY, hyl, s12⟩
      rw [List.length_map, show zs.length = (leastP k n ws).length from hZl, List.take_length] at hY
      refine ⟨Nat.zero_le _, fun ne nne => ?_⟩
      have u13 := s12.trans (Same.upd (o := .lst []) nne)
      have hN13 := (Same.upd (o := .lst []) nne) _ _ hN
      refine ⟨.list (((leastP k n ws).filter fun q => !decide (q ∈ pairsP k n us)).map pd), .list [], Dp.lst (SqL.of hN13) (dp_pds (hY.keep u13)), Dp.lst (xs := []) (ds := []) (SqL.of upd_same) .nil, pd_shaped _, rfl, ?_⟩
      rw [eqv_pd_nil, due_filter]
      have hbg := due_ok hK (ask_all hK hmn.1 hmn.2) Fo.1 Fu.1 Fo.2 Fu.2
      unfold dueP at hbg
      rw [hbg]
      have s13 := s11.trans u13
      have ho13 := s13 _ _ ho
      have hu13 := s13 _ _ hu
      have W13 := W10.keep s13
      have g13 : GenAt _ g a9 b c9 := s13 _ _ g10
      have x13 := x10.trans (Same.x g s13)
      clear hbg hN13 u13 hY hN s12 s11 hZ hZ11 hM W11 hql11 hPu11 hP hPu hpl0 hql0 htg' hrg W10 g10 x10 ho hu
      generalize L2.upd H12 ne (.lst []) = H13 at *
      have eB : decide (crP k n ws + crP k n (restB k n ws us) = crP k n us) = bgP k n ws us := rfl
      have eA := ends_eq hK Fo.1 Fu.1
      have iw := inv_form hK Fo.1
      have iu := inv_form hK Fu.1
      have ciw := inv_cr hK Fo.1
      have ciu := inv_cr hK Fu.1
      have co := Fo.2
      have cu := Fu.2
      -- begins
      refine ⟨_, rfl, _, rfl, _, rfl, p, o, u, k, n, ws, us, rfl, ⟨W13.kat, SqL.of ho13, Fo.1.1, hK⟩, SqL.of hu13, Fo.1, by omega, Fu.1, by omega, fun H14 s14 => ⟨_, rfl, ?_⟩⟩
      refine ⟨_, rfl, _, rfl, rfl, _, rfl, iteN (ne_v (congrArg (fun z => V.str (bS z)) eB)) ?_⟩
      have ho14 := s14 _ _ ho13
      have hu14 := s14 _ _ hu13
      refine ⟨_, rfl, _, rfl, _, rfl, _, rfl, o, u, k, n, ws, us, rfl, ⟨SqL.of ho14, Fo.1.1, hK⟩, ⟨SqL.of hu14, Fu.1.1, hK⟩, Fo.1, Fu.1, by omega, by omega, fun H15 s15 => ⟨rfl, _, rfl, iteN (ne_v rfl) ?_⟩⟩
      have s135 := s14.trans s15
      have W15 := W13.keep s135
      have ho15 := s135 _ _ ho13
      have hu15 := s135 _ _ hu13
      refine ⟨_, rfl, _, rfl, _, rfl, rfl, rfl, p, o, u, k, n, ws, us, rfl, ⟨W15.kat, SqL.of ho15, Fo.1.1, hK⟩, SqL.of hu15, Fo.1, by omega, Fu.1, by omega, fun H16 s16 => ⟨_, rfl, rfl, _, rfl, iteN (ne_v (congrArg V.bl eB)) ?_⟩⟩
      have s136 := s135.trans s16
      have W16 := W13.keep s136
      have ho16 := s136 _ _ ho13
      have hu16 := s136 _ _ hu13
      -- ends
      refine ⟨_, rfl, _, rfl, _, rfl, p, o, k, n, ws, rfl, ⟨W16.kat, SqL.of ho16, Fo.1.1, hK⟩, Fo.1, by omega, fun y1 H17 s17 ny1 hy1 => ?_⟩
      have s137 := s136.trans s17
      have W17 := W13.keep s137
      have hu17 := s137 _ _ hu13
      refine ⟨_, rfl, _, rfl, p, u, k, n, us, rfl, ⟨W17.kat, SqL.of hu17, Fu.1.1, hK⟩, Fu.1, by omega, fun y2 H18 s18 ny2 hy2 => ?_⟩
      have s138 := s137.trans s18
      have W18 := W13.keep s138
      refine ⟨p, y1, y2, k, n, invP k n ws, invP k n us, rfl, ⟨W18.kat, SqL.of (s18 _ _ hy1), iw.1, hK⟩, SqL.of hy2, iw, by omega, iu, by omega, fun H19 s19 => ⟨_, rfl, ?_⟩⟩
      refine ⟨_, rfl, _, rfl, rfl, _, rfl, iteN (ne_v (congrArg (fun z => V.str (bS z)) eA)) ?_⟩
      have s139 := s138.trans s19
      have W19 := W13.keep s139
      have ho19 := s139 _ _ ho13
      have hu19 := s139 _ _ hu13
      have g19 : GenAt H19 g a9 b c9 := s139 _ _ g13
      have x19 := x13.trans (Same.x g s139)
      have hlb : ja < wss.length := by omega
      refine ⟨_, rfl, _, rfl, ite2 (fun hb => ?_) (fun hb => ?_)⟩
      · have e2 : decide (ws = us) = decide (V.int (ja : Int) = V.int (jb : Int)) := by
          refine Bool.eq_iff_iff.mpr ?_
          rw [decide_eq_true_iff, decide_eq_true_iff]
          constructor
          · intro e
            have e3 : wss[ja]? = wss[jb]? := by rw [ews, eus, e]
            have e4 : ja = jb := by first | exact List.getElem?_inj hlb hnd e3 | exact (List.getElem?_inj hlb hnd).mp e3
            rw [e4]
          · intro e
            have e3 : (ja : Int) = (jb : Int) := V.int.inj e
            have e4 : ja = jb := by omega
            subst e4
            rw [ews] at eus
            exact Option.some.inj eus
        have eC : decide (crP k n us + crP k n (restB k n us ws) = crP k n ws) = decide (V.int (ja : Int) = V.int (jb : Int)) := (back_eq hK Fo.1 Fu.1 hb).trans e2
        refine ⟨_, rfl, _, rfl, _, rfl, p, u, o, k, n, us, ws, rfl, ⟨W19.kat, SqL.of hu19, Fu.1.1, hK⟩, SqL.of ho19, Fu.1, by omega, Fo.1, by omega, fun H20 s20 => ⟨_, rfl, ?_⟩⟩
        refine ⟨_, rfl, _, rfl, rfl, _, rfl, rfl, _, rfl, iteN (ne_v (congrArg (fun z => V.str (bS z)) eC)) ?_⟩
        exact ⟨_, _, _, _, _, _, _, _, _, rfl, s20 _ _ g19, hc9, x19.trans (Same.x g s20)⟩
      · refine iteN (by decide) ?_
        exact ⟨_, _, _, _, _, _, _, _, _, rfl, g19, hc9, x19⟩
    rintro σ H7 ⟨v7, v8, v9, v10, v11, v12, v13, a', c', rfl, g7, _, x7⟩
    exact q _ (x05.trans x7)
def spLaw (K : PySem.W.Frag) : Sp := fun vs H Q _ => ∃ (a : Addr) (ns : List Int), vs = [.ref a] ∧ SqL K H a (ns.map V.int) ∧ ns.length ≤ 63 ∧ ∀ H', Q (.bl true) H'
theorem ok_law (T : Tk K w mg C D) (F : FnP K "law" "law" s_law f fd) (c_law_right : Gd P w K mg base "_law_right" ["_law_generator_here"] 7 spRightG)
    (c_law_generator : Gd P w K mg base "_law_generator" ["_law_script", "_law_index"] 2 (spGen K)) : FnOk P w K mg base CX0 8 f fd ["_law_script"] (spLaw K) := by
  refine okN F sc_law (fun vs H Q E h => ?_) (fun cdv A outer s H vs Q E hr h => ?_)
  · obtain ⟨a, ns, rfl, _⟩ := h
    rfl
  · obtain ⟨a, ns, rfl, hA, hlen, q⟩ := h
    refine ⟨_, (pss_cons (ps_for PassesOwn.never rfl (pi_range1 (by rfl) T.m_range (pa_cons pe_int pa_nil)) (pg_name (i := 1) sc_law.nd rfl (Or.inl rfl)) (pss_one (ps_if (pt_not (pt_val (pe_callG c_law_right (hr.mono (by decide)) (by rfl) (pa_cons (pe_callG c_law_generator (hr.mono (by decide)) (by rfl) (pa_cons (pv 0) (pa_cons (pv 1) pa_nil))) pa_nil)))) (pss_one (ps_ret pe_bl)) pss_nil)))
      (pss_one (ps_ret pe_bl))), ?_⟩
    refine ⟨3, rfl, by decide, by decide, ?_⟩
    refine for_range (lo := 0) (n := 3) (fun i σ H2 => ∃ v1 : Option V, σ = [some (.ref a), v1] ∧ Same H H2) ⟨none, rfl, Same.refl H⟩ ?_ ?_
    · rintro i σ H2 hi ⟨v1, rfl, s2⟩
      refine ⟨_, rfl, _, rfl, a, ns, i, (by rw [Int.zero_add]; rfl), s2.seq hA, by omega, fun g ga gb H3 ng s3 hg => ?_⟩
      refine ⟨g, ga, gb, _, rfl, hg, ⟨by omega, by omega⟩, fun H4 x4 => ⟨true, rfl, ?_⟩⟩
      exact ⟨_, rfl, fun b o e => x4 b o (s3 b o (s2 b o e)) (ne_of_none (s2 b o e) ng)⟩
    rintro σ H2 ⟨v1, rfl, s2⟩
    exact q H2
end
end Sv

namespace Sv
open PySem PySem.Spec PyProof.Rows L2
/-! ### the head: facts by names -/
def tupAt (K : PySem.W.Frag) (a : Addr) (vs : List V) : Bool := match K.lookup a with
  | some ⟨.type c, _, .seq its _, _⟩ => decide (c = "tuple") && (decide (its.size ≤ sizeLine) && He.relAll vs its.toList)
  | _ => false
theorem tupAt_ok {K : PySem.W.Frag} {a : Addr} {vs : List V} (h : tupAt K a vs = true) (H : Hp) : SqT K H a vs := by
  unfold tupAt at h
  cases q : K.lookup a with
  | none =>
    rw [q] at h
    cases h
  | some o =>
    obtain ⟨oc, od, dt, osl⟩ := o
    rw [q] at h
    cases oc with
    | type c =>
      cases dt with
      | seq its n =>
        obtain ⟨h1, h2⟩ := He.ba (show (decide (c = "tuple") && (decide (its.size ≤ sizeLine) && He.relAll vs its.toList)) = true from h)
        obtain ⟨h3, h4⟩ := He.ba h2
        exact .inr ⟨_, its, n, q, congrArg Value.type (of_decide_eq_true h1), rfl, of_decide_eq_true h3, He.relAll_ok h4⟩
      | _ => cases h
    | _ => cases dt <;> cases h
def szB (K : PySem.W.Frag) (D : Addr) (x : Str) (lo hi : Int) : Bool := match PySem.W.nsIn K D x with
  | some (some (.ref t)) => tupAt K t [.int lo, .int hi]
  | _ => false
theorem szB_ok {K : PySem.W.Frag} {D : Addr} {x : Str} {lo hi : Int} (h : szB K D x lo hi = true) : ∃ t : Addr, PySem.W.nsIn K D x = some (some (.ref t)) ∧ ∀ H, SqT K H t [.int lo, .int hi] := by
  unfold szB at h
  cases q : PySem.W.nsIn K D x with
  | none =>
    rw [q] at h
    cases h
  | some r =>
    rw [q] at h
    cases r with
    | none => cases h
    | some v =>
      cases v with
      | ref t => exact ⟨t, rfl, tupAt_ok h⟩
      | _ => cases h
/-- what more is asked of the class and the table -/
def exB (C D : Addr) (K : PySem.W.Frag) : Bool :=
  He.eqO (PySem.W.findIn K (.ref C) "__class__") (some (some (.builtin "object.__class__"))) && (He.eqO (PySem.W.specialIn K (.builtin "object.__class__") "__get__") (some (some (.builtin "getset_descriptor.__get__"))) &&
  (decide (PySem.W.takesIn K (.builtin "object.__class__") = some true) && (decide (PySem.W.mroIn K C (.type "object") = some true) && (decide (PySem.W.kitOne K (.ref C) (.ref C) = some true) &&
  (decide (PySem.W.kitOne K (.type "tuple") (.ref C) = some false) && (PySem.W.notFirst K C (.type "tuple") && (He.eqO (PySem.W.nsIn K mainGlobals "combinations") (some (some (.type "itertools.combinations"))) && (szB K D "plain" 1 7 && (szB K D "mirror" 1 5 && szB K D "ring" 2 5)))))))))
def ex (K : PySem.W.Frag) : Bool := exB (He.ga K "Kind") (He.ga K "SIZES") K
def d_Kind___init__ : He.DefD := ⟨("Kind", some "__init__"), "__init__", "Kind.__init__", defArgs s_Kind___init__, defBody s_Kind___init__, defScope s_Kind___init__, [], []⟩
def d_Kind___eq__ : He.DefD := ⟨("Kind", some "__eq__"), "__eq__", "Kind.__eq__", defArgs s_Kind___eq__, defBody s_Kind___eq__, defScope s_Kind___eq__, [], []⟩
def d_Kind_name : He.DefD := ⟨("Kind", some "name"), "name", "Kind.name", defArgs s_Kind_name, defBody s_Kind_name, defScope s_Kind_name, [], []⟩
def d_Kind_size : He.DefD := ⟨("Kind", some "size"), "size", "Kind.size", defArgs s_Kind_size, defBody s_Kind_size, defScope s_Kind_size, [], []⟩
def d_Kind_steps : He.DefD := ⟨("Kind", some "steps"), "steps", "Kind.steps", defArgs s_Kind_steps, defBody s_Kind_steps, defScope s_Kind_steps, [], []⟩
def d_Kind_start : He.DefD := ⟨("Kind", some "start"), "start", "Kind.start", defArgs s_Kind_start, defBody s_Kind_start, defScope s_Kind_start, [], []⟩
def d_is_whole : He.DefD := ⟨("is_whole", none), "is_whole", "is_whole", defArgs s_is_whole, defBody s_is_whole, defScope s_is_whole, [], []⟩
def d_are_whole : He.DefD := ⟨("are_whole", none), "are_whole", "are_whole", defArgs s_are_whole, defBody s_are_whole, defScope s_are_whole, [], []⟩
def d_check_kind : He.DefD := ⟨("check_kind", none), "check_kind", "check_kind", defArgs s_check_kind, defBody s_check_kind, defScope s_check_kind, [], []⟩
def d_product_of : He.DefD := ⟨("product_of", none), "product_of", "product_of", defArgs s_product_of, defBody s_product_of, defScope s_product_of, [], []⟩
def d_opposite_of : He.DefD := ⟨("opposite_of", none), "opposite_of", "opposite_of", defArgs s_opposite_of, defBody s_opposite_of, defScope s_opposite_of, [], []⟩
def d_count_crossings : He.DefD := ⟨("count_crossings", none), "count_crossings", "count_crossings", defArgs s_count_crossings, defBody s_count_crossings, defScope s_count_crossings, [], []⟩
def d_has_order_form : He.DefD := ⟨("has_order_form", none), "has_order_form", "has_order_form", defArgs s_has_order_form, defBody s_has_order_form, defScope s_has_order_form, [], []⟩
def d_is_told_order : He.DefD := ⟨("is_told_order", none), "is_told_order", "is_told_order", defArgs s_is_told_order, defBody s_is_told_order, defScope s_is_told_order, [], []⟩
def d_rest_of : He.DefD := ⟨("rest_of", none), "rest_of", "rest_of", defArgs s_rest_of, defBody s_rest_of, defScope s_rest_of, [], []⟩
def d_rest_ahead_of : He.DefD := ⟨("rest_ahead_of", none), "rest_ahead_of", "rest_ahead_of", defArgs s_rest_ahead_of, defBody s_rest_ahead_of, defScope s_rest_ahead_of, [], []⟩
def d_check_orders : He.DefD := ⟨("check_orders", none), "check_orders", "check_orders", defArgs s_check_orders, defBody s_check_orders, defScope s_check_orders, [], []⟩
def d_begins : He.DefD := ⟨("begins", none), "begins", "begins", defArgs s_begins, defBody s_begins, defScope s_begins, [], []⟩
def d_ends : He.DefD := ⟨("ends", none), "ends", "ends", defArgs s_ends, defBody s_ends, defScope s_ends, [], []⟩
def d_opposite : He.DefD := ⟨("opposite", none), "opposite", "opposite", defArgs s_opposite, defBody s_opposite, defScope s_opposite, [], []⟩
def d__law_hash : He.DefD := ⟨("_law_hash", none), "_law_hash", "_law_hash", defArgs s__law_hash, defBody s__law_hash, defScope s__law_hash, [], []⟩
def d__law_random : He.DefD := ⟨("_law_random", none), "_law_random", "_law_random", defArgs s__law_random, defBody s__law_random, defScope s__law_random, [], []⟩
def d__law_cell : He.DefD := ⟨("_law_cell", none), "_law_cell", "_law_cell", defArgs s__law_cell, defBody s__law_cell, defScope s__law_cell, [], []⟩
def d__law_generator : He.DefD := ⟨("_law_generator", none), "_law_generator", "_law_generator", defArgs s__law_generator, defBody s__law_generator, defScope s__law_generator, [], []⟩
def d__law_kind : He.DefD := ⟨("_law_kind", none), "_law_kind", "_law_kind", defArgs s__law_kind, defBody s__law_kind, defScope s__law_kind, [], []⟩
def d__law_start : He.DefD := ⟨("_law_start", none), "_law_start", "_law_start", defArgs s__law_start, defBody s__law_start, defScope s__law_start, [], []⟩
def d__law_steps : He.DefD := ⟨("_law_steps", none), "_law_steps", "_law_steps", defArgs s__law_steps, defBody s__law_steps, defScope s__law_steps, [], []⟩
def d__law_crossed : He.DefD := ⟨("_law_crossed", none), "_law_crossed", "_law_crossed", defArgs s__law_crossed, defBody s__law_crossed, defScope s__law_crossed, [], []⟩
def d__law_stepped : He.DefD := ⟨("_law_stepped", none), "_law_stepped", "_law_stepped", defArgs s__law_stepped, defBody s__law_stepped, defScope s__law_stepped, [], []⟩
def d__law_falls : He.DefD := ⟨("_law_falls", none), "_law_falls", "_law_falls", defArgs s__law_falls, defBody s__law_falls, defScope s__law_falls, [], []⟩
def d__law_row : He.DefD := ⟨("_law_row", none), "_law_row", "_law_row", defArgs s__law_row, defBody s__law_row, defScope s__law_row, [], []⟩
def d__law_made : He.DefD := ⟨("_law_made", none), "_law_made", "_law_made", defArgs s__law_made, defBody s__law_made, defScope s__law_made, [], []⟩
def d__law_product : He.DefD := ⟨("_law_product", none), "_law_product", "_law_product", defArgs s__law_product, defBody s__law_product, defScope s__law_product, [], []⟩
def d__law_opposite : He.DefD := ⟨("_law_opposite", none), "_law_opposite", "_law_opposite", defArgs s__law_opposite, defBody s__law_opposite, defScope s__law_opposite, [], []⟩
def d__law_all : He.DefD := ⟨("_law_all", none), "_law_all", "_law_all", defArgs s__law_all, defBody s__law_all, defScope s__law_all, [], []⟩
def d__law_line : He.DefD := ⟨("_law_line", none), "_law_line", "_law_line", defArgs s__law_line, defBody s__law_line, defScope s__law_line, [], []⟩
def d__law_pairs : He.DefD := ⟨("_law_pairs", none), "_law_pairs", "_law_pairs", defArgs s__law_pairs, defBody s__law_pairs, defScope s__law_pairs, [], []⟩
def d__law_begins : He.DefD := ⟨("_law_begins", none), "_law_begins", "_law_begins", defArgs s__law_begins, defBody s__law_begins, defScope s__law_begins, [], []⟩
def d__law_right : He.DefD := ⟨("_law_right", none), "_law_right", "_law_right", defArgs s__law_right, defBody s__law_right, defScope s__law_right, [], []⟩
def d_law : He.DefD := ⟨("law", none), "law", "law", defArgs s_law, defBody s_law, defScope s_law, [], []⟩
def fn : List He.DefD := [d_Kind___init__, d_Kind___eq__, d_Kind_name, d_Kind_size, d_Kind_steps, d_Kind_start, d_is_whole, d_are_whole, d_check_kind, d_product_of, d_opposite_of, d_count_crossings, d_has_order_form, d_is_told_order, d_rest_of, d_rest_ahead_of, d_check_orders, d_begins, d_ends, d_opposite, d__law_hash, d__law_random, d__law_cell, d__law_generator, d__law_kind, d__law_start, d__law_steps, d__law_crossed, d__law_stepped, d__law_falls, d__law_row, d__law_made, d__law_product, d__law_opposite, d__law_all, d__law_line, d__law_pairs, d__law_begins, d__law_right, d_law]
def fa : List He.Fa := [.glo "is_whole", .glo "are_whole", .glo "check_kind", .glo "product_of", .glo "opposite_of", .glo "count_crossings", .glo "has_order_form", .glo "is_told_order", .glo "rest_of", .glo "rest_ahead_of", .glo "check_orders", .glo "begins", .glo "ends", .glo "opposite", .glo "_law_hash", .glo "_law_random", .glo "_law_cell", .glo "_law_generator", .glo "_law_kind", .glo "_law_start", .glo "_law_steps", .glo "_law_crossed", .glo "_law_stepped", .glo "_law_falls", .glo "_law_row", .glo "_law_made", .glo "_law_product", .glo "_law_opposite", .glo "_law_all", .glo "_law_line", .glo "_law_pairs", .glo "_law_begins", .glo "_law_right", .glo "law", .glo "Kind", .glo "SIZES", .int "MOST_CROSSINGS" 60, .free "int", .free "str", .free "bool", .free "range", .free "list", .free "abs", .free "max", .free "min", .free "sum", .free "len", .free "repr", .free "isinstance", .free "all", .free "sorted", .free "enumerate", .free "tuple", .free "reversed", .cls "Kind", .noat "Kind" "_name", .noat "Kind" "_size", .mkr "Kind", .meth "Kind" "__eq__", .meth "Kind" "name", .meth "Kind" "size", .meth "Kind" "steps", .meth "Kind" "start"]
def tsx : List He.Tab := [((fun K => He.ga K "SIZES"), ["plain", "mirror", "ring"])]
theorem vals_rev : ∀ {vs : List V} {us : List Value}, Vals vs us → Vals vs.reverse us.reverse
  | _, _, .nil => .nil
  | _, _, .cons r t => by
    rw [List.reverse_cons, List.reverse_cons]
    exact (vals_rev t).append (.cons r .nil)
/-- how keywords alone bind where the written names are the last parameters, turned about -/
theorem kb_rev {K : PySem.W.Frag} {x qual : Str} {params : Arguments} {body : List Stmt} {scope : Scope} {f : Addr} {fd : FuncData} {ps : List Str} (F : FunD K x qual params body scope [] [] f fd) (n : Nat) (ks : List Str)
    (h : ∀ (kV doc pm : Value) (an : Option Addr) (cdv ct : Value) (us ws : List Value), us.length = n → ws.length = ks.length → bindArgs (PySem.W.fnOf x qual params body scope .none kV doc pm an cdv ct) ⟨us, ks.zip ws⟩ = pure (ps.zip (us ++ ws.reverse))) :
    KBn K fd ps n ks (fun us ws => us ++ ws.reverse) gRev := by
  obtain ⟨oc, od, dV, kV, doc, pm, an, cdv, ct, osl, rfl, lk, hcd, hD, hK⟩ := F.ex
  rcases hD with ⟨_, rfl⟩ | ⟨e, _⟩
  · refine ⟨fun s us ws X l1 l2 => .of_eq (h kV doc pm an cdv ct us ws l1 l2), fun r1 r2 => r1.append ?_⟩
    exact vals_rev r2
  · exact absurd rfl e
theorem facts {P : Program} {w : World} {K : PySem.W.Frag} {h : Heap} {mg : Str → Option Value} {f : Addr} (X : K.In h) (G : h.Ns mainGlobals mg) (hfa : mg ("law" : Str) = some (.ref f)) (z : He.SaysX fa fn tsx [] ex w h K) :
    ∃ fd : FuncData, (∀ (s : Shared) (v : Value), BindsTo s fd ⟨[v], []⟩ [("_law_script", v)]) ∧ ∀ base : Heap, K.In base → base.Ns mainGlobals mg → FnOk P w K mg base CX0 8 f fd ["_law_script"] (spLaw K) := by
  have c : He.SaysD fa fn K := z.t.d
  obtain ⟨fd_Kind___init__, F_Kind___init__⟩ := c.def_ 0 (d := d_Kind___init__) rfl
  obtain ⟨fd_Kind___eq__, F_Kind___eq__⟩ := c.def_ 1 (d := d_Kind___eq__) rfl
  obtain ⟨fd_Kind_name, F_Kind_name⟩ := c.def_ 2 (d := d_Kind_name) rfl
  obtain ⟨fd_Kind_size, F_Kind_size⟩ := c.def_ 3 (d := d_Kind_size) rfl
  obtain ⟨fd_Kind_steps, F_Kind_steps⟩ := c.def_ 4 (d := d_Kind_steps) rfl
  obtain ⟨fd_Kind_start, F_Kind_start⟩ := c.def_ 5 (d := d_Kind_start) rfl
  obtain ⟨fd_is_whole, F_is_whole⟩ := c.def_ 6 (d := d_is_whole) rfl
  obtain ⟨fd_are_whole, F_are_whole⟩ := c.def_ 7 (d := d_are_whole) rfl
  obtain ⟨fd_check_kind, F_check_kind⟩ := c.def_ 8 (d := d_check_kind) rfl
  obtain ⟨fd_product_of, F_product_of⟩ := c.def_ 9 (d := d_product_of) rfl
  obtain ⟨fd_opposite_of, F_opposite_of⟩ := c.def_ 10 (d := d_opposite_of) rfl
  obtain ⟨fd_count_crossings, F_count_crossings⟩ := c.def_ 11 (d := d_count_crossings) rfl
  obtain ⟨fd_has_order_form, F_has_order_form⟩ := c.def_ 12 (d := d_has_order_form) rfl
  obtain ⟨fd_is_told_order, F_is_told_order⟩ := c.def_ 13 (d := d_is_told_order) rfl
  obtain ⟨fd_rest_of, F_rest_of⟩ := c.def_ 14 (d := d_rest_of) rfl
  obtain ⟨fd_rest_ahead_of, F_rest_ahead_of⟩ := c.def_ 15 (d := d_rest_ahead_of) rfl
  obtain ⟨fd_check_orders, F_check_orders⟩ := c.def_ 16 (d := d_check_orders) rfl
  obtain ⟨fd_begins, F_begins⟩ := c.def_ 17 (d := d_begins) rfl
  obtain ⟨fd_ends, F_ends⟩ := c.def_ 18 (d := d_ends) rfl
  obtain ⟨fd_opposite, F_opposite⟩ := c.def_ 19 (d := d_opposite) rfl
  obtain ⟨fd__law_hash, F__law_hash⟩ := c.def_ 20 (d := d__law_hash) rfl
  obtain ⟨fd__law_random, F__law_random⟩ := c.def_ 21 (d := d__law_random) rfl
  obtain ⟨fd__law_cell, F__law_cell⟩ := c.def_ 22 (d := d__law_cell) rfl
  obtain ⟨fd__law_generator, F__law_generator⟩ := c.def_ 23 (d := d__law_generator) rfl
  obtain ⟨fd__law_kind, F__law_kind⟩ := c.def_ 24 (d := d__law_kind) rfl
  obtain ⟨fd__law_start, F__law_start⟩ := c.def_ 25 (d := d__law_start) rfl
  obtain ⟨fd__law_steps, F__law_steps⟩ := c.def_ 26 (d := d__law_steps) rfl
  obtain ⟨fd__law_crossed, F__law_crossed⟩ := c.def_ 27 (d := d__law_crossed) rfl
  obtain ⟨fd__law_stepped, F__law_stepped⟩ := c.def_ 28 (d := d__law_stepped) rfl
  obtain ⟨fd__law_falls, F__law_falls⟩ := c.def_ 29 (d := d__law_falls) rfl
  obtain ⟨fd__law_row, F__law_row⟩ := c.def_ 30 (d := d__law_row) rfl
  obtain ⟨fd__law_made, F__law_made⟩ := c.def_ 31 (d := d__law_made) rfl
  obtain ⟨fd__law_product, F__law_product⟩ := c.def_ 32 (d := d__law_product) rfl
  obtain ⟨fd__law_opposite, F__law_opposite⟩ := c.def_ 33 (d := d__law_opposite) rfl
  obtain ⟨fd__law_all, F__law_all⟩ := c.def_ 34 (d := d__law_all) rfl
  obtain ⟨fd__law_line, F__law_line⟩ := c.def_ 35 (d := d__law_line) rfl
  obtain ⟨fd__law_pairs, F__law_pairs⟩ := c.def_ 36 (d := d__law_pairs) rfl
  obtain ⟨fd__law_begins, F__law_begins⟩ := c.def_ 37 (d := d__law_begins) rfl
  obtain ⟨fd__law_right, F__law_right⟩ := c.def_ 38 (d := d__law_right) rfl
  obtain ⟨fd_law, F_law⟩ := c.def_ 39 (d := d_law) rfl
  have e := hfa.symm.trans (He.glo_ok X G (c.fact 33 (f := .glo "law") rfl))
  cases e
  have b := FunD.bindsA (ps := ["_law_script"]) F_law fun _ _ _ _ _ _ us hl => match us, hl with | [_], _ => rfl
  obtain ⟨x1, y⟩ := He.ba z.more
  obtain ⟨x2, y⟩ := He.ba y
  obtain ⟨x3, y⟩ := He.ba y
  obtain ⟨x4, y⟩ := He.ba y
  obtain ⟨x5, y⟩ := He.ba y
  obtain ⟨x6, y⟩ := He.ba y
  obtain ⟨x7, y⟩ := He.ba y
  obtain ⟨x8, y⟩ := He.ba y
  obtain ⟨x9, y⟩ := He.ba y
  obtain ⟨x10, x11⟩ := He.ba y
  obtain ⟨es, nn, kd⟩ := z.t.tab 0 (t := ((fun K => He.ga K "SIZES"), ["plain", "mirror", "ring"])) rfl
  have T0 : Tx K mg := ⟨He.free_ok X G (c.fact 37 (f := .free "int") rfl), He.free_ok X G (c.fact 38 (f := .free "str") rfl), He.free_ok X G (c.fact 39 (f := .free "bool") rfl), He.free_ok X G (c.fact 40 (f := .free "range") rfl), He.free_ok X G (c.fact 41 (f := .free "list") rfl), He.free_ok X G (c.fact 42 (f := .free "abs") rfl), He.free_ok X G (c.fact 43 (f := .free "max") rfl), He.free_ok X G (c.fact 44 (f := .free "min") rfl), He.free_ok X G (c.fact 45 (f := .free "sum") rfl), He.free_ok X G (c.fact 46 (f := .free "len") rfl), He.free_ok X G (c.fact 47 (f := .free "repr") rfl), He.free_ok X G (c.fact 48 (f := .free "isinstance") rfl), He.free_ok X G (c.fact 49 (f := .free "all") rfl), He.free_ok X G (c.fact 50 (f := .free "sorted") rfl), He.free_ok X G (c.fact 51 (f := .free "enumerate") rfl), He.free_ok X G (c.fact 52 (f := .free "tuple") rfl), He.free_ok X G (c.fact 53 (f := .free "reversed") rfl)⟩
  have T : Tk K w mg (He.ga K "Kind") (He.ga K "SIZES") := ⟨T0, He.cls_ok (c.fact 54 (f := .cls "Kind") rfl), He.noat_ok (c.fact 55 (f := .noat "Kind" "_name") rfl), He.noat_ok (c.fact 56 (f := .noat "Kind" "_size") rfl), He.glo_ok X G (c.fact 34 (f := .glo "Kind") rfl), He.glo_ok X G (c.fact 35 (f := .glo "SIZES") rfl),
    He.eqO_ok x1, He.eqO_ok x2, of_decide_eq_true x3, of_decide_eq_true x4, of_decide_eq_true x5, of_decide_eq_true x6, x7, ⟨es, nn, kd⟩, PySem.W.mg_of X G (He.eqO_ok x8), fun k => match k with
    | .pl => let ⟨t, e1, e2⟩ := szB_ok x9; ⟨t, 1, 7, e1, e2, fun n h => by have := of_decide_eq_true h; omega⟩
    | .mi => let ⟨t, e1, e2⟩ := szB_ok x10; ⟨t, 1, 5, e1, e2, fun n h => by have := of_decide_eq_true h; omega⟩
    | .ri => let ⟨t, e1, e2⟩ := szB_ok x11; ⟨t, 2, 5, e1, e2, fun n h => by have := of_decide_eq_true h; omega⟩⟩
  refine ⟨fd_law, fun s v => b s [v] rfl, fun base _ _ => ?_⟩
  have c_law_hash : Gd P w K mg base "_law_hash" ["_law_seed", "_law_index"] 1 (spHash) := ⟨_, _, ok_hash T0 F__law_hash, He.glo_ok X G (c.fact 14 (f := .glo "_law_hash") rfl), F__law_hash.kp, F__law_hash.bindsN fun _ _ _ _ _ _ us hl => match us, hl with | [_, _], _ => rfl⟩
  have c_law_random : Gd P w K mg base "_law_random" ["_law_generator_here", "_law_bound"] 2 (spRandom) := ⟨_, _, ok_random T0 F__law_random c_law_hash, He.glo_ok X G (c.fact 15 (f := .glo "_law_random") rfl), F__law_random.kp, F__law_random.bindsN fun _ _ _ _ _ _ us hl => match us, hl with | [_, _], _ => rfl⟩
  have c_law_cell : Gd P w K mg base "_law_cell" ["_law_script", "_law_index"] 1 (spCell K) := ⟨_, _, ok_cell T0 F__law_cell, He.glo_ok X G (c.fact 16 (f := .glo "_law_cell") rfl), F__law_cell.kp, F__law_cell.bindsN fun _ _ _ _ _ _ us hl => match us, hl with | [_, _], _ => rfl⟩
  have c_law_generator : Gd P w K mg base "_law_generator" ["_law_script", "_law_index"] 2 (spGen K) := ⟨_, _, ok_generator T0 F__law_generator c_law_cell, He.glo_ok X G (c.fact 17 (f := .glo "_law_generator") rfl), F__law_generator.kp, F__law_generator.bindsN fun _ _ _ _ _ _ us hl => match us, hl with | [_, _], _ => rfl⟩
  have c_is_whole : Gd P w K mg base "is_whole" ["value"] 1 (spIsWhole) := ⟨_, _, ok_is_whole T F_is_whole, He.glo_ok X G (c.fact 0 (f := .glo "is_whole") rfl), F_is_whole.kp, F_is_whole.bindsN fun _ _ _ _ _ _ us hl => match us, hl with | [_], _ => rfl⟩
  have c_m_name : Md P w K mg base (He.ga K "Kind") "name" ["self"] 1 (spName (He.ga K "Kind")) := ⟨_, _, ok_name T F_Kind_name, He.meth_ok (c.fact 59 (f := .meth "Kind" "name") rfl), F_Kind_name.bindsN fun _ _ _ _ _ _ us hl => match us, hl with | [_], _ => rfl⟩
  have c_m_size : Md P w K mg base (He.ga K "Kind") "size" ["self"] 1 (spSize (He.ga K "Kind")) := ⟨_, _, ok_size T F_Kind_size, He.meth_ok (c.fact 60 (f := .meth "Kind" "size") rfl), F_Kind_size.bindsN fun _ _ _ _ _ _ us hl => match us, hl with | [_], _ => rfl⟩
  have c_m_steps : Md P w K mg base (He.ga K "Kind") "steps" ["self"] 1 (spSteps (He.ga K "Kind")) := ⟨_, _, ok_steps T F_Kind_steps, He.meth_ok (c.fact 61 (f := .meth "Kind" "steps") rfl), F_Kind_steps.bindsN fun _ _ _ _ _ _ us hl => match us, hl with | [_], _ => rfl⟩
  have c_m___eq__ : Md P w K mg base (He.ga K "Kind") "__eq__" ["self", "other"] 1 (spEqK (He.ga K "Kind")) := ⟨_, _, ok_eqK T F_Kind___eq__, He.meth_ok (c.fact 58 (f := .meth "Kind" "__eq__") rfl), F_Kind___eq__.bindsN fun _ _ _ _ _ _ us hl => match us, hl with | [_, _], _ => rfl⟩
  have c_m_start : Md P w K mg base (He.ga K "Kind") "start" ["self"] 1 (spStartM (He.ga K "Kind")) := ⟨_, _, ok_startM T F_Kind_start, He.meth_ok (c.fact 62 (f := .meth "Kind" "start") rfl), F_Kind_start.bindsN fun _ _ _ _ _ _ us hl => match us, hl with | [_], _ => rfl⟩
  have Mi := He.mkr_ok (c.fact 57 (f := .mkr "Kind") rfl)
  have gK := He.glo_ok X G (c.fact 34 (f := .glo "Kind") rfl)
  have c_Kind : Cd P w K mg base "Kind" (He.ga K "Kind") ["self", "name", "size"] 2 (spInit (He.ga K "Kind")) := ⟨_, _, ok_init T F_Kind___init__ c_is_whole, gK, Mi, F_Kind___init__.bindsN fun _ _ _ _ _ _ us hl => match us, hl with | [_, _, _], _ => rfl⟩
  have c_check_kind : Gd P w K mg base "check_kind" ["kind"] 1 (spCk (He.ga K "Kind")) := ⟨_, _, ok_check_kind T F_check_kind, He.glo_ok X G (c.fact 2 (f := .glo "check_kind") rfl), F_check_kind.kp, F_check_kind.bindsN fun _ _ _ _ _ _ us hl => match us, hl with | [_], _ => rfl⟩
  have c_are_whole : Gd P w K mg base "are_whole" ["values"] 2 (spAreWhole K) := ⟨_, _, ok_are_whole T F_are_whole, He.glo_ok X G (c.fact 1 (f := .glo "are_whole") rfl), F_are_whole.kp, F_are_whole.bindsN fun _ _ _ _ _ _ us hl => match us, hl with | [_], _ => rfl⟩
  have c_opposite_of : Gd P w K mg base "opposite_of" ["kind", "order"] 2 (spOpp K (He.ga K "Kind")) := ⟨_, _, ok_opposite_of T F_opposite_of c_m_name, He.glo_ok X G (c.fact 4 (f := .glo "opposite_of") rfl), F_opposite_of.kp, F_opposite_of.bindsN fun _ _ _ _ _ _ us hl => match us, hl with | [_, _], _ => rfl⟩
  have c_count_crossings : Gd P w K mg base "count_crossings" ["kind", "order"] 2 (spCount K (He.ga K "Kind")) := ⟨_, _, ok_count_crossings T F_count_crossings c_m_name, He.glo_ok X G (c.fact 5 (f := .glo "count_crossings") rfl), F_count_crossings.kp, F_count_crossings.bindsN fun _ _ _ _ _ _ us hl => match us, hl with | [_, _], _ => rfl⟩
  have c_has_order_form : Gd P w K mg base "has_order_form" ["kind", "value"] 3 (spForm K (He.ga K "Kind")) := ⟨_, _, ok_has_order_form T F_has_order_form c_m_name c_m_size c_m_start c_are_whole, He.glo_ok X G (c.fact 6 (f := .glo "has_order_form") rfl), F_has_order_form.kp, F_has_order_form.bindsN fun _ _ _ _ _ _ us hl => match us, hl with | [_, _], _ => rfl⟩
  have c_is_told_order : Gd P w K mg base "is_told_order" ["kind", "value"] 4 (spTold K (He.ga K "Kind")) := ⟨_, _, ok_is_told_order T F_is_told_order (He.int_ok X G (c.fact 36 (f := .int "MOST_CROSSINGS" 60) rfl)) c_has_order_form c_count_crossings c_m_name, He.glo_ok X G (c.fact 7 (f := .glo "is_told_order") rfl), F_is_told_order.kp, F_is_told_order.bindsN fun _ _ _ _ _ _ us hl => match us, hl with | [_, _], _ => rfl⟩
  have c_check_orders : Rd P w K mg base "check_orders" 5 (spCkOn K (He.ga K "Kind")) := ⟨_, ok_check_ordersN T F_check_orders c_check_kind c_is_told_order, He.glo_ok X G (c.fact 10 (f := .glo "check_orders") rfl), F_check_orders.kp⟩
  have c_law_start : Gd P w K mg base "_law_start" ["_law_name", "_law_size"] 1 (spStartN K) := ⟨_, _, ok_startN T0 F__law_start, He.glo_ok X G (c.fact 19 (f := .glo "_law_start") rfl), F__law_start.kp, F__law_start.bindsN fun _ _ _ _ _ _ us hl => match us, hl with | [_, _], _ => rfl⟩
  have c_law_steps : Gd P w K mg base "_law_steps" ["_law_name", "_law_order"] 1 (spManyN K) := ⟨_, _, ok_stepsN T0 F__law_steps, He.glo_ok X G (c.fact 20 (f := .glo "_law_steps") rfl), F__law_steps.kp, F__law_steps.bindsN fun _ _ _ _ _ _ us hl => match us, hl with | [_, _], _ => rfl⟩
  have c_law_crossed : Gd P w K mg base "_law_crossed" ["_law_name", "_law_order", "_law_step"] 1 (spCrossN K) := ⟨_, _, ok_crossN T0 F__law_crossed, He.glo_ok X G (c.fact 21 (f := .glo "_law_crossed") rfl), F__law_crossed.kp, F__law_crossed.bindsN fun _ _ _ _ _ _ us hl => match us, hl with | [_, _, _], _ => rfl⟩
  have c_law_stepped : Gd P w K mg base "_law_stepped" ["_law_name", "_law_order", "_law_step"] 1 (spSteppedN K) := ⟨_, _, ok_steppedN T0 F__law_stepped, He.glo_ok X G (c.fact 22 (f := .glo "_law_stepped") rfl), F__law_stepped.kp, F__law_stepped.bindsN fun _ _ _ _ _ _ us hl => match us, hl with | [_, _, _], _ => rfl⟩
  have c_law_falls : Gd P w K mg base "_law_falls" ["_law_name", "_law_order"] 2 (spFallsN K) := ⟨_, _, ok_fallsN T0 F__law_falls c_law_steps c_law_crossed, He.glo_ok X G (c.fact 23 (f := .glo "_law_falls") rfl), F__law_falls.kp, F__law_falls.bindsN fun _ _ _ _ _ _ us hl => match us, hl with | [_, _], _ => rfl⟩
  have c_law_row : Gd P w K mg base "_law_row" ["_law_name", "_law_order"] 3 (spRowN K) := ⟨_, _, ok_rowN T0 F__law_row c_law_falls c_law_stepped, He.glo_ok X G (c.fact 24 (f := .glo "_law_row") rfl), F__law_row.kp, F__law_row.bindsN fun _ _ _ _ _ _ us hl => match us, hl with | [_, _], _ => rfl⟩
  have c_law_made : Gd P w K mg base "_law_made" ["_law_name", "_law_size", "_law_row_here"] 2 (spMadeN K) := ⟨_, _, ok_madeN T0 F__law_made c_law_start c_law_stepped, He.glo_ok X G (c.fact 25 (f := .glo "_law_made") rfl), F__law_made.kp, F__law_made.bindsN fun _ _ _ _ _ _ us hl => match us, hl with | [_, _, _], _ => rfl⟩
  have c_law_kind : Gd P w K mg base "_law_kind" ["_law_generator_here"] 3 (spKindD) := ⟨_, _, ok_kindD T0 F__law_kind c_law_random, He.glo_ok X G (c.fact 18 (f := .glo "_law_kind") rfl), F__law_kind.kp, F__law_kind.bindsN fun _ _ _ _ _ _ us hl => match us, hl with | [_], _ => rfl⟩
  have c_law_all : Gd P w K mg base "_law_all" ["_law_name", "_law_size", "_law_most"] 2 (spAllD K) := ⟨_, _, ok_allD T0 F__law_all c_law_start c_law_steps c_law_crossed c_law_stepped, He.glo_ok X G (c.fact 28 (f := .glo "_law_all") rfl), F__law_all.kp, F__law_all.bindsN fun _ _ _ _ _ _ us hl => match us, hl with | [_, _, _], _ => rfl⟩
  have c_law_product : Gd P w K mg base "_law_product" ["_law_name", "_law_one", "_law_other"] 4 (spProdN K) := ⟨_, _, ok_prodN T0 F__law_product c_law_row c_law_stepped, He.glo_ok X G (c.fact 26 (f := .glo "_law_product") rfl), F__law_product.kp, F__law_product.bindsN fun _ _ _ _ _ _ us hl => match us, hl with | [_, _, _], _ => rfl⟩
  have c_law_opposite : Gd P w K mg base "_law_opposite" ["_law_name", "_law_order"] 4 (spOppN K) := ⟨_, _, ok_oppN T0 F__law_opposite c_law_row c_law_made, He.glo_ok X G (c.fact 27 (f := .glo "_law_opposite") rfl), F__law_opposite.kp, F__law_opposite.bindsN fun _ _ _ _ _ _ us hl => match us, hl with | [_, _], _ => rfl⟩
  have c_law_begins : Gd P w K mg base "_law_begins" ["_law_name", "_law_one", "_law_other"] 5 (spBeginN K) := ⟨_, _, ok_beginN T0 F__law_begins c_law_row c_law_opposite c_law_product, He.glo_ok X G (c.fact 31 (f := .glo "_law_begins") rfl), F__law_begins.kp, F__law_begins.bindsN fun _ _ _ _ _ _ us hl => match us, hl with | [_, _, _], _ => rfl⟩
  have c_law_line : Gd P w K mg base "_law_line" ["_law_name", "_law_order", "_law_rounds"] 1 (spLineN K) := ⟨_, _, ok_lineN T0 F__law_line, He.glo_ok X G (c.fact 29 (f := .glo "_law_line") rfl), F__law_line.kp, F__law_line.bindsN fun _ _ _ _ _ _ us hl => match us, hl with | [_, _, _], _ => rfl⟩
  have c_law_pairs : Gd P w K mg base "_law_pairs" ["_law_name", "_law_order", "_law_rounds"] 2 (spPairsN K) := ⟨_, _, ok_pairsN T0 F__law_pairs c_law_line, He.glo_ok X G (c.fact 30 (f := .glo "_law_pairs") rfl), F__law_pairs.kp, F__law_pairs.bindsN fun _ _ _ _ _ _ us hl => match us, hl with | [_, _, _], _ => rfl⟩
  have c_product_of : Gd P w K mg base "product_of" ["kind", "one", "other"] 3 (spProd K (He.ga K "Kind")) := ⟨_, _, ok_product_of T F_product_of c_m_name, He.glo_ok X G (c.fact 3 (f := .glo "product_of") rfl), F_product_of.kp, F_product_of.bindsN fun _ _ _ _ _ _ us hl => match us, hl with | [_, _, _], _ => rfl⟩
  have c_rest_of : Gd P w K mg base "rest_of" ["kind", "one", "other"] 4 (spRest K (He.ga K "Kind") restB) := ⟨_, _, ok_rest_of T F_rest_of c_opposite_of c_product_of c_count_crossings, He.glo_ok X G (c.fact 8 (f := .glo "rest_of") rfl), F_rest_of.kp, F_rest_of.bindsN fun _ _ _ _ _ _ us hl => match us, hl with | [_, _, _], _ => rfl⟩
  have c_rest_ahead_of : Gd P w K mg base "rest_ahead_of" ["kind", "one", "other"] 4 (spRest K (He.ga K "Kind") restA) := ⟨_, _, ok_rest_ahead_of T F_rest_ahead_of c_opposite_of c_product_of c_count_crossings, He.glo_ok X G (c.fact 9 (f := .glo "rest_ahead_of") rfl), F_rest_ahead_of.kp, F_rest_ahead_of.bindsN fun _ _ _ _ _ _ us hl => match us, hl with | [_, _, _], _ => rfl⟩
  have c_begins : Gd P w K mg base "begins" ["kind", "one", "other"] 6 (spBegins K (He.ga K "Kind") restB) := ⟨_, _, ok_begins T F_begins c_check_orders c_rest_of, He.glo_ok X G (c.fact 11 (f := .glo "begins") rfl), F_begins.kp, F_begins.bindsN fun _ _ _ _ _ _ us hl => match us, hl with | [_, _, _], _ => rfl⟩
  have c_beginsKw : GdK P w K mg base "begins" ["kind", "one", "other"] ["other", "one", "kind"] gRev 6 (spBegins K (He.ga K "Kind") restB) := ⟨_, _, _, ok_begins T F_begins c_check_orders c_rest_of, He.glo_ok X G (c.fact 11 (f := .glo "begins") rfl), F_begins.kp, kb_rev F_begins 0 ["other", "one", "kind"] fun _ _ _ _ _ _ us ws h1 h2 => match us, ws, h1, h2 with | [], [_, _, _], _, _ => rfl⟩
  have c_ends : Gd P w K mg base "ends" ["kind", "one", "other"] 6 (spBegins K (He.ga K "Kind") restA) := ⟨_, _, ok_ends T F_ends c_check_orders c_rest_ahead_of, He.glo_ok X G (c.fact 12 (f := .glo "ends") rfl), F_ends.kp, F_ends.bindsN fun _ _ _ _ _ _ us hl => match us, hl with | [_, _, _], _ => rfl⟩
  have c_opposite : Gd P w K mg base "opposite" ["kind", "order"] 6 (spOpp2 K (He.ga K "Kind")) := ⟨_, _, ok_opposite T F_opposite c_check_orders c_opposite_of, He.glo_ok X G (c.fact 13 (f := .glo "opposite") rfl), F_opposite.kp, F_opposite.bindsN fun _ _ _ _ _ _ us hl => match us, hl with | [_, _], _ => rfl⟩
  have c_law_right : Gd P w K mg base "_law_right" ["_law_generator_here"] 7 (spRightG) := ⟨_, _, ok_right59 T F__law_right c_Kind c_law_random c_law_kind c_law_all c_law_pairs c_law_begins c_begins c_beginsKw c_ends c_opposite, He.glo_ok X G (c.fact 32 (f := .glo "_law_right") rfl), F__law_right.kp, F__law_right.bindsN fun _ _ _ _ _ _ us hl => match us, hl with | [_], _ => rfl⟩
  exact ok_law T F_law c_law_right c_law_generator
end Sv
open PySem PySem.W PyProof.Rows
theorem PySem.Challenge.cw_seamlayers_k59_whole_begins_by_crossed_p_holds : PySem.Challenge.rw_seamlayers_k59_whole_begins_by_crossed_p.Holds := by
  w_on; o_law; k_head; (case hw => w_witness2)
  k_fill
  refine L2.walk_of (l := PySem.Challenge.rw_seamlayers_k59_whole_begins_by_crossed_p) (n := 63) (k := 8) (x := "_law_script") (CX := fun _ => L2.CX0) (sp := fun w => Sv.spLaw _) rfl (by decide) rfl ⟨rfl, by decide, by decide⟩ (fun w h Y => PySem.W.kIn_of Y) ?F (fun _ _ a ns hl _ hS => ⟨a, ns, rfl, hS, hl, fun _ => rfl⟩) (fun _ _ _ _ _ h => h)
  case F =>
    intro w mg fa h KX G hmg
    refine Sv.facts KX G hmg ⟨?t, ?m, (fun p hp => nomatch hp), (fun p hp => nomatch hp), (fun p hp => nomatch hp)⟩
    case t =>
      show He.obsT Sv.fa Sv.fn Sv.tsx _ = He.valT Sv.fn Sv.tsx w
      kernel_rfl
    case m => kernel_rfl


import PyProof.Rows.All
import Wide.All
import OpenK.AllK
import Wide.FinOn
import HandS.ForMost
import HandS.IsInst
import HandS.Conv
import HandS.Style
import HandS.More
import HandS.WideBits
import HandS.Defaults
import HandS.MakeKw
import HandS.MakeKwOnly
import HandS.SlotsOwn
import HandS.OwnEq
import KE.KEqSeq
import HandS.ForExc
import HandS.Star
import HandS.Walk
import HandS.SortInts
import HandS.List
import PyProof.ReprReads
import PyProof.ReprLoop
import KE.SortData
import HandS.Deep
import HandS.Ends
import HandS.Words
import PyProof.ReprRoads
import HandS.Evl
import HandS.Struct
import HandS.Dict
import PyProof.SeqI3
import HandS.Flow
import PyProof.FitsInt
import KE.KStateDown
import Lean
import HandS.WordsExc
import HandS.Head0
import HandS.Head1
import HandS.Head2
import HandS.HeadEnd
import HandS.HeadHook1
import HandS.HeadHook2
import HandS.HeadHook3
import HandS.HeadHook4
import PySem.Challenge.RW_seamlayers_k43_whole_parts_of_any_rows
set_option Elab.async false
set_option linter.all false
set_option maxRecDepth 100000
set_option maxHeartbeats 40000000
/-! Kinds of orders, their items and steps, by the verifier: plain mathematics. -/
namespace Sv
open PySem L2
inductive Nm where | pl | mi | ri
  deriving DecidableEq
def Nm.s : Nm → Str | .pl => "plain" | .mi => "mirror" | .ri => "ring"
theorem s_mi (k : Nm) : decide (V.str k.s = V.str "mirror") = decide (k = .mi) := by cases k <;> decide +kernel
theorem s_pl (k : Nm) : decide (V.str k.s = V.str "plain") = decide (k = .pl) := by cases k <;> decide +kernel
theorem s_ri (k : Nm) : decide (V.str k.s = V.str "ring") = decide (k = .ri) := by cases k <;> decide +kernel
theorem s_inj {k j : Nm} : (k.s = j.s) ↔ k = j := by cases k <;> cases j <;> decide +kernel
/-- the kinds that there are -/
def okK : Nm → Nat → Bool
  | .pl, n => decide (1 ≤ n ∧ n ≤ 7)
  | .mi, n => decide (1 ≤ n ∧ n ≤ 5)
  | .ri, n => decide (2 ≤ n ∧ n ≤ 5)
theorem okK_le {k : Nm} {n : Nat} (h : okK k n = true) : 1 ≤ n ∧ n ≤ 7 := by
  cases k <;> (have := of_decide_eq_true h; omega)
def off (k : Nm) : Int := if k = .mi then 1 else 0
def many (k : Nm) (n : Nat) : Int := (n : Int) - (if k = .pl then 1 else 0)
def startL (k : Nm) (n : Nat) : List Int := (List.range n).map fun (i : Nat) => off k + (i : Int)
def sg (p : Int) : Int := if 0 < p then 1 else -1
def item (k : Nm) (n : Nat) (w : List Int) (p : Int) : Int :=
  if k = .mi then w.getD (p.natAbs - 1) 0 * sg p else w.getD (p % (n : Int)).toNat 0 + p - p % (n : Int)
def turned (k : Nm) (n : Nat) (s p : Int) : Int :=
  if k = .mi then
    if s = 0 then (if p.natAbs = 1 then -p else p)
    else if (p.natAbs : Int) = s ∨ (p.natAbs : Int) = s + 1 then (2 * s + 1 - (p.natAbs : Int)) * sg p else p
  else if (p - s) % (n : Int) = 0 then p + 1 else if (p - s) % (n : Int) = 1 then p - 1 else p
def stepped (k : Nm) (n : Nat) (w : List Int) (s : Int) : List Int := (startL k n).map fun p => item k n w (turned k n s p)
def low (k : Nm) (s : Int) : Int := if k = .mi then (if 0 < s then s else -1) else s
def crossed (k : Nm) (n : Nat) (w : List Int) (s : Int) : Bool := decide (item k n w (turned k n s (low k s)) < item k n w (low k s))
def gained (k : Nm) (n : Nat) (w : List Int) (s : Int) : List Int := if crossed k n w s = true then w else stepped k n w s
def okP (k : Nm) (n : Nat) (p : Int) : Prop := k = .mi → p ≠ 0 ∧ p.natAbs ≤ n
def okS (k : Nm) (n : Nat) (s : Int) : Prop := 0 ≤ s ∧ s < many k n
theorem sg_pos {p : Int} (h : 0 < p) : sg p = 1 := if_pos h
theorem sg_neg {p : Int} (h : p < 0) : sg p = -1 := if_neg (by omega)
theorem startL_len (k : Nm) (n : Nat) : (startL k n).length = n := by unfold startL; rw [List.length_map, List.length_range]
theorem startL_get (k : Nm) (n i : Nat) (h : i < n) : (startL k n)[i]? = some (off k + (i : Int)) := by
  unfold startL
  rw [List.getElem?_map, List.getElem?_range h]
  rfl
theorem stepped_len (k : Nm) (n : Nat) (w : List Int) (s : Int) : (stepped k n w s).length = n := by unfold stepped; rw [List.length_map, startL_len]
theorem stepped_getD (k : Nm) (n : Nat) (w : List Int) (s : Int) (i : Nat) (h : i < n) : (stepped k n w s).getD i 0 = item k n w (turned k n s (off k + (i : Int))) := by
  unfold stepped
  rw [List.getD_eq_getElem?_getD, List.getElem?_map, startL_get k n i h]
  rfl
theorem startL_getD (k : Nm) (n i : Nat) (h : i < n) : (startL k n).getD i 0 = off k + (i : Int) := by
  rw [List.getD_eq_getElem?_getD, startL_get k n i h]
  rfl
theorem mem_startL {k : Nm} {n : Nat} {p : Int} (h : p ∈ startL k n) : ∃ i : Nat, i < n ∧ p = off k + (i : Int) := by
  unfold startL at h
  obtain ⟨i, hi, e⟩ := List.mem_map.mp h
  exact ⟨i, List.mem_range.mp hi, e.symm⟩
theorem startL_okP {k : Nm} {n : Nat} {p : Int} (h : p ∈ startL k n) : okP k n p := by
  obtain ⟨i, hi, rfl⟩ := mem_startL h
  intro hk
  subst hk
  show (1 : Int) + i ≠ 0 ∧ ((1 : Int) + i).natAbs ≤ n
  omega
/-- steps there are only where there are two items, for plain and ring -/
theorem okS_two {k : Nm} {n : Nat} {s : Int} (hK : okK k n = true) (hk : k ≠ .mi) (h : okS k n s) : 2 ≤ n ∧ n ≤ 7 := by
  have h7 := okK_le hK
  obtain ⟨h1, h2⟩ := h
  unfold many at h2
  cases k with
  | mi => exact absurd rfl hk
  | pl => rw [if_pos rfl] at h2; omega
  | ri => have := of_decide_eq_true hK; omega
theorem okS_mi {n : Nat} {s : Int} (h : okS .mi n s) : 0 ≤ s ∧ s < (n : Int) := by
  obtain ⟨h1, h2⟩ := h
  unfold many at h2
  rw [if_neg (by decide)] at h2
  omega
theorem upto7 {n : Nat} (h : 2 ≤ n ∧ n ≤ 7) : n = 2 ∨ n = 3 ∨ n = 4 ∨ n = 5 ∨ n = 6 ∨ n = 7 := by omega
theorem item_nm {k : Nm} (hk : k ≠ .mi) (n : Nat) (w : List Int) (p : Int) : item k n w p = w.getD (p % (n : Int)).toNat 0 + p - p % (n : Int) := if_neg hk
theorem item_mi (n : Nat) (w : List Int) (p : Int) : item .mi n w p = w.getD (p.natAbs - 1) 0 * sg p := if_pos rfl
theorem turned_nm {k : Nm} (hk : k ≠ .mi) (n : Nat) (s p : Int) : turned k n s p = if (p - s) % (n : Int) = 0 then p + 1 else if (p - s) % (n : Int) = 1 then p - 1 else p := if_neg hk
theorem turned_mi (n : Nat) (s p : Int) : turned .mi n s p = if s = 0 then (if p.natAbs = 1 then -p else p) else if (p.natAbs : Int) = s ∨ (p.natAbs : Int) = s + 1 then (2 * s + 1 - (p.natAbs : Int)) * sg p else p := if_pos rfl
/-- what turned does on the mirror side, by cases without products -/
theorem turned_mi' (n : Nat) (s p : Int) (h0 : p ≠ 0) (hs0 : 0 ≤ s) : turned .mi n s p = if s = 0 then (if p = 1 ∨ p = -1 then -p else p) else if p = s then s + 1 else if p = s + 1 then s else if p = -s then -(s + 1) else if p = -(s + 1) then -s else p := by
  rw [turned_mi]
  unfold sg
  by_cases hs : s = 0
  · subst hs
    simp only [if_true]
    by_cases h1 : p.natAbs = 1
    · rw [if_pos h1, if_pos (by omega)]
    · rw [if_neg h1, if_neg (by omega)]
  · rw [if_neg hs, if_neg hs]
    by_cases hp : 0 < p
    · rw [if_pos hp, Int.mul_one]
      repeat' split
      all_goals omega
    · rw [if_neg hp, Int.mul_neg, Int.mul_one]
      repeat' split
      all_goals omega
theorem turned_ok {k : Nm} {n : Nat} {s p : Int} (hs : okS k n s) (hp : okP k n p) : okP k n (turned k n s p) := by
  intro hk
  subst hk
  obtain ⟨h0, h1⟩ := hp rfl
  have h2 := okS_mi hs
  rw [turned_mi' n s p h0 h2.1]
  repeat' split
  all_goals omega
theorem turned_inv {k : Nm} {n : Nat} {s p : Int} (hK : okK k n = true) (hs : okS k n s) (hp : okP k n p) : turned k n s (turned k n s p) = p := by
  by_cases hk : k = .mi
  · subst hk
    obtain ⟨h0, h1⟩ := hp rfl
    have h2 := okS_mi hs
    have h3 := turned_ok hs hp rfl
    rw [turned_mi' n s _ h3.1 h2.1]
    rw [turned_mi' n s p h0 h2.1]
    repeat' split
    all_goals omega
  · have h2 := okS_two hK hk hs
    rw [turned_nm hk, turned_nm hk]
    rcases upto7 h2 with rfl | rfl | rfl | rfl | rfl | rfl <;> (repeat' split) <;> omega
theorem turned_inj {k : Nm} {n : Nat} {s p q : Int} (hK : okK k n = true) (hs : okS k n s) (hp : okP k n p) (hq : okP k n q) (e : turned k n s p = turned k n s q) : p = q := by
  rw [← turned_inv hK hs hp, e, turned_inv hK hs hq]
theorem item_neg (n : Nat) (w : List Int) (p : Int) (h : p ≠ 0) : item .mi n w (-p) = - item .mi n w p := by
  rw [item_mi, item_mi, Int.natAbs_neg]
  by_cases hp : 0 < p
  · rw [sg_pos hp, sg_neg (by omega)]
    omega
  · rw [sg_neg (by omega : p < 0), sg_pos (by omega)]
    omega
theorem turned_neg (n : Nat) (s p : Int) (hs : 0 ≤ s) (h : p ≠ 0) : turned .mi n s (-p) = - turned .mi n s p := by
  rw [turned_mi' n s p h hs, turned_mi' n s (-p) (by omega) hs]
  repeat' split
  all_goals omega
theorem item_step {k : Nm} {n : Nat} {w : List Int} {s p : Int} (hK : okK k n = true) (hs : okS k n s) (hp : okP k n p) : item k n (stepped k n w s) p = item k n w (turned k n s p) := by
  by_cases hk : k = .mi
  · subst hk
    obtain ⟨h0, h1⟩ := hp rfl
    have h2 := okS_mi hs
    rw [item_mi, stepped_getD .mi n w s _ (by omega)]
    have e : off .mi + ((p.natAbs - 1 : Nat) : Int) = (p.natAbs : Int) := by
      show (1 : Int) + _ = _
      omega
    rw [e]
    by_cases hp0 : 0 < p
    · rw [sg_pos hp0, Int.mul_one]
      have e2 : (p.natAbs : Int) = p := by omega
      rw [e2]
    · rw [sg_neg (by omega : p < 0)]
      have e2 : (p.natAbs : Int) = -p := by omega
      have h3 := turned_ok hs hp rfl
      rw [e2, turned_neg n s p h2.1 h0, item_neg n w _ h3.1]
      omega
  · have h2 := okS_two hK hk hs
    have hn : (0 : Int) < (n : Int) := by omega
    have hm1 : 0 ≤ p % (n : Int) := Int.emod_nonneg p (by omega)
    have hm2 : p % (n : Int) < (n : Int) := Int.emod_lt_of_pos p hn
    rw [item_nm hk, stepped_getD k n w s _ (by omega)]
    have e0 : off k = 0 := if_neg hk
    have e1 : off k + ((p % (n : Int)).toNat : Int) = p % (n : Int) := by rw [e0]; omega
    rw [e1, item_nm hk, item_nm hk, turned_nm hk, turned_nm hk]
    have key : ∀ (a b : Int), a % (n : Int) = b % (n : Int) → a + p - p % (n : Int) = b → w.getD (a % (n : Int)).toNat 0 + a - a % (n : Int) + p - p % (n : Int) = w.getD (b % (n : Int)).toNat 0 + b - b % (n : Int) := by
      intro a b h3 h4
      rw [h3]
      omega
    apply key
    · rcases upto7 h2 with rfl | rfl | rfl | rfl | rfl | rfl <;> (repeat' split) <;> omega
    · rcases upto7 h2 with rfl | rfl | rfl | rfl | rfl | rfl <;> (repeat' split) <;> omega
/-- an order: unlike places have unlike items -/
structure Good (k : Nm) (n : Nat) (w : List Int) : Prop where
  len : w.length = n
  inj : ∀ p q, okP k n p → okP k n q → item k n w p = item k n w q → p = q
theorem item_start {k : Nm} {n : Nat} {p : Int} (hn : 1 ≤ n) (hp : okP k n p) : item k n (startL k n) p = p := by
  by_cases hk : k = .mi
  · subst hk
    obtain ⟨h0, h1⟩ := hp rfl
    rw [item_mi, startL_getD .mi n _ (by omega)]
    have e : off .mi + ((p.natAbs - 1 : Nat) : Int) = (p.natAbs : Int) := by
      show (1 : Int) + _ = _
      omega
    rw [e]
    by_cases hp0 : 0 < p
    · rw [sg_pos hp0]; omega
    · rw [sg_neg (by omega : p < 0)]; omega
  · have hn' : (0 : Int) < (n : Int) := by omega
    have hm1 : 0 ≤ p % (n : Int) := Int.emod_nonneg p (by omega)
    have hm2 : p % (n : Int) < (n : Int) := Int.emod_lt_of_pos p hn'
    rw [item_nm hk, startL_getD k n _ (by omega)]
    have e0 : off k = 0 := if_neg hk
    rw [e0]
    omega
theorem good_start {k : Nm} {n : Nat} (hn : 1 ≤ n) : Good k n (startL k n) := ⟨startL_len k n, fun p q hp hq e => by rw [item_start hn hp, item_start hn hq] at e; exact e⟩
theorem good_stepped {k : Nm} {n : Nat} {w : List Int} {s : Int} (hK : okK k n = true) (hs : okS k n s) (g : Good k n w) : Good k n (stepped k n w s) :=
  ⟨stepped_len k n w s, fun p q hp hq e => by
    rw [item_step hK hs hp, item_step hK hs hq] at e
    exact turned_inj hK hs hp hq (g.inj _ _ (turned_ok hs hp) (turned_ok hs hq) e)⟩
theorem good_gained {k : Nm} {n : Nat} {w : List Int} {s : Int} (hK : okK k n = true) (hs : okS k n s) (g : Good k n w) : Good k n (gained k n w s) := by
  unfold gained
  split
  · exact g
  · exact good_stepped hK hs g
theorem low_okP {k : Nm} {n : Nat} {s : Int} (hs : okS k n s) : okP k n (low k s) := by
  intro hk
  subst hk
  have h2 := okS_mi hs
  show (if 0 < s then s else -1) ≠ 0 ∧ (if 0 < s then s else -1).natAbs ≤ n
  split <;> omega
/-! ### rows of steps on orders -/
def run (k : Nm) (n : Nat) (w : List Int) (l : List Int) : List Int := l.foldl (stepped k n) w
def turns (k : Nm) (n : Nat) : List Int → Int → Int
  | [], p => p
  | s :: l, p => turned k n s (turns k n l p)
theorem turns_ok {k : Nm} {n : Nat} : ∀ {l : List Int} {p : Int}, (∀ s ∈ l, okS k n s) → okP k n p → okP k n (turns k n l p)
  | [], _, _, hp => hp
  | s :: l, p, hl, hp => turned_ok (hl s List.mem_cons_self) (turns_ok (fun t ht => hl t (List.mem_cons_of_mem _ ht)) hp)
theorem item_run {k : Nm} {n : Nat} (hK : okK k n = true) : ∀ {l : List Int} {w : List Int} {p : Int}, (∀ s ∈ l, okS k n s) → okP k n p → item k n (run k n w l) p = item k n w (turns k n l p)
  | [], _, _, _, _ => rfl
  | s :: l, w, p, hl, hp => by
    have hl' : ∀ t ∈ l, okS k n t := fun t ht => hl t (List.mem_cons_of_mem _ ht)
    show item k n (run k n (stepped k n w s) l) p = item k n w (turned k n s (turns k n l p))
    rw [item_run hK hl' hp, item_step hK (hl s List.mem_cons_self) (turns_ok hl' hp)]
theorem run_len {k : Nm} {n : Nat} : ∀ {l : List Int} {w : List Int}, w.length = n → (run k n w l).length = n
  | [], _, h => h
  | s :: l, w, h => run_len (l := l) (w := stepped k n w s) (stepped_len k n w s)
theorem map_item {k : Nm} {n : Nat} {u : List Int} (h : u.length = n) : (startL k n).map (item k n u) = u := by
  apply List.ext_getElem?
  intro i
  rw [List.getElem?_map]
  by_cases hi : i < n
  · rw [startL_get k n i hi, List.getElem?_eq_getElem (by omega)]
    show some (item k n u (off k + (i : Int))) = some u[i]
    congr 1
    by_cases hk : k = .mi
    · subst hk
      rw [item_mi]
      show u.getD ((1 + (i : Int)).natAbs - 1) 0 * sg (1 + (i : Int)) = u[i]
      have e : (1 + (i : Int)).natAbs - 1 = i := by omega
      rw [e, sg_pos (by omega), Int.mul_one, List.getD_eq_getElem?_getD, List.getElem?_eq_getElem (by omega)]
      rfl
    · rw [item_nm hk]
      have e0 : off k = 0 := if_neg hk
      have e1 : (0 + (i : Int)) % (n : Int) = (i : Int) := by
        rw [Int.zero_add]
        exact Int.emod_eq_of_lt (by omega) (by omega)
      rw [e0, e1, Int.toNat_natCast, List.getD_eq_getElem?_getD, List.getElem?_eq_getElem (by omega)]
      show u[i] + (0 + (i : Int)) - (i : Int) = u[i]
      omega
  · rw [List.getElem?_eq_none (by rw [startL_len]; omega), List.getElem?_eq_none (by omega)]
    rfl
theorem run_eq_iff {k : Nm} {n : Nat} {w : List Int} {l m : List Int} (hK : okK k n = true) (g : Good k n w) (hl : ∀ s ∈ l, okS k n s) (hm : ∀ s ∈ m, okS k n s) :
    run k n w l = run k n w m ↔ ∀ p ∈ startL k n, turns k n l p = turns k n m p := by
  constructor
  · intro e p hp
    have ho := startL_okP hp
    refine g.inj _ _ (turns_ok hl ho) (turns_ok hm ho) ?_
    rw [← item_run hK hl ho, ← item_run hK hm ho, e]
  · intro h
    rw [← map_item (run_len (l := l) g.len), ← map_item (run_len (l := m) g.len)]
    apply List.map_congr_left
    intro p hp
    have ho := startL_okP hp
    rw [item_run hK hl ho, item_run hK hm ho, h p hp]
theorem run_snoc (k : Nm) (n : Nat) (w l : List Int) (s : Int) : run k n w (l ++ [s]) = stepped k n (run k n w l) s := by
  unfold run
  rw [List.foldl_append]
  rfl
/-- the two ways by turns: after how many steps they agree -/
def lw (k : Nm) (n : Nat) (a b : Int) : Nat → Nat → List Int → List Int → Option Nat
  | 0, _, _, _ => none
  | f + 1, t, xs, ys =>
    if stepped k n xs (if t % 2 = 1 then a else b) = stepped k n ys (if t % 2 = 1 then b else a) then some t
    else lw k n a b f (t + 1) (stepped k n xs (if t % 2 = 1 then a else b)) (stepped k n ys (if t % 2 = 1 then b else a))
theorem lw_any {k : Nm} {n : Nat} {w : List Int} {a b : Int} (hK : okK k n = true) (g : Good k n w) (ha : okS k n a) (hb : okS k n b) : ∀ (f t : Nat) (l m : List Int), (∀ s ∈ l, okS k n s) → (∀ s ∈ m, okS k n s) →
    lw k n a b f t (run k n w l) (run k n w m) = lw k n a b f t (run k n (startL k n) l) (run k n (startL k n) m)
  | 0, _, _, _, _, _ => rfl
  | f + 1, t, l, m, hl, hm => by
    have g0 : Good k n (startL k n) := good_start (okK_le hK).1
    have h1 : ∀ s ∈ l ++ [if t % 2 = 1 then a else b], okS k n s := by
      intro s hs
      rcases List.mem_append.mp hs with h | h
      · exact hl s h
      · rw [List.mem_singleton.mp h]; split <;> assumption
    have h2 : ∀ s ∈ m ++ [if t % 2 = 1 then b else a], okS k n s := by
      intro s hs
      rcases List.mem_append.mp hs with h | h
      · exact hm s h
      · rw [List.mem_singleton.mp h]; split <;> assumption
    unfold lw
    rw [← run_snoc, ← run_snoc, ← run_snoc, ← run_snoc]
    have ih := lw_any hK g ha hb f (t + 1) _ _ h1 h2
    rw [ih]
    have e : (run k n w (l ++ [if t % 2 = 1 then a else b]) = run k n w (m ++ [if t % 2 = 1 then b else a])) ↔ (run k n (startL k n) (l ++ [if t % 2 = 1 then a else b]) = run k n (startL k n) (m ++ [if t % 2 = 1 then b else a])) :=
      (run_eq_iff hK g h1 h2).trans (run_eq_iff hK g0 h1 h2).symm
    by_cases q : run k n w (l ++ [if t % 2 = 1 then a else b]) = run k n w (m ++ [if t % 2 = 1 then b else a])
    · rw [if_pos q, if_pos (e.mp q)]
    · rw [if_neg q, if_neg (fun z => q (e.mpr z))]
/-- what wait tells -/
def waitN (k : Nm) (n : Nat) (a b : Int) : Option Nat :=
  if k = .mi ∧ a + b = 1 then some 4
  else if k = .ri then (if n = 2 then none else some (if (if (n : Int) - (if a - b < 0 then -(a - b) else a - b) < (if a - b < 0 then -(a - b) else a - b) then (n : Int) - (if a - b < 0 then -(a - b) else a - b) else (if a - b < 0 then -(a - b) else a - b)) = 1 then 3 else 2))
  else some (if (if a - b < 0 then -(a - b) else a - b) = 1 then 3 else 2)
def allK : List (Nm × Nat) := [(.pl, 1), (.pl, 2), (.pl, 3), (.pl, 4), (.pl, 5), (.pl, 6), (.pl, 7), (.mi, 1), (.mi, 2), (.mi, 3), (.mi, 4), (.mi, 5), (.ri, 2), (.ri, 3), (.ri, 4), (.ri, 5)]
theorem okK_mem {k : Nm} {n : Nat} (h : okK k n = true) : (k, n) ∈ allK := by
  cases k with
  | pl =>
    have := of_decide_eq_true h
    have : n = 1 ∨ n = 2 ∨ n = 3 ∨ n = 4 ∨ n = 5 ∨ n = 6 ∨ n = 7 := by omega
    rcases this with rfl | rfl | rfl | rfl | rfl | rfl | rfl <;> decide
  | mi =>
    have := of_decide_eq_true h
    have : n = 1 ∨ n = 2 ∨ n = 3 ∨ n = 4 ∨ n = 5 := by omega
    rcases this with rfl | rfl | rfl | rfl | rfl <;> decide
  | ri =>
    have := of_decide_eq_true h
    have : n = 2 ∨ n = 3 ∨ n = 4 ∨ n = 5 := by omega
    rcases this with rfl | rfl | rfl | rfl <;> decide
def chk1 (k : Nm) (n : Nat) : Bool := (List.range n).all fun (a : Nat) => (List.range n).all fun (b : Nat) => (a == b) || (decide (many k n ≤ (a : Int)) || decide (many k n ≤ (b : Int))) || decide (lw k n (a : Int) (b : Int) 12 1 (startL k n) (startL k n) = waitN k n (a : Int) (b : Int))
theorem chk_all : (allK.all fun q => chk1 q.1 q.2) = true := by decide +kernel
theorem many_le (k : Nm) (n : Nat) : many k n ≤ (n : Int) := by unfold many; split <;> omega
theorem wait_right {k : Nm} {n : Nat} {w : List Int} {a b : Int} (hK : okK k n = true) (g : Good k n w) (ha : okS k n a) (hb : okS k n b) (hab : a ≠ b) : lw k n a b 12 1 w w = waitN k n a b := by
  have e := lw_any hK g ha hb 12 1 [] [] (fun _ h => by cases h) (fun _ h => by cases h)
  show lw k n a b 12 1 (run k n w []) (run k n w []) = _
  rw [e]
  show lw k n a b 12 1 (startL k n) (startL k n) = _
  have c := List.all_eq_true.mp chk_all (k, n) (okK_mem hK)
  have hl := many_le k n
  obtain ⟨a1, a2⟩ := ha
  obtain ⟨b1, b2⟩ := hb
  obtain ⟨x, rfl⟩ : ∃ x : Nat, a = (x : Int) := ⟨a.toNat, by omega⟩
  obtain ⟨y, rfl⟩ : ∃ y : Nat, b = (y : Int) := ⟨b.toNat, by omega⟩
  have c1 := List.all_eq_true.mp (List.all_eq_true.mp c x (List.mem_range.mpr (by omega))) y (List.mem_range.mpr (by omega))
  have hxy : (x == y) = false := by
    cases q : (x == y) with
    | false => rfl
    | true => exact absurd (congrArg Int.ofNat (eq_of_beq q)) hab
  rw [hxy, decide_eq_false (by omega : ¬ many k n ≤ (x : Int)), decide_eq_false (by omega : ¬ many k n ≤ (y : Int))] at c1
  exact of_decide_eq_true (by simpa using c1)
end Sv

/-! Calls by what a def is told to keep; == of own classes either way; repr of None: by the verifier. -/
namespace Sv
open PySem PySem.Spec PyProof.Rows L2
/-- the module's name x is a def that keeps sp -/
structure Gd (P : Program) (w : World) (K : PySem.W.Frag) (mg : Str → Option Value) (base : Heap) (x : Str) (ps : List Str) (k : Nat) (sp : Sp) : Prop where
  ex : ∃ (f : Addr) (fd : FuncData), FnOk P w K mg base CX0 k f fd ps sp ∧ mg x = some (.ref f) ∧ PySem.W.keepIn K (.ref f) = true ∧ Binds K fd ps []
/-- the class at C has a method m that keeps sp -/
structure Md (P : Program) (w : World) (K : PySem.W.Frag) (mg : Str → Option Value) (base : Heap) (C : Addr) (m : Str) (ps : List Str) (k : Nat) (sp : Sp) : Prop where
  ex : ∃ (f : Addr) (fd : FuncData), FnOk P w K mg base CX0 k f fd ps sp ∧ Meth K C m f ∧ Binds K fd ps []
/-- the module's name x is a class at C, made by an __init__ that keeps sp -/
structure Cd (P : Program) (w : World) (K : PySem.W.Frag) (mg : Str → Option Value) (base : Heap) (x : Str) (C : Addr) (ps : List Str) (k : Nat) (sp : Sp) : Prop where
  ex : ∃ (f : Addr) (fd : FuncData), FnOk P w K mg base CX0 k f fd ps sp ∧ mg x = some (.ref C) ∧ Mk K C f ∧ Binds K fd ps []
/-- .. called by keywords alone: ks the written names, gV puts self and the values in the parameters' order -/
structure CdK (P : Program) (w : World) (K : PySem.W.Frag) (mg : Str → Option Value) (base : Heap) (x : Str) (C : Addr) (ps ks : List Str) (gV : List V → List V → List V) (k : Nat) (sp : Sp) : Prop where
  ex : ∃ (f : Addr) (fd : FuncData) (g : List Value → List Value → List Value), FnOk P w K mg base CX0 k f fd ps sp ∧ mg x = some (.ref C) ∧ Mk K C f ∧ KBn K fd ps 1 ks g gV
structure GdK (P : Program) (w : World) (K : PySem.W.Frag) (mg : Str → Option Value) (base : Heap) (x : Str) (ps ks : List Str) (gV : List V → List V → List V) (k : Nat) (sp : Sp) : Prop where
  ex : ∃ (f : Addr) (fd : FuncData) (g : List Value → List Value → List Value), FnOk P w K mg base CX0 k f fd ps sp ∧ mg x = some (.ref f) ∧ PySem.W.keepIn K (.ref f) = true ∧ KBn K fd ps 0 ks g gV
section
variable {X : Cx} {k : Nat} {C : Addr} {ps ks : List Str} {sp : Sp} {x m : Str} {p pos apos : Pos} {e o : Expr} {es : List Expr} {kws : List Keyword} {t tk : TA} {ta : TE} {gV : List V → List V → List V}
theorem pe_callG (G : Gd X.prog X.w X.K X.mg X.base x ps k sp) (hr : Room k X.A) (hg : Gl X x)
    (ha : PA X (e :: es) t) (hdb : (x == ("__debug__" : Str)) = false := by decide) (he : starEach (e :: es) X.env = (false, eval e X.env) :: starEach es X.env := by rfl) (hpl : (backTo pos (starEach es X.env)).any (·.1) = false := by rfl) :
    PE X (.Call (.Name x p) (e :: es) [] pos) (tCall sp [] E0 t) := by
  obtain ⟨f, fd, F, gm, kp, b⟩ := G.ex
  exact pe_call F hr hg gm kp b .nil pass0 ha hdb he hpl
theorem pe_methG0 {pl : Sem Bool} (c : Cls X.K C) (M : Md X.prog X.w X.K X.mg X.base C m ps k sp) (hr : Room k X.A) (he : PE X o ta)
    (ht : eval (.Call (.Attribute o m apos) [] [] pos) X.env = (do
      let ov ← eval o X.env
      standAt apos.atName
      let (f, first) ← holding [ov] (getMethod ov m pl)
      callWith pos f first (backTo pos (starEach [] X.env)) (backToKw pos (keywordEach [] X.env))) := by rfl) :
    PE X (.Call (.Attribute o m apos) [] [] pos) (tMeth C m sp [] E0 ta tNil) := by
  obtain ⟨f, fd, F, hm, b⟩ := M.ex
  exact pe_meth0 he c hm F hr b .nil pass0 ht
theorem pe_makeG (G : Cd X.prog X.w X.K X.mg X.base x C ps k sp) (hr : Room (k + 1) X.A) (hg : Gl X x)
    (ha : PA X (e :: es) t) (hdb : (x == ("__debug__" : Str)) = false := by decide) (he : starEach (e :: es) X.env = (false, eval e X.env) :: starEach es X.env := by rfl) (hpl : (backTo pos (starEach es X.env)).any (·.1) = false := by rfl) :
    PE X (.Call (.Name x p) (e :: es) [] pos) (tMake C sp [] E0 t) := by
  obtain ⟨f, fd, F, gm, M, b⟩ := G.ex
  exact pe_make M F hr hg gm b .nil pass0 ha hdb he hpl
theorem pe_makeKG (G : CdK X.prog X.w X.K X.mg X.base x C ps ks gV k sp) (hr : Room (k + 1) X.A) (hg : Gl X x) (hkw : PK X kws tk)
    (hall : (backToKw pos (keywordEach kws X.env)).all (·.1.isSome) = true := by rfl) (hks : (backToKw pos (keywordEach kws X.env)).filterMap (·.1) = ks := by rfl) (hdb : (x == ("__debug__" : Str)) = false := by decide)
    (hpl : ((backTo pos (starEach [] X.env)).any (·.1) || (backToKw pos (keywordEach kws X.env)).any (·.1.isNone)) = false := by rfl) :
    PE X (.Call (.Name x p) [] kws pos) (tMakeK C 0 ks.length sp gV E0 tNil tk) := by
  obtain ⟨f, fd, g, F, gm, M, b⟩ := G.ex
  exact pe_makeK0 M F hr hg gm b pass0 hkw hall hks hdb hpl
/-- f(k = v, ..) -/
theorem pe_callKG (G : GdK X.prog X.w X.K X.mg X.base x ps ks gV k sp) (hr : Room k X.A) (hg : Gl X x) (hkw : PK X kws tk)
    (hall : (backToKw pos (keywordEach kws X.env)).all (·.1.isSome) = true := by rfl) (hks : (backToKw pos (keywordEach kws X.env)).filterMap (·.1) = ks := by rfl) (hdb : (x == ("__debug__" : Str)) = false := by decide)
    (hpl : ((backTo pos (starEach [] X.env)).any (·.1) || (backToKw pos (keywordEach kws X.env)).any (·.1.isNone)) = false := by rfl) :
    PE X (.Call (.Name x p) [] kws pos) (tCallN 0 ks.length sp gV E0 tNil tk) := by
  obtain ⟨f, fd, g, F, gm, kp, b⟩ := G.ex
  refine ⟨fun pins s σ H Q I h => ?_⟩
  refine wpAny_Call_Name_kw (ld_glob I hg gm ?_ hdb)
  refine PySem.W.callWith_KW0 (h₀ := X.base) I.ok.mod.kin kp hall ?_ hpl
  refine thn (hkw.run pos pins s σ H _ I h) fun ws s2 ⟨zs, H2, I2, rz, l1, l2, q2⟩ => ⟨I2.kIn, ?_⟩
  rw [hks]
  exact run_fnN (us := []) (vs := []) F hr b pass0 I2 .nil rz rfl l2 q2
/-- a def's body keeps its promise; nothing is raised -/
theorem okN {P : Program} {w : World} {K : PySem.W.Frag} {mg : Str → Option Value} {base : Heap} {x qual : Str} {params : Arguments} {body : List Stmt} {scope : Scope} {dvs : List V} {kws : List (Str × V)} {f : Addr} {fd : FuncData} {N ps : List Str} {k : Nat} {sp : Sp}
    (F : FunD K x qual params body scope dvs kws f fd) (S : FnScope N ps scope) (len : ∀ vs H Q E, sp vs H Q E → vs.length = ps.length)
    (hbody : ∀ (cdv : Value) (A : Around) (outer : List Env) (s : Shared) (H : Hp) (vs : List V) (Q : VK) (E : XK), Room k (A.deeper (envOfC qual scope s.heap.objs.size f cdv)) → sp vs H Q E →
      ∃ t, PSs (cxOf CX0 P w K mg base N qual scope f cdv A outer s H E).nox body t ∧ t { nx := fun _ H' => Q .non H', rt := Q } (start N vs) H) : FnOk P w K mg base CX0 (k + 1) f fd ps sp :=
  F.ok S len fun cdv A outer s H vs Q E hr h => let ⟨t, p, q⟩ := hbody cdv A outer s H vs Q E hr h; ⟨t, p.nox, q⟩
/-! ### == by an own __eq__, both answers -/
def rOwnEq (K : PySem.W.Frag) (C : Addr) (sp : Sp) : R2 := fun x y H Q => ∃ a b dx fs, x = .ref a ∧ y = .ref b ∧ H a = some (.ins C dx fs) ∧
  ((∃ dy gs, H b = some (.ins C dy gs)) ∨ ((∃ ys, H b = some (.tup ys)) ∧ PySem.W.notFirst K C (.type "tuple") = true)) ∧ sp [x, y] H Q E0
theorem op_own_eq (M : Md X.prog X.w X.K X.mg X.base C "__eq__" ps k sp) (hr : Room k X.A) : OpR X (compareOp .Eq) (rOwnEq X.K C sp) := by
  obtain ⟨f, fd, F, hm, bd⟩ := M.ex
  intro pins s σ H x y v u Q I rx ry h
  obtain ⟨a, b, dx, fs, rfl, rfl, ha, hb, q⟩ := h
  cases (show v = Value.ref a from rx)
  cases (show u = Value.ref b from ry)
  obtain ⟨mA, J, _⟩ := ins_get I.hok ha
  obtain ⟨od, J, _⟩ := J.look
  obtain ⟨m, hF⟩ := I.fr
  have r2 : Vals [V.ref a, V.ref b] [Value.ref a, Value.ref b] := .cons rfl (.cons rfl .nil)
  have run : wpAny (model X.prog X.w) X.A (call (.ref f) [.ref a, .ref b]) (PySem.W.CmpBack (EP X pins σ Q)) X.xe s := by
    refine wpAny_mono (run_fn F hr bd .nil pass0 I r2 q) (fun w s' z => ?_) fun _ _ z => z
    obtain ⟨z', H', I', rz, qz⟩ := z
    exact SlX.cmpback rz ⟨z', H', I', rz, qz⟩
  show wpAny (model X.prog X.w) X.A (richCompare .Eq (.ref a) (.ref b)) (EP X pins σ Q) X.xe s
  rcases hb with ⟨dy, gs, hb⟩ | ⟨⟨ys, hb⟩, hn⟩
  · obtain ⟨mB, J', _⟩ := ins_get I.hok hb
    obtain ⟨od', J', _⟩ := J'.look
    exact PySem.W.cmp_K (op := .Eq) (tb := .ref C) hr.units0 hF I.ok.mod.kin J J'.type (by simp [PySem.W.notFirst]) hm.at_ hm.fn run
  · obtain ⟨_, its, _, o, ho, hc, _⟩ := (show ObjOk X.prog X.w H s.heap b (.tup ys) from I.hok b _ hb)
    exact PySem.W.cmp_K (op := .Eq) (tb := .type "tuple") hr.units0 hF I.ok.mod.kin J (fun A' Q' E' s' k' q' => wpAny_typeOf ⟨o, k' _ _ ho, hc⟩ q') hn hm.at_ hm.fn run
/-! ### repr of a whole number or of None -/
def vOf : Option Nat → V
  | some n => .int n
  | none => .non
def rpr : V → Str
  | .int i => toString i
  | _ => "None"
theorem call_reprN : CallR X (.builtin "repr") (fun xs H Q => ((∃ i, xs = [.int i] ∧ i.natAbs.log2 < 1920) ∨ xs = [.non]) ∧ ∀ z, xs = [z] → Q (.str (rpr z)) H) := by
  intro pins s σ H xs us Q I r h
  obtain ⟨h, q⟩ := h
  rcases h with ⟨i, rfl, hz⟩ | rfl
  · obtain ⟨u, rfl, t, rfl⟩ := vals1 r
    exact PySem.P.repr_of_int hz ⟨.str _, H, I.tok _, ⟨_, rfl⟩, q _ rfl⟩
  · obtain ⟨u, rfl, hu⟩ := vals1 r
    cases (show u = Value.none from hu)
    exact PySem.P.repr_of_none ⟨.str _, H, I.tok _, ⟨_, rfl⟩, q _ rfl⟩
/-! ### ** of great numbers -/
theorem op_powX : OpR X (binaryOp .Pow) (rI (fun i j => 0 ≤ j ∧ (Builtin.Int.intBits i : Int) * j ≤ 2 ^ 27) fun i j => .int (i ^ j.toNat)) := opI fun _ _ _ _ _ _ _ hc q => pow_int hc.1 hc.2 q
end
/-! ### heaps -/
theorem Same.tup {K : PySem.W.Frag} {H H' : Hp} {a : Addr} {xs : List V} (e : Same H H') (h : SqT K H a xs) : SqT K H' a xs := by
  rcases h with (h | ⟨o, h⟩) | h
  · exact .inl (.inl (e _ _ h))
  · exact .inl (.inr ⟨o, e _ _ h⟩)
  · exact .inr h
theorem Same.upd {H : Hp} {p : Addr} {o : HO} (h : H p = none) : Same H (upd H p o) := fun b x e => by
  rw [upd_ne (ne_of_none e h)]
  exact e
/-- all but g is as it was -/
def SameX (g : Addr) (H H' : Hp) : Prop := ∀ b o, H b = some o → b ≠ g → H' b = some o
theorem Same.x {H H' : Hp} (g : Addr) (e : Same H H') : SameX g H H' := fun b o h _ => e b o h
theorem SameX.refl (g : Addr) (H : Hp) : SameX g H H := fun _ _ h _ => h
theorem SameX.trans {g : Addr} {H H1 H2 : Hp} (a : SameX g H H1) (b : SameX g H1 H2) : SameX g H H2 := fun c o h n => b c o (a c o h n) n
theorem SameX.upd {g : Addr} {H : Hp} {o : HO} : SameX g H (L2.upd H g o) := fun b x e n => by
  rw [upd_ne n]
  exact e
theorem SameX.free {g : Addr} {H H' : Hp} {o : HO} (e : SameX g H H') (hg : H g = some o) {l : Addr} {u : HO} (h' : H' g = some u) (h : H' l = none) : H l = none := by
  cases q : H l with
  | none => rfl
  | some x =>
    by_cases hl : l = g
    · rw [hl, h'] at h
      cases h
    · rw [e l x q hl] at h
      cases h
theorem SameX.seq {K : PySem.W.Frag} {g : Addr} {H H' : Hp} {a : Addr} {xs : List V} (e : SameX g H H') (n : a ≠ g) (h : SqL K H a xs) : SqL K H' a xs := by
  rcases h with (h | ⟨o, h⟩) | h
  · exact .inl (.inl (e _ _ h n))
  · exact .inl (.inr ⟨o, e _ _ h n⟩)
  · exact .inr h
theorem SameX.tup {K : PySem.W.Frag} {g : Addr} {H H' : Hp} {a : Addr} {xs : List V} (e : SameX g H H') (n : a ≠ g) (h : SqT K H a xs) : SqT K H' a xs := by
  rcases h with (h | ⟨o, h⟩) | h
  · exact .inl (.inl (e _ _ h n))
  · exact .inl (.inr ⟨o, e _ _ h n⟩)
  · exact .inr h
/-! ### data of whole numbers and texts -/
theorem dp_ints {K : PySem.W.Frag} {H : Hp} : ∀ xs : List Int, DpAll K H (xs.map V.int) (xs.map PyData.int)
  | [] => .nil
  | x :: xs => .cons (.int x) (dp_ints xs)
theorem eqv_ints : ∀ xs ys : List Int, PyData.eqvAll (xs.map PyData.int) (ys.map PyData.int) = decide (xs = ys)
  | [], [] => rfl
  | [], y :: ys => rfl
  | x :: xs, [] => rfl
  | x :: xs, y :: ys => by
    rw [List.map_cons, List.map_cons, PyData.eqvAll, eqv_ints xs ys]
    show ((x == y) && decide (xs = ys)) = decide (x :: xs = y :: ys)
    rw [Bool.eq_iff_iff]
    simp
theorem shaped_ints (xs : List Int) : SeqAt.shaped (.list (xs.map PyData.int)) = true := PySem.W.ke_shaped_ints xs
end Sv

namespace Sv
open PySem PySem.Spec PyProof.Rows L2
/-! ### the text by places -/
def top (i : Nat) : Stmt := PySem.Challenge.pw_seamlayers_k43_whole_parts_of_any_rows.main.body.getD i (.Pass ⟨0, 0, 0, 0⟩)
abbrev s_InvalidKind___init__ : Stmt := inClass (top 3) 0
abbrev s_InvalidOrder___init__ : Stmt := inClass (top 4) 0
abbrev s_InvalidNumber___init__ : Stmt := inClass (top 5) 0
abbrev s_InvalidRow___init__ : Stmt := inClass (top 6) 0
abbrev s_Kind___init__ : Stmt := inClass (top 24) 0
abbrev s_Kind___eq__ : Stmt := inClass (top 24) 1
abbrev s_Kind_name : Stmt := inClass (top 24) 2
abbrev s_Kind_size : Stmt := inClass (top 24) 3
abbrev s_Kind_steps : Stmt := inClass (top 24) 4
abbrev s_Kind_start : Stmt := inClass (top 24) 5
abbrev s_is_whole : Stmt := top 8
abbrev s_are_whole : Stmt := top 9
abbrev s_is_rising : Stmt := top 10
abbrev s_spread_of : Stmt := top 13
abbrev s_order_in : Stmt := top 14
abbrev s_exchange_in : Stmt := top 15
abbrev s_is_crossed : Stmt := top 16
abbrev s_after_step : Stmt := top 17
abbrev s_opposite_of : Stmt := top 18
abbrev s_count_crossings : Stmt := top 19
abbrev s_has_order_form : Stmt := top 20
abbrev s_is_told_order : Stmt := top 21
abbrev s_check_kind : Stmt := top 25
abbrev s_is_step : Stmt := top 26
abbrev s_is_told_row : Stmt := top 29
abbrev s_are_places : Stmt := top 30
abbrev s_made_by : Stmt := top 31
abbrev s_first_down : Stmt := top 32
abbrev s_least_changed : Stmt := top 33
abbrev s_first_least : Stmt := top 34
abbrev s_places_of : Stmt := top 36
abbrev s_lies_beneath : Stmt := top 37
abbrev s_check_orders : Stmt := top 39
abbrev s_check_rows : Stmt := top 40
abbrev s_is_beneath : Stmt := top 42
abbrev s_part : Stmt := top 43
abbrev s_is_part : Stmt := top 44
abbrev s__law_hash : Stmt := top 46
abbrev s__law_random : Stmt := top 47
abbrev s__law_cell : Stmt := top 48
abbrev s__law_generator : Stmt := top 49
abbrev s__law_kind : Stmt := top 50
abbrev s__law_many : Stmt := top 51
abbrev s__law_start : Stmt := top 52
abbrev s__law_step : Stmt := top 53
abbrev s__law_crossed : Stmt := top 54
abbrev s__law_made : Stmt := top 55
abbrev s__law_row : Stmt := top 56
abbrev s__law_least : Stmt := top 57
abbrev s__law_parts : Stmt := top 58
abbrev s__law_greedy : Stmt := top 59
abbrev s__law_order : Stmt := top 60
abbrev s__law_is_part : Stmt := top 61
abbrev s__law_bent : Stmt := top 62
abbrev s__law_right : Stmt := top 63
abbrev s_law : Stmt := top 64
abbrev FnP (K : PySem.W.Frag) (x qual : Str) (st : Stmt) (f : Addr) (fd : FuncData) : Prop := FunD K x qual (defArgs st) (defBody st) (defScope st) [] [] f fd
theorem sc_InvalidKind___init__ : FnScope ["self", "value"] ["self", "value"] (defScope s_InvalidKind___init__) := ⟨rfl, rfl, rfl, by decide +kernel, rfl, by decide +kernel, by decide +kernel⟩
theorem sc_InvalidOrder___init__ : FnScope ["self", "value"] ["self", "value"] (defScope s_InvalidOrder___init__) := ⟨rfl, rfl, rfl, by decide +kernel, rfl, by decide +kernel, by decide +kernel⟩
theorem sc_InvalidNumber___init__ : FnScope ["self", "value"] ["self", "value"] (defScope s_InvalidNumber___init__) := ⟨rfl, rfl, rfl, by decide +kernel, rfl, by decide +kernel, by decide +kernel⟩
theorem sc_InvalidRow___init__ : FnScope ["self", "value"] ["self", "value"] (defScope s_InvalidRow___init__) := ⟨rfl, rfl, rfl, by decide +kernel, rfl, by decide +kernel, by decide +kernel⟩
theorem sc_Kind___init__ : FnScope ["self", "name", "size", "least", "most"] ["self", "name", "size"] (defScope s_Kind___init__) := ⟨rfl, rfl, rfl, by decide +kernel, rfl, by decide +kernel, by decide +kernel⟩
theorem sc_Kind___eq__ : FnScope ["self", "other"] ["self", "other"] (defScope s_Kind___eq__) := ⟨rfl, rfl, rfl, by decide +kernel, rfl, by decide +kernel, by decide +kernel⟩
theorem sc_Kind_name : FnScope ["self"] ["self"] (defScope s_Kind_name) := ⟨rfl, rfl, rfl, by decide +kernel, rfl, by decide +kernel, by decide +kernel⟩
theorem sc_Kind_size : FnScope ["self"] ["self"] (defScope s_Kind_size) := ⟨rfl, rfl, rfl, by decide +kernel, rfl, by decide +kernel, by decide +kernel⟩
theorem sc_Kind_steps : FnScope ["self"] ["self"] (defScope s_Kind_steps) := ⟨rfl, rfl, rfl, by decide +kernel, rfl, by decide +kernel, by decide +kernel⟩
theorem sc_Kind_start : FnScope ["self"] ["self"] (defScope s_Kind_start) := ⟨rfl, rfl, rfl, by decide +kernel, rfl, by decide +kernel, by decide +kernel⟩
theorem sc_is_whole : FnScope ["value"] ["value"] (defScope s_is_whole) := ⟨rfl, rfl, rfl, by decide +kernel, rfl, by decide +kernel, by decide +kernel⟩
theorem sc_are_whole : FnScope ["values", "value"] ["values"] (defScope s_are_whole) := ⟨rfl, rfl, rfl, by decide +kernel, rfl, by decide +kernel, by decide +kernel⟩
theorem sc_is_rising : FnScope ["numbers", "at"] ["numbers"] (defScope s_is_rising) := ⟨rfl, rfl, rfl, by decide +kernel, rfl, by decide +kernel, by decide +kernel⟩
theorem sc_spread_of : FnScope ["kind", "order", "name"] ["kind", "order"] (defScope s_spread_of) := ⟨rfl, rfl, rfl, by decide +kernel, rfl, by decide +kernel, by decide +kernel⟩
theorem sc_order_in : FnScope ["kind", "spread", "name"] ["kind", "spread"] (defScope s_order_in) := ⟨rfl, rfl, rfl, by decide +kernel, rfl, by decide +kernel, by decide +kernel⟩
theorem sc_exchange_in : FnScope ["name", "spread", "step", "size"] ["name", "spread", "step"] (defScope s_exchange_in) := ⟨rfl, rfl, rfl, by decide +kernel, rfl, by decide +kernel, by decide +kernel⟩
theorem sc_is_crossed : FnScope ["kind", "order", "step"] ["kind", "order", "step"] (defScope s_is_crossed) := ⟨rfl, rfl, rfl, by decide +kernel, rfl, by decide +kernel, by decide +kernel⟩
theorem sc_after_step : FnScope ["kind", "order", "step", "moved"] ["kind", "order", "step"] (defScope s_after_step) := ⟨rfl, rfl, rfl, by decide +kernel, rfl, by decide +kernel, by decide +kernel⟩
theorem sc_opposite_of : FnScope ["kind", "order", "name", "size", "turned", "at", "item", "inside"] ["kind", "order"] (defScope s_opposite_of) := ⟨rfl, rfl, rfl, by decide +kernel, rfl, by decide +kernel, by decide +kernel⟩
theorem sc_count_crossings : FnScope ["kind", "order", "name", "size", "many", "first", "second", "item"] ["kind", "order"] (defScope s_count_crossings) := ⟨rfl, rfl, rfl, by decide +kernel, rfl, by decide +kernel, by decide +kernel⟩
theorem sc_has_order_form : FnScope ["kind", "value", "size", "name", "item"] ["kind", "value"] (defScope s_has_order_form) := ⟨rfl, rfl, rfl, by decide +kernel, rfl, by decide +kernel, by decide +kernel⟩
theorem sc_is_told_order : FnScope ["kind", "value"] ["kind", "value"] (defScope s_is_told_order) := ⟨rfl, rfl, rfl, by decide +kernel, rfl, by decide +kernel, by decide +kernel⟩
theorem sc_check_kind : FnScope ["kind"] ["kind"] (defScope s_check_kind) := ⟨rfl, rfl, rfl, by decide +kernel, rfl, by decide +kernel, by decide +kernel⟩
theorem sc_is_step : FnScope ["kind", "value"] ["kind", "value"] (defScope s_is_step) := ⟨rfl, rfl, rfl, by decide +kernel, rfl, by decide +kernel, by decide +kernel⟩
theorem sc_is_told_row : FnScope ["kind", "value", "step"] ["kind", "value"] (defScope s_is_told_row) := ⟨rfl, rfl, rfl, by decide +kernel, rfl, by decide +kernel, by decide +kernel⟩
theorem sc_are_places : FnScope ["row", "value"] ["row", "value"] (defScope s_are_places) := ⟨rfl, rfl, rfl, by decide +kernel, rfl, by decide +kernel, by decide +kernel⟩
theorem sc_made_by : FnScope ["kind", "row", "name", "spread", "step"] ["kind", "row"] (defScope s_made_by) := ⟨rfl, rfl, rfl, by decide +kernel, rfl, by decide +kernel, by decide +kernel⟩
theorem sc_first_down : FnScope ["kind", "flipped", "name", "spread", "row", "step", "end"] ["kind", "flipped"] (defScope s_first_down) := ⟨rfl, rfl, rfl, by decide +kernel, rfl, by decide +kernel, by decide +kernel⟩
theorem sc_least_changed : FnScope ["name", "step", "steps"] ["name", "step", "steps"] (defScope s_least_changed) := ⟨rfl, rfl, rfl, by decide +kernel, rfl, by decide +kernel, by decide +kernel⟩
theorem sc_first_least : FnScope ["kind", "order"] ["kind", "order"] (defScope s_first_least) := ⟨rfl, rfl, rfl, by decide +kernel, rfl, by decide +kernel, by decide +kernel⟩
theorem sc_places_of : FnScope ["kind", "order", "row", "places", "at"] ["kind", "order", "row"] (defScope s_places_of) := ⟨rfl, rfl, rfl, by decide +kernel, rfl, by decide +kernel, by decide +kernel⟩
theorem sc_lies_beneath : FnScope ["kind", "one", "other"] ["kind", "one", "other"] (defScope s_lies_beneath) := ⟨rfl, rfl, rfl, by decide +kernel, rfl, by decide +kernel, by decide +kernel⟩
theorem sc_check_orders : FnScope ["kind", "orders", "order"] ["kind", "orders"] (defScope s_check_orders) := ⟨rfl, rfl, rfl, by decide +kernel, rfl, by decide +kernel, by decide +kernel⟩
theorem sc_check_rows : FnScope ["kind", "rows", "row"] ["kind", "rows"] (defScope s_check_rows) := ⟨rfl, rfl, rfl, by decide +kernel, rfl, by decide +kernel, by decide +kernel⟩
theorem sc_is_beneath : FnScope ["kind", "one", "other"] ["kind", "one", "other"] (defScope s_is_beneath) := ⟨rfl, rfl, rfl, by decide +kernel, rfl, by decide +kernel, by decide +kernel⟩
theorem sc_part : FnScope ["kind", "order", "row"] ["kind", "order", "row"] (defScope s_part) := ⟨rfl, rfl, rfl, by decide +kernel, rfl, by decide +kernel, by decide +kernel⟩
theorem sc_is_part : FnScope ["kind", "order", "row", "value", "at"] ["kind", "order", "row", "value"] (defScope s_is_part) := ⟨rfl, rfl, rfl, by decide +kernel, rfl, by decide +kernel, by decide +kernel⟩
theorem sc__law_hash : FnScope ["_law_seed", "_law_index", "_law_mixed"] ["_law_seed", "_law_index"] (defScope s__law_hash) := ⟨rfl, rfl, rfl, by decide +kernel, rfl, by decide +kernel, by decide +kernel⟩
theorem sc__law_random : FnScope ["_law_generator_here", "_law_bound", "_law_drawn", "_law_turn"] ["_law_generator_here", "_law_bound"] (defScope s__law_random) := ⟨rfl, rfl, rfl, by decide +kernel, rfl, by decide +kernel, by decide +kernel⟩
theorem sc__law_cell : FnScope ["_law_script", "_law_index"] ["_law_script", "_law_index"] (defScope s__law_cell) := ⟨rfl, rfl, rfl, by decide +kernel, rfl, by decide +kernel, by decide +kernel⟩
theorem sc__law_generator : FnScope ["_law_script", "_law_index", "_law_seed"] ["_law_script", "_law_index"] (defScope s__law_generator) := ⟨rfl, rfl, rfl, by decide +kernel, rfl, by decide +kernel, by decide +kernel⟩
theorem sc__law_kind : FnScope ["_law_generator_here", "_law_pairs"] ["_law_generator_here"] (defScope s__law_kind) := ⟨rfl, rfl, rfl, by decide +kernel, rfl, by decide +kernel, by decide +kernel⟩
theorem sc__law_many : FnScope ["_law_pair"] ["_law_pair"] (defScope s__law_many) := ⟨rfl, rfl, rfl, by decide +kernel, rfl, by decide +kernel, by decide +kernel⟩
theorem sc__law_start : FnScope ["_law_pair", "_law_first"] ["_law_pair"] (defScope s__law_start) := ⟨rfl, rfl, rfl, by decide +kernel, rfl, by decide +kernel, by decide +kernel⟩
theorem sc__law_step : FnScope ["_law_pair", "_law_order_here", "_law_step_here", "_law_found", "_law_size", "_law_at"] ["_law_pair", "_law_order_here", "_law_step_here"] (defScope s__law_step) := ⟨rfl, rfl, rfl, by decide +kernel, rfl, by decide +kernel, by decide +kernel⟩
theorem sc__law_crossed : FnScope ["_law_pair", "_law_order_here", "_law_step_here"] ["_law_pair", "_law_order_here", "_law_step_here"] (defScope s__law_crossed) := ⟨rfl, rfl, rfl, by decide +kernel, rfl, by decide +kernel, by decide +kernel⟩
theorem sc__law_made : FnScope ["_law_pair", "_law_row_here", "_law_found", "_law_step_here"] ["_law_pair", "_law_row_here"] (defScope s__law_made) := ⟨rfl, rfl, rfl, by decide +kernel, rfl, by decide +kernel, by decide +kernel⟩
theorem sc__law_row : FnScope ["_law_generator_here", "_law_pair", "_law_most", "_law_turn"] ["_law_generator_here", "_law_pair", "_law_most"] (defScope s__law_row) := ⟨rfl, rfl, rfl, by decide +kernel, rfl, by decide +kernel, by decide +kernel⟩
theorem sc__law_least : FnScope ["_law_pair", "_law_order_here", "_law_found", "_law_left", "_law_crossed_here", "_law_step_here"] ["_law_pair", "_law_order_here"] (defScope s__law_least) := ⟨rfl, rfl, rfl, by decide +kernel, rfl, by decide +kernel, by decide +kernel⟩
theorem sc__law_parts : FnScope ["_law_pair", "_law_row_here", "_law_found", "_law_met", "_law_step_here", "_law_order_here", "_law_further"] ["_law_pair", "_law_row_here"] (defScope s__law_parts) := ⟨rfl, rfl, rfl, by decide +kernel, rfl, by decide +kernel, by decide +kernel⟩
theorem sc__law_greedy : FnScope ["_law_pair", "_law_row_here", "_law_found", "_law_step_here"] ["_law_pair", "_law_row_here"] (defScope s__law_greedy) := ⟨rfl, rfl, rfl, by decide +kernel, rfl, by decide +kernel, by decide +kernel⟩
theorem sc__law_order : FnScope ["_law_generator_here", "_law_pair", "_law_most", "_law_row_here"] ["_law_generator_here", "_law_pair", "_law_most"] (defScope s__law_order) := ⟨rfl, rfl, rfl, by decide +kernel, rfl, by decide +kernel, by decide +kernel⟩
theorem sc__law_is_part : FnScope ["_law_pair", "_law_order_here", "_law_row_here", "_law_value", "_law_at"] ["_law_pair", "_law_order_here", "_law_row_here", "_law_value"] (defScope s__law_is_part) := ⟨rfl, rfl, rfl, by decide +kernel, rfl, by decide +kernel, by decide +kernel⟩
theorem sc__law_bent : FnScope ["_law_generator_here", "_law_value", "_law_length", "_law_at", "_law_found", "_law_item", "_law_odd"] ["_law_generator_here", "_law_value", "_law_length"] (defScope s__law_bent) := ⟨rfl, rfl, rfl, by decide +kernel, rfl, by decide +kernel, by decide +kernel⟩
theorem sc__law_right : FnScope ["_law_generator_here", "_law_pair", "_law_kind_here", "_law_row_here", "_law_made_here", "_law_greatest", "_law_kept", "_law_turn", "_law_order_here", "_law_told", "_law_value", "_law_before", "_law_due", "_law_given", "_law_asked", "_law_start_here", "_law_handed"] ["_law_generator_here"] (defScope s__law_right) := ⟨rfl, rfl, rfl, by decide +kernel, rfl, by decide +kernel, by decide +kernel⟩
theorem sc_law : FnScope ["_law_script", "_law_index", "_law_plain", "_law_ring", "_law_at"] ["_law_script"] (defScope s_law) := ⟨rfl, rfl, rfl, by decide +kernel, rfl, by decide +kernel, by decide +kernel⟩
/-- what the module's names are -/
structure Tx (K : PySem.W.Frag) (mg : Str → Option Value) : Prop where
  m_int : mg "int" = none
  m_str : mg "str" = none
  m_bool : mg "bool" = none
  m_range : mg "range" = none
  m_list : mg "list" = none
  m_abs : mg "abs" = none
  m_max : mg "max" = none
  m_min : mg "min" = none
  m_sum : mg "sum" = none
  m_len : mg "len" = none
  m_repr : mg "repr" = none
  m_isinstance : mg "isinstance" = none
  m_all : mg "all" = none
  m_sorted : mg "sorted" = none
  m_enumerate : mg "enumerate" = none
  m_tuple : mg "tuple" = none
  m_reversed : mg "reversed" = none
section
variable {P : Program} {w : World} {K : PySem.W.Frag} {mg : Str → Option Value} {base : Heap} {f : Addr} {fd : FuncData}
/-! ### drawing -/
def spHash : Sp := fun vs H Q _ => ∃ a b : Int, vs = [.int a, .int b] ∧ (-(2 ^ 64) < b ∧ b < 2 ^ 64) ∧ ∀ z : Int, Q (.int z) H
theorem ok_hash (T : Tx K mg) (F : FnP K "_law_hash" "_law_hash" s__law_hash f fd) : FnOk P w K mg base CX0 1 f fd ["_law_seed", "_law_index"] spHash := by
  refine okN F sc__law_hash (fun vs H Q E h => ?_) (fun cdv A outer s H vs Q E hr h => ?_)
  · obtain ⟨a, b, rfl, _⟩ := h
    rfl
  · obtain ⟨a, b, rfl, hb, q⟩ := h
    refine ⟨_, (pss_cons (ps_set (i := 2) sc__law_hash.nd rfl (by first | exact Or.inl rfl | exact Or.inr rfl) (pe_op op_mod (pe_callTy call_int1 (by rfl) T.m_int (by decide +kernel) (pa_cons (pe_op op_add (pe_op op_add (pe_op op_add (pe_op op_mul (pv 0) pe_int) (pe_op op_mul (pe_op op_mul pe_int (pv 1)) (pv 1))) (pe_op op_mul pe_int (pv 1))) pe_int) pa_nil)) pe_int))
      (pss_cons (ps_set (i := 2) sc__law_hash.nd rfl (by first | exact Or.inl rfl | exact Or.inr rfl) (pe_op op_mod (pe_callTy call_int1 (by rfl) T.m_int (by decide +kernel) (pa_cons (pe_op op_add (pe_op op_add (pe_op op_mul (pv 2) (pv 2)) (pe_op op_mul pe_int (pv 1))) pe_int) pa_nil)) pe_int))
      (pss_one (ps_ret (pe_op op_mod (pe_callTy call_int1 (by rfl) T.m_int (by decide +kernel) (pa_cons (pe_op op_mul (pv 2) pe_int) pa_nil)) pe_int))))), ?_⟩
    refine ⟨_, rfl, _, _, rfl, rfl, .inr ⟨by decide, by decide⟩, _, rfl, _, _, rfl, rfl, .inl ⟨by decide, by decide⟩, _, rfl, _, _, rfl, rfl, .inr hb, _, _, rfl, rfl, _, rfl, _, _, rfl, rfl, .inl ⟨by decide, by decide⟩, _, _, rfl, rfl, _, _, rfl, rfl, .inl ⟨_, rfl, ?_⟩⟩
    refine ⟨_, _, rfl, rfl, (by show (0 : Int) < 2147483629; decide), ?_⟩
    have h1 := Int.emod_nonneg (a * 1140671 + 27644437 * b * b + 131 * b + 19) (by decide : (2147483629 : Int) ≠ 0)
    have h2 := Int.emod_lt_of_pos (a * 1140671 + 27644437 * b * b + 131 * b + 19) (by decide : (0 : Int) < 2147483629)
    refine ⟨_, rfl, _, rfl, _, _, rfl, rfl, .inl ⟨by omega, by omega⟩, _, rfl, _, _, rfl, rfl, .inl ⟨by decide, by decide⟩, _, _, rfl, rfl, _, _, rfl, rfl, .inl ⟨_, rfl, ?_⟩⟩
    refine ⟨_, _, rfl, rfl, (by show (0 : Int) < 2147483587; decide), ?_⟩
    refine ⟨_, rfl, _, _, rfl, rfl, .inr ⟨by decide, by decide⟩, .inl ⟨_, rfl, ?_⟩⟩
    refine ⟨_, _, rfl, rfl, (by show (0 : Int) < 2147483647; decide), ?_⟩
    exact q _
/-- a generator stands at g: its first number a, the second b, the third c -/
def GenAt (H : Hp) (g : Addr) (a b c : Int) : Prop := H g = some (.lst [.int a, .int b, .int c])
def spRandom : Sp := fun vs H Q _ => ∃ (g : Addr) (a b c n : Int), vs = [.ref g, .int n] ∧ GenAt H g a b c ∧ (0 < n ∧ n < 2 ^ 29) ∧ (0 ≤ c ∧ c ≤ 1000000) ∧
  ∀ (r a' c' : Int) (H' : Hp), 0 ≤ r → r < n → 0 ≤ c' → c' ≤ c + 1 → GenAt H' g a' b c' → SameX g H H' → Q (.int r) H'
theorem bits_small {n : Int} (h0 : 0 < n) (h1 : n < 2 ^ 29) : (1 : Int) + ((Builtin.Int.intBits n : Nat) : Int) / 30 = 1 := by
  have h : Builtin.Int.intBits n ≤ 29 := intBits_le (by omega)
  omega
theorem ok_random (T : Tx K mg) (F : FnP K "_law_random" "_law_random" s__law_random f fd) (c_law_hash : Gd P w K mg base "_law_hash" ["_law_seed", "_law_index"] 1 spHash) : FnOk P w K mg base CX0 2 f fd ["_law_generator_here", "_law_bound"] spRandom := by
  refine okN F sc__law_random (fun vs H Q E h => ?_) (fun cdv A outer s H vs Q E hr h => ?_)
  · obtain ⟨g, a, b, c, n, rfl, _⟩ := h
    rfl
  · obtain ⟨g, a, b, c, n, rfl, hg, ⟨n0, n1⟩, ⟨c0, c1⟩, q⟩ := h
    refine ⟨_, (pss_cons (ps_if (pt_cmpR op_gt (pe_ix ix_list (pv 0) pe_int (fun _ _ => rfl)) pe_int (nomark _)) (pss_cons (ps_set (i := 2) sc__law_random.nd rfl (by first | exact Or.inl rfl | exact Or.inr rfl) (pe_op op_mod (pe_callTy call_int1 (by rfl) T.m_int (by decide +kernel) (pa_cons (pe_ix ix_list (pv 0) pe_int (fun _ _ => rfl)) pa_nil)) (pv 1)))
      (pss_cons (ps_asg (pe_op op_fdiv (pe_ix ix_list (pv 0) pe_int (fun _ _ => rfl)) (pv 1)) (pg_sub (pv 0) pe_int set_list))
      (pss_one (ps_ret (pv 2))))) pss_nil)
      (pss_cons (ps_set (i := 2) sc__law_random.nd rfl (by first | exact Or.inl rfl | exact Or.inr rfl) pe_int)
      (pss_cons (ps_for PassesOwn.never rfl (pi_range1 (by rfl) T.m_range (pa_cons (pe_op op_add pe_int (pe_op op_fdiv (pe_bits (pv 1)) pe_int)) pa_nil)) (pg_name (i := 3) sc__law_random.nd rfl (Or.inl rfl)) (pss_cons (ps_asg (pe_op op_add (pe_ix ix_list (pv 0) pe_int (fun _ _ => rfl)) pe_int) (pg_sub (pv 0) pe_int set_list))
      (pss_one (ps_set (i := 2) sc__law_random.nd rfl (by first | exact Or.inl rfl | exact Or.inr rfl) (pe_op op_add (pe_op op_mul (pv 2) pe_int) (pe_callG c_law_hash (hr.mono (by decide)) (by rfl) (pa_cons (pe_ix ix_list (pv 0) pe_int (fun _ _ => rfl)) (pa_cons (pe_ix ix_list (pv 0) pe_int (fun _ _ => rfl)) pa_nil))))))))
      (pss_one (ps_ret (pe_op op_mod (pe_callTy call_int1 (by rfl) T.m_int (by decide +kernel) (pa_cons (pv 2) pa_nil)) (pv 1))))))), ?_⟩
    have hL : SqL K H g [.int a, .int b, .int c] := SqL.of hg
    refine ⟨_, rfl, g, _, 0, _, rfl, rfl, hL, atI_nat (j := 0) rfl, _, _, rfl, rfl, _, rfl, ?_⟩
    refine ite2 (fun hpos => ?_) (fun hneg => ?_)
    · refine ⟨_, rfl, g, _, 0, _, rfl, rfl, hL, atI_nat (j := 0) rfl, .inl ⟨_, rfl, ?_⟩⟩
      refine ⟨_, rfl, _, _, rfl, rfl, n0, ?_⟩
      refine ⟨_, rfl, g, _, 0, _, rfl, rfl, hL, atI_nat (j := 0) rfl, _, rfl, _, _, rfl, rfl, ⟨n0, by omega⟩, ?_⟩
      refine ⟨_, rfl, g, _, 0, 0, rfl, rfl, hg, rfl, ?_⟩
      refine ⟨_, rfl, ?_⟩
      exact q (a % n) (a / n) c _ (Int.emod_nonneg _ (by omega)) (Int.emod_lt_of_pos _ n0) c0 (by omega) upd_same SameX.upd
    · refine ⟨_, rfl, _, rfl, _, _, rfl, rfl, ⟨by decide, by decide⟩, _, _, rfl, rfl, 1, (by show [V.int (1 + ((Builtin.Int.intBits n : Nat) : Int) / 30)] = _; rw [bits_small n0 n1]), by decide, by decide, ?_⟩
      refine for_range (n := 1) (fun i σ H2 => ∃ (d : Int) (v : Option V), σ = [some (.ref g), some (.int n), some (.int d), v] ∧ GenAt H2 g a b (c + (i : Int)) ∧ SameX g H H2) ⟨0, none, rfl, (by show H g = _; rw [hg]; simp), SameX.refl g H⟩ ?_ ?_
      · rintro i σ H2 hi ⟨d, v, rfl, hg2, sx⟩
        refine ⟨_, rfl, g, _, 2, _, rfl, rfl, SqL.of hg2, atI_nat (j := 2) rfl, _, _, rfl, rfl, ?_⟩
        refine ⟨_, rfl, g, _, 2, 2, rfl, rfl, hg2, rfl, ?_⟩
        refine ⟨_, rfl, _, _, rfl, rfl, .inr ⟨by decide, by decide⟩, ?_⟩
        refine ⟨_, rfl, g, _, 1, _, rfl, rfl, SqL.of upd_same, atI_nat (j := 1) rfl, _, rfl, g, _, 2, _, rfl, rfl, SqL.of upd_same, atI_nat (j := 2) rfl, _, _, rfl, ⟨by omega, by omega⟩, fun z => ?_⟩
        refine ⟨_, _, rfl, rfl, ?_⟩
        refine ⟨_, _, rfl, ?_, sx.trans SameX.upd⟩
        show L2.upd H2 g _ g = _
        rw [upd_same]
        have e : c + (i : Int) + 1 = c + ((i + 1 : Nat) : Int) := by omega
        rw [← e]
        rfl
      · rintro σ H2 ⟨d, v, rfl, hg2, sx⟩
        refine ⟨_, rfl, .inl ⟨_, rfl, ?_⟩⟩
        refine ⟨_, rfl, _, _, rfl, rfl, n0, ?_⟩
        exact q (d % n) a _ H2 (Int.emod_nonneg _ (by omega)) (Int.emod_lt_of_pos _ n0) (by omega) (by omega) hg2 sx
/-! ### the script's cells, the generator -/
def spCell (K : PySem.W.Frag) : Sp := fun vs H Q _ => ∃ (a : Addr) (ns : List Int) (i : Nat), vs = [.ref a, .int i] ∧ SqL K H a (ns.map V.int) ∧ ∀ (z : Int) (H' : Hp), Same H H' → Q (.int z) H'
theorem cut_one (ns : List Int) : cutV (ns.map V.int) none (some 1) = (ns.take 1).map V.int := by
  unfold cutV
  rw [show HT.sIx (ns.map V.int).length (ns.map V.int).length (some 1) = min 1 (ns.map V.int).length from HT.sIx_nat _ _ 1, HT.sIx_none]
  cases ns with
  | nil => rfl
  | cons x r =>
    rw [show min 1 (List.map V.int (x :: r)).length = 1 by simp]
    rfl
theorem ok_cell (T : Tx K mg) (F : FnP K "_law_cell" "_law_cell" s__law_cell f fd) : FnOk P w K mg base CX0 1 f fd ["_law_script", "_law_index"] (spCell K) := by
  refine okN F sc__law_cell (fun vs H Q E h => ?_) (fun cdv A outer s H vs Q E hr h => ?_)
  · obtain ⟨a, ns, i, rfl, _⟩ := h
    rfl
  · obtain ⟨a, ns, i, rfl, hS, q⟩ := h
    refine ⟨_, (pss_cons (ps_if (pt_cmpR op_lt (pv 1) (pe_callB call_len_seq (by rfl) T.m_len (by decide +kernel) (pa_cons (pv 0) pa_nil)) (nomark _)) (pss_one (ps_ret (pe_ix ix_list (pv 0) (pv 1) (fun _ _ => rfl)))) pss_nil)
      (pss_one (ps_ret (pe_op op_mod (pe_callB (cr_sum rfl) (by rfl) T.m_sum (by decide +kernel) (pa_cons (pe_slice sl_list (pv 0) po_none (po_some pe_int)) pa_nil)) pe_int)))), ?_⟩
    refine ⟨_, rfl, _, rfl, a, _, rfl, .inl hS, _, _, rfl, rfl, _, rfl, ?_⟩
    refine ite2 (fun hlt => ?_) (fun hge => ?_)
    · have hi : i < ns.length := by
        have := of_decide_eq_true hlt
        rw [List.length_map] at this
        omega
      refine ⟨_, rfl, _, rfl, a, _, (i : Int), .int ns[i], rfl, rfl, hS, atI_nat (j := i) ?_, q _ _ (Same.refl _)⟩
      rw [List.getElem?_map, List.getElem?_eq_getElem hi]
      rfl
    · refine ⟨_, rfl, 1, rfl, a, _, rfl, hS, fun p np => ?_⟩
      refine ⟨p, ns.take 1, rfl, SqL.of (by rw [upd_same, cut_one]), ?_⟩
      refine ⟨_, _, rfl, rfl, (by show (0 : Int) < 1000003; decide), ?_⟩
      exact q _ _ (Same.upd np)
def spGen (K : PySem.W.Frag) : Sp := fun vs H Q _ => ∃ (s : Addr) (ns : List Int) (i : Nat), vs = [.ref s, .int i] ∧ SqL K H s (ns.map V.int) ∧ i ≤ 10 ∧
  ∀ (g : Addr) (a b : Int) (H' : Hp), H g = none → Same H H' → GenAt H' g a b (1000 * (i : Int)) → Q (.ref g) H'
theorem ok_generator (T : Tx K mg) (F : FnP K "_law_generator" "_law_generator" s__law_generator f fd) (c_law_cell : Gd P w K mg base "_law_cell" ["_law_script", "_law_index"] 1 (spCell K)) : FnOk P w K mg base CX0 2 f fd ["_law_script", "_law_index"] (spGen K) := by
  refine okN F sc__law_generator (fun vs H Q E h => ?_) (fun cdv A outer s H vs Q E hr h => ?_)
  · obtain ⟨a, ns, i, rfl, _⟩ := h
    rfl
  · obtain ⟨a, ns, i, rfl, hS, hi, q⟩ := h
    refine ⟨_, (pss_cons (ps_set (i := 2) sc__law_generator.nd rfl (by first | exact Or.inl rfl | exact Or.inr rfl) (pe_callG c_law_cell (hr.mono (by decide)) (by rfl) (pa_cons (pv 0) (pa_cons (pv 1) pa_nil))))
      (pss_one (ps_ret (pe_lst (pa_cons (pe_op op_mod (pe_callTy call_int1 (by rfl) T.m_int (by decide +kernel) (pa_cons (pe_callB (call_max2 rfl) (by rfl) T.m_max (by decide +kernel) (pa_cons (pe_op op_sub (pv 2) (pe_op op_powX pe_int pe_int)) (pa_cons pe_int pa_nil))) pa_nil)) (pe_op op_powX (pe_op op_powX pe_int pe_int) pe_int)) (pa_cons (pe_op op_mod (pe_callTy call_int1 (by rfl) T.m_int (by decide +kernel) (pa_cons (pv 2) pa_nil)) pe_int) (pa_cons (pe_op op_mul pe_int (pv 1)) pa_nil))))))), ?_⟩
    refine ⟨_, rfl, _, rfl, a, ns, i, rfl, hS, fun z H1 s1 => ?_⟩
    refine ⟨_, rfl, 10, 18, rfl, rfl, ⟨by decide, by decide +kernel⟩, _, _, rfl, rfl, _, _, rfl, .inl ⟨_, rfl, ?_⟩⟩
    refine ⟨10, 60, rfl, rfl, ⟨by decide, by decide +kernel⟩, _, 10, rfl, rfl, ⟨by decide, by decide +kernel⟩, _, _, rfl, rfl, (by show (0 : Int) < (10 ^ (Int.toNat 60)) ^ (Int.toNat 10); decide +kernel), ?_⟩
    refine ⟨_, rfl, .inl ⟨_, rfl, ?_⟩⟩
    refine ⟨_, _, rfl, rfl, (by show (0 : Int) < 2147483647; decide), _, rfl, _, _, rfl, rfl, .inl ⟨by decide, by decide⟩, (by show 3 ≤ sizeLine; decide), fun g ng => ?_⟩
    exact q g _ _ _ (s1.free ng) (s1.trans (Same.upd ng)) upd_same
/-! ### a kind drawn -/
/-- the tuple of a kind's name and size -/
def Told (K : PySem.W.Frag) (H : Hp) (t : Addr) (k : Nm) (n : Nat) : Prop := SqT K H t [.str k.s, .int (n : Int)]
def spKind : Sp := fun vs H Q _ => ∃ (g : Addr) (a b c : Int), vs = [.ref g] ∧ GenAt H g a b c ∧ (0 ≤ c ∧ c ≤ 900000) ∧
  ∀ (t : Addr) (k : Nm) (n : Nat) (a' c' : Int) (H' : Hp), okK k n = true → 0 ≤ c' → c' ≤ c + 6 → GenAt H' g a' b c' → SameX g H H' → H t = none → t ≠ g → H' t = some (.tup [.str k.s, .int (n : Int)]) → Q (.ref t) H'
def names3 : List V := [.str "plain", .str "mirror", .str "ring"]
theorem nm_of {r : Int} (h0 : 0 ≤ r) (h1 : r < 3) : ∃ k : Nm, atI names3 r = some (.str k.s) := by
  have : r = 0 ∨ r = 1 ∨ r = 2 := by omega
  rcases this with rfl | rfl | rfl
  · exact ⟨.pl, rfl⟩
  · exact ⟨.mi, rfl⟩
  · exact ⟨.ri, rfl⟩
def nmIx : Nm → Nat | .pl => 0 | .mi => 1 | .ri => 2
theorem nm_ix (k : Nm) : names3[nmIx k]? = some (.str k.s) := by cases k <;> rfl
theorem nm_first (k : Nm) : ∀ (m : Nat) (z : V), m < nmIx k → names3[m]? = some z → eqV z (.str k.s) = false := by
  intro m z hm hz
  cases k with
  | pl => cases hm
  | mi =>
    have e : m = 0 := by
      have : nmIx .mi = 1 := rfl
      omega
    subst e
    have ez : z = .str "plain" := (Option.some.inj hz).symm
    subst ez
    decide +kernel
  | ri =>
    have e : m = 0 ∨ m = 1 := by
      have : nmIx .ri = 2 := rfl
      omega
    rcases e with rfl | rfl
    · have ez : z = .str "plain" := (Option.some.inj hz).symm
      subst ez
      decide +kernel
    · have ez : z = .str "mirror" := (Option.some.inj hz).symm
      subst ez
      decide +kernel
theorem eqV_self (x : Str) : eqV (.str x) (.str x) = true := by
  show (x == x) = true
  exact beq_self_eq_true x
theorem size_of (k : Nm) {x1 x2 x3 : Int} (h1 : 1 ≤ x1 ∧ x1 ≤ 7) (h2 : 1 ≤ x2 ∧ x2 ≤ 5) (h3 : 2 ≤ x3 ∧ x3 ≤ 5) : ∃ n : Nat, ([.int x1, .int x2, .int x3] : List V)[nmIx k]? = some (.int (n : Int)) ∧ okK k n = true := by
  cases k with
  | pl =>
    refine ⟨x1.toNat, ?_, decide_eq_true (by omega)⟩
    rw [Int.toNat_of_nonneg (by omega)]
    rfl
  | mi =>
    refine ⟨x2.toNat, ?_, decide_eq_true (by omega)⟩
    rw [Int.toNat_of_nonneg (by omega)]
    rfl
  | ri =>
    refine ⟨x3.toNat, ?_, decide_eq_true (by omega)⟩
    rw [Int.toNat_of_nonneg (by omega)]
    rfl
theorem GenAt.upd {H : Hp} {g : Addr} {a b c : Int} (h : GenAt H g a b c) {p : Addr} {o : HO} (n : H p = none) : GenAt (L2.upd H p o) g a b c := by
  show L2.upd H p o g = _
  rw [upd_ne (ne_of_none h n)]
  exact h
end
end Sv

namespace Sv
open PySem PySem.Spec PyProof.Rows L2
section
variable {P : Program} {w : World} {K : PySem.W.Frag} {mg : Str → Option Value} {base : Heap} {f : Addr} {fd : FuncData}
theorem qI {Q : VK} {i j : Int} {H : Hp} (h : Q (.int j) H) (e : i = j) : Q (.int i) H := by
  subst e
  exact h
theorem qB {Q : VK} {i j : Bool} {H : Hp} (h : Q (.bl j) H) (e : i = j) : Q (.bl i) H := by
  subst e
  exact h
theorem is_mi {k : Nm} (h : decide (V.str k.s = V.str "mirror") = true) : k = .mi := by rw [s_mi] at h; exact of_decide_eq_true h
theorem not_mi {k : Nm} (h : ¬ decide (V.str k.s = V.str "mirror") = true) : k ≠ .mi := fun e => h (by rw [s_mi, e]; rfl)
theorem off_dec (k : Nm) : (if decide (V.str k.s = V.str "mirror") = true then (1 : Int) else 0) = off k := by
  rw [s_mi]
  cases k <;> rfl
theorem many_dec (k : Nm) (n : Nat) : (n : Int) - (if decide (V.str k.s = V.str "plain") = true then (1 : Int) else 0) = many k n := by
  rw [s_pl]
  cases k <;> rfl
theorem rg_start (k : Nm) (n : Nat) : rgV (off k) ((n : Int) + off k) = (startL k n).map V.int := by
  unfold rgV startL
  rw [List.map_map]
  have e : ((n : Int) + off k - off k).toNat = n := by omega
  rw [e]
  rfl
theorem map_getD {ws : List Int} {i : Nat} (h : i < ws.length) : (ws.map V.int)[i]? = some (.int (ws.getD i 0)) := by
  rw [List.getElem?_map, List.getD_eq_getElem?_getD, List.getElem?_eq_getElem h]
  rfl
theorem abs_eq (p : Int) : (if p < 0 then -p else p) = (p.natAbs : Int) := by split <;> omega
def spMany (K : PySem.W.Frag) : Sp := fun vs H Q _ => ∃ (t : Addr) (k : Nm) (n : Nat), vs = [.ref t] ∧ Told K H t k n ∧ Q (.int (many k n)) H
theorem ok_many (T : Tx K mg) (F : FnP K "_law_many" "_law_many" s__law_many f fd) : FnOk P w K mg base CX0 1 f fd ["_law_pair"] (spMany K) := by
  refine okN F sc__law_many (fun vs H Q E h => ?_) (fun cdv A outer s H vs Q E hr h => ?_)
  · obtain ⟨t, k, n, rfl, _⟩ := h
    rfl
  · obtain ⟨t, k, n, rfl, hT, q⟩ := h
    refine ⟨_, (pss_one (ps_ret (pe_op op_sub (pe_ix ix_tup (pv 0) pe_int (fun _ _ => rfl)) (pe_callTy call_int1 (by rfl) T.m_int (by decide +kernel) (pa_cons (pe_cmpR op_eq (pe_ix ix_tup (pv 0) pe_int (fun _ _ => rfl)) pe_str (nomark _)) pa_nil))))), ?_⟩
    refine ⟨_, rfl, t, _, 1, _, rfl, rfl, hT, atI_nat (j := 1) rfl, _, rfl, t, _, 0, _, rfl, rfl, hT, atI_nat (j := 0) rfl, rfl, .inr ⟨_, rfl, _, _, rfl, rfl, ?_⟩⟩
    exact qI q (many_dec k n)
def spStart (K : PySem.W.Frag) : Sp := fun vs H Q _ => ∃ (t : Addr) (k : Nm) (n : Nat), vs = [.ref t] ∧ Told K H t k n ∧ n ≤ 100 ∧ ∀ q, H q = none → Q (.ref q) (L2.upd H q (.lst ((startL k n).map V.int)))
def spItem (K : PySem.W.Frag) : Sp := fun vs H Q _ => ∃ (t o : Addr) (p : Int) (k : Nm) (n : Nat) (ws : List Int), vs = [.ref t, .ref o, .int p] ∧ Told K H t k n ∧ SqL K H o (ws.map V.int) ∧ ws.length = n ∧ 1 ≤ n ∧ okP k n p ∧ Q (.int (item k n ws p)) H
def spTurned (K : PySem.W.Frag) : Sp := fun vs H Q _ => ∃ (t : Addr) (s p : Int) (k : Nm) (n : Nat), vs = [.ref t, .int s, .int p] ∧ Told K H t k n ∧ 1 ≤ n ∧ ∀ H', Same H H' → Q (.int (turned k n s p)) H'
def spStepped (K : PySem.W.Frag) : Sp := fun vs H Q _ => ∃ (t o : Addr) (s : Int) (k : Nm) (n : Nat) (ws : List Int), vs = [.ref t, .ref o, .int s] ∧ Told K H t k n ∧ SqL K H o (ws.map V.int) ∧ ws.length = n ∧ okK k n = true ∧ okS k n s ∧
  ∀ (q : Addr) (H' : Hp), Same H H' → H q = none → H' q = some (.lst ((stepped k n ws s).map V.int)) → Q (.ref q) H'
def spCrossed (K : PySem.W.Frag) : Sp := fun vs H Q _ => ∃ (t o : Addr) (s : Int) (k : Nm) (n : Nat) (ws : List Int), vs = [.ref t, .ref o, .int s] ∧ Told K H t k n ∧ SqL K H o (ws.map V.int) ∧ ws.length = n ∧ okK k n = true ∧ okS k n s ∧
  ∀ (H' : Hp), Same H H' → Q (.bl (crossed k n ws s)) H'
end
end Sv

namespace Sv
open PySem PySem.Spec PyProof.Rows L2
section
variable {P : Program} {w : World} {K : PySem.W.Frag} {mg : Str → Option Value} {base : Heap} {f : Addr} {fd : FuncData}
theorem many_nn {k : Nm} {n : Nat} (hK : okK k n = true) : 0 ≤ many k n ∧ many k n ≤ 7 := by
  have := okK_le hK
  unfold many
  split <;> omega
theorem Same.gen {H H' : Hp} {g : Addr} {a b c : Int} (s : L2.Same H H') (h : GenAt H g a b c) : GenAt H' g a b c := s _ _ h
def spRow (K : PySem.W.Frag) : Sp := fun vs H Q _ => ∃ (g t : Addr) (a b c : Int) (k : Nm) (n m : Nat), vs = [.ref g, .ref t, .int (m : Int)] ∧ GenAt H g a b c ∧ (0 ≤ c ∧ c ≤ 800000) ∧ Told K H t k n ∧ t ≠ g ∧ okK k n = true ∧ m ≤ 1000 ∧
  ∀ (q : Addr) (xs : List Int) (a' c' : Int) (H' : Hp), (∀ x ∈ xs, okS k n x) → xs.length ≤ m → 0 ≤ c' → c' ≤ c + 1 + m → GenAt H' g a' b c' → SameX g H H' → H q = none → q ≠ g → H' q = some (.lst (xs.map V.int)) → Q (.ref q) H'
theorem ok_row (T : Tx K mg) (F : FnP K "_law_row" "_law_row" s__law_row f fd) (c_law_many : Gd P w K mg base "_law_many" ["_law_pair"] 1 (spMany K))
    (c_law_random : Gd P w K mg base "_law_random" ["_law_generator_here", "_law_bound"] 2 spRandom) : FnOk P w K mg base CX0 3 f fd ["_law_generator_here", "_law_pair", "_law_most"] (spRow K) := by
  refine okN F sc__law_row (fun vs H Q E h => ?_) (fun cdv A outer s H vs Q E hr h => ?_)
  · obtain ⟨g, t, a, b, c, k, n, m, rfl, _⟩ := h
    rfl
  · obtain ⟨g, t, a, b, c, k, n, m, rfl, hg, ⟨c0, c1⟩, hT, htg, hK, hm, q⟩ := h
    have hmn := many_nn hK
    refine ⟨_, (pss_cons (ps_if (pt_cmpR op_eq (pe_callG c_law_many (hr.mono (by decide)) (by rfl) (pa_cons (pv 1) pa_nil)) pe_int (nomark _)) (pss_one (ps_ret (pe_lst pa_nil))) pss_nil)
      (pss_one (ps_ret (pe_lc (own := [(("_law_turn" : Str), 3)]) (g := (gName 3)) (tt := tYes) rfl sc__law_row.nd (pi_range1 (by rfl) T.m_range (pa_cons (pe_callG c_law_random (hr.mono (by decide)) (by rfl) (pa_cons (pv 0) (pa_cons (pe_op op_add (pv 2) pe_int) pa_nil))) pa_nil)) (blkOk_by (own := [(("_law_turn" : Str), 3)]) (N := ["_law_generator_here", "_law_pair", "_law_most", "_law_turn"]) (sc := defScope s__law_row) (by decide +kernel)) (fun _ _ _ _ _ => (pg_name (i := 3) sc__law_row.nd rfl (Or.inl rfl))) (fun _ _ _ _ _ => pts_nil) (fun _ _ _ _ _ => (pe_callG c_law_random (hr.mono (by decide)) (by rfl) (pa_cons (pv 0) (pa_cons (pe_callG c_law_many (hr.mono (by decide)) (by rfl) (pa_cons (pv 1) pa_nil)) pa_nil)))))))), ?_⟩
    refine ⟨_, rfl, t, k, n, rfl, hT, rfl, _, rfl, ite2 (fun h0 => ?_) (fun h0 => ?_)⟩
    · refine ⟨Nat.zero_le _, fun l nl => ?_⟩
      exact q l [] a c _ (fun x hx => by cases hx) (Nat.zero_le _) c0 (by omega) (hg.upd nl) (Same.x g (Same.upd nl)) nl (ne_of_none hg nl).symm upd_same
    · have hm0 : 0 < many k n := by
        have : ¬ many k n = 0 := fun e => h0 (decide_eq_true (congrArg V.int e))
        omega
      refine ⟨_, rfl, _, rfl, _, _, rfl, rfl, g, a, b, c, _, rfl, hg, ⟨by omega, by omega⟩, ⟨c0, by omega⟩, fun r a1 c2 H1 p0 p1 p2 p3 g1 x1 => ?_⟩
      refine ⟨r, rfl, by omega, by omega, fun D nD => ?_⟩
      have nDg : D ≠ g := (ne_of_none g1 nD).symm
      refine lc_range (lo := 0) (n := r.toNat) (fun i H2 => ∃ (xs : List Int) (a' c' : Int), H2 D = some (.lst (xs.map V.int)) ∧ xs.length = i ∧ (∀ x ∈ xs, okS k n x) ∧ (0 ≤ c' ∧ c' ≤ c + 1 + i) ∧ GenAt H2 g a' b c' ∧ SameX g H1 H2)
        ⟨[], a1, c2, upd_same, rfl, (fun x hx => by cases hx), ⟨p2, by omega⟩, g1.upd nD, Same.x g (Same.upd nD)⟩ ?_ ?_
      · rintro i H2 hi ⟨xs, a', c', hD, hl, hx, ⟨d0, d1⟩, g2, x2⟩
        refine ⟨rfl, ?_⟩
        refine ⟨_, rfl, _, rfl, t, k, n, rfl, x2.tup htg (x1.tup htg hT), g, a', b, c', _, rfl, g2, ⟨hm0, by omega⟩, ⟨d0, by omega⟩, fun z a3 c4 H3 q0 q1 q2 q3 g3 x3 => ?_⟩
        have hD3 : H3 D = some (.lst (xs.map V.int)) := x3 _ _ hD nDg
        refine ⟨_, hD3, ?_, xs ++ [z], a3, c4, ?_, ?_, ?_, ⟨q2, by omega⟩, ?_, ?_⟩
        · rw [List.length_map]
          exact small1000 (by omega)
        · rw [upd_same, List.map_append]
          rfl
        · rw [List.length_append, hl]
          rfl
        · intro y hy
          rcases List.mem_append.mp hy with h | h
          · exact hx y h
          · rw [List.mem_singleton.mp h]
            exact ⟨q0, q1⟩
        · show L2.upd H3 D _ g = _
          rw [upd_ne nDg.symm]
          exact g3
        · intro y o e ny
          rw [upd_ne (ne_of_none e nD)]
          exact x3 _ _ (x2 _ _ e ny) ny
      · rintro H2 ⟨xs, a', c', hD, hl, hx, ⟨d0, d1⟩, g2, x2⟩
        exact q D xs a' c' H2 hx (by omega) d0 (by omega) g2 (x1.trans x2) (x1.free hg g1 nD) nDg hD
def spGained (K : PySem.W.Frag) : Sp := fun vs H Q _ => ∃ (t o : Addr) (s : Int) (k : Nm) (n : Nat) (ws : List Int), vs = [.ref t, .ref o, .int s] ∧ Told K H t k n ∧ SqL K H o (ws.map V.int) ∧ ws.length = n ∧ okK k n = true ∧ okS k n s ∧
  ∀ (q : Addr) (H' : Hp), Same H H' → (q = o ∨ H q = none) → SqL K H' q ((gained k n ws s).map V.int) → Q (.ref q) H'
def spOrder (K : PySem.W.Frag) : Sp := fun vs H Q _ => ∃ (g t : Addr) (a b c : Int) (k : Nm) (n m : Nat), vs = [.ref g, .ref t, .int (m : Int)] ∧ GenAt H g a b c ∧ (0 ≤ c ∧ c ≤ 800000) ∧ Told K H t k n ∧ t ≠ g ∧ okK k n = true ∧ m ≤ 1000 ∧
  ∀ (q : Addr) (ws : List Int) (a' c' : Int) (H' : Hp), Good k n ws → 0 ≤ c' → c' ≤ c + 1 + m → GenAt H' g a' b c' → SameX g H H' → q ≠ g → SqL K H' q (ws.map V.int) → Q (.ref q) H'
/-! ### both ways by turns -/
def spWait (K : PySem.W.Frag) : Sp := fun vs H Q _ => ∃ (t o : Addr) (a b : Int) (k : Nm) (n : Nat) (ws : List Int), vs = [.ref t, .ref o, .int a, .int b] ∧ Told K H t k n ∧ SqL K H o (ws.map V.int) ∧ ws.length = n ∧ okK k n = true ∧ okS k n a ∧ okS k n b ∧
  ∀ (H' : Hp), Same H H' → Q (vOf (lw k n a b 12 1 ws ws)) H'
theorem ix_two (x y : Int) (i : Nat) : atI ([.int x, .int y] : List V) ((1 + (i : Int)) % 2) = some (.int (if (1 + i) % 2 = 1 then y else x)) := by
  by_cases h : (1 + i) % 2 = 1
  · rw [if_pos h, show (1 + (i : Int)) % 2 = ((1 : Nat) : Int) by omega]
    rfl
  · rw [if_neg h, show (1 + (i : Int)) % 2 = ((0 : Nat) : Int) by omega]
    rfl
theorem eqv_l (xs ys : List Int) : PyData.eqv (.list (xs.map PyData.int)) (.list (ys.map PyData.int)) = decide (xs = ys) := by
  rw [PyData.eqv]
  exact eqv_ints xs ys
theorem lw_hit {k : Nm} {n : Nat} {a b : Int} {f t : Nat} {xs ys : List Int} (h : stepped k n xs (if t % 2 = 1 then a else b) = stepped k n ys (if t % 2 = 1 then b else a)) : lw k n a b (f + 1) t xs ys = some t := by
  unfold lw
  rw [if_pos h]
theorem lw_miss {k : Nm} {n : Nat} {a b : Int} {f t : Nat} {xs ys : List Int} (h : ¬ stepped k n xs (if t % 2 = 1 then a else b) = stepped k n ys (if t % 2 = 1 then b else a)) :
    lw k n a b (f + 1) t xs ys = lw k n a b f (t + 1) (stepped k n xs (if t % 2 = 1 then a else b)) (stepped k n ys (if t % 2 = 1 then b else a)) := by
  show (if _ then _ else _) = _
  rw [if_neg h]
end
end Sv

namespace Sv
open PySem PySem.Spec PyProof.Rows L2
theorem iteP {c A B : Prop} [Decidable c] (h : c) (a : A) : if c then A else B := by
  rw [if_pos h]
  exact a
theorem iteN {c A B : Prop} [Decidable c] (h : ¬ c) (b : B) : if c then A else B := by
  rw [if_neg h]
  exact b
/-! ### what stands of the class Kind -/
theorem nms : ¬ (("_name" : Str) = "_size") := by decide +kernel
def flds (k : Nm) (n : Nat) : List (Str × V) := putF "_size" (.int (n : Int)) (putF "_name" (.str k.s) [])
theorem flds_eq (k : Nm) (n : Nat) : flds k n = ([("_name", V.str k.s), ("_size", V.int (n : Int))] : List (Str × V)) := by
  show (if ("_name" : Str) = "_size" then [(("_name" : Str), V.int (n : Int))] else (("_name" : Str), V.str k.s) :: putF "_size" (V.int (n : Int)) []) = ([("_name", V.str k.s), ("_size", V.int (n : Int))] : List (Str × V))
  rw [if_neg nms]
  all_goals rfl
theorem flds_name (k : Nm) (n : Nat) : (flds k n).lookup ("_name" : Str) = some (.str k.s) := by
  unfold flds
  rw [lookup_putF, if_neg nms, lookup_putF, if_pos rfl]
theorem flds_size (k : Nm) (n : Nat) : (flds k n).lookup ("_size" : Str) = some (.int (n : Int)) := by
  unfold flds
  rw [lookup_putF, if_pos rfl]
theorem flds_no (k : Nm) (n : Nat) {m : Str} (h1 : ¬ m = "_size") (h2 : ¬ m = "_name") : (flds k n).lookup m = none := by
  unfold flds
  rw [lookup_putF, if_neg h1, lookup_putF, if_neg h2]
  all_goals rfl
structure Tk (K : PySem.W.Frag) (w : World) (mg : Str → Option Value) (C D : Addr) : Prop extends Tx K mg where
  cl : Cls K C
  nN : NoAttr K C "_name"
  nS : NoAttr K C "_size"
  gC : mg "Kind" = some (.ref C)
  gD : mg "SIZES" = some (.ref D)
  ha : PySem.W.findIn K (.ref C) "__class__" = some (some (.builtin "object.__class__"))
  hn : PySem.W.specialIn K (.builtin "object.__class__") "__get__" = some (some (.builtin "getset_descriptor.__get__"))
  htk : PySem.W.takesIn K (.builtin "object.__class__") = some true
  hm : PySem.W.mroIn K C (.type "object") = some true
  me : PySem.W.kitOne K (.ref C) (.ref C) = some true
  nt : PySem.W.kitOne K (.type "tuple") (.ref C) = some false
  nf : PySem.W.notFirst K C (.type "tuple") = true
  kd : ∃ es n, KDict K w D es n
  gCb : mg "combinations" = some (.type "itertools.combinations")
  sz : ∀ k : Nm, ∃ (t : Addr) (lo hi : Int), PySem.W.nsIn K D k.s = some (some (.ref t)) ∧ (∀ H, SqT K H t [.int lo, .int hi]) ∧ ∀ n : Nat, okK k n = true → lo ≤ (n : Int) ∧ (n : Int) ≤ hi
/-- a Kind stands at p -/
def KAt (C : Addr) (H : Hp) (p : Addr) (k : Nm) (n : Nat) : Prop := ∃ dx, H p = some (.ins C dx (flds k n))
section
variable {P : Program} {w : World} {K : PySem.W.Frag} {mg : Str → Option Value} {base : Heap} {f C D : Addr} {fd : FuncData}
def spIsWhole : Sp := fun vs H Q _ => ∃ i : Int, vs = [.int i] ∧ Q (.bl true) H
theorem ok_is_whole (T : Tk K w mg C D) (F : FnP K "is_whole" "is_whole" s_is_whole f fd) : FnOk P w K mg base CX0 1 f fd ["value"] spIsWhole := by
  refine okN F sc_is_whole (fun vs H Q E h => ?_) (fun cdv A outer s H vs Q E hr h => ?_)
  · obtain ⟨i, rfl, _⟩ := h
    rfl
  · obtain ⟨i, rfl, q⟩ := h
    refine ⟨_, (pss_one (ps_ret (pe_and (pe_callB call_isi (by rfl) T.m_isinstance (by decide +kernel) (pa_cons (pv 0) (pa_cons (pe_bltn (v := .ty "int") (by rfl) T.m_int (by decide +kernel) rfl) pa_nil))) (pe_one (pe_not (pe_callB call_isi (by rfl) T.m_isinstance (by decide +kernel) (pa_cons (pv 0) (pa_cons (pe_bltn (v := .ty "bool") (by rfl) T.m_bool (by decide +kernel) rfl) pa_nil)))))))), ?_⟩
    refine ⟨_, rfl, .int i, .ty "int", .type "int", .type "int", true, rfl, .ty _, .base (.int i), kit_ty (by decide +kernel), true, rfl, ?_⟩
    refine ⟨_, rfl, .int i, .ty "bool", .type "int", .type "bool", false, rfl, .ty _, .base (.int i), kit_ty (by decide +kernel), false, rfl, q⟩
def spInit (C : Addr) : Sp := fun vs H Q _ => ∃ (p dx : Addr) (k : Nm) (n : Nat), vs = [.ref p, .str k.s, .int (n : Int)] ∧ okK k n = true ∧ H p = some (.ins C dx []) ∧
  ∀ H' : Hp, H' p = some (.ins C dx (flds k n)) → (∀ b o, H b = some o → b ≠ p → H' b = some o) → Q .non H'
theorem ok_init (T : Tk K w mg C D) (F : FnP K "__init__" "Kind.__init__" s_Kind___init__ f fd) (c_is_whole : Gd P w K mg base "is_whole" ["value"] 1 spIsWhole) : FnOk P w K mg base CX0 2 f fd ["self", "name", "size"] (spInit C) := by
  refine okN F sc_Kind___init__ (fun vs H Q E h => ?_) (fun cdv A outer s H vs Q E hr h => ?_)
  · obtain ⟨p, dx, k, n, rfl, _⟩ := h
    rfl
  · obtain ⟨p, dx, k, n, rfl, hK, hp, q⟩ := h
    obtain ⟨es, nn, kd⟩ := T.kd
    obtain ⟨t, lo, hi, hns, hsq, hb⟩ := T.sz k
    obtain ⟨b1, b2⟩ := hb n hK
    refine ⟨_, (pss_cons (ps_if (pt_not (PW.pt (pw_and (pt_val (pe_callB call_isi (by rfl) T.m_isinstance (by decide +kernel) (pa_cons (pv 1) (pa_cons (pe_bltn (v := .ty "str") (by rfl) T.m_str (by decide +kernel) rfl) pa_nil)))) (pw_and1 (pt_cmpR (op_in_kd kd) (pv 1) (pe_glob (v := .ref D) (by rfl) T.gD rfl) (by rfl)))))) (pss_one ps_never) pss_nil)
      (pss_cons (ps_asg (pe_ix ix_kdict (pe_glob (v := .ref D) (by rfl) T.gD rfl) (pv 1) (fun _ _ => rfl)) (pg_tup rfl (pgs_cons (pg_name (i := 3) sc_Kind___init__.nd rfl (Or.inl rfl)) (pgs_cons (pg_name (i := 4) sc_Kind___init__.nd rfl (Or.inl rfl)) pgs_nil))))
      (pss_cons (ps_if (pt_not (PW.pt (pw_and (pt_val (pe_callG c_is_whole (hr.mono (by decide)) (by rfl) (pa_cons (pv 2) pa_nil))) (pw_and1 (pt_chain op_le op_le (pv 3) (pv 2) (pv 4)))))) (pss_one ps_never) pss_nil)
      (pss_cons (ps_fld (pv 0) (pv 1) (by rfl))
      (pss_one (ps_fld (pv 0) (pv 2) (by rfl))))))), ?_⟩
    refine ⟨_, rfl, .str k.s, .ty "str", .type "str", .type "str", true, rfl, .ty _, .base (.str _), kit_ty (by decide +kernel), true, rfl, ?_⟩
    refine ⟨_, rfl, k.s, some (.ref t), rfl, rfl, hns, true, rfl, ?_⟩
    refine ⟨_, rfl, D, k.s, .ref t, rfl, rfl, ⟨es, nn, _, kd.at_, kd.lit, hns, rfl⟩, t, _, rfl, hsq H, rfl, _, _, rfl, _, _, rfl, rfl, ?_⟩
    refine ⟨_, rfl, _, rfl, true, rfl, ?_⟩
    refine ⟨_, rfl, _, rfl, _, _, rfl, rfl, _, rfl, ?_⟩
    refine iteP (decide_eq_true b1) ?_
    refine ⟨_, rfl, _, _, rfl, rfl, _, rfl, ?_⟩
    refine iteN ?_ ?_
    · rw [decide_eq_true b2]
      decide
    refine ⟨_, rfl, _, rfl, p, C, dx, [], rfl, hp, T.cl, T.nN, (by show 0 < 1000; decide), _, rfl, _, rfl, p, C, dx, _, rfl, upd_same, T.cl, T.nS, (by show 1 < 1000; decide), ?_⟩
    refine q _ upd_same fun b o e hb => ?_
    rw [upd_ne hb, upd_ne hb]
    exact e
def spName (C : Addr) : Sp := fun vs H Q _ => ∃ (p : Addr) (k : Nm) (n : Nat), vs = [.ref p] ∧ KAt C H p k n ∧ Q (.str k.s) H
theorem ok_name (T : Tk K w mg C D) (F : FnP K "name" "Kind.name" s_Kind_name f fd) : FnOk P w K mg base CX0 1 f fd ["self"] (spName C) := by
  refine okN F sc_Kind_name (fun vs H Q E h => ?_) (fun cdv A outer s H vs Q E hr h => ?_)
  · obtain ⟨p, k, n, rfl, _⟩ := h
    rfl
  · obtain ⟨p, k, n, rfl, ⟨dx, hp⟩, q⟩ := h
    refine ⟨_, (pss_one (ps_ret (pe_fld (pv 0) (by rfl)))), ?_⟩
    exact ⟨_, rfl, p, C, dx, _, _, rfl, hp, T.cl, T.nN, flds_name k n, q⟩
def spSize (C : Addr) : Sp := fun vs H Q _ => ∃ (p : Addr) (k : Nm) (n : Nat), vs = [.ref p] ∧ KAt C H p k n ∧ Q (.int (n : Int)) H
theorem ok_size (T : Tk K w mg C D) (F : FnP K "size" "Kind.size" s_Kind_size f fd) : FnOk P w K mg base CX0 1 f fd ["self"] (spSize C) := by
  refine okN F sc_Kind_size (fun vs H Q E h => ?_) (fun cdv A outer s H vs Q E hr h => ?_)
  · obtain ⟨p, k, n, rfl, _⟩ := h
    rfl
  · obtain ⟨p, k, n, rfl, ⟨dx, hp⟩, q⟩ := h
    refine ⟨_, (pss_one (ps_ret (pe_fld (pv 0) (by rfl)))), ?_⟩
    exact ⟨_, rfl, p, C, dx, _, _, rfl, hp, T.cl, T.nS, flds_size k n, q⟩
def spSteps (C : Addr) : Sp := fun vs H Q _ => ∃ (p : Addr) (k : Nm) (n : Nat), vs = [.ref p] ∧ KAt C H p k n ∧ Q (.int (many k n)) H
theorem ok_steps (T : Tk K w mg C D) (F : FnP K "steps" "Kind.steps" s_Kind_steps f fd) : FnOk P w K mg base CX0 1 f fd ["self"] (spSteps C) := by
  refine okN F sc_Kind_steps (fun vs H Q E h => ?_) (fun cdv A outer s H vs Q E hr h => ?_)
  · obtain ⟨p, k, n, rfl, _⟩ := h
    rfl
  · obtain ⟨p, k, n, rfl, ⟨dx, hp⟩, q⟩ := h
    refine ⟨_, (pss_cons (ps_if (pt_cmpR op_eq (pe_fld (pv 0) (by rfl)) pe_str (nomark _)) (pss_one (ps_ret (pe_op op_sub (pe_fld (pv 0) (by rfl)) pe_int))) pss_nil)
      (pss_one (ps_ret (pe_fld (pv 0) (by rfl))))), ?_⟩
    refine ⟨_, rfl, p, C, dx, _, _, rfl, hp, T.cl, T.nN, flds_name k n, rfl, _, rfl, ite2 (fun hk => ?_) (fun hk => ?_)⟩
    · rw [s_pl] at hk
      refine ⟨_, rfl, p, C, dx, _, _, rfl, hp, T.cl, T.nS, flds_size k n, _, _, rfl, rfl, qI q ?_⟩
      unfold many
      rw [if_pos (of_decide_eq_true hk)]
    · rw [s_pl] at hk
      refine ⟨_, rfl, p, C, dx, _, _, rfl, hp, T.cl, T.nS, flds_size k n, qI q ?_⟩
      unfold many
      rw [if_neg (fun e => hk (decide_eq_true e))]
      omega
def spStartM (C : Addr) : Sp := fun vs H Q _ => ∃ (p : Addr) (k : Nm) (n : Nat), vs = [.ref p] ∧ KAt C H p k n ∧ n ≤ 100 ∧ ∀ q, H q = none → Q (.ref q) (L2.upd H q (.lst ((startL k n).map V.int)))
theorem rg_start0 {k : Nm} (hk : k ≠ .mi) (n : Nat) : rgV 0 (n : Int) = (startL k n).map V.int := by
  have h := rg_start k n
  have e0 : off k = 0 := if_neg hk
  rw [e0, Int.add_zero] at h
  exact h
theorem ok_startM (T : Tk K w mg C D) (F : FnP K "start" "Kind.start" s_Kind_start f fd) : FnOk P w K mg base CX0 1 f fd ["self"] (spStartM C) := by
  refine okN F sc_Kind_start (fun vs H Q E h => ?_) (fun cdv A outer s H vs Q E hr h => ?_)
  · obtain ⟨p, k, n, rfl, _⟩ := h
    rfl
  · obtain ⟨p, k, n, rfl, ⟨dx, hp⟩, hn, q⟩ := h
    refine ⟨_, (pss_cons (ps_if (pt_cmpR op_eq (pe_fld (pv 0) (by rfl)) pe_str (nomark _)) (pss_one (ps_ret (pe_listRg rfl (by rfl) T.m_list (prg_2 (by rfl) T.m_range pe_int (pe_op op_add (pe_fld (pv 0) (by rfl)) pe_int))))) pss_nil)
      (pss_one (ps_ret (pe_listRg rfl (by rfl) T.m_list (prg_1 (by rfl) T.m_range (pe_fld (pv 0) (by rfl))))))), ?_⟩
    refine ⟨_, rfl, p, C, dx, _, _, rfl, hp, T.cl, T.nN, flds_name k n, rfl, _, rfl, ite2 (fun hk => ?_) (fun hk => ?_)⟩
    · have ek := is_mi hk
      subst ek
      refine ⟨_, rfl, p, C, dx, _, _, rfl, hp, T.cl, T.nS, flds_size _ n, _, _, rfl, rfl, _, _, rfl, rfl, RgOk.of_le (by decide) (by omega) (by decide) (by omega), fun l nl => ?_⟩
      have e := rg_start .mi n
      rw [show off .mi = 1 from rfl] at e
      rw [e]
      exact q l nl
    · have ek := not_mi hk
      refine ⟨_, rfl, p, C, dx, _, _, rfl, hp, T.cl, T.nS, flds_size _ n, _, rfl, RgOk.of_le (by decide) (by omega) (by decide) (by omega), fun l nl => ?_⟩
      rw [rg_start0 ek]
      exact q l nl
def spEqK (C : Addr) : Sp := fun vs H Q _ => ∃ (p o : Addr) (k : Nm) (n : Nat), vs = [.ref p, .ref o] ∧ KAt C H p k n ∧
  ((∃ (j : Nm) (m : Nat), KAt C H o j m ∧ Q (.bl (decide (k = j ∧ n = m))) H) ∨ ((∃ ys, H o = some (.tup ys)) ∧ Q (.bl false) H))
theorem ok_eqK (T : Tk K w mg C D) (F : FnP K "__eq__" "Kind.__eq__" s_Kind___eq__ f fd) : FnOk P w K mg base CX0 1 f fd ["self", "other"] (spEqK C) := by
  refine okN F sc_Kind___eq__ (fun vs H Q E h => ?_) (fun cdv A outer s H vs Q E hr h => ?_)
  · obtain ⟨p, o, k, n, rfl, _⟩ := h
    rfl
  · obtain ⟨p, o, k, n, rfl, ⟨dx, hp⟩, h⟩ := h
    refine ⟨_, (pss_one (ps_ret (pe_and (pe_callB call_isi (by rfl) T.m_isinstance (by decide +kernel) (pa_cons (pv 1) (pa_cons (pe_glob (v := .ref C) (by rfl) T.gC rfl) pa_nil))) (pe_and (pe_cmpR op_eq (pe_fld (pv 0) (by rfl)) (pe_fld (pv 1) (by rfl)) (nomark _)) (pe_one (pe_cmpR op_eq (pe_fld (pv 0) (by rfl)) (pe_fld (pv 1) (by rfl)) (nomark _))))))), ?_⟩
    rcases h with ⟨j, m, ⟨dy, ho⟩, q⟩ | ⟨⟨ys, ho⟩, q⟩
    · refine ⟨_, rfl, .ref o, .ref C, .ref C, .ref C, true, rfl, .own C, .base (.ins ho T.cl T.ha T.hn T.htk T.hm), T.me, true, rfl, ?_⟩
      refine ⟨_, rfl, p, C, dx, _, _, rfl, hp, T.cl, T.nN, flds_name k n, _, rfl, o, C, dy, _, _, rfl, ho, T.cl, T.nN, flds_name j m, rfl, _, rfl, ite2 (fun hk => ?_) (fun hk => ?_)⟩
      · have ek : k = j := s_inj.mp (V.str.inj (of_decide_eq_true hk))
        refine ⟨_, rfl, p, C, dx, _, _, rfl, hp, T.cl, T.nS, flds_size k n, _, rfl, o, C, dy, _, _, rfl, ho, T.cl, T.nS, flds_size j m, rfl, qB q ?_⟩
        rw [Bool.eq_iff_iff]
        simp [ek]
        omega
      · have ek : ¬ k = j := fun e => hk (by rw [e]; exact decide_eq_true rfl)
        exact qB q (decide_eq_false (fun e => ek e.1)).symm
    · exact ⟨_, rfl, .ref o, .ref C, .type "tuple", .ref C, false, rfl, .own C, .base (.tup ho), T.nt, false, rfl, q⟩
def spCk (C : Addr) : Sp := fun vs H Q _ => ∃ (p : Addr) (k : Nm) (n : Nat), vs = [.ref p] ∧ KAt C H p k n ∧ Q .non H
theorem ok_check_kind (T : Tk K w mg C D) (F : FnP K "check_kind" "check_kind" s_check_kind f fd) : FnOk P w K mg base CX0 1 f fd ["kind"] (spCk C) := by
  refine okN F sc_check_kind (fun vs H Q E h => ?_) (fun cdv A outer s H vs Q E hr h => ?_)
  · obtain ⟨p, k, n, rfl, _⟩ := h
    rfl
  · obtain ⟨p, k, n, rfl, ⟨dx, hp⟩, q⟩ := h
    refine ⟨_, (pss_one (ps_if (pt_not (pt_val (pe_callB call_isi (by rfl) T.m_isinstance (by decide +kernel) (pa_cons (pv 0) (pa_cons (pe_glob (v := .ref C) (by rfl) T.gC rfl) pa_nil))))) (pss_one ps_never) pss_nil)), ?_⟩
    exact ⟨_, rfl, .ref p, .ref C, .ref C, .ref C, true, rfl, .own C, .base (.ins hp T.cl T.ha T.hn T.htk T.hm), T.me, true, rfl, q⟩
def spIsStep (C : Addr) : Sp := fun vs H Q _ => ∃ (p : Addr) (k : Nm) (n : Nat) (i : Int), vs = [.ref p, .int i] ∧ KAt C H p k n ∧ okS k n i ∧ Q (.bl true) H
theorem ok_is_step (T : Tk K w mg C D) (F : FnP K "is_step" "is_step" s_is_step f fd) (c_is_whole : Gd P w K mg base "is_whole" ["value"] 1 spIsWhole) (c_m_steps : Md P w K mg base C "steps" ["self"] 1 (spSteps C)) : FnOk P w K mg base CX0 2 f fd ["kind", "value"] (spIsStep C) := by
  refine okN F sc_is_step (fun vs H Q E h => ?_) (fun cdv A outer s H vs Q E hr h => ?_)
  · obtain ⟨p, k, n, i, rfl, _⟩ := h
    rfl
  · obtain ⟨p, k, n, i, rfl, hp, ⟨i0, i1⟩, q⟩ := h
    obtain ⟨dx, hp'⟩ := id hp
    refine ⟨_, (pss_one (ps_ret (pe_and (pe_callG c_is_whole (hr.mono (by decide)) (by rfl) (pa_cons (pv 1) pa_nil)) (pe_one (pe_chain op_le op_lt pe_int (pv 1) (pe_methG0 T.cl c_m_steps (hr.mono (by decide)) (pv 0))))))), ?_⟩
    refine ⟨_, rfl, _, rfl, true, rfl, ?_⟩
    refine ⟨_, rfl, _, _, rfl, rfl, _, rfl, ?_⟩
    refine iteP (decide_eq_true i0) ?_
    refine ⟨_, rfl, p, dx, _, rfl, hp', flds_no _ _ (by decide +kernel) (by decide +kernel), p, k, n, rfl, hp, _, _, rfl, rfl, qB q (decide_eq_true i1)⟩
def spCkS (C : Addr) : Sp := fun vs H Q _ => ∃ (p : Addr) (k : Nm) (n : Nat) (i : Int), vs = [.ref p, .int i] ∧ KAt C H p k n ∧ okS k n i ∧ Q .non H
def spWaitOf (C : Addr) : Sp := fun vs H Q _ => ∃ (p : Addr) (k : Nm) (n : Nat) (a b : Int), vs = [.ref p, .int a, .int b] ∧ KAt C H p k n ∧ Q (vOf (waitN k n a b)) H
def spWaitP (C : Addr) : Sp := fun vs H Q _ => ∃ (p : Addr) (k : Nm) (n : Nat) (a b : Int), vs = [.ref p, .int a, .int b] ∧ KAt C H p k n ∧ okS k n a ∧ okS k n b ∧ a ≠ b ∧ Q (vOf (waitN k n a b)) H
end
end Sv

/-! What the program's own functions of orders compute, as plain functions of lists, by the verifier. -/
namespace Sv
open PySem L2
def exch (k : Nm) (n : Nat) (w : List Int) (s : Nat) : Int × Int :=
  if k = .pl then (w.getD s 0, w.getD (s + 1) 0)
  else if k = .ri then (if s + 1 = n then (w.getD s 0, w.getD 0 0 + (n : Int)) else (w.getD s 0, w.getD (s + 1) 0))
  else if s = 0 then (-(w.getD 0 0), w.getD 0 0) else (w.getD (s - 1) 0, w.getD s 0)
def crossP (k : Nm) (n : Nat) (w : List Int) (s : Nat) : Bool := decide ((exch k n w s).2 < (exch k n w s).1)
def after (k : Nm) (n : Nat) (w : List Int) (s : Nat) : List Int :=
  if k = .pl then (w.set s (exch k n w s).2).set (s + 1) (exch k n w s).1
  else if k = .ri ∧ s + 1 = n then (w.set s (exch k n w s).2).set 0 ((exch k n w s).1 - (n : Int))
  else if k = .ri then (w.set s (exch k n w s).2).set (s + 1) (exch k n w s).1
  else if s = 0 then w.set 0 (exch k n w s).1
  else (w.set (s - 1) (exch k n w s).2).set s (exch k n w s).1
def fallsP (k : Nm) (n : Nat) (w : List Int) : List Int := ((List.range (many k n).toNat).filter (crossP k n w)).map fun (s : Nat) => (s : Int)
def itemP (k : Nm) (n : Nat) (w : List Int) (p : Int) : Int :=
  if k = .mi then (if 0 < p then w.getD (p - 1).toNat 0 else -(w.getD (-p - 1).toNat 0)) else w.getD (p % (n : Int)).toNat 0 + p - p % (n : Int)
def prodP (k : Nm) (n : Nat) (w u : List Int) : List Int := u.map (itemP k n w)
def invPos (k : Nm) (n : Nat) (x : Int) : Nat := if k = .mi then x.natAbs - 1 else (x % (n : Int)).toNat
def invVal (k : Nm) (n : Nat) (i : Nat) (x : Int) : Int := if k = .mi then (if 0 < x then (i : Int) + 1 else -(i : Int) - 1) else (i : Int) - x + x % (n : Int)
def invUpTo (k : Nm) (n : Nat) (w : List Int) : Nat → List Int
  | 0 => startL k n
  | i + 1 => (invUpTo k n w i).set (invPos k n (w.getD i 0)) (invVal k n i (w.getD i 0))
def invP (k : Nm) (n : Nat) (w : List Int) : List Int := invUpTo k n w w.length
def rowPairs (w : List Int) (b : Nat) : List (Int × Int) := (List.range b).map fun a => (w.getD a 0, w.getD b 0)
def pairsTo (w : List Int) : Nat → List (Int × Int)
  | 0 => []
  | b + 1 => pairsTo w b ++ rowPairs w b
def pairsL (w : List Int) : List (Int × Int) := pairsTo w w.length
def absI (x : Int) : Int := if x < 0 then -x else x
def crP (k : Nm) (n : Nat) (w : List Int) : Int :=
  if k = .ri then ((pairsL w).map fun q => absI ((q.2 - q.1) / (n : Int))).sum
  else if k = .mi then (((pairsL w).filter fun q => decide (q.2 < q.1)).length : Int) + ((w.filter fun x => decide (x < 0)).length : Int) + (((pairsL w).filter fun q => decide (q.1 + q.2 < 0)).length : Int)
  else (((pairsL w).filter fun q => decide (q.2 < q.1)).length : Int)
/-- the form of an order, as sorted lists see it -/
def Form (k : Nm) (n : Nat) (w : List Int) : Prop := w.length = n ∧ match k with
  | .pl => w.Perm (startL .pl n)
  | .mi => (w.map absI).Perm (startL .mi n)
  | .ri => w.sum = (n : Int) * ((n : Int) - 1) / 2 ∧ (w.map fun x => x % (n : Int)).Perm (startL .ri n)
theorem startL_sorted (k : Nm) (n : Nat) : (startL k n).Pairwise (· ≤ ·) := by
  unfold startL
  rw [List.pairwise_map]
  refine List.Pairwise.imp ?_ (List.pairwise_lt_range (n := n))
  intro a b h
  omega
theorem sorted_start {k : Nm} {n : Nat} {xs ys : List Int} (h : ys.Perm xs) (hs : ys.Pairwise (· ≤ ·)) (hx : xs.Perm (startL k n)) : ys = startL k n :=
  List.Perm.eq_of_pairwise (fun _ _ _ _ a b => Int.le_antisymm a b) hs (startL_sorted k n) (h.trans hx)
end Sv

namespace Sv
open PySem PySem.Spec PyProof.Rows L2
/-! itertools.combinations of a list by two -/
namespace Cm
theorem slotI : Slot "itertools.combinations" "__iter__" "itertools.combinations.__iter__" := .of (owner := "itertools.combinations") (n := "__iter__") (by rw [typeLookup_type, builtinLookup_eq_fast]; kernel_rfl) (by decide +kernel) (by decide +kernel) (by decide +kernel) (by first | exact .inl (by decide +kernel) | exact .inr (by decide +kernel)) (by rw [isSubtype_type]; kernel_rfl)
theorem slotN : Slot "itertools.combinations" "__next__" "itertools.combinations.__next__" := .of (owner := "itertools.combinations") (n := "__next__") (by rw [typeLookup_type, builtinLookup_eq_fast]; kernel_rfl) (by decide +kernel) (by decide +kernel) (by decide +kernel) (by first | exact .inl (by decide +kernel) | exact .inr (by decide +kernel)) (by rw [isSubtype_type]; kernel_rfl)
theorem slotInit : Slot "itertools.combinations" "__init__" "object.__init__" := .of (owner := "object") (n := "__init__") (by rw [typeLookup_type, builtinLookup_eq_fast]; kernel_rfl) (by decide +kernel) (by decide +kernel) (by decide +kernel) (by first | exact .inl (by decide +kernel) | exact .inr (by decide +kernel)) (by rw [isSubtype_type]; kernel_rfl)
theorem entI : entryFor table "itertools.combinations.__iter__" = some Builtin.«dict_keyiterator.__iter__» := entryFor_alias (id' := "dict_keyiterator.__iter__") (by kernel_rfl) (by first | rfl | decide +kernel | (unfold String.splitOn; simp +decide [String.splitOnAux])) (by decide +kernel) (by kernel_rfl)
theorem entN : entryFor table "itertools.combinations.__next__" = some Builtin.«itertools.combinations.__next__» := entryFor_of_tree (by kernel_rfl)
theorem entW : entryFor table "itertools.combinations.__new__" = some Builtin.«itertools.combinations.__new__» := entryFor_of_tree (by kernel_rfl)
theorem mro : mroOf (.type "itertools.combinations") = pure [.type "itertools.combinations", .type "object"] := by
  rw [mroOf_type]
  kernel_rfl
theorem lookNew : typeLookup (.type "itertools.combinations") "__new__" = pure (some (.builtin "itertools.combinations.__new__")) := by
  rw [typeLookup_type, builtinLookup_eq_fast]
  kernel_rfl
theorem called : TypeCalled "itertools.combinations" "itertools.combinations.__new__" "object.__init__" := ⟨by decide +kernel, by decide +kernel, ⟨_, _, mro⟩, madeBy_type mro lookNew (by decide +kernel), by decide +kernel, by rw [isSubtype_type]; kernel_rfl, slotInit⟩
theorem tCall (a b : Value) : checkTypeCall "itertools.combinations" ⟨[a, b], []⟩ = pure () := by kernel_rfl
theorem nCall (a b : Value) : checkBuiltinCall "itertools.combinations.__new__" ⟨[.type "itertools.combinations", a, b], []⟩ = pure () := by kernel_rfl
theorem sub : isSubtype (.type "itertools.combinations") (.type "itertools.combinations") = pure true := by
  rw [isSubtype_type]
  kernel_rfl
theorem argsI (a : Value) : argsOk "itertools.combinations.__iter__" ⟨[a], []⟩ := by
  unfold argsOk
  kernel_rfl
theorem argsN (a : Value) : argsOk "itertools.combinations.__next__" ⟨[a], []⟩ := by
  unfold argsOk
  kernel_rfl
/-- the iterator: the pool at pt, a flag, what was handed out last, the two places -/
def IsC (h : Heap) (c pt : Addr) (fl : Int) (old : Value) (a b : Nat) : Prop :=
  h.get? c = some { cls := .type "itertools.combinations", data := .fields #[.ref pt, rawInt fl, old, rawInt a, rawInt b] }
open AutoSeq1 (wpAny_loadPart')
theorem bindEq (x y : Value) : Builtin.Itertools.itBindNamed "combinations" ["iterable", "r"] 2 2 [x, y] [] = pure [some x, some y] := by kernel_rfl
set_option maxHeartbeats 1000000 in
theorem meetsNew (l : Addr) (o : Obj) (items : Array Value) (n : Nat) (t : Tok) (hc : o.cls = .type "list") (hd : o.data = .seq items n) (hsz : items.size ≤ sizeLine := by size_fits) :
    Meets (Builtin.«itertools.combinations.__new__» ⟨[.type "itertools.combinations", .ref l, .int 2 t], []⟩) fun _ R s => s.heap.get? l = some o ∧
      ∀ h' : Heap, (∀ b o', s.heap.get? b = some o' → h'.get? b = some o') → R (.ok (.ret (.ref (h'.push { cls := .type "tuple", data := .seq items }).objs.size)))
        { s with heap := (h'.push { cls := .type "tuple", data := .seq items }).push { cls := .type "itertools.combinations", data := .fields #[.ref h'.objs.size, rawInt (if 2 > items.size then 2 else 0), .none, rawInt 0, rawInt 1] } } :=
  .of_wp fun prog w A R s h => by
    obtain ⟨hp, g, d, tk, os⟩ := s
    obtain ⟨ht, h⟩ := h
    have hsub : isSubtype (Value.type "itertools.combinations") (Value.type ("itertools." ++ "combinations")) = pure true := sub
    have hbd := bindEq (.ref l) (.int 2 t)
    have hT : Shared.TypeIs ⟨hp, g, d, tk, os⟩ (.ref l) "list" := ⟨o, ht, hc⟩
    wp_walk using wpAny_loadPart' ht, wpAny_typeOf hT, wpAny_collect_seq (hsz := hsz) l (.inl rfl) ht hc hd
    intro h' hk
    have ea : items.toList.toArray = items := by simp
    have hnt : ∀ (Q : Value → Shared → Prop) (E : Value → Shared → Prop) (s : Shared), Q (.ref s.heap.objs.size) { s with heap := s.heap.push { cls := .type "tuple", data := .seq items } } → wpAny (model prog w) A.in1 (newTuple items.toList) Q E s := fun Q E s q => by
      show wpAny _ _ (newObj (.type "tuple") (.seq items.toList.toArray)) _ _ _
      rw [ea]
      exact wpAny_newObj_type q hsz
    have hnr : ∀ (p : Value) (k : Nat) (Q : Value → Shared → Prop) (E : Value → Shared → Prop) (s : Shared), Q (.ref s.heap.objs.size) { s with heap := s.heap.push { cls := .type "itertools.combinations", data := .fields #[p, rawInt (if 2 > k then 2 else 0), .none, rawInt 0, rawInt 1] } } →
        wpAny (model prog w) A.in1 (Builtin.Itertools.itNewRecord (.type "itertools.combinations") ([p, rawInt (if Int.toNat 2 > k then 2 else 0), Value.none] ++ List.map (fun i => rawInt ((i : Nat) : Int)) (List.range (Int.toNat 2)))) Q E s := fun p k Q E s q => by
      have ed : typeHasDict (.type "itertools.combinations") = false := by kernel_rfl
      unfold Builtin.Itertools.itNewRecord
      rw [ed]
      exact wpAny_newObj_type q (by show 5 ≤ sizeLine + 2; decide)
    wp_walk using hnt, hnr
    exact ⟨_, rfl, h h' hk⟩
section
variable {prog : Program} {w : World} {A : Around} {E : Value → Shared → Prop} {s : Shared}
theorem callC {l : Addr} {items : Array Value} {t : Tok} {Q : Value → Shared → Prop} (hl : s.heap.IsList l items)
    (h : ∀ h' : Heap, (∀ b o', s.heap.get? b = some o' → h'.get? b = some o') →
      Q (.ref (h'.push { cls := .type "tuple", data := .seq items }).objs.size) { s with heap := (h'.push { cls := .type "tuple", data := .seq items }).push { cls := .type "itertools.combinations", data := .fields #[.ref h'.objs.size, rawInt (if 2 > items.size then 2 else 0), .none, rawInt 0, rawInt 1] } })
    (hsz : items.size ≤ sizeLine := by size_fits) : wpAny (model prog w) A (call (.type "itertools.combinations") [.ref l, .int 2 t]) Q E s := by
  obtain ⟨o, ho, hc, n, hd⟩ := hl
  exact callType_new called (by decide) (tCall _ _) (nCall _ _) (fun obj => F.args_object_init_3 obj _ _) entW (meetsNew l o items n t hc hd hsz) ⟨ho, fun h' hk => ⟨⟨_, Heap.get?_push_size _ rfl, rfl⟩, h h' hk⟩⟩
theorem iterC {c pt : Addr} {fl : Int} {old : Value} {a b : Nat} {Q : Value → Shared → Prop} (hc : IsC s.heap c pt fl old a b) (h : Q (.ref c) s) : wpAny (model prog w) A (pyIter (.ref c)) Q E s := by
  have hT : s.TypeIs (.ref c) "itertools.combinations" := ⟨_, hc, rfl⟩
  refine wpAny_pyIter_slot hT slotI (wpAny_call_entry slotI hT entI ?_ (argsI _))
  show wpAny _ _ (ret (.ref c)) _ _ s
  exact wpAny_pure ⟨_, rfl, "itertools.combinations", _, hT, slotN.lookup, h⟩
set_option maxHeartbeats 1000000 in
theorem nextFirst {c pt : Addr} {old : Value} {a b n : Nat} {items : Array Value} {Q : Option Value → Shared → Prop} (hc : IsC s.heap c pt 0 old a b) (hp : s.heap.get? pt = some { cls := .type "tuple", data := .seq items n }) (hne : c ≠ pt)
    (hQ : ∀ h', IsC h' c pt 1 (.ref s.heap.objs.size) a b → h'.get? s.heap.objs.size = some { cls := .type "tuple", data := .seq #[items.getD a .none, items.getD b .none] } → (∀ q o, q ≠ c → s.heap.get? q = some o → h'.get? q = some o) → Q (some (.ref s.heap.objs.size)) { s with heap := h' }) :
    wpAny (model prog w) A (pyNext (.ref c)) Q E s := by
  have hT : s.TypeIs (.ref c) "itertools.combinations" := ⟨_, hc, rfl⟩
  unfold pyNext
  refine wpAny_bind (wpAny_attempt (wpAny_callSpecial?_slot (name := Str.ofString "__next__") hT slotN (wpAny_call_entry slotN hT entN ?_ (argsN _))))
  obtain ⟨hp', g, d, tk, os⟩ := s
  replace hc : hp'.get? c = some { cls := .type "itertools.combinations", data := .fields #[.ref pt, rawInt 0, old, rawInt a, rawInt b] } := hc
  replace hp : hp'.get? pt = some { cls := .type "tuple", data := .seq items n } := hp
  wp_walk
  have e0 : (hp'.update c (Obj.mapFields fun x => x.setIfInBounds 1 (rawInt 1))).objs.size = hp'.objs.size := Heap.size_after_update ..
  rw [e0]
  refine ⟨_, rfl, wpAny_pure (hQ _ ?_ ?_ fun q o hq e => ?_)⟩
  · have q1 := Heap.get?_update_self (Obj.mapFields fun x => x.setIfInBounds 1 (rawInt 1)) hc rfl
    have q2 := Heap.get?_push_of_some { cls := .type "tuple", data := .seq #[items.getD a .none, items.getD b .none] } q1
    exact Heap.get?_update_self (Obj.mapFields fun x => x.setIfInBounds 2 (Value.ref hp'.objs.size)) q2 rfl
  · refine (Heap.get?_update_other _ _ (Nat.ne_of_lt (Heap.lt_size hc))).trans ?_
    rw [← e0]
    exact Heap.get?_push_size _ rfl
  · refine (Heap.get?_update_other _ _ (Ne.symm hq)).trans (Heap.get?_push_of_some _ ?_)
    exact (Heap.get?_update_other _ _ (Ne.symm hq)).trans e
theorem findMid {b n : Nat} (a : Nat) (h : b + 1 < n) : ((List.range [a, b].length).reverse.find? fun i => [a, b].getD i 0 != i + n - [a, b].length) = some 1 := by
  have e : (b != 1 + n - 2) = true := by simp; omega
  show (([1, 0] : List Nat).find? fun i => [a, b].getD i 0 != i + n - 2) = some 1
  rw [List.find?_cons, show ([a, b].getD 1 0 != 1 + n - 2) = true from e]
theorem findLow {a b n : Nat} (h : b + 1 = n) (h2 : a + 2 < n) : ((List.range [a, b].length).reverse.find? fun i => [a, b].getD i 0 != i + n - [a, b].length) = some 0 := by
  have e : (b != 1 + n - 2) = false := by simp; omega
  have e2 : (a != 0 + n - 2) = true := by simp; omega
  show (([1, 0] : List Nat).find? fun i => [a, b].getD i 0 != i + n - 2) = some 0
  rw [List.find?_cons, show ([a, b].getD 1 0 != 1 + n - 2) = false from e, List.find?_cons, show ([a, b].getD 0 0 != 0 + n - 2) = true from e2]
theorem findNone {a b n : Nat} (h : b + 1 = n) (h2 : a + 2 = n) : ((List.range [a, b].length).reverse.find? fun i => [a, b].getD i 0 != i + n - [a, b].length) = none := by
  have e : (b != 1 + n - 2) = false := by simp; omega
  have e2 : (a != 0 + n - 2) = false := by simp; omega
  show (([1, 0] : List Nat).find? fun i => [a, b].getD i 0 != i + n - 2) = none
  rw [List.find?_cons, show ([a, b].getD 1 0 != 1 + n - 2) = false from e, List.find?_cons, show ([a, b].getD 0 0 != 0 + n - 2) = false from e2, List.find?_nil]
/-- the pair behind a pair -/
def nx (n : Nat) (p : Nat × Nat) : Option (Nat × Nat) := if p.2 + 1 < n then some (p.1, p.2 + 1) else if p.1 + 2 < n then some (p.1 + 1, p.1 + 2) else none
set_option maxHeartbeats 1000000 in
theorem nextMore {c pt : Addr} {old : Value} {a b a' b' n : Nat} {items : Array Value} {Q : Option Value → Shared → Prop} (hc : IsC s.heap c pt 1 old a b) (hp : s.heap.get? pt = some { cls := .type "tuple", data := .seq items n }) (hne : c ≠ pt)
    (hlt : a < b) (hb : b < items.size) (hx : nx items.size (a, b) = some (a', b'))
    (hQ : ∀ h', IsC h' c pt 1 (.ref s.heap.objs.size) a' b' → h'.get? s.heap.objs.size = some { cls := .type "tuple", data := .seq #[items.getD a' .none, items.getD b' .none] } → (∀ q o, q ≠ c → s.heap.get? q = some o → h'.get? q = some o) → Q (some (.ref s.heap.objs.size)) { s with heap := h' }) :
    wpAny (model prog w) A (pyNext (.ref c)) Q E s := by
  have hT : s.TypeIs (.ref c) "itertools.combinations" := ⟨_, hc, rfl⟩
  unfold pyNext
  refine wpAny_bind (wpAny_attempt (wpAny_callSpecial?_slot (name := Str.ofString "__next__") hT slotN (wpAny_call_entry slotN hT entN ?_ (argsN _))))
  obtain ⟨hp', g, d, tk, os⟩ := s
  replace hc : hp'.get? c = some { cls := .type "itertools.combinations", data := .fields #[.ref pt, rawInt 1, old, rawInt a, rawInt b] } := hc
  replace hp : hp'.get? pt = some { cls := .type "tuple", data := .seq items n } := hp
  unfold nx at hx
  wp_walk
  have hfin : ∀ (h2 : Heap), h2.get? c = some { cls := .type "itertools.combinations", data := .fields #[.ref pt, rawInt 1, old, rawInt a', rawInt b'] } → h2.objs.size = hp'.objs.size → (∀ q o, q ≠ c → hp'.get? q = some o → h2.get? q = some o) →
      Q (some (.ref hp'.objs.size)) { heap := (h2.push { cls := .type "tuple", data := .seq #[items.getD a' .none, items.getD b' .none] }).update c (Obj.mapFields fun x => x.setIfInBounds 2 (Value.ref hp'.objs.size)), gens := g, drawn := d, toks := tk, os := os } := fun h2 g1 g2 g3 => by
    refine hQ _ ?_ ?_ fun q o hq e => ?_
    · have q2 := Heap.get?_push_of_some { cls := .type "tuple", data := .seq #[items.getD a' .none, items.getD b' .none] } g1
      exact Heap.get?_update_self (Obj.mapFields fun x => x.setIfInBounds 2 (Value.ref hp'.objs.size)) q2 rfl
    · refine (Heap.get?_update_other _ _ (Nat.ne_of_lt (Heap.lt_size hc))).trans ?_
      show (h2.push _).get? hp'.objs.size = _
      rw [← g2]
      exact Heap.get?_push_size _ rfl
    · exact (Heap.get?_update_other _ _ (Ne.symm hq)).trans (Heap.get?_push_of_some _ (g3 q o hq e))
  split
  · rename_i next heq
    have h2 : (match ([a, b].length |> List.range).reverse.find? (fun i => [a, b].getD i 0 != i + items.size - [a, b].length) with
      | none => none
      | some i => some ([a, b].take i ++ ([a, b].length - i |> List.range).map fun k => [a, b].getD i 0 + 1 + k)) = some next := heq
    have en : next = [a', b'] := by
      by_cases z : b + 1 < items.size
      · rw [if_pos z] at hx
        cases hx
        rw [show (([a, b].length |> List.range).reverse.find? (fun i => [a, b].getD i 0 != i + items.size - [a, b].length)) = some 1 from findMid a z] at h2
        cases h2
        rfl
      · rw [if_neg z] at hx
        by_cases z2 : a + 2 < items.size
        · rw [if_pos z2] at hx
          cases hx
          rw [show (([a, b].length |> List.range).reverse.find? (fun i => [a, b].getD i 0 != i + items.size - [a, b].length)) = some 0 from findLow (by omega) z2] at h2
          cases h2
          rfl
        · rw [if_neg z2] at hx
          cases hx
    subst en
    wp_walk
    have e0 : (hp'.update c (Obj.mapFields fun fs => fs.extract 0 3 ++ (List.map (fun (n : Nat) => rawInt n) [a', b']).toArray)).objs.size = hp'.objs.size := Heap.size_after_update ..
    rw [e0]
    refine ⟨_, rfl, wpAny_pure (hfin _ ?_ e0 fun q o hq e => (Heap.get?_update_other _ _ (Ne.symm hq)).trans e)⟩
    exact Heap.get?_update_self (Obj.mapFields fun fs => fs.extract 0 3 ++ (List.map (fun (n : Nat) => rawInt n) [a', b']).toArray) hc rfl
  · rename_i heq
    exfalso
    have h2 : (match ([a, b].length |> List.range).reverse.find? (fun i => [a, b].getD i 0 != i + items.size - [a, b].length) with
      | none => none
      | some i => some ([a, b].take i ++ ([a, b].length - i |> List.range).map fun k => [a, b].getD i 0 + 1 + k)) = none := heq
    by_cases z : b + 1 < items.size
    · rw [show (([a, b].length |> List.range).reverse.find? (fun i => [a, b].getD i 0 != i + items.size - [a, b].length)) = some 1 from findMid a z] at h2
      cases h2
    · rw [if_neg z] at hx
      by_cases z2 : a + 2 < items.size
      · rw [show (([a, b].length |> List.range).reverse.find? (fun i => [a, b].getD i 0 != i + items.size - [a, b].length)) = some 0 from findLow (by omega) z2] at h2
        cases h2
      · rw [if_neg z2] at hx
        cases hx
set_option maxHeartbeats 1000000 in
theorem stopAt {c : Addr} {h0 : Heap} {R : Fin → Shared → Prop} {E1 : Value → Shared → Prop} (hh : A.handled = none) (eb : Heap.ExtBut c h0 s.heap)
    (hE : ∀ (e : Value) (h' : Heap), Heap.ExtBut c h0 h' → (∃ o, h'.get? (match e with | .ref a => a | _ => 0) = some o ∧ o.cls = .type "StopIteration" ∧ ∃ a, e = .ref a) → E1 e { s with heap := h' }) :
    wpAny (model prog w) A (Builtin.Itertools.itStop : Sem Fin) R E1 s := by
  unfold Builtin.Itertools.itStop
  show wpAny _ _ (newExc (.type "StopIteration") [] >>= _) _ _ _
  refine wpAny_bind ?_
  simp only [newExc, newTuple]
  refine wpAny_bind (wpAny_newObj_type ?_ (by size_fits))
  refine wpAny_bind (m := firstArgMember _ _) (wpAny_of_eq (a := Value.none) (by first | rfl | (simp only [firstArgMember]; rfl)) ?_)
  refine wpAny_newObj_type ?_ (by size_fits)
  simp only [raiseNew]
  refine wpAny_bind (wpAny_handled ?_)
  rw [hh]
  refine wpAny_bind (wpAny_pure (wpAny_throw ?_))
  exact hE _ _ ((eb.push _).push _) ⟨_, Heap.get?_push_size _ rfl, rfl, _, rfl⟩
set_option maxHeartbeats 1000000 in
theorem nextEnd {c pt : Addr} {old : Value} {a b n : Nat} {items : Array Value} {Q : Option Value → Shared → Prop} (hh : A.handled = none) (hc : IsC s.heap c pt 1 old a b) (hp : s.heap.get? pt = some { cls := .type "tuple", data := .seq items n }) (hne : c ≠ pt)
    (hlt : a < b) (hb : b < items.size) (hx : nx items.size (a, b) = none) (hQ : ∀ h', Heap.ExtBut c s.heap h' → Q none { s with heap := h' }) : wpAny (model prog w) A (pyNext (.ref c)) Q E s := by
  have hT : s.TypeIs (.ref c) "itertools.combinations" := ⟨_, hc, rfl⟩
  unfold pyNext
  refine wpAny_bind (wpAny_attempt (wpAny_callSpecial?_slot (name := Str.ofString "__next__") hT slotN (wpAny_call_entry slotN hT entN ?_ (argsN _))))
  obtain ⟨hp', g, d, tk, os⟩ := s
  replace hc : hp'.get? c = some { cls := .type "itertools.combinations", data := .fields #[.ref pt, rawInt 1, old, rawInt a, rawInt b] } := hc
  replace hp : hp'.get? pt = some { cls := .type "tuple", data := .seq items n } := hp
  unfold nx at hx
  have z1 : ¬ b + 1 < items.size := fun z => by
    rw [if_pos z] at hx
    cases hx
  rw [if_neg z1] at hx
  have z2 : ¬ a + 2 < items.size := fun z => by
    rw [if_pos z] at hx
    cases hx
  wp_walk
  split
  · rename_i next heq
    exfalso
    have h2 : (match ([a, b].length |> List.range).reverse.find? (fun i => [a, b].getD i 0 != i + items.size - [a, b].length) with
      | none => none
      | some i => some ([a, b].take i ++ ([a, b].length - i |> List.range).map fun k => [a, b].getD i 0 + 1 + k)) = some next := heq
    rw [show (([a, b].length |> List.range).reverse.find? (fun i => [a, b].getD i 0 != i + items.size - [a, b].length)) = none from findNone (by omega) (by omega)] at h2
    cases h2
  · refine wpAny_bind (wpAny_setField hc rfl (by show 1 < 5; decide) ?_)
    refine stopAt (c := c) (h0 := hp') hh (Heap.SameBut.update ..).extBut fun e h' eb hs => ?_
    obtain ⟨o, ho, hcl, ad, rfl⟩ := hs
    refine wpAny_bind (wpAny_isInstance (T := "StopIteration") (b := true) ⟨o, ho, hcl⟩ isSubtype_stop ?_)
    exact wpAny_pure (hQ _ eb)
set_option maxHeartbeats 1000000 in
theorem nextNone {c pt : Addr} {old : Value} {a b n : Nat} {items : Array Value} {Q : Option Value → Shared → Prop} (hh : A.handled = none) (hc : IsC s.heap c pt 2 old a b) (hp : s.heap.get? pt = some { cls := .type "tuple", data := .seq items n }) (hne : c ≠ pt)
    (hQ : ∀ h', Heap.ExtBut c s.heap h' → Q none { s with heap := h' }) : wpAny (model prog w) A (pyNext (.ref c)) Q E s := by
  have hT : s.TypeIs (.ref c) "itertools.combinations" := ⟨_, hc, rfl⟩
  unfold pyNext
  refine wpAny_bind (wpAny_attempt (wpAny_callSpecial?_slot (name := Str.ofString "__next__") hT slotN (wpAny_call_entry slotN hT entN ?_ (argsN _))))
  obtain ⟨hp', g, d, tk, os⟩ := s
  replace hc : hp'.get? c = some { cls := .type "itertools.combinations", data := .fields #[.ref pt, rawInt 2, old, rawInt a, rawInt b] } := hc
  replace hp : hp'.get? pt = some { cls := .type "tuple", data := .seq items n } := hp
  have hst : ∀ (R : Fin → Shared → Prop) (E1 : Value → Shared → Prop) (s : Shared), s.heap = hp' → (∀ (e : Value) (h' : Heap), Heap.ExtBut c hp' h' → (∃ o, h'.get? (match e with | .ref a => a | _ => 0) = some o ∧ o.cls = .type "StopIteration" ∧ ∃ a, e = .ref a) → E1 e { s with heap := h' }) → wpAny (model prog w) A.in1 (Builtin.Itertools.itStop : Sem Fin) R E1 s := fun R E1 s es hE => by
    refine stopAt (c := c) (h0 := hp') hh ?_ hE
    rw [es]
    exact fun _ _ _ e => e
  wp_walk using hst
  case a => rfl
  case a =>
    intro e h' eb hs
    obtain ⟨o, ho, hcl, ad, rfl⟩ := hs
    refine wpAny_bind (wpAny_isInstance (T := "StopIteration") (b := true) ⟨o, ho, hcl⟩ isSubtype_stop ?_)
    exact wpAny_pure (hQ _ eb)
end
/-- the pairs in their order -/
def prs (n : Nat) : Nat → Option (Nat × Nat)
  | 0 => if 2 ≤ n then some (0, 1) else none
  | i + 1 => (prs n i).bind (nx n)
theorem prs_ok {n : Nat} : ∀ {i a b : Nat}, prs n i = some (a, b) → a < b ∧ b < n
  | 0, a, b, h => by
    unfold prs at h
    by_cases z : 2 ≤ n
    · rw [if_pos z] at h
      cases h
      omega
    · rw [if_neg z] at h
      cases h
  | i + 1, a, b, h => by
    unfold prs at h
    cases e : prs n i with
    | none =>
      rw [e] at h
      cases h
    | some p =>
      obtain ⟨x, y⟩ := p
      rw [e] at h
      have ih := prs_ok e
      replace h : nx n (x, y) = some (a, b) := h
      unfold nx at h
      by_cases z : y + 1 < n
      · rw [if_pos z] at h
        cases h
        omega
      · rw [if_neg z] at h
        by_cases z2 : x + 2 < n
        · rw [if_pos z2] at h
          cases h
          omega
        · rw [if_neg z2] at h
          cases h
end Cm
/-- the pairs of the items xs, each a new tuple -/
def Itcm (xs : List V) : It :=
  ⟨fun i _ => ∃ p, Cm.prs xs.length i = some p, fun i H v H' => ∃ (T a b : Nat) (x y : V), Cm.prs xs.length i = some (a, b) ∧ xs[a]? = some x ∧ xs[b]? = some y ∧ v = .ref T ∧ H T = none ∧ H' = L2.upd H T (.tup [x, y]), fun i _ => Cm.prs xs.length i = none⟩
def CmSt (items : Array Value) (c pt n : Nat) (i : Nat) (h : Heap) : Prop :=
  h.get? pt = some { cls := .type "tuple", data := .seq items n } ∧ c ≠ pt ∧ (match i with
    | 0 => Cm.IsC h c pt (if 2 > items.size then 2 else 0) .none 0 1
    | k + 1 => ∃ a b old, Cm.prs items.size k = some (a, b) ∧ Cm.IsC h c pt 1 old a b)
theorem CmSt.ex {items : Array Value} {c pt n i : Nat} {h : Heap} (st : CmSt items c pt n i h) : ∃ fl old a b, Cm.IsC h c pt fl old a b := by
  obtain ⟨_, _, q⟩ := st
  cases i with
  | zero => exact ⟨_, _, _, _, q⟩
  | succ k =>
    obtain ⟨a, b, old, _, q⟩ := q
    exact ⟨_, _, _, _, q⟩
theorem turn_comb {P : Program} {w : World} {K : PySem.W.Frag} {tg : Expr} {xs : List V} {items : Array Value} {c pt n : Addr} (rv : Vals xs items.toList) : Turn P w K tg (Itcm xs) [c, pt] c (fun i h => CmSt items c pt n i h) where
  mem := by simp
  obj := fun i h st b hb => by
    have e' : b = c ∨ b = pt := by simpa using hb
    rcases e' with z | z
    · obtain ⟨fl, old, x, y, q⟩ := st.ex
      rw [z]
      exact ⟨_, q, fun v q => nomatch q⟩
    · rw [z]
      exact ⟨_, st.1, fun v q => nomatch q⟩
  keep := fun i h h' st k => by
    obtain ⟨h1, h2, q⟩ := st
    refine ⟨k pt (by simp) _ h1, h2, ?_⟩
    cases i with
    | zero => exact k c (by simp) _ q
    | succ j =>
      obtain ⟨a, b, old, e, q⟩ := q
      exact ⟨a, b, old, e, k c (by simp) _ q⟩
  item := by
    intro X hP hw hK hcm i pins s σ H E I hf st hg
    subst hP hw hK
    obtain ⟨⟨a, b⟩, hpr⟩ := hg
    have hl : xs.length = items.size := by
      have := rv.length
      simpa using this
    obtain ⟨hab, hbn⟩ := Cm.prs_ok hpr
    obtain ⟨x, hx⟩ : ∃ x, xs[a]? = some x := ⟨xs[a], List.getElem?_eq_getElem (by omega)⟩
    obtain ⟨y, hy⟩ : ∃ y, xs[b]? = some y := ⟨xs[b], List.getElem?_eq_getElem (by omega)⟩
    obtain ⟨u, hu, ru⟩ := rv.get hx
    obtain ⟨v, hv, rw2⟩ := rv.get hy
    have eu : items.getD a .none = u := by
      rw [Array.getD_eq_getD_getElem?, ← Array.getElem?_toList, hu]
      rfl
    have ev : items.getD b .none = v := by
      rw [Array.getD_eq_getD_getElem?, ← Array.getElem?_toList, hv]
      rfl
    obtain ⟨fl0, old0, x0, y0, q0⟩ := st.ex
    have hcl : c < s.heap.objs.size := Heap.lt_size q0
    obtain ⟨hpool, hne, q⟩ := st
    have fin : ∀ h', Cm.IsC h' c pt 1 (.ref s.heap.objs.size) a b → h'.get? s.heap.objs.size = some { cls := .type "tuple", data := .seq #[items.getD a .none, items.getD b .none] } → (∀ q o, q ≠ c → s.heap.get? q = some o → h'.get? q = some o) →
        ∃ u, (some (Value.ref s.heap.objs.size) : Option Value) = some u ∧ wpAny (model X.prog X.w) X.A (letOwnedTupleGo tg (.ref c) u) (fun _ s2 => ∃ x H', Inv X pins σ H' s2 ∧ RelV x u ∧ (Itcm xs).yld i H x H' ∧ CmSt items c pt n (i + 1) s2.heap ∧ ∀ b ∈ [c, pt], H' b = none) E { s with heap := h' } := fun h' g1 g2 g3 => by
      rw [eu, ev] at g2
      have new : ObjOk X.prog X.w (L2.upd H s.heap.objs.size (.tup [x, y])) h' s.heap.objs.size (.tup [x, y]) :=
        ⟨by show 2 ≤ sizeLine; decide, [u, v], .cons ru (.cons rw2 .nil), ⟨_, g2, rfl, _, rfl⟩⟩
      have I1 : Inv X pins σ (L2.upd H s.heap.objs.size (.tup [x, y])) { s with heap := h' } :=
        I.turnedNew (t' := s.toks) (ch := [c, pt]) (fun b ob hb q => g3 b ob (fun z => hb (by simp [z])) q) hf (Nat.le_refl _) new
      refine ⟨_, rfl, go_of (s := { s with heap := h' }) (n := "itertools.combinations") g1 rfl rfl (by decide) ⟨.ref s.heap.objs.size, _, I1, rfl, ⟨s.heap.objs.size, a, b, x, y, hpr, hx, hy, rfl, I.hok.fresh (Nat.le_refl _), rfl⟩, ⟨g3 pt _ (Ne.symm hne) hpool, hne, a, b, _, by rw [← hl]; exact hpr, g1⟩, fun z hz => ?_⟩⟩
      have hz' : z < s.heap.objs.size := by
        have e' : z = c ∨ z = pt := by simpa using hz
        rcases e' with k | k
        · rw [k]; exact hcl
        · rw [k]; exact Heap.lt_size hpool
      rw [L2.upd_ne (Nat.ne_of_lt hz')]
      exact (hf z hz).1
    cases i with
    | zero =>
      unfold Cm.prs at hpr
      by_cases z : 2 ≤ xs.length
      · rw [if_pos z] at hpr
        cases hpr
        rw [if_neg (by omega)] at q
        exact Cm.nextFirst q hpool hne fin
      · rw [if_neg z] at hpr
        cases hpr
    | succ k =>
      obtain ⟨a0, b0, old, e, q⟩ := q
      obtain ⟨l1, l2⟩ := Cm.prs_ok e
      have hpr' := hpr
      unfold Cm.prs at hpr'
      rw [hl, e] at hpr'
      exact Cm.nextMore q hpool hne l1 l2 hpr' fin
  done := by
    intro X hP hw hK hcm i pins s σ H E I hf st hg
    subst hP hw hK
    replace hg : Cm.prs xs.length i = none := hg
    have hl : xs.length = items.size := by
      have := rv.length
      simpa using this
    obtain ⟨hpool, hne, q⟩ := st
    have fin : ∀ h', Heap.ExtBut c s.heap h' → (none : Option Value) = none ∧ Inv X pins σ H { s with heap := h' } := fun h' eb =>
      ⟨rfl, I.turnedL (t' := s.toks) (ch := [c, pt]) (fun b o hb e => eb b o (fun z => hb (by simp [z])) e) hf⟩
    cases i with
    | zero =>
      unfold Cm.prs at hg
      by_cases z : 2 ≤ xs.length
      · rw [if_pos z] at hg
        cases hg
      · rw [if_pos (by omega)] at q
        exact Cm.nextNone (I.ok.hd hcm) q hpool hne fin
    | succ k =>
      obtain ⟨a0, b0, old, e, q⟩ := q
      obtain ⟨l1, l2⟩ := Cm.prs_ok e
      unfold Cm.prs at hg
      rw [hl, e] at hg
      exact Cm.nextEnd (I.ok.hd hcm) q hpool hne l1 l2 hg fin
  self := fun A i s Q E st h => let ⟨_, _, _, _, q⟩ := st.ex; Cm.iterC q h
def iCmb (K : PySem.W.Frag) (ta : TA) : TI := fun σ H R => ta σ H fun vs H1 => ∃ a xs, vs = [.ref a, .int 2] ∧ SqL K H1 a xs ∧ R (Itcm xs) H1
theorem pi_comb {X : Cx} {tg e e2 : Expr} {ta : TA} {p pos : Pos} (hg : Gl X "combinations") (hm : X.mg "combinations" = some (.type "itertools.combinations")) (ha : PA X [e, e2] ta)
    (hs : starEach [e, e2] X.env = (false, eval e X.env) :: starEach [e2] X.env := by rfl) (hpl : (backTo pos (starEach [e2] X.env)).any (·.1) = false := by rfl) :
    PI X tg (.Call (.Name "combinations" p) [e, e2] [] pos) (iCmb X.K ta) := by
  refine ⟨fun pins s σ H R I h => ?_⟩
  refine Call_ (ld_glob I hg hm (PyProof.Rows.callWith_type1 (thn (ha.run pos pins s σ H _ I h) fun us s1 ⟨vs, H1, I1, r1, q1⟩ => ?_) hs hpl))
  obtain ⟨a, xs, ex, hq, q⟩ := q1
  subst ex
  cases r1 with
  | cons r rr =>
    cases rr with
    | cons r' rr =>
      cases rr
      cases r
      obtain ⟨t, rfl⟩ := r'
      obtain ⟨its, rv, p', hz⟩ := I1.list hq
      have hlen := rv.length
      refine Cm.callC p'.isList (fun h' hk => ?_) (by simp only [List.size_toArray]; omega)
      have e1 : (h'.push { cls := .type "tuple", data := .seq its.toArray }).objs.size = h'.objs.size + 1 := Heap.size_push ..
      have g1 : ((h'.push { cls := .type "tuple", data := .seq its.toArray }).push { cls := .type "itertools.combinations", data := .fields #[.ref h'.objs.size, rawInt (if 2 > its.toArray.size then 2 else 0), .none, rawInt 0, rawInt 1] }).get? (h'.push { cls := .type "tuple", data := .seq its.toArray }).objs.size = _ := Heap.get?_push_size _ rfl
      have I2 : Inv X pins σ H1 { s1 with heap := h' } := I1.kept (t' := s1.toks) hk
      have I3 : Inv X pins σ H1 { s1 with heap := (h'.push { cls := .type "tuple", data := .seq its.toArray }).push { cls := .type "itertools.combinations", data := .fields #[.ref h'.objs.size, rawInt (if 2 > its.toArray.size then 2 else 0), .none, rawInt 0, rawInt 1] } } :=
        I2.kept (t' := s1.toks) fun b o e => Heap.get?_push_of_some _ (Heap.get?_push_of_some _ e)
      refine Cm.iterC (pt := h'.objs.size) g1 ⟨_, [_, h'.objs.size], _, Itcm xs, H1, rfl, I3, turn_comb (n := 0) (items := its.toArray) (by simpa using rv), ⟨Heap.get?_push_of_some _ (Heap.get?_push_size _ rfl), by rw [e1]; exact Nat.succ_ne_self _, g1⟩, fun b hb => ?_, q⟩
      have hle : h'.objs.size ≤ b := by
        have e' : b = (h'.push { cls := .type "tuple", data := .seq its.toArray }).objs.size ∨ b = h'.objs.size := by simpa using hb
        rcases e' with z | z
        · rw [z, e1]; exact Nat.le_succ _
        · rw [z]; exact Nat.le_refl _
      exact I2.fpOk hle (I2.hok.fresh hle)
end Sv

/-! Spreads: a row in which each step exchanges two neighbours, by the verifier. -/
namespace Sv
open PySem L2
def sprd (k : Nm) (n : Nat) (w : List Int) : List Int :=
  match k with
  | .pl => w
  | .mi => -(w.getD 0 0) :: w
  | .ri => w ++ [w.getD 0 0 + (n : Int)]
def swpS (l : List Int) (s : Nat) : List Int := (l.set s (l.getD (s + 1) 0)).set (s + 1) (l.getD s 0)
/-- a step done on a spread -/
def exIn (k : Nm) (l : List Int) (s : Nat) : List Int :=
  match k with
  | .pl => swpS l s
  | .mi => if s = 1 then (swpS l s).set 0 (-((swpS l s).getD 1 0)) else swpS l s
  | .ri => if s = 0 then (swpS l s).set (l.length - 1) ((swpS l s).getD 0 0 + ((l.length - 1 : Nat) : Int))
    else if s + 1 = l.length - 1 then (swpS l s).set 0 ((swpS l s).getD (l.length - 1) 0 - ((l.length - 1 : Nat) : Int)) else swpS l s
theorem swpS_len (l : List Int) (s : Nat) : (swpS l s).length = l.length := by unfold swpS; simp
theorem sprd_len {k : Nm} {n : Nat} {w : List Int} (hl : w.length = n) (hn : 1 ≤ n) : (sprd k n w).length = (many k n).toNat + 1 := by
  unfold sprd many
  cases k <;> simp <;> omega
theorem exIn_len (k : Nm) (l : List Int) (s : Nat) : (exIn k l s).length = l.length := by
  unfold exIn
  cases k
  · exact swpS_len l s
  · by_cases h : s = 1 <;> simp [h, swpS_len]
  · by_cases h : s = 0
    · simp [h, swpS_len]
    · by_cases h2 : s + 1 = l.length - 1 <;> simp [h, h2, swpS_len]
theorem sprd_at {k : Nm} {n : Nat} {w : List Int} {s : Nat} (hl : w.length = n) (hK : okK k n = true) (hs : okS k n (s : Int)) :
    exch k n w s = ((sprd k n w).getD s 0, (sprd k n w).getD (s + 1) 0) := by
  obtain ⟨_, hs⟩ := hs
  unfold many at hs
  unfold exch sprd
  cases k
  · rfl
  · rw [if_neg (by decide), if_neg (by decide)]
    cases s with
    | zero => rfl
    | succ j => rfl
  · rw [if_neg (by decide), if_pos rfl]
    have h1 : s < w.length := by rw [if_neg (by decide)] at hs; omega
    by_cases e : s + 1 = n
    · rw [if_pos e]
      simp only [List.getD_eq_getElem?_getD]
      rw [List.getElem?_append_left h1, List.getElem?_append_right (by omega), show s + 1 - w.length = 0 by omega]
      rfl
    · rw [if_neg e]
      simp only [List.getD_eq_getElem?_getD]
      rw [List.getElem?_append_left h1, List.getElem?_append_left (by omega)]
theorem ext_getDS {a b : List Int} (h : a.length = b.length) (g : ∀ i, i < a.length → a.getD i 0 = b.getD i 0) : a = b := by
  refine List.ext_getElem h fun i h1 h2 => ?_
  have := g i h1
  rw [List.getD_eq_getElem?_getD, List.getD_eq_getElem?_getD, List.getElem?_eq_getElem h1, List.getElem?_eq_getElem h2] at this
  exact this
theorem getD_setS (l : List Int) (i j : Nat) (x : Int) (h : i < l.length) : (l.set i x).getD j 0 = if j = i then x else l.getD j 0 := by
  rw [List.getD_eq_getElem?_getD, List.getElem?_set, List.getD_eq_getElem?_getD]
  by_cases e : j = i
  · subst e; simp [h]
  · rw [if_neg (Ne.symm e), if_neg e]
theorem after_lenS (k : Nm) (n : Nat) (w : List Int) (s : Nat) : (after k n w s).length = w.length := by
  unfold after
  repeat' split
  all_goals simp
theorem swpS_getD {l : List Int} {s : Nat} (h : s + 1 < l.length) (j : Nat) : (swpS l s).getD j 0 = if j = s + 1 then l.getD s 0 else if j = s then l.getD (s + 1) 0 else l.getD j 0 := by
  unfold swpS
  rw [getD_setS _ _ _ _ (by rw [List.length_set]; exact h), getD_setS _ _ _ _ (by omega)]
theorem getD_consS (x : Int) (l : List Int) (j : Nat) : (x :: l).getD j 0 = if j = 0 then x else l.getD (j - 1) 0 := by
  cases j with
  | zero => rfl
  | succ j => rfl
theorem getD_snocS (l : List Int) (x : Int) (j : Nat) (h : j ≤ l.length) : (l ++ [x]).getD j 0 = if j = l.length then x else l.getD j 0 := by
  rw [List.getD_eq_getElem?_getD]
  by_cases e : j = l.length
  · rw [List.getElem?_append_right (by omega), if_pos e, e, Nat.sub_self]; rfl
  · rw [List.getElem?_append_left (by omega), if_neg e, List.getD_eq_getElem?_getD]
theorem exIn_sprd {k : Nm} {n : Nat} {w : List Int} {s : Nat} (hl : w.length = n) (hK : okK k n = true) (hs : okS k n (s : Int)) : exIn k (sprd k n w) s = sprd k n (after k n w s) := by
  have hn := okK_le hK
  have hL := sprd_len (k := k) hl hn.1
  have hA : (after k n w s).length = n := (after_lenS k n w s).trans hl
  have hL2 := sprd_len (k := k) hA hn.1
  refine ext_getDS (by rw [exIn_len, hL, hL2]) fun j hj => ?_
  rw [exIn_len, hL] at hj
  obtain ⟨_, hs⟩ := hs
  have hsn : s < n := by unfold many at hs; split at hs <;> omega
  cases k
  · have h1 : s + 1 < n := by unfold many at hs; rw [if_pos rfl] at hs; omega
    show (swpS w s).getD j 0 = (after .pl n w s).getD j 0
    rw [swpS_getD (by omega)]
    unfold after exch
    simp only [if_true]
    rw [getD_setS _ _ _ _ (by rw [List.length_set]; omega), getD_setS _ _ _ _ (by omega)]
  · have hj' : j ≤ n := by unfold many at hj; rw [if_neg (by decide)] at hj; omega
    show (exIn .mi (-(w.getD 0 0) :: w) s).getD j 0 = (-((after .mi n w s).getD 0 0) :: after .mi n w s).getD j 0
    have hA2 : ∀ i, (after .mi n w s).getD i 0 = if s = 0 then (if i = 0 then -(w.getD 0 0) else w.getD i 0) else if i = s then w.getD (s - 1) 0 else if i = s - 1 then w.getD s 0 else w.getD i 0 := fun i => by
      unfold after exch
      by_cases e : s = 0
      · subst e
        simp only [reduceCtorEq, if_false, false_and, if_true]
        exact getD_setS _ _ _ _ (by omega)
      · simp only [reduceCtorEq, if_false, false_and, if_neg e]
        rw [getD_setS _ _ _ _ (by rw [List.length_set]; omega), getD_setS _ _ _ _ (by omega)]
    have hS : ∀ i, (swpS (-(w.getD 0 0) :: w) s).getD i 0 = if i = s + 1 then (-(w.getD 0 0) :: w).getD s 0 else if i = s then (-(w.getD 0 0) :: w).getD (s + 1) 0 else (-(w.getD 0 0) :: w).getD i 0 := fun i => swpS_getD (by simp; omega) i
    rw [getD_consS, hA2 0]
    unfold exIn
    dsimp only
    by_cases e1 : s = 1
    · subst e1
      rw [if_pos rfl, getD_setS _ _ _ _ (by rw [swpS_len]; simp)]
      rw [hS 1, hS j]
      simp only [getD_consS, hA2]
      by_cases j0 : j = 0
      · subst j0; simp
      · by_cases j1 : j = 1
        · subst j1; simp
        · by_cases j2 : j = 2
          · subst j2; simp
          · simp [j0, j1, j2, show ¬ j - 1 = 1 by omega, show ¬ j - 1 = 0 by omega]
    · rw [if_neg e1, hS j]
      simp only [getD_consS, hA2]
      by_cases e0 : s = 0
      · subst e0
        by_cases j0 : j = 0
        · subst j0; simp
        · by_cases j1 : j = 1
          · subst j1; simp
          · simp [j0, j1, show ¬ j - 1 = 0 by omega]
      · by_cases j0 : j = 0
        · subst j0
          simp [e0, show ¬ 0 = s by omega, show ¬ 0 = s - 1 by omega]
        · by_cases ja : j = s + 1
          · subst ja; simp [e0]
          · by_cases jb : j = s
            · subst jb; simp [e0, show ¬ j - 1 = j by omega]
            · simp [e0, j0, ja, jb, show ¬ j - 1 = s by omega, show ¬ j - 1 = s - 1 by omega]
  · have hj' : j ≤ n := by unfold many at hj; rw [if_neg (by decide)] at hj; omega
    have hn2 : 2 ≤ n := by have := of_decide_eq_true hK; omega
    show (exIn .ri (w ++ [w.getD 0 0 + (n : Int)]) s).getD j 0 = (after .ri n w s ++ [(after .ri n w s).getD 0 0 + (n : Int)]).getD j 0
    have hA2 : ∀ i, (after .ri n w s).getD i 0 = if s + 1 = n then (if i = 0 then w.getD s 0 - (n : Int) else if i = s then w.getD 0 0 + (n : Int) else w.getD i 0) else if i = s + 1 then w.getD s 0 else if i = s then w.getD (s + 1) 0 else w.getD i 0 := fun i => by
      unfold after exch
      by_cases e : s + 1 = n
      · simp only [reduceCtorEq, if_false, if_pos e, if_true, true_and]
        rw [getD_setS _ _ _ _ (by rw [List.length_set]; omega), getD_setS _ _ _ _ (by omega)]
      · simp only [reduceCtorEq, if_false, true_and, if_neg e, if_true]
        rw [getD_setS _ _ _ _ (by rw [List.length_set]; omega), getD_setS _ _ _ _ (by omega)]
    have hlen : (w ++ [w.getD 0 0 + (n : Int)]).length = n + 1 := by simp; omega
    have hS : ∀ i, (swpS (w ++ [w.getD 0 0 + (n : Int)]) s).getD i 0 = if i = s + 1 then (w ++ [w.getD 0 0 + (n : Int)]).getD s 0 else if i = s then (w ++ [w.getD 0 0 + (n : Int)]).getD (s + 1) 0 else (w ++ [w.getD 0 0 + (n : Int)]).getD i 0 := fun i => swpS_getD (by omega) i
    have hw : ∀ i, i ≤ n → (w ++ [w.getD 0 0 + (n : Int)]).getD i 0 = if i = n then w.getD 0 0 + (n : Int) else w.getD i 0 := fun i hi => by
      rw [getD_snocS _ _ _ (by omega), hl]
    rw [getD_snocS _ _ _ (by omega), hA]
    unfold exIn
    dsimp only
    rw [hlen, Nat.add_sub_cancel]
    by_cases e0 : s = 0
    · subst e0
      rw [if_pos rfl, getD_setS _ _ _ _ (by rw [swpS_len]; omega), hS 0, hS j, hw 0 (by omega), hw (0 + 1) (by omega), hw j hj', hA2 0, hA2 j]
      by_cases jn : j = n
      · subst jn
        simp [show ¬ 0 + 1 = j by omega, show ¬ 1 = j by omega]
      · by_cases j1 : j = 1
        · subst j1; simp [show ¬ 1 = n by omega, show ¬ 0 = n by omega]
        · by_cases j0 : j = 0
          · subst j0; simp [show ¬ 1 = n by omega, show ¬ 0 = n by omega]
          · simp [jn, j1, j0, show ¬ 1 = n by omega]
    · rw [if_neg e0]
      by_cases e1 : s + 1 = n
      · rw [if_pos e1, getD_setS _ _ _ _ (by rw [swpS_len]; omega), hS n, hS j, hw s (by omega), hw (s + 1) (by omega), hw j hj', hA2 0, hA2 j]
        by_cases j0 : j = 0
        · subst j0
          simp [e1, show ¬ 0 = n by omega, show ¬ s = n by omega]
        · by_cases jn : j = n
          · subst jn
            simp [e1, j0, show ¬ s = j by omega]
          · by_cases js : j = s
            · subst js
              simp [e1, j0, jn]
            · simp [e1, j0, jn, js]
      · rw [if_neg e1, hS j, hw s (by omega), hw (s + 1) (by omega), hw j hj', hA2 0, hA2 j]
        by_cases jn : j = n
        · subst jn
          simp [e1, show ¬ j = s + 1 by omega, show ¬ j = s by omega, show ¬ 0 = s by omega]
        · by_cases ja : j = s + 1
          · subst ja
            simp [e1, jn, show ¬ s = n by omega]
          · by_cases jb : j = s
            · subst jb
              simp [e1, jn]
            · simp [e1, jn, ja, jb]
theorem crossP_sprd {k : Nm} {n : Nat} {w : List Int} {s : Nat} (hl : w.length = n) (hK : okK k n = true) (hs : okS k n (s : Int)) : crossP k n w s = decide ((sprd k n w).getD (s + 1) 0 < (sprd k n w).getD s 0) := by
  unfold crossP
  rw [sprd_at hl hK hs]
end Sv

/-! The program's functions of orders are the law's: by the verifier. -/
namespace Sv
open PySem L2
theorem ext_getD {n : Nat} {a b : List Int} (ha : a.length = n) (hb : b.length = n) (h : ∀ i, i < n → a.getD i 0 = b.getD i 0) : a = b := by
  apply List.ext_getElem?
  intro i
  by_cases hi : i < n
  · have := h i hi
    rw [List.getD_eq_getElem?_getD, List.getD_eq_getElem?_getD, List.getElem?_eq_getElem (by omega), List.getElem?_eq_getElem (by omega)] at this
    rw [List.getElem?_eq_getElem (by omega), List.getElem?_eq_getElem (by omega)]
    exact congrArg some this
  · rw [List.getElem?_eq_none (by omega), List.getElem?_eq_none (by omega)]
theorem getD_set (w : List Int) (a i : Nat) (x : Int) : (w.set a x).getD i 0 = if i = a ∧ a < w.length then x else w.getD i 0 := by
  rw [List.getD_eq_getElem?_getD, List.getD_eq_getElem?_getD, List.getElem?_set]
  by_cases h : a = i
  · subst h
    by_cases h2 : a < w.length
    · simp [h2]
    · simp [h2]
  · rw [if_neg h, if_neg (fun z => h z.1.symm)]
theorem itemP_eq {k : Nm} {n : Nat} {w : List Int} {p : Int} (hp : okP k n p) : itemP k n w p = item k n w p := by
  unfold itemP item
  by_cases hk : k = .mi
  · rw [if_pos hk, if_pos hk]
    obtain ⟨h0, _⟩ := hp hk
    by_cases h : 0 < p
    · rw [if_pos h, sg_pos h, show (p - 1).toNat = p.natAbs - 1 by omega]
      omega
    · rw [if_neg h, sg_neg (by omega), show (-p - 1).toNat = p.natAbs - 1 by omega]
      omega
  · rw [if_neg hk, if_neg hk]
theorem item_in {k : Nm} (hk : k ≠ .mi) {n : Nat} {w : List Int} {i : Nat} (h : i < n) : item k n w (i : Int) = w.getD i 0 := by
  rw [item_nm hk, Int.emod_eq_of_lt (by omega) (by omega)]
  simp only [Int.toNat_natCast]
  omega
theorem after_len (k : Nm) (n : Nat) (w : List Int) (s : Nat) : (after k n w s).length = w.length := by
  unfold after
  repeat' split
  all_goals simp
theorem mod_near {n : Nat} {a : Int} (h1 : -(n : Int) < a) (h2 : a < (n : Int)) : a % (n : Int) = if a < 0 then a + n else a := by
  split
  · rw [← Int.add_emod_right]
    exact Int.emod_eq_of_lt (by omega) (by omega)
  · exact Int.emod_eq_of_lt (by omega) h2
theorem step_of {k : Nm} {n : Nat} {s : Int} (h : okS k n s) : ∃ t : Nat, s = (t : Int) := ⟨s.toNat, by have := h.1; omega⟩
theorem exch_mi0 (n : Nat) (w : List Int) : exch .mi n w 0 = (-(w.getD 0 0), w.getD 0 0) := rfl
theorem exch_mis {n : Nat} {w : List Int} {s : Nat} (h : s ≠ 0) : exch .mi n w s = (w.getD (s - 1) 0, w.getD s 0) := by
  unfold exch
  rw [if_neg (by decide), if_neg (by decide), if_neg h]
theorem exch_ril {n : Nat} {w : List Int} {s : Nat} (h : s + 1 = n) : exch .ri n w s = (w.getD s 0, w.getD 0 0 + (n : Int)) := by
  unfold exch
  rw [if_neg (by decide), if_pos rfl, if_pos h]
theorem after_mi0 (n : Nat) (w : List Int) : after .mi n w 0 = w.set 0 (-(w.getD 0 0)) := by
  unfold after
  rw [if_neg (by decide), if_neg (fun z => by cases z.1), if_neg (by decide), if_pos rfl]
  rfl
theorem after_mis {n : Nat} {w : List Int} {s : Nat} (h : s ≠ 0) : after .mi n w s = (w.set (s - 1) (w.getD s 0)).set s (w.getD (s - 1) 0) := by
  unfold after
  rw [if_neg (by decide), if_neg (fun z => by cases z.1), if_neg (by decide), if_neg h, exch_mis h]
theorem after_ril {n : Nat} {w : List Int} {s : Nat} (h : s + 1 = n) : after .ri n w s = (w.set s (w.getD 0 0 + (n : Int))).set 0 (w.getD s 0 - (n : Int)) := by
  unfold after
  rw [if_neg (by decide), if_pos ⟨rfl, h⟩, exch_ril h]
theorem after_in {k : Nm} {n : Nat} {w : List Int} {s : Nat} (hk : k ≠ .mi) (h : s + 1 < n) : after k n w s = (w.set s (w.getD (s + 1) 0)).set (s + 1) (w.getD s 0) := by
  unfold after exch
  by_cases hp : k = .pl
  · rw [if_pos hp, if_pos hp]
  · have hr : k = .ri := by cases k <;> simp_all
    rw [if_neg hp, if_neg hp, if_neg (fun z => by omega), if_pos hr, if_pos hr, if_neg (by omega)]
theorem after_eq {k : Nm} {n : Nat} {w : List Int} {s : Nat} (hK : okK k n = true) (hs : okS k n (s : Int)) (hl : w.length = n) : after k n w s = stepped k n w (s : Int) := by
  refine ext_getD (by rw [after_len]; exact hl) (stepped_len _ _ _ _) fun i hi => ?_
  rw [stepped_getD k n w _ i hi]
  by_cases hk : k = .mi
  · subst hk
    have h2 := okS_mi hs
    have e : off .mi + (i : Int) = (i : Int) + 1 := by show (1 : Int) + _ = _; omega
    rw [e, turned_mi' n _ _ (by omega) h2.1]
    by_cases h0 : s = 0
    · subst h0
      rw [after_mi0, if_pos (by rfl), getD_set]
      by_cases hi0 : i = 0
      · subst hi0
        rw [if_pos ⟨rfl, by omega⟩, if_pos (by omega), item_mi, sg_neg (by omega)]
        show -(w.getD 0 0) = w.getD 0 0 * -1
        omega
      · rw [if_neg (by omega), if_neg (by omega), item_mi, sg_pos (by omega), show ((i : Int) + 1).natAbs - 1 = i by omega]
        omega
    · rw [after_mis h0, if_neg (by omega), getD_set, getD_set, List.length_set]
      by_cases h1 : i = s
      · subst h1
        rw [if_pos ⟨rfl, by omega⟩, if_neg (by omega), if_pos (by omega), item_mi, sg_pos (by omega), show ((i : Int)).natAbs - 1 = i - 1 by omega]
        omega
      · rw [if_neg (by omega)]
        by_cases h3 : i = s - 1
        · rw [if_pos ⟨h3, by omega⟩, if_pos (by omega), item_mi, sg_pos (by omega), show ((s : Int) + 1).natAbs - 1 = s by omega]
          omega
        · rw [if_neg (by omega), if_neg (by omega), if_neg (by omega), if_neg (by omega), if_neg (by omega), item_mi, sg_pos (by omega), show ((i : Int) + 1).natAbs - 1 = i by omega]
          omega
  · have h2 := okS_two hK hk hs
    have e : off k + (i : Int) = (i : Int) := by unfold off; rw [if_neg hk]; omega
    have hsn : s < n := by
      obtain ⟨_, h⟩ := hs
      unfold many at h
      split at h <;> omega
    rw [e, turned_nm hk, mod_near (a := (i : Int) - (s : Int)) (by omega) (by omega)]
    by_cases hp : k = .pl ∨ s + 1 < n
    · have hs1 : s + 1 < n := by
        rcases hp with rfl | h
        · obtain ⟨_, h⟩ := hs
          unfold many at h
          rw [if_pos rfl] at h
          omega
        · exact h
      rw [after_in hk hs1, getD_set, getD_set, List.length_set]
      by_cases h1 : i = s
      · subst h1
        rw [if_neg (by omega), if_pos ⟨rfl, by omega⟩, if_pos (by split <;> omega)]
        have := item_in hk (w := w) (i := i + 1) hs1
        exact this.symm
      · by_cases h3 : i = s + 1
        · subst h3
          rw [if_pos ⟨rfl, by omega⟩, if_neg (by split <;> omega), if_pos (by split <;> omega)]
          have := item_in hk (w := w) (i := s) hsn
          rw [← this]
          congr 1
          omega
        · rw [if_neg (by omega), if_neg (by omega), if_neg (by split <;> omega), if_neg (by split <;> omega)]
          exact (item_in hk hi).symm
    · have hr : k = .ri := by cases k <;> simp_all
      subst hr
      have hs1 : s + 1 = n := by
        have : ¬ s + 1 < n := fun z => hp (.inr z)
        omega
      rw [after_ril hs1, getD_set, getD_set, List.length_set]
      by_cases h1 : i = s
      · subst h1
        rw [if_neg (by omega), if_pos ⟨rfl, by omega⟩, if_pos (by split <;> omega), item_nm hk]
        have e1 : ((i : Int) + 1) = (n : Int) := by omega
        rw [e1, Int.emod_self]
        show w.getD 0 0 + (n : Int) = w.getD 0 0 + (n : Int) - 0
        omega
      · by_cases h3 : i = 0
        · subst h3
          rw [if_pos ⟨rfl, by omega⟩, if_neg (by split <;> omega), if_pos (by split <;> omega), item_nm hk, mod_near (by omega) (by omega), if_pos (by omega), show ((((0 : Nat) : Int) - 1 + (n : Int))).toNat = s by omega]
          omega
        · rw [if_neg (by omega), if_neg (by omega), if_neg (by split <;> omega), if_neg (by split <;> omega)]
          exact (item_in hk hi).symm
theorem cross_eq {k : Nm} {n : Nat} {w : List Int} {s : Nat} (hK : okK k n = true) (hs : okS k n (s : Int)) (hl : w.length = n) : crossP k n w s = crossed k n w (s : Int) := by
  unfold crossP crossed
  by_cases hk : k = .mi
  · subst hk
    have h2 := okS_mi hs
    unfold exch low
    rw [if_neg (by decide), if_neg (by decide), if_pos rfl]
    by_cases h0 : s = 0
    · subst h0
      rw [if_pos rfl, if_neg (by omega), turned_mi' n _ _ (by omega) (by omega), if_pos (by rfl), if_pos (by omega), item_mi, item_mi, sg_pos (by omega), sg_neg (by omega)]
      show decide (w.getD 0 0 < -(w.getD 0 0)) = decide (w.getD 0 0 * 1 < w.getD 0 0 * -1)
      congr 1
      rw [Int.mul_one, Int.mul_neg, Int.mul_one]
    · rw [if_neg h0, if_pos (by omega), turned_mi' n _ _ (by omega) (by omega), if_neg (by omega), if_pos rfl, item_mi, item_mi, sg_pos (by omega), sg_pos (by omega), Int.mul_one, Int.mul_one, show ((s : Int) + 1).natAbs - 1 = s by omega, show ((s : Int)).natAbs - 1 = s - 1 by omega]
  · have h2 := okS_two hK hk hs
    have hsn : s < n := by
      obtain ⟨_, h⟩ := hs
      unfold many at h
      split at h <;> omega
    have el : low k (s : Int) = (s : Int) := by unfold low; rw [if_neg hk]
    rw [el, turned_nm hk, if_pos (by rw [Int.sub_self]; rfl), item_in hk hsn]
    by_cases hp : k = .pl ∨ s + 1 < n
    · have hs1 : s + 1 < n := by
        rcases hp with rfl | h
        · obtain ⟨_, h⟩ := hs
          unfold many at h
          rw [if_pos rfl] at h
          omega
        · exact h
      have := item_in hk (w := w) (i := s + 1) hs1
      rw [show ((s : Int) + 1) = ((s + 1 : Nat) : Int) by omega, this]
      unfold exch
      by_cases hp : k = .pl
      · rw [if_pos hp]
      · have hr : k = .ri := by cases k <;> simp_all
        rw [if_neg hp, if_pos hr, if_neg (by omega)]
    · have hr : k = .ri := by cases k <;> simp_all
      subst hr
      have hs1 : s + 1 = n := by
        have : ¬ s + 1 < n := fun z => hp (.inr z)
        omega
      unfold exch
      rw [if_neg (by decide), if_pos rfl, if_pos hs1, item_nm hk, show ((s : Int) + 1) = (n : Int) by omega, Int.emod_self]
      show decide (w.getD 0 0 + (n : Int) < w.getD s 0) = decide (w.getD 0 0 + (n : Int) - 0 < w.getD s 0)
      rw [Int.sub_zero]
/-! ### sums over pairs -/
def sumP (f : Int → Int → Int) : List Int → Int
  | [] => 0
  | x :: w => (w.map (f x)).sum + sumP f w
theorem sum_perm {xs ys : List Int} (h : xs.Perm ys) : xs.sum = ys.sum := by
  induction h with
  | nil => rfl
  | cons x _ ih => rw [List.sum_cons, List.sum_cons, ih]
  | swap x y l => rw [List.sum_cons, List.sum_cons, List.sum_cons, List.sum_cons]; omega
  | trans _ _ a b => rw [a, b]
theorem swap_perm (l r : List Int) (x y : Int) : (l ++ x :: y :: r).Perm (l ++ y :: x :: r) := List.Perm.append_left l (List.Perm.swap y x r)
theorem sumP_swap (f : Int → Int → Int) (x y : Int) (r : List Int) : ∀ l : List Int, sumP f (l ++ y :: x :: r) = sumP f (l ++ x :: y :: r) + f y x - f x y
  | [] => by
    show ((x :: r).map (f y)).sum + ((r.map (f x)).sum + sumP f r) = ((y :: r).map (f x)).sum + ((r.map (f y)).sum + sumP f r) + f y x - f x y
    rw [List.map_cons, List.map_cons, List.sum_cons, List.sum_cons]
    omega
  | a :: l => by
    show ((l ++ y :: x :: r).map (f a)).sum + sumP f (l ++ y :: x :: r) = ((l ++ x :: y :: r).map (f a)).sum + sumP f (l ++ x :: y :: r) + f y x - f x y
    rw [sumP_swap f x y r l, sum_perm ((swap_perm l r x y).map (f a))]
    omega
theorem sumP_snoc (f : Int → Int → Int) (x : Int) : ∀ w : List Int, sumP f (w ++ [x]) = sumP f w + (w.map fun a => f a x).sum
  | [] => rfl
  | a :: w => by
    show ((w ++ [x]).map (f a)).sum + sumP f (w ++ [x]) = (w.map (f a)).sum + sumP f w + ((a :: w).map fun a => f a x).sum
    rw [sumP_snoc f x w, List.map_append, List.sum_append, List.map_cons, List.map_cons, List.map_nil, List.sum_cons, List.sum_cons, List.sum_nil]
    omega
theorem pairsTo_sum (g : Int × Int → Int) (w : List Int) : ∀ b : Nat, b ≤ w.length → ((pairsTo w b).map g).sum = sumP (fun x y => g (x, y)) (w.take b)
  | 0, _ => rfl
  | b + 1, h => by
    have e : w.take (b + 1) = w.take b ++ [w.getD b 0] := by
      rw [List.take_add_one, List.getD_eq_getElem?_getD, List.getElem?_eq_getElem (by omega)]
      rfl
    rw [e, sumP_snoc, ← pairsTo_sum g w b (by omega)]
    show ((pairsTo w b ++ rowPairs w b).map g).sum = _
    rw [List.map_append, List.sum_append]
    congr 1
    unfold rowPairs
    rw [List.map_map]
    congr 1
    apply List.ext_getElem?
    intro i
    rw [List.getElem?_map, List.getElem?_map, List.getElem?_take]
    by_cases hi : i < b
    · rw [List.getElem?_range hi, if_pos hi, List.getElem?_eq_getElem (by omega)]
      show some (g (w.getD i 0, w.getD b 0)) = some (g (w[i], w.getD b 0))
      rw [List.getD_eq_getElem?_getD (i := i), List.getElem?_eq_getElem (by omega)]
      rfl
    · rw [if_neg hi, List.getElem?_eq_none (by rw [List.length_range]; omega)]
      rfl
theorem pairsL_sum (g : Int × Int → Int) (w : List Int) : ((pairsL w).map g).sum = sumP (fun x y => g (x, y)) w := by
  have := pairsTo_sum g w w.length (Nat.le_refl _)
  rw [List.take_length] at this
  exact this
theorem filter_sum {α : Type} (p : α → Bool) : ∀ l : List α, ((l.filter p).length : Int) = (l.map fun x => if p x then (1 : Int) else 0).sum
  | [] => rfl
  | a :: l => by
    rw [List.map_cons, List.sum_cons, ← filter_sum p l, List.filter_cons]
    by_cases h : p a = true
    · rw [if_pos h, if_pos h, List.length_cons]
      omega
    · rw [if_neg h, if_neg h]
      omega
def fLt (x y : Int) : Int := if y < x then 1 else 0
def fNg (x y : Int) : Int := if x + y < 0 then 1 else 0
def gNg (x : Int) : Int := if x < 0 then 1 else 0
def fRi (n : Nat) (x y : Int) : Int := absI ((y - x) / (n : Int))
theorem dec_if {p : Prop} [Decidable p] : (if decide p = true then (1 : Int) else 0) = if p then 1 else 0 := by
  by_cases h : p <;> simp [h]
theorem crP_pl (n : Nat) (w : List Int) : crP .pl n w = sumP fLt w := by
  unfold crP
  rw [if_neg (by decide), if_neg (by decide), filter_sum, pairsL_sum]
  congr 1
  funext x y
  exact dec_if
theorem crP_mi (n : Nat) (w : List Int) : crP .mi n w = sumP fLt w + (w.map gNg).sum + sumP fNg w := by
  unfold crP
  rw [if_neg (by decide), if_pos rfl, filter_sum, filter_sum, filter_sum, pairsL_sum, pairsL_sum]
  congr 1
  · congr 1
    · congr 1
      funext x y
      exact dec_if
    · congr 1
      apply List.map_congr_left
      intro x _
      exact dec_if
  · congr 1
    funext x y
    exact dec_if
theorem crP_ri (n : Nat) (w : List Int) : crP .ri n w = sumP (fRi n) w := by
  unfold crP
  rw [if_pos rfl, pairsL_sum]
  rfl
end Sv

/-! Crossings change by one at a step; forms stay; what no step crosses is the start: by the verifier. -/
namespace Sv
open PySem L2
theorem startL_nodup (k : Nm) (n : Nat) : (startL k n).Nodup := by
  unfold startL
  rw [List.nodup_iff_pairwise_ne, List.pairwise_map]
  refine List.Pairwise.imp ?_ (List.pairwise_lt_range (n := n))
  intro a b h
  omega
theorem split2 {w : List Int} {s : Nat} (h : s + 1 < w.length) : ∃ l x y r, w = l ++ x :: y :: r ∧ l.length = s := by
  refine ⟨w.take s, w[s], w[s + 1], w.drop (s + 2), ?_, by rw [List.length_take]; omega⟩
  rw [← List.drop_eq_getElem_cons, ← List.drop_eq_getElem_cons, List.take_append_drop]
theorem getD_l {l r : List Int} {x : Int} : (l ++ x :: r).getD l.length 0 = x := by
  rw [List.getD_eq_getElem?_getD, List.getElem?_append_right (Nat.le_refl _), Nat.sub_self]
  rfl
theorem getD_l1 {l r : List Int} {x y : Int} : (l ++ x :: y :: r).getD (l.length + 1) 0 = y := by
  rw [List.getD_eq_getElem?_getD, List.getElem?_append_right (by omega), show l.length + 1 - l.length = 1 by omega]
  rfl
theorem set_l {l r : List Int} {x y a b : Int} : ((l ++ x :: y :: r).set l.length a).set (l.length + 1) b = l ++ a :: b :: r := by
  rw [List.set_append_right _ _ (Nat.le_refl _), Nat.sub_self, List.set_append_right _ _ (by omega), show l.length + 1 - l.length = 1 by omega]
  rfl
theorem nodup_mid {l r : List Int} {x y : Int} (h : (l ++ x :: y :: r).Nodup) : x ≠ y := by
  have := (List.nodup_append.mp h).2.1
  rw [List.nodup_cons] at this
  intro e
  exact this.1 (e ▸ List.mem_cons_self)
theorem lt_swap {x y : Int} (h : x ≠ y) : fLt y x - fLt x y = if y < x then -1 else 1 := by
  unfold fLt
  repeat' split
  all_goals omega
theorem ng_swap (x y : Int) : fNg y x = fNg x y := by
  unfold fNg
  rw [Int.add_comm]
theorem ri_swap {n : Nat} {x y : Int} (hn : 2 ≤ n ∧ n ≤ 7) (h : x % (n : Int) ≠ y % (n : Int)) : fRi n y x - fRi n x y = if y < x then -1 else 1 := by
  unfold fRi absI
  rcases upto7 hn with rfl | rfl | rfl | rfl | rfl | rfl <;> (repeat' split) <;> omega
theorem ri_turn1 {n : Nat} {x a : Int} (hn : 2 ≤ n ∧ n ≤ 7) (h : x % (n : Int) ≠ a % (n : Int)) : fRi n (x - n) a = fRi n a x := by
  unfold fRi absI
  rcases upto7 hn with rfl | rfl | rfl | rfl | rfl | rfl <;> (repeat' split) <;> omega
theorem ri_turn2 {n : Nat} {x a : Int} (hn : 2 ≤ n ∧ n ≤ 7) (h : x % (n : Int) ≠ a % (n : Int)) : fRi n a (x + n) = fRi n x a := by
  unfold fRi absI
  rcases upto7 hn with rfl | rfl | rfl | rfl | rfl | rfl <;> (repeat' split) <;> omega
theorem ri_turn3 {n : Nat} {x y : Int} (hn : 2 ≤ n ∧ n ≤ 7) (h : x % (n : Int) ≠ y % (n : Int)) : fRi n (y - n) (x + n) - fRi n x y = if x + n < y then -1 else 1 := by
  unfold fRi absI
  rcases upto7 hn with rfl | rfl | rfl | rfl | rfl | rfl <;> (repeat' split) <;> omega
theorem mi_turn1 {x a : Int} (h : absI x ≠ absI a) : fLt (-x) a + fNg (-x) a = fLt x a + fNg x a := by
  unfold absI at h
  unfold fLt fNg
  (repeat' split at h) <;> (repeat' split) <;> omega
theorem sum_congr2 {f g f' g' : Int → Int} : ∀ {m : List Int}, (∀ a ∈ m, f a + g a = f' a + g' a) → (m.map f).sum + (m.map g).sum = (m.map f').sum + (m.map g').sum
  | [], _ => rfl
  | a :: m, h => by
    have h1 := sum_congr2 (m := m) fun b hb => h b (List.mem_cons_of_mem _ hb)
    have h2 := h a List.mem_cons_self
    simp only [List.map_cons, List.sum_cons]
    omega
theorem pl_ne {n : Nat} {l r : List Int} {x y : Int} (h : Form .pl n (l ++ x :: y :: r)) : x ≠ y := nodup_mid (h.2.nodup_iff.mpr (startL_nodup _ _))
theorem mi_ne {n : Nat} {l r : List Int} {x y : Int} (h : Form .mi n (l ++ x :: y :: r)) : absI x ≠ absI y := by
  have : ((l ++ x :: y :: r).map absI).Nodup := h.2.nodup_iff.mpr (startL_nodup _ _)
  rw [List.map_append, List.map_cons, List.map_cons] at this
  exact nodup_mid this
theorem ri_ne {n : Nat} {l r : List Int} {x y : Int} (h : Form .ri n (l ++ x :: y :: r)) : x % (n : Int) ≠ y % (n : Int) := by
  have : ((l ++ x :: y :: r).map fun x => x % (n : Int)).Nodup := h.2.2.nodup_iff.mpr (startL_nodup _ _)
  rw [List.map_append, List.map_cons, List.map_cons] at this
  exact nodup_mid this
/-- a ring's list, its first and last item apart -/
theorem splitE {w : List Int} {n : Nat} (hn : 2 ≤ n) (hl : w.length = n) : ∃ x m y, w = x :: (m ++ [y]) ∧ m.length + 2 = n := by
  cases w with
  | nil => simp at hl; omega
  | cons x w =>
    rcases List.eq_nil_or_concat w with rfl | ⟨m, y, rfl⟩
    · simp at hl; omega
    · refine ⟨x, m, y, by simp, ?_⟩
      simp at hl
      omega
theorem E_first {x y : Int} {m : List Int} : (x :: (m ++ [y])).getD 0 0 = x := rfl
theorem E_last {x y : Int} {m : List Int} : (x :: (m ++ [y])).getD (m.length + 1) 0 = y := by
  show (m ++ [y]).getD m.length 0 = y
  exact getD_l
theorem E_set {x y a b : Int} {m : List Int} : ((x :: (m ++ [y])).set (m.length + 1) a).set 0 b = b :: (m ++ [a]) := by
  show b :: (m ++ [y]).set m.length a = _
  rw [List.set_append_right _ _ (Nat.le_refl _), Nat.sub_self]
  rfl
theorem ri_all {n : Nat} {x y : Int} {m : List Int} (h : Form .ri n (x :: (m ++ [y]))) : (∀ a ∈ m, x % (n : Int) ≠ a % (n : Int) ∧ y % (n : Int) ≠ a % (n : Int)) ∧ x % (n : Int) ≠ y % (n : Int) := by
  have : ((x :: (m ++ [y])).map fun x => x % (n : Int)).Nodup := h.2.2.nodup_iff.mpr (startL_nodup _ _)
  rw [List.map_cons, List.map_append, List.nodup_cons, List.nodup_append] at this
  obtain ⟨h1, h2, h3, h4⟩ := this
  refine ⟨fun a ha => ⟨fun e => h1 ?_, fun e => ?_⟩, fun e => h1 ?_⟩
  · rw [e]
    exact List.mem_append_left _ (List.mem_map_of_mem ha)
  · exact h4 _ (List.mem_map_of_mem ha) _ (List.mem_cons_self) e.symm
  · rw [e]
    exact List.mem_append_right _ (List.mem_cons_self)
theorem mi_all {n : Nat} {x : Int} {m : List Int} (h : Form .mi n (x :: m)) : (∀ a ∈ m, absI x ≠ absI a) ∧ x ≠ 0 := by
  have h0 := h.2
  have : ((x :: m).map absI).Nodup := h0.nodup_iff.mpr (startL_nodup _ _)
  rw [List.map_cons, List.nodup_cons] at this
  refine ⟨fun a ha e => this.1 (by rw [e]; exact List.mem_map_of_mem ha), fun e => ?_⟩
  have : absI x ∈ startL .mi n := h0.mem_iff.mp (by rw [List.map_cons]; exact List.mem_cons_self)
  obtain ⟨i, _, e2⟩ := mem_startL this
  rw [e] at e2
  have : (0 : Int) = 1 + (i : Int) := e2
  omega
theorem bool_if {c : Prop} [Decidable c] {b : Bool} (h : b = decide c) : (if b = true then (-1 : Int) else 1) = if c then -1 else 1 := by
  subst h
  by_cases hc : c <;> simp [hc]
/-- a swap of two items that stand together -/
theorem swap_in {k : Nm} {n : Nat} {l r : List Int} {x y : Int} (hK : okK k n = true) (hF : Form k n (l ++ x :: y :: r)) :
    crP k n (l ++ y :: x :: r) = crP k n (l ++ x :: y :: r) + (if y < x then -1 else 1) ∧ Form k n (l ++ y :: x :: r) := by
  have pm := swap_perm l r x y
  refine ⟨?_, ?_⟩
  · cases k with
    | pl =>
      have := lt_swap (pl_ne hF)
      rw [crP_pl, crP_pl, sumP_swap]
      omega
    | mi =>
      have h1 := mi_ne hF
      have h2 : x ≠ y := fun e => h1 (by rw [e])
      have := lt_swap h2
      rw [crP_mi, crP_mi, sumP_swap, sumP_swap fNg, ng_swap x y, sum_perm (pm.symm.map gNg)]
      omega
    | ri =>
      have h2 := of_decide_eq_true hK
      have := ri_swap ⟨h2.1, by omega⟩ (ri_ne hF)
      rw [crP_ri, crP_ri, sumP_swap]
      omega
  · obtain ⟨hl, hf⟩ := hF
    refine ⟨by rw [← hl]; exact pm.symm.length_eq, ?_⟩
    cases k with
    | pl => exact pm.symm.trans hf
    | mi => exact (pm.symm.map absI).trans hf
    | ri => exact ⟨by rw [← hf.1]; exact sum_perm pm.symm, (pm.symm.map _).trans hf.2⟩
theorem step_in {k : Nm} {n : Nat} {w : List Int} {s : Nat} (hk : k ≠ .mi) (h : s + 1 < n) : crossP k n w s = decide (w.getD (s + 1) 0 < w.getD s 0) := by
  unfold crossP exch
  by_cases hp : k = .pl
  · rw [if_pos hp]
  · have hr : k = .ri := by cases k <;> simp_all
    rw [if_neg hp, if_pos hr, if_neg (by omega)]
theorem cr_step {k : Nm} {n : Nat} {w : List Int} {s : Nat} (hK : okK k n = true) (hs : okS k n (s : Int)) (hF : Form k n w) :
    crP k n (after k n w s) = crP k n w + (if crossP k n w s = true then -1 else 1) ∧ Form k n (after k n w s) := by
  have hl := hF.1
  by_cases hk : k = .mi
  · subst hk
    have h2 := okS_mi hs
    by_cases h0 : s = 0
    · subst h0
      rw [after_mi0, bool_if (c := w.getD 0 0 < -(w.getD 0 0)) (by unfold crossP; rw [exch_mi0])]
      cases w with
      | nil => simp at hl; omega
      | cons x m =>
        obtain ⟨ha, hx⟩ := mi_all hF
        show crP .mi n (-x :: m) = crP .mi n (x :: m) + (if x < -x then -1 else 1) ∧ Form .mi n (-x :: m)
        refine ⟨?_, ?_⟩
        · rw [crP_mi, crP_mi]
          simp only [sumP, List.map_cons, List.sum_cons]
          have := sum_congr2 (f := fLt (-x)) (g := fNg (-x)) (f' := fLt x) (g' := fNg x) (m := m) fun a h => mi_turn1 (ha a h)
          have e : gNg (-x) = gNg x + (if x < -x then -1 else 1) := by
            unfold gNg
            repeat' split
            all_goals omega
          omega
        · refine ⟨hl, ?_⟩
          have e : absI (-x) = absI x := by
            unfold absI
            repeat' split
            all_goals omega
          show ((-x :: m).map absI).Perm _
          rw [List.map_cons, e]
          exact hF.2
    · obtain ⟨l, x, y, r, rfl, e⟩ := split2 (w := w) (s := s - 1) (by omega)
      have es : s = l.length + 1 := by omega
      subst es
      rw [after_mis h0, Nat.add_sub_cancel, getD_l, getD_l1, set_l, bool_if (c := y < x) (by unfold crossP; rw [exch_mis h0, Nat.add_sub_cancel, getD_l, getD_l1])]
      exact swap_in hK hF
  · have h2 := okS_two hK hk hs
    have hsn : s < n := by
      obtain ⟨_, h⟩ := hs
      unfold many at h
      split at h <;> omega
    by_cases hs1 : s + 1 < n
    · obtain ⟨l, x, y, r, rfl, e⟩ := split2 (w := w) (s := s) (by omega)
      subst e
      rw [after_in hk hs1, getD_l, getD_l1, set_l, bool_if (c := y < x) (by rw [step_in hk hs1, getD_l, getD_l1])]
      exact swap_in hK hF
    · have hr : k = .ri := by
        cases k with
        | mi => exact absurd rfl hk
        | pl =>
          obtain ⟨_, h⟩ := hs
          unfold many at h
          rw [if_pos rfl] at h
          omega
        | ri => rfl
      subst hr
      have he : s + 1 = n := by omega
      obtain ⟨x, m, y, rfl, em⟩ := splitE h2.1 hl
      have es : s = m.length + 1 := by omega
      subst es
      obtain ⟨ha, hxy⟩ := ri_all hF
      rw [after_ril he, E_first, E_last, E_set, bool_if (c := x + (n : Int) < y) (by unfold crossP; rw [exch_ril he, E_first, E_last])]
      refine ⟨?_, ?_⟩
      · rw [crP_ri, crP_ri]
        show ((m ++ [x + (n : Int)]).map (fRi n (y - n))).sum + sumP (fRi n) (m ++ [x + (n : Int)]) = ((m ++ [y]).map (fRi n x)).sum + sumP (fRi n) (m ++ [y]) + _
        rw [sumP_snoc, sumP_snoc]
        simp only [List.map_append, List.map_cons, List.map_nil, List.sum_append, List.sum_cons, List.sum_nil]
        have h3 := ri_turn3 h2 hxy
        have e1 : m.map (fRi n (y - n)) = m.map (fun a => fRi n a y) := List.map_congr_left fun a h => ri_turn1 h2 (ha a h).2
        have e2 : m.map (fun a => fRi n a (x + n)) = m.map (fRi n x) := List.map_congr_left fun a h => ri_turn2 h2 (ha a h).1
        rw [e1, e2]
        omega
      · obtain ⟨_, hsum, hp⟩ := hF
        refine ⟨by simp at hl ⊢; omega, ?_, ?_⟩
        · rw [← hsum]
          simp only [List.sum_cons, List.sum_append, List.sum_nil]
          omega
        · refine List.Perm.trans ?_ hp
          simp only [List.map_cons, List.map_append, List.map_nil, Int.add_emod_right, Int.sub_emod_right]
          refine List.Perm.trans (List.perm_append_comm (l₁ := (y % (n : Int)) :: _) (l₂ := [x % (n : Int)])) ?_
          refine List.Perm.cons _ ?_
          exact (List.perm_append_comm (l₁ := [y % (n : Int)]))
/-! ### what no step crosses -/
theorem adj_le {w : List Int} (h : ∀ i, i + 1 < w.length → w.getD i 0 ≤ w.getD (i + 1) 0) : ∀ j i, i ≤ j → j < w.length → w.getD i 0 ≤ w.getD j 0
  | 0, i, hi, hj => by
    have : i = 0 := by omega
    subst this
    exact Int.le_refl _
  | j + 1, i, hi, hj => by
    by_cases e : i = j + 1
    · subst e
      exact Int.le_refl _
    · exact Int.le_trans (adj_le h j i (by omega) (by omega)) (h j hj)
theorem sorted_adj {w : List Int} (h : ∀ i, i + 1 < w.length → w.getD i 0 ≤ w.getD (i + 1) 0) : w.Pairwise (· ≤ ·) := by
  rw [List.pairwise_iff_getElem]
  intro i j hi hj hij
  have := adj_le h j i (by omega) hj
  rw [List.getD_eq_getElem?_getD, List.getD_eq_getElem?_getD, List.getElem?_eq_getElem hi, List.getElem?_eq_getElem hj] at this
  exact this
theorem form_start {k : Nm} {n : Nat} (hK : okK k n = true) : Form k n (startL k n) := by
  refine ⟨startL_len _ _, ?_⟩
  cases k with
  | pl => exact List.Perm.refl _
  | mi =>
    have e : (startL .mi n).map absI = startL .mi n := by
      unfold startL
      rw [List.map_map]
      apply List.map_congr_left
      intro i _
      show absI (1 + (i : Int)) = 1 + (i : Int)
      unfold absI
      rw [if_neg (by omega)]
    show ((startL .mi n).map absI).Perm _
    rw [e]
  | ri =>
    have h2 := of_decide_eq_true hK
    have : n = 2 ∨ n = 3 ∨ n = 4 ∨ n = 5 := by omega
    rcases this with rfl | rfl | rfl | rfl
    · exact ⟨rfl, List.Perm.refl _⟩
    · exact ⟨rfl, List.Perm.refl _⟩
    · exact ⟨rfl, List.Perm.refl _⟩
    · exact ⟨rfl, List.Perm.refl _⟩
theorem nofall {k : Nm} {n : Nat} {w : List Int} (hK : okK k n = true) (hF : Form k n w) (h : ∀ s : Nat, okS k n (s : Int) → crossP k n w s = false) : w = startL k n := by
  have hl := hF.1
  have hn := okK_le hK
  cases k with
  | pl =>
    refine sorted_start (List.Perm.refl _) (sorted_adj fun i hi => ?_) hF.2
    have := h i ⟨by omega, by unfold many; rw [if_pos rfl]; omega⟩
    rw [step_in (by decide) (by omega)] at this
    have := of_decide_eq_false this
    omega
  | mi =>
    have hs : w.Pairwise (· ≤ ·) := sorted_adj fun i hi => by
      have := h (i + 1) ⟨by omega, by unfold many; rw [if_neg (by decide)]; omega⟩
      unfold crossP at this
      rw [exch_mis (by omega)] at this
      have := of_decide_eq_false this
      rw [Nat.add_sub_cancel] at this
      omega
    have h0 := h 0 ⟨by omega, by unfold many; rw [if_neg (by decide)]; omega⟩
    unfold crossP at h0
    rw [exch_mi0] at h0
    have h0 := of_decide_eq_false h0
    have e : w.map absI = w := by
      have : ∀ a ∈ w, absI a = a := by
        intro a ha
        cases w with
        | nil => cases ha
        | cons x m =>
          have hx : 0 ≤ x := by
            have : ¬ x < -x := h0
            omega
          have hxa : x ≤ a := by
            rcases List.mem_cons.mp ha with rfl | hm
            · exact Int.le_refl _
            · exact (List.pairwise_cons.mp hs).1 a hm
          unfold absI
          rw [if_neg (by omega)]
      rw [List.map_congr_left this, List.map_id']
    have hp := hF.2
    change (w.map absI).Perm _ at hp
    rw [e] at hp
    exact sorted_start (List.Perm.refl _) hs hp
  | ri =>
    have h2 := of_decide_eq_true hK
    have hi : ∀ i, i + 1 < n → w.getD i 0 < w.getD (i + 1) 0 := fun i hi => by
      have := h i ⟨by omega, by unfold many; rw [if_neg (by decide)]; omega⟩
      rw [step_in (by decide) (by omega)] at this
      have := of_decide_eq_false this
      obtain ⟨l, x, y, r, rfl, e⟩ := split2 (w := w) (s := i) (by omega)
      subst e
      have hne := ri_ne hF
      rw [getD_l, getD_l1] at this ⊢
      have : x ≠ y := fun e => hne (by rw [e])
      omega
    have hz := h (n - 1) ⟨by omega, by unfold many; rw [if_neg (by decide)]; omega⟩
    unfold crossP at hz
    rw [exch_ril (by omega)] at hz
    have hz := of_decide_eq_false hz
    have hsum := hF.2.1
    have hz : w.getD (n - 1) 0 < w.getD 0 0 + (n : Int) := by
      obtain ⟨x, m, y, rfl, em⟩ := splitE h2.1 hl
      obtain ⟨_, hxy⟩ := ri_all hF
      have e1 : n - 1 = m.length + 1 := by omega
      rw [e1, E_first, E_last] at hz ⊢
      have : y ≠ x + (n : Int) := fun e => hxy (by rw [e, Int.add_emod_right])
      omega
    clear h hF hK
    have : n = 2 ∨ n = 3 ∨ n = 4 ∨ n = 5 := by omega
    rcases this with rfl | rfl | rfl | rfl
    · obtain ⟨a, b, rfl⟩ : ∃ a b, w = [a, b] := by
        match w, hl with
        | [a, b], _ => exact ⟨a, b, rfl⟩
      have i0 := hi 0 (by omega)
      simp at hsum hz i0
      show [a, b] = [0, 1]
      rw [show a = 0 by omega, show b = 1 by omega]
    · obtain ⟨a, b, c, rfl⟩ : ∃ a b c, w = [a, b, c] := by
        match w, hl with
        | [a, b, c], _ => exact ⟨a, b, c, rfl⟩
      have i0 := hi 0 (by omega)
      have i1 := hi 1 (by omega)
      simp at hsum hz i0 i1
      show [a, b, c] = [0, 1, 2]
      rw [show a = 0 by omega, show b = 1 by omega, show c = 2 by omega]
    · obtain ⟨a, b, c, d, rfl⟩ : ∃ a b c d, w = [a, b, c, d] := by
        match w, hl with
        | [a, b, c, d], _ => exact ⟨a, b, c, d, rfl⟩
      have i0 := hi 0 (by omega)
      have i1 := hi 1 (by omega)
      have i2 := hi 2 (by omega)
      simp at hsum hz i0 i1 i2
      show [a, b, c, d] = [0, 1, 2, 3]
      rw [show a = 0 by omega, show b = 1 by omega, show c = 2 by omega, show d = 3 by omega]
    · obtain ⟨a, b, c, d, e, rfl⟩ : ∃ a b c d e, w = [a, b, c, d, e] := by
        match w, hl with
        | [a, b, c, d, e], _ => exact ⟨a, b, c, d, e, rfl⟩
      have i0 := hi 0 (by omega)
      have i1 := hi 1 (by omega)
      have i2 := hi 2 (by omega)
      have i3 := hi 3 (by omega)
      simp at hsum hz i0 i1 i2 i3
      show [a, b, c, d, e] = [0, 1, 2, 3, 4]
      rw [show a = 0 by omega, show b = 1 by omega, show c = 2 by omega, show d = 3 by omega, show e = 4 by omega]
end Sv

/-! Orders that rows make; opposites: by the verifier. -/
namespace Sv
open PySem L2
def Ord (k : Nm) (n : Nat) (w : List Int) : Prop := ∃ l, (∀ s ∈ l, okS k n s) ∧ w = run k n (startL k n) l
theorem cr_stepI {k : Nm} {n : Nat} {w : List Int} {s : Int} (hK : okK k n = true) (hs : okS k n s) (hF : Form k n w) :
    crP k n (stepped k n w s) = crP k n w + (if crossed k n w s = true then -1 else 1) ∧ Form k n (stepped k n w s) := by
  obtain ⟨t, rfl⟩ := step_of hs
  have := cr_step hK hs hF
  rw [after_eq hK hs hF.1, cross_eq hK hs hF.1] at this
  exact this
theorem Ord.start (k : Nm) (n : Nat) : Ord k n (startL k n) := ⟨[], (fun s h => by cases h), rfl⟩
theorem Ord.step {k : Nm} {n : Nat} {w : List Int} {s : Int} (h : Ord k n w) (hs : okS k n s) : Ord k n (stepped k n w s) := by
  obtain ⟨l, hl, rfl⟩ := h
  refine ⟨l ++ [s], fun t ht => ?_, (run_snoc _ _ _ _ _).symm⟩
  rcases List.mem_append.mp ht with h | h
  · exact hl t h
  · rw [List.mem_singleton.mp h]
    exact hs
theorem run_form {k : Nm} {n : Nat} (hK : okK k n = true) : ∀ {l w : List Int}, (∀ s ∈ l, okS k n s) → Form k n w → Form k n (run k n w l) ∧ crP k n (run k n w l) ≤ crP k n w + (l.length : Int)
  | [], w, _, h => ⟨h, by show crP k n w ≤ crP k n w + 0; omega⟩
  | s :: l, w, hl, h => by
    have h1 := cr_stepI hK (hl s List.mem_cons_self) h
    have h2 := run_form hK (l := l) (fun t ht => hl t (List.mem_cons_of_mem _ ht)) h1.2
    refine ⟨h2.1, ?_⟩
    have h3 := h2.2
    have h4 := h1.1
    show crP k n (run k n (stepped k n w s) l) ≤ _
    rw [List.length_cons]
    split at h4 <;> omega
theorem cr_start {k : Nm} {n : Nat} (hK : okK k n = true) : crP k n (startL k n) = 0 := by
  have hn := okK_le hK
  have : n = 1 ∨ n = 2 ∨ n = 3 ∨ n = 4 ∨ n = 5 ∨ n = 6 ∨ n = 7 := by omega
  rcases this with rfl | rfl | rfl | rfl | rfl | rfl | rfl <;> cases k <;> (revert hK; decide +kernel)
theorem Ord.form {k : Nm} {n : Nat} {w : List Int} (hK : okK k n = true) (h : Ord k n w) : Form k n w := by
  obtain ⟨l, hl, rfl⟩ := h
  exact (run_form hK hl (form_start hK)).1
theorem sumP_nn {f : Int → Int → Int} (hf : ∀ x y, 0 ≤ f x y) : ∀ w : List Int, 0 ≤ sumP f w
  | [] => Int.le_refl _
  | x :: w => by
    have h1 := sumP_nn hf w
    have h2 : ∀ m : List Int, 0 ≤ (m.map (f x)).sum := by
      intro m
      induction m with
      | nil => exact Int.le_refl _
      | cons a m ih =>
        rw [List.map_cons, List.sum_cons]
        have := hf x a
        omega
    have h3 := h2 w
    show 0 ≤ (w.map (f x)).sum + sumP f w
    omega
theorem cr_nn (k : Nm) (n : Nat) (w : List Int) : 0 ≤ crP k n w := by
  cases k with
  | pl =>
    rw [crP_pl]
    exact sumP_nn (fun x y => by unfold fLt; split <;> omega) w
  | mi =>
    rw [crP_mi]
    have h1 := sumP_nn (f := fLt) (fun x y => by unfold fLt; split <;> omega) w
    have h2 := sumP_nn (f := fNg) (fun x y => by unfold fNg; split <;> omega) w
    have h3 : ∀ m : List Int, 0 ≤ (m.map gNg).sum := by
      intro m
      induction m with
      | nil => exact Int.le_refl _
      | cons a m ih =>
        rw [List.map_cons, List.sum_cons]
        have : 0 ≤ gNg a := by unfold gNg; split <;> omega
        omega
    have h4 := h3 w
    omega
  | ri =>
    rw [crP_ri]
    exact sumP_nn (fun x y => by unfold fRi absI; split <;> omega) w
theorem mem_fallsP {k : Nm} {n : Nat} {w : List Int} {s : Int} (hK : okK k n = true) (hl : w.length = n) : s ∈ fallsP k n w ↔ okS k n s ∧ crossed k n w s = true := by
  unfold fallsP
  rw [List.mem_map]
  constructor
  · rintro ⟨t, ht, rfl⟩
    obtain ⟨h1, h2⟩ := List.mem_filter.mp ht
    have hs : okS k n (t : Int) := by
      have := List.mem_range.mp h1
      exact ⟨by omega, by omega⟩
    rw [cross_eq hK hs hl] at h2
    exact ⟨hs, h2⟩
  · rintro ⟨hs, hc⟩
    obtain ⟨t, rfl⟩ := step_of hs
    refine ⟨t, List.mem_filter.mpr ⟨List.mem_range.mpr ?_, ?_⟩, rfl⟩
    · have := hs.2
      omega
    · rw [cross_eq hK hs hl]
      exact hc
theorem falls_nil {k : Nm} {n : Nat} {w : List Int} (hK : okK k n = true) (hF : Form k n w) (h : fallsP k n w = []) : w = startL k n := by
  refine nofall hK hF fun s hs => ?_
  cases e : crossP k n w s with
  | false => rfl
  | true =>
    rw [cross_eq hK hs hF.1] at e
    have := (mem_fallsP hK hF.1).mpr ⟨hs, e⟩
    rw [h] at this
    cases this
theorem step_step {k : Nm} {n : Nat} {w : List Int} {s : Int} (hK : okK k n = true) (hs : okS k n s) (hl : w.length = n) : stepped k n (stepped k n w s) s = w := by
  rw [← map_item (k := k) (u := stepped k n (stepped k n w s) s) (stepped_len _ _ _ _)]
  have e : (startL k n).map (item k n (stepped k n (stepped k n w s) s)) = (startL k n).map (item k n w) := by
    apply List.map_congr_left
    intro p hp
    have ho := startL_okP hp
    rw [item_step hK hs ho, item_step hK hs (turned_ok hs ho), turned_inv hK hs ho]
  rw [e, map_item hl]
theorem run_append (k : Nm) (n : Nat) (w l m : List Int) : run k n w (l ++ m) = run k n (run k n w l) m := List.foldl_append
theorem run_rev {k : Nm} {n : Nat} (hK : okK k n = true) : ∀ {l w : List Int}, (∀ s ∈ l, okS k n s) → w.length = n → run k n (run k n w l) l.reverse = w
  | [], _, _, _ => rfl
  | s :: l, w, hl, h => by
    rw [List.reverse_cons, run_snoc]
    show stepped k n (run k n (run k n (stepped k n w s) l) l.reverse) s = w
    rw [run_rev hK (fun t ht => hl t (List.mem_cons_of_mem _ ht)) (stepped_len _ _ _ _), step_step hK (hl s List.mem_cons_self) h]
theorem item_runS {k : Nm} {n : Nat} (hK : okK k n = true) {l : List Int} {p : Int} (hl : ∀ s ∈ l, okS k n s) (hp : okP k n p) : item k n (run k n (startL k n) l) p = turns k n l p := by
  rw [item_run hK hl hp, item_start (okK_le hK).1 (turns_ok hl hp)]
theorem turns_snoc (k : Nm) (n : Nat) (s p : Int) : ∀ l : List Int, turns k n (l ++ [s]) p = turns k n l (turned k n s p)
  | [] => rfl
  | t :: l => by
    show turned k n t (turns k n (l ++ [s]) p) = turned k n t (turns k n l (turned k n s p))
    rw [turns_snoc k n s p l]
theorem rev_ok {k : Nm} {n : Nat} {l : List Int} (hl : ∀ s ∈ l, okS k n s) : ∀ s ∈ l.reverse, okS k n s := fun s h => hl s (List.mem_reverse.mp h)
theorem turns_rev {k : Nm} {n : Nat} (hK : okK k n = true) : ∀ {l : List Int} {p : Int}, (∀ s ∈ l, okS k n s) → okP k n p → turns k n l.reverse (turns k n l p) = p
  | [], _, _, _ => rfl
  | s :: l, p, hl, hp => by
    have hl' : ∀ t ∈ l, okS k n t := fun t ht => hl t (List.mem_cons_of_mem _ ht)
    rw [List.reverse_cons, turns_snoc]
    show turns k n l.reverse (turned k n s (turned k n s (turns k n l p))) = p
    rw [turned_inv hK (hl s List.mem_cons_self) (turns_ok hl' hp), turns_rev hK hl' hp]
theorem item_off {k : Nm} {n : Nat} {w : List Int} {i : Nat} (hi : i < n) : item k n w (off k + (i : Int)) = w.getD i 0 := by
  by_cases hk : k = .mi
  · subst hk
    show item .mi n w (1 + (i : Int)) = _
    rw [item_mi, sg_pos (by omega), show (1 + (i : Int)).natAbs - 1 = i by omega]
    omega
  · have e : off k = 0 := if_neg hk
    rw [e, Int.zero_add, item_in hk hi]
theorem form_okP {k : Nm} {n : Nat} {w : List Int} (hF : Form k n w) : ∀ x ∈ w, okP k n x := by
  intro x hx hk
  subst hk
  have : absI x ∈ startL .mi n := hF.2.mem_iff.mp (List.mem_map_of_mem hx)
  obtain ⟨i, hi, e⟩ := mem_startL this
  have e : absI x = 1 + (i : Int) := e
  unfold absI at e
  split at e <;> omega
theorem mem_getD {w : List Int} {i : Nat} (h : i < w.length) : w.getD i 0 ∈ w := by
  rw [List.getD_eq_getElem?_getD, List.getElem?_eq_getElem h]
  exact List.getElem_mem _
/-- each place is hit -/
theorem pos_hit {k : Nm} {n : Nat} {w : List Int} (hK : okK k n = true) (hF : Form k n w) {j : Nat} (hj : j < n) : ∃ i, i < n ∧ invPos k n (w.getD i 0) = j := by
  have hl := hF.1
  have hm : off k + (j : Int) ∈ startL k n := List.mem_of_getElem? (startL_get k n j hj)
  have fin : ∀ x ∈ w, invPos k n x = j → ∃ i, i < n ∧ invPos k n (w.getD i 0) = j := by
    intro x hx e
    obtain ⟨i, hi, ei⟩ := List.getElem_of_mem hx
    refine ⟨i, by omega, ?_⟩
    rw [List.getD_eq_getElem?_getD, List.getElem?_eq_getElem hi]
    show invPos k n w[i] = j
    rw [ei, e]
  cases k with
  | pl =>
    have hx := hF.2.mem_iff.mpr hm
    have e0 : off .pl + (j : Int) = (j : Int) := by show (0 : Int) + _ = _; omega
    rw [e0] at hx
    refine fin _ hx ?_
    show ((j : Int) % (n : Int)).toNat = j
    rw [Int.emod_eq_of_lt (by omega) (by omega)]
    rfl
  | mi =>
    obtain ⟨x, hx, e⟩ := List.mem_map.mp (hF.2.mem_iff.mpr hm)
    refine fin x hx ?_
    show x.natAbs - 1 = j
    have e : absI x = 1 + (j : Int) := e
    unfold absI at e
    split at e <;> omega
  | ri =>
    obtain ⟨x, hx, e⟩ := List.mem_map.mp (hF.2.2.mem_iff.mpr hm)
    refine fin x hx ?_
    have e : x % (n : Int) = 0 + (j : Int) := e
    show (x % (n : Int)).toNat = j
    omega
theorem inv_upto {k : Nm} {n : Nat} {w v : List Int} (hn : 1 ≤ n) (hv : v.length = n) (ho : ∀ i, i < n → okP k n (w.getD i 0)) (h : ∀ i, i < n → item k n v (w.getD i 0) = off k + (i : Int)) :
    ∀ i, i ≤ n → (invUpTo k n w i).length = n ∧ ∀ j, (∃ i', i' < i ∧ invPos k n (w.getD i' 0) = j) → (invUpTo k n w i).getD j 0 = v.getD j 0
  | 0, _ => ⟨startL_len _ _, fun j hj => by obtain ⟨i', h', _⟩ := hj; omega⟩
  | i + 1, hi => by
    obtain ⟨l1, h1⟩ := inv_upto hn hv ho h i (by omega)
    refine ⟨by show ((invUpTo k n w i).set _ _).length = n; rw [List.length_set, l1], fun j hj => ?_⟩
    show ((invUpTo k n w i).set (invPos k n (w.getD i 0)) (invVal k n i (w.getD i 0))).getD j 0 = v.getD j 0
    rw [getD_set]
    split
    · rename_i hc
      obtain ⟨rfl, _⟩ := hc
      have hh := h i (by omega)
      have hp := ho i (by omega)
      generalize w.getD i 0 = x at hh hp ⊢
      by_cases hk : k = .mi
      · subst hk
        obtain ⟨p0, p1⟩ := hp rfl
        rw [item_mi] at hh
        have hh : v.getD (x.natAbs - 1) 0 * sg x = 1 + (i : Int) := hh
        show (if 0 < x then (i : Int) + 1 else -(i : Int) - 1) = v.getD (x.natAbs - 1) 0
        by_cases hx : 0 < x
        · rw [sg_pos hx] at hh
          rw [if_pos hx]
          omega
        · rw [sg_neg (by omega)] at hh
          rw [if_neg hx]
          omega
      · rw [item_nm hk] at hh
        have e0 : off k = 0 := if_neg hk
        unfold invVal invPos
        rw [if_neg hk, if_neg hk]
        omega
    · rename_i hc
      refine h1 j ?_
      obtain ⟨i', hi', e⟩ := hj
      by_cases ee : i' = i
      · subst ee
        exfalso
        apply hc
        refine ⟨e.symm, ?_⟩
        rw [l1]
        have hp := ho i' (by omega)
        generalize w.getD i' 0 = x at hp ⊢
        unfold invPos
        by_cases hk : k = .mi
        · rw [if_pos hk]
          have := hp hk
          omega
        · rw [if_neg hk]
          have h1 := Int.emod_nonneg x (show (n : Int) ≠ 0 by omega)
          have h2 := Int.emod_lt_of_pos x (show (0 : Int) < n by omega)
          omega
      · exact ⟨i', by omega, e⟩
theorem inv_run {k : Nm} {n : Nat} {l : List Int} (hK : okK k n = true) (hl : ∀ s ∈ l, okS k n s) : invP k n (run k n (startL k n) l) = run k n (startL k n) l.reverse := by
  have hF := (run_form hK hl (form_start hK)).1
  have hn := okK_le hK
  have hlen := hF.1
  have ho : ∀ i, i < n → okP k n ((run k n (startL k n) l).getD i 0) := fun i hi => form_okP hF _ (mem_getD (by omega))
  have hv : (run k n (startL k n) l.reverse).length = n := run_len (startL_len _ _)
  have h := inv_upto hn.1 hv ho (fun i hi => by
    have hp := startL_okP (List.mem_of_getElem? (startL_get k n i hi))
    rw [← item_off hi, item_runS hK hl hp, item_runS hK (rev_ok hl) (turns_ok hl hp), turns_rev hK hl hp]) n (Nat.le_refl _)
  unfold invP
  rw [hlen]
  refine ext_getD h.1 hv fun j hj => h.2 j ?_
  obtain ⟨i, hi, e⟩ := pos_hit hK hF hj
  exact ⟨i, hi, e⟩
theorem Ord.inv {k : Nm} {n : Nat} {w : List Int} (hK : okK k n = true) (h : Ord k n w) : Ord k n (invP k n w) ∧ invP k n (invP k n w) = w := by
  obtain ⟨l, hl, rfl⟩ := h
  rw [inv_run hK hl, inv_run hK (rev_ok hl), List.reverse_reverse]
  exact ⟨⟨_, rev_ok hl, rfl⟩, rfl⟩
/-- a least row, by taking falls away -/
theorem least_ex {k : Nm} {n : Nat} (hK : okK k n = true) : ∀ (m : Nat) (w : List Int), Form k n w → crP k n w ≤ (m : Int) → ∃ l, (∀ s ∈ l, okS k n s) ∧ w = run k n (startL k n) l ∧ (l.length : Int) = crP k n w
  | 0, w, hF, hm => by
    by_cases hf : fallsP k n w = []
    · have e := falls_nil hK hF hf
      refine ⟨[], (fun s h => by cases h), e, ?_⟩
      rw [e, cr_start hK]
      rfl
    · obtain ⟨s, r, es⟩ := List.exists_cons_of_ne_nil hf
      have hs := (mem_fallsP hK hF.1).mp (by rw [es]; exact List.mem_cons_self)
      have := (cr_stepI hK hs.1 hF).1
      rw [if_pos hs.2] at this
      have := cr_nn k n (stepped k n w s)
      omega
  | m + 1, w, hF, hm => by
    by_cases hf : fallsP k n w = []
    · have e := falls_nil hK hF hf
      refine ⟨[], (fun s h => by cases h), e, ?_⟩
      rw [e, cr_start hK]
      rfl
    · obtain ⟨s, r, es⟩ := List.exists_cons_of_ne_nil hf
      have hs := (mem_fallsP hK hF.1).mp (by rw [es]; exact List.mem_cons_self)
      have h1 := cr_stepI hK hs.1 hF
      rw [if_pos hs.2] at h1
      obtain ⟨l, hl, e, c⟩ := least_ex hK m _ h1.2 (by omega)
      refine ⟨l ++ [s], fun t ht => ?_, ?_, ?_⟩
      · rcases List.mem_append.mp ht with h | h
        · exact hl t h
        · rw [List.mem_singleton.mp h]
          exact hs.1
      · rw [run_snoc, ← e, step_step hK hs.1 hF.1]
      · rw [List.length_append, List.length_singleton]
        omega
theorem form_ord {k : Nm} {n : Nat} {w : List Int} (hK : okK k n = true) (hF : Form k n w) : Ord k n w := by
  obtain ⟨l, hl, e, _⟩ := least_ex hK (crP k n w).toNat w hF (by omega)
  exact ⟨l, hl, e⟩
theorem cr_inv_le {k : Nm} {n : Nat} {w : List Int} (hK : okK k n = true) (hF : Form k n w) : crP k n (invP k n w) ≤ crP k n w := by
  obtain ⟨l, hl, e, c⟩ := least_ex hK (crP k n w).toNat w hF (by omega)
  have e2 : invP k n w = run k n (startL k n) l.reverse := by rw [e, inv_run hK hl]
  have := (run_form hK (rev_ok hl) (form_start hK)).2
  rw [← e2, cr_start hK, List.length_reverse] at this
  omega
theorem cr_inv {k : Nm} {n : Nat} {w : List Int} (hK : okK k n = true) (h : Ord k n w) : crP k n (invP k n w) = crP k n w := by
  have h1 := cr_inv_le hK (h.form hK)
  have h2 := cr_inv_le hK ((h.inv hK).1.form hK)
  rw [(h.inv hK).2] at h2
  omega
/-- a step from ahead -/
def aheadL (k : Nm) (n : Nat) (w : List Int) (s : Int) : List Int := w.map (turned k n s)
theorem prod_ahead {k : Nm} {n : Nat} {w : List Int} {s : Int} (hK : okK k n = true) (hs : okS k n s) (hF : Form k n w) : w.map (item k n (stepped k n (startL k n) s)) = aheadL k n w s := by
  apply List.map_congr_left
  intro p hp
  have ho := form_okP hF p hp
  rw [item_step hK hs ho, item_start (okK_le hK).1 (turned_ok hs ho)]
theorem prodP_eq {k : Nm} {n : Nat} {w u : List Int} (hF : Form k n w) : prodP k n u w = w.map (item k n u) := by
  unfold prodP
  apply List.map_congr_left
  intro p hp
  exact itemP_eq (form_okP hF p hp)
theorem ahead_run {k : Nm} {n : Nat} {l : List Int} {s : Int} (hK : okK k n = true) (hs : okS k n s) (hl : ∀ s ∈ l, okS k n s) : aheadL k n (run k n (startL k n) l) s = run k n (startL k n) (s :: l) := by
  have hcons : ∀ t ∈ s :: l, okS k n t := fun t ht => by
    rcases List.mem_cons.mp ht with rfl | h
    · exact hs
    · exact hl t h
  have e1 : (startL k n).map (item k n (run k n (startL k n) (s :: l))) = run k n (startL k n) (s :: l) := map_item (run_len (startL_len _ _))
  have e2 : (startL k n).map (item k n (run k n (startL k n) l)) = run k n (startL k n) l := map_item (run_len (startL_len _ _))
  rw [← e1]
  unfold aheadL
  conv => lhs; rw [← e2]
  rw [List.map_map]
  apply List.map_congr_left
  intro p hp
  have ho := startL_okP hp
  show turned k n s (item k n (run k n (startL k n) l) p) = _
  rw [item_runS hK hl ho, item_runS hK hcons ho]
  rfl
theorem ahead_len (k : Nm) (n : Nat) (w : List Int) (s : Int) : (aheadL k n w s).length = w.length := List.length_map _
theorem ahead_ahead {k : Nm} {n : Nat} {w : List Int} {s : Int} (hK : okK k n = true) (hs : okS k n s) (hF : Form k n w) : aheadL k n (aheadL k n w s) s = w := by
  unfold aheadL
  rw [List.map_map]
  have : w.map (turned k n s ∘ turned k n s) = w.map id := List.map_congr_left fun p hp => turned_inv hK hs (form_okP hF p hp)
  rw [this, List.map_id]
theorem ahead_cr {k : Nm} {n : Nat} {w : List Int} {s : Int} (hK : okK k n = true) (hs : okS k n s) (h : Ord k n w) :
    Ord k n (aheadL k n w s) ∧ crP k n (aheadL k n w s) = crP k n w + (if crossed k n (invP k n w) s = true then -1 else 1) := by
  obtain ⟨l, hl, rfl⟩ := h
  have hcons : ∀ t ∈ s :: l, okS k n t := fun t ht => by
    rcases List.mem_cons.mp ht with rfl | h
    · exact hs
    · exact hl t h
  have hO : Ord k n (run k n (startL k n) (s :: l)) := ⟨_, hcons, rfl⟩
  rw [ahead_run hK hs hl]
  refine ⟨hO, ?_⟩
  rw [← cr_inv hK hO, inv_run hK hcons, List.reverse_cons, run_snoc]
  have hO2 : Ord k n (run k n (startL k n) l) := ⟨_, hl, rfl⟩
  have h1 := (cr_stepI hK hs ((hO2.inv hK).1.form hK)).1
  rw [inv_run hK hl] at h1
  rw [h1, inv_run hK hl, ← inv_run hK hl, cr_inv hK hO2]
end Sv

/-! Opposites laid upon noughts, products by items at places, by the verifier. -/
namespace Sv
open PySem L2
def invZ (k : Nm) (n : Nat) (w : List Int) : Nat → List Int
  | 0 => List.replicate n 0
  | i + 1 => (invZ k n w i).set (invPos k n (w.getD i 0)) (invVal k n i (w.getD i 0))
theorem invZ_len (k : Nm) (n : Nat) (w : List Int) : ∀ i, (invZ k n w i).length = n
  | 0 => List.length_replicate
  | i + 1 => by
    show ((invZ k n w i).set _ _).length = n
    rw [List.length_set]
    exact invZ_len k n w i
theorem invU_len (k : Nm) (n : Nat) (w : List Int) : ∀ i, (invUpTo k n w i).length = n
  | 0 => startL_len k n
  | i + 1 => by
    show ((invUpTo k n w i).set _ _).length = n
    rw [List.length_set]
    exact invU_len k n w i
theorem invZ_same (k : Nm) (n : Nat) (w : List Int) {j : Nat} (hj : j < n) : ∀ i, (∃ m, m < i ∧ invPos k n (w.getD m 0) = j) → (invZ k n w i).getD j 0 = (invUpTo k n w i).getD j 0
  | 0, h => by
    obtain ⟨m, hm, _⟩ := h
    omega
  | i + 1, h => by
    show ((invZ k n w i).set _ _).getD j 0 = ((invUpTo k n w i).set _ _).getD j 0
    by_cases e : invPos k n (w.getD i 0) = j
    · have h1 : invPos k n (w.getD i 0) < (invZ k n w i).length := by rw [invZ_len]; omega
      have h2 : invPos k n (w.getD i 0) < (invUpTo k n w i).length := by rw [invU_len]; omega
      rw [getD_setS _ _ _ _ h1, getD_setS _ _ _ _ h2, if_pos e.symm, if_pos e.symm]
    · have ih := invZ_same k n w hj i (by
        obtain ⟨m, hm, em⟩ := h
        refine ⟨m, ?_, em⟩
        by_cases z : m = i
        · subst z; exact absurd em e
        · omega)
      rw [List.getD_eq_getElem?_getD, List.getElem?_set_ne e, List.getD_eq_getElem?_getD, List.getElem?_set_ne e]
      rw [List.getD_eq_getElem?_getD, List.getD_eq_getElem?_getD] at ih
      exact ih
theorem form_cover {k : Nm} {n : Nat} {w : List Int} (hF : Form k n w) {j : Nat} (hj : j < n) : ∃ m, m < w.length ∧ invPos k n (w.getD m 0) = j := by
  obtain ⟨hl, h⟩ := hF
  have get : ∀ x, x ∈ w → ∃ m, m < w.length ∧ w.getD m 0 = x := fun x hx => by
    obtain ⟨m, hm, e⟩ := List.mem_iff_getElem.mp hx
    exact ⟨m, hm, by rw [List.getD_eq_getElem?_getD, List.getElem?_eq_getElem hm]; exact e⟩
  cases k with
  | pl =>
    have hm : (j : Int) ∈ w := h.mem_iff.mpr (by
      unfold startL off
      exact List.mem_map.mpr ⟨j, List.mem_range.mpr hj, by simp⟩)
    obtain ⟨m, hm, e⟩ := get _ hm
    refine ⟨m, hm, ?_⟩
    rw [e]
    unfold invPos
    rw [if_neg (by decide), Int.emod_eq_of_lt (by omega) (by omega)]
    omega
  | mi =>
    have hm : ((j : Int) + 1) ∈ w.map absI := h.mem_iff.mpr (by
      unfold startL off
      exact List.mem_map.mpr ⟨j, List.mem_range.mpr hj, by simp; omega⟩)
    obtain ⟨x, hx, e⟩ := List.mem_map.mp hm
    obtain ⟨m, hm, e2⟩ := get _ hx
    refine ⟨m, hm, ?_⟩
    rw [e2]
    unfold invPos
    rw [if_pos rfl]
    unfold absI at e
    split at e <;> omega
  | ri =>
    have hm : (j : Int) ∈ w.map (fun x => x % (n : Int)) := h.2.mem_iff.mpr (by
      unfold startL off
      exact List.mem_map.mpr ⟨j, List.mem_range.mpr hj, by simp⟩)
    obtain ⟨x, hx, e⟩ := List.mem_map.mp hm
    obtain ⟨m, hm, e2⟩ := get _ hx
    refine ⟨m, hm, ?_⟩
    rw [e2]
    unfold invPos
    rw [if_neg (by decide)]
    omega
theorem invZ_eq {k : Nm} {n : Nat} {w : List Int} (hF : Form k n w) : invZ k n w n = invP k n w := by
  unfold invP
  rw [hF.1]
  refine ext_getDS (by rw [invZ_len, invU_len]) fun j hj => ?_
  rw [invZ_len] at hj
  obtain ⟨m, hm, e⟩ := form_cover hF hj
  exact invZ_same k n w hj n ⟨m, by rw [hF.1] at hm; exact hm, e⟩
/-- places that may be asked -/
def okQ (k : Nm) (n : Nat) (x : Int) : Prop := match k with
  | .pl => 0 ≤ x ∧ x < n
  | .mi => x ≠ 0 ∧ x.natAbs ≤ n
  | .ri => True
theorem okQ_okP {k : Nm} {n : Nat} {x : Int} (h : okQ k n x) : okP k n x := fun e => by
  subst e
  exact h
theorem form_okQ {k : Nm} {n : Nat} {w : List Int} (hF : Form k n w) : ∀ x ∈ w, okQ k n x := fun x hx => by
  cases k with
  | pl =>
    have h := hF.2.mem_iff.mp hx
    obtain ⟨i, hi, e⟩ := mem_startL h
    have e2 : off .pl = 0 := rfl
    show 0 ≤ x ∧ x < n
    omega
  | mi => exact form_okP hF x hx rfl
  | ri => exact True.intro
theorem itemP_pl {n : Nat} {w : List Int} {x : Int} (h : okQ .pl n x) : itemP .pl n w x = w.getD x.toNat 0 := by
  obtain ⟨h1, h2⟩ := h
  unfold itemP
  rw [if_neg (by decide), Int.emod_eq_of_lt h1 h2]
  omega
theorem invPos_pl {n : Nat} {x : Int} (h : okQ .pl n x) : invPos .pl n x = x.toNat := by
  obtain ⟨h1, h2⟩ := h
  unfold invPos
  rw [if_neg (by decide), Int.emod_eq_of_lt h1 h2]
theorem invVal_pl {n i : Nat} {x : Int} (h : okQ .pl n x) : invVal .pl n i x = (i : Int) := by
  obtain ⟨h1, h2⟩ := h
  unfold invVal
  rw [if_neg (by decide), Int.emod_eq_of_lt h1 h2]
  omega
end Sv

namespace Sv
open PySem PySem.Spec PyProof.Rows L2
def rLenK (K : PySem.W.Frag) : List V → Hp → VK → Prop := fun xs H Q => ∃ p ys, xs = [.ref p] ∧ (SqL K H p ys ∨ SqT K H p ys) ∧ Q (.int ys.length) H
structure Rd (P : Program) (w : World) (K : PySem.W.Frag) (mg : Str → Option Value) (base : Heap) (x : Str) (k : Nat) (sp : Sp) : Prop where
  ex : ∃ f : Addr, FnR P w K mg base CX0 k f sp ∧ mg x = some (.ref f) ∧ PySem.W.keepIn K (.ref f) = true
theorem pe_callRG {X : Cx} {k : Nat} {sp : Sp} {x : Str} {p pos : Pos} {e : Expr} {es : List Expr} {t : TA} (G : Rd X.prog X.w X.K X.mg X.base x k sp) (hr : Room k X.A) (hg : Gl X x)
    (ha : PA X (e :: es) t) (hdb : (x == ("__debug__" : Str)) = false := by decide) (he : starEach (e :: es) X.env = (false, eval e X.env) :: starEach es X.env := by rfl) (hpl : (backTo pos (starEach es X.env)).any (·.1) = false := by rfl) :
    PE X (.Call (.Name x p) (e :: es) [] pos) (tCall sp [] E0 t) := by
  obtain ⟨f, F, gm, kp⟩ := G.ex
  refine ⟨fun pins s σ H Q I h => ?_⟩
  refine wpAny_Call_Name_kw (ld_glob I hg gm ?_ hdb)
  refine PySem.W.callWith_K (h₀ := X.base) I.ok.mod.kin kp (thn (ha.run pos pins s σ H _ I h) fun us s1 ⟨vs, H1, I1, r, q⟩ => ⟨I1.kIn, ?_⟩) he hpl
  have q' : sp (vs ++ []) H1 Q E0 := q
  rw [List.append_nil] at q'
  exact wpAny_call (run_fnR F hr pass0 I1 r q')
/-- a change at a place of a list, by an index that is a Nat -/
theorem ixN_nat {n i : Nat} (h : i < n) : ixN n (i : Int) = some i := by
  unfold ixN
  rw [if_pos (by omega), if_pos (by omega), Int.toNat_natCast]
theorem set_map (ws : List Int) (i : Nat) (x : Int) : (ws.map V.int).set i (.int x) = (ws.set i x).map V.int := by rw [List.map_set]
theorem Same_updD {H H2 : Hp} {D : Addr} {o : HO} (e : Same H H2) (nD : H D = none) : Same H (L2.upd H2 D o) := fun b y eb => by
  rw [upd_ne (ne_of_none eb nD)]
  exact e _ _ eb
theorem same_free {H H2 : Hp} (e : Same H H2) {l : Addr} (h : H2 l = none) : H l = none := e.free h
theorem push_int (H : Hp) (D : Addr) (xs : List Int) (x : Int) : L2.upd H D (.lst (xs.map V.int ++ [V.int x])) D = some (.lst ((xs ++ [x]).map V.int)) := by
  rw [upd_same, List.map_append]
  rfl
theorem at_map {ws : List Int} {i : Nat} {x : V} (h : (ws.map V.int)[i]? = some x) : i < ws.length ∧ x = .int (ws.getD i 0) := by
  have hi : i < ws.length := by
    have := (List.getElem?_eq_some_iff.mp h).1
    rw [List.length_map] at this
    exact this
  refine ⟨hi, ?_⟩
  rw [map_getD hi] at h
  exact (Option.some.inj h).symm
theorem SameX.to {l : Addr} {H0 H H' : Hp} (s : Same H0 H) (n : H0 l = none) (x : SameX l H H') : Same H0 H' := fun b y e => x b y (s b y e) (ne_of_none e n)
section
variable {P : Program} {w : World} {K : PySem.W.Frag} {mg : Str → Option Value} {base : Heap} {f C D : Addr} {fd : FuncData}
/-- three arguments: a kind, an order, a step -/
structure KOS (K : PySem.W.Frag) (C : Addr) (H : Hp) (p o : Addr) (k : Nm) (n : Nat) (ws : List Int) (s : Nat) : Prop where
  kat : KAt C H p k n
  ord : SqL K H o (ws.map V.int)
  len : ws.length = n
  ok : okK k n = true
  st : okS k n (s : Int)
theorem KOS.keep {H H' : Hp} {p o : Addr} {k : Nm} {n : Nat} {ws : List Int} {s : Nat} (h : KOS K C H p o k n ws s) (e : Same H H') : KOS K C H' p o k n ws s :=
  ⟨let ⟨dx, z⟩ := h.kat; ⟨dx, e _ _ z⟩, e.seq h.ord, h.len, h.ok, h.st⟩
theorem st_pl {n : Nat} {s : Nat} (h : okS .pl n (s : Int)) : s + 1 < n := by
  obtain ⟨_, h⟩ := h
  unfold many at h
  rw [if_pos rfl] at h
  omega
theorem st_np {k : Nm} {n : Nat} {s : Nat} (hk : k ≠ .pl) (h : okS k n (s : Int)) : s < n := by
  obtain ⟨_, h⟩ := h
  unfold many at h
  rw [if_neg hk] at h
  omega
structure KO (K : PySem.W.Frag) (C : Addr) (H : Hp) (p o : Addr) (k : Nm) (n : Nat) (ws : List Int) : Prop where
  kat : KAt C H p k n
  ord : SqL K H o (ws.map V.int)
  len : ws.length = n
  ok : okK k n = true
theorem KAt.keep {H H' : Hp} {p : Addr} {k : Nm} {n : Nat} (h : KAt C H p k n) (e : Same H H') : KAt C H' p k n := let ⟨dx, z⟩ := h; ⟨dx, e _ _ z⟩
theorem KO.keep {H H' : Hp} {p o : Addr} {k : Nm} {n : Nat} {ws : List Int} (h : KO K C H p o k n ws) (e : Same H H') : KO K C H' p o k n ws := ⟨h.kat.keep e, e.seq h.ord, h.len, h.ok⟩
theorem KO.st {H : Hp} {p o : Addr} {k : Nm} {n : Nat} {ws : List Int} {s : Nat} (h : KO K C H p o k n ws) (hs : okS k n (s : Int)) : KOS K C H p o k n ws s := ⟨h.kat, h.ord, h.len, h.ok, hs⟩
theorem noM {k : Nm} {n : Nat} {m : Str} (h1 : ¬ m = "_size" := by decide +kernel) (h2 : ¬ m = "_name" := by decide +kernel) : (flds k n).lookup m = none := flds_no _ _ h1 h2
theorem cut_tail (x : Int) (ws : List Int) : cutV ((x :: ws).map V.int) (some 1) none = ws.map V.int := by
  unfold cutV
  rw [HT.sIx_none]
  have e : HT.sIx ((x :: ws).map V.int).length 0 (some 1) = 1 := by
    have := HT.sIx_nat ((x :: ws).map V.int).length 0 1
    rw [show ((1 : Nat) : Int) = 1 from rfl] at this
    rw [this, List.length_map, List.length_cons]
    omega
  rw [e, List.map_cons, List.drop_succ_cons, List.drop_zero, List.length_cons, Nat.add_sub_cancel, List.take_length]
theorem cut_init (x : Int) (ws : List Int) : cutV ((ws ++ [x]).map V.int) none (some (-1)) = ws.map V.int := by
  unfold cutV
  rw [HT.sIx_none]
  have e : HT.sIx ((ws ++ [x]).map V.int).length ((ws ++ [x]).map V.int).length (some (-1)) = ws.length := by
    unfold HT.sIx
    dsimp only
    rw [if_pos (by omega), List.length_map, List.length_append, List.length_singleton]
    omega
  rw [e, List.drop_zero, Nat.sub_zero, List.map_append, List.take_append_of_le_length (by rw [List.length_map]; omega), List.take_of_length_le (by rw [List.length_map]; omega)]
def spSpread (K : PySem.W.Frag) (C : Addr) : Sp := fun vs H Q _ => ∃ (p o : Addr) (k : Nm) (n : Nat) (ws : List Int), vs = [.ref p, .ref o] ∧ KO K C H p o k n ws ∧
  ∀ q H', Same H H' → H q = none → H' q = some (.lst ((sprd k n ws).map V.int)) → Q (.ref q) H'
theorem ok_spread_of (T : Tk K w mg C D) (F : FnP K "spread_of" "spread_of" s_spread_of f fd) (c_m_name : Md P w K mg base C "name" ["self"] 1 (spName C)) : FnOk P w K mg base CX0 2 f fd ["kind", "order"] (spSpread K C) := by
  refine okN F sc_spread_of (fun vs H Q E h => ?_) (fun cdv A outer s H vs Q E hr h => ?_)
  · obtain ⟨p, o, k, n, ws, rfl, _⟩ := h
    rfl
  · obtain ⟨p, o, k, n, ws, rfl, hh, q⟩ := h
    obtain ⟨dx, hp⟩ := id hh.kat
    have hl := hh.len
    have hn := okK_le hh.ok
    refine ⟨_, (pss_cons (ps_set (i := 2) sc_spread_of.nd rfl (by first | exact Or.inl rfl | exact Or.inr rfl) (pe_methG0 T.cl c_m_name (hr.mono (by decide)) (pv 0)))
      (pss_cons (ps_if (pt_cmpR op_eq (pv 2) pe_str (nomark _)) (pss_one (ps_ret (pe_lst (pa_cons (pe_un un_neg (pe_ix ix_list (pv 1) pe_int (fun _ _ => rfl))) (StX.pa_star (pv 1) pa_nil))))) pss_nil)
      (pss_cons (ps_if (pt_cmpR op_eq (pv 2) pe_str (nomark _)) (pss_one (ps_ret (pe_lst (StX.pa_star (pv 1) (pa_cons (pe_op op_add (pe_ix ix_list (pv 1) pe_int (fun _ _ => rfl)) (pe_callB call_len_seq (by rfl) T.m_len (by decide +kernel) (pa_cons (pv 1) pa_nil))) pa_nil))))) pss_nil)
      (pss_one (ps_ret (pe_callTy call_list_of (by rfl) T.m_list (by decide +kernel) (pa_cons (pv 1) pa_nil))))))), ?_⟩
    refine ⟨_, rfl, p, dx, _, rfl, hp, noM, p, k, n, rfl, hh.kat, ?_⟩
    refine ⟨_, rfl, rfl, _, rfl, ite2 (fun hk => ?_) (fun hk => ?_)⟩
    · have ek := is_mi hk
      subst ek
      refine ⟨_, rfl, o, _, _, _, rfl, rfl, hh.ord, atI_nat (j := 0) (map_getD (by omega)), _, rfl, _, rfl, o, _, rfl, .inr hh.ord, ?_, fun t nt => ?_⟩
      · show (V.int (-(ws.getD 0 0)) :: (ws.map V.int ++ [])).length ≤ sizeLine
        rw [List.append_nil, List.length_cons, List.length_map]
        exact Nat.le_of_lt (small1000 (by omega))
      · refine q t _ (Same.upd nt) nt ?_
        rw [upd_same]
        show some (HO.lst (V.int (-(ws.getD 0 0)) :: (ws.map V.int ++ []))) = _
        rw [List.append_nil]
        rfl
    · have ek := not_mi hk
      refine ⟨_, rfl, rfl, _, rfl, ite2 (fun hr2 => ?_) (fun hr2 => ?_)⟩
      · rw [s_ri] at hr2
        have er := of_decide_eq_true hr2
        subst er
        refine ⟨_, rfl, o, _, rfl, .inr hh.ord, _, rfl, o, _, _, _, rfl, rfl, hh.ord, atI_nat (j := 0) (map_getD (by omega)), _, rfl, o, _, rfl, .inl hh.ord, _, _, rfl, rfl, ?_, fun t nt => ?_⟩
        · show ((ws.map V.int) ++ [V.int _]).length ≤ sizeLine
          rw [List.length_append, List.length_map]
          exact Nat.le_of_lt (small1000 (by simp; omega))
        · refine q t _ (Same.upd nt) nt ?_
          rw [upd_same]
          show some (HO.lst (ws.map V.int ++ [V.int (ws.getD 0 0 + ((ws.map V.int).length : Int))])) = some (HO.lst ((ws ++ [ws.getD 0 0 + (n : Int)]).map V.int))
          rw [List.length_map, hl, List.map_append]
          rfl
      · rw [s_ri] at hr2
        have er : k ≠ .ri := fun e => hr2 (decide_eq_true e)
        have e : sprd k n ws = ws := by
          cases k
          · rfl
          · exact absurd rfl ek
          · exact absurd rfl er
        rw [e] at q
        refine ⟨_, rfl, o, _, rfl, .inl hh.ord, fun m nm => q m _ (Same.upd nm) nm upd_same⟩
/-- three arguments: a name, a spread, a step -/
def spExIn (K : PySem.W.Frag) : Sp := fun vs H Q _ => ∃ (l : Addr) (k : Nm) (n : Nat) (ws : List Int) (s : Nat), vs = [.str k.s, .ref l, .int (s : Int)] ∧ H l = some (.lst ((sprd k n ws).map V.int)) ∧ ws.length = n ∧ okK k n = true ∧ okS k n (s : Int) ∧
  ∀ H', SameX l H H' → H' l = some (.lst ((sprd k n (after k n ws s)).map V.int)) → Q .non H'
theorem ok_exchange_in (T : Tk K w mg C D) (F : FnP K "exchange_in" "exchange_in" s_exchange_in f fd) : FnOk P w K mg base CX0 1 f fd ["name", "spread", "step"] (spExIn K) := by
  refine okN F sc_exchange_in (fun vs H Q E h => ?_) (fun cdv A outer s H vs Q E hr h => ?_)
  · obtain ⟨l, k, n, ws, s, rfl, _⟩ := h
    rfl
  · obtain ⟨l, k, n, ws, z, rfl, hL, hl, hK, hs, q⟩ := h
    have hn := okK_le hK
    have hlen := sprd_len (k := k) hl hn.1
    have hz : z + 1 < (sprd k n ws).length := by
      obtain ⟨_, h2⟩ := hs
      omega
    rw [← exIn_sprd hl hK hs] at q
    generalize hS : sprd k n ws = S at *
    have hSL : S.length ≤ 8 := by
      rw [hlen]
      unfold many
      split <;> omega
    refine ⟨_, (pss_cons (ps_asg (pe_tup (pa_cons (pe_ix ix_list (pv 1) (pe_op op_add (pv 2) pe_int) (fun _ _ => rfl)) (pa_cons (pe_ix ix_list (pv 1) (pv 2) (fun _ _ => rfl)) pa_nil))) (pg_tup rfl (pgs_cons (pg_sub (pv 1) (pv 2) set_list) (pgs_cons (pg_sub (pv 1) (pe_op op_add (pv 2) pe_int) set_list) pgs_nil))))
      (pss_one (ps_if (pt_cmpR op_eq (pv 0) pe_str (nomark _)) (pss_one (ps_if (pt_cmpR op_eq (pv 2) pe_int (nomark _)) (pss_one (ps_asg (pe_un un_neg (pe_ix ix_list (pv 1) pe_int (fun _ _ => rfl))) (pg_sub (pv 1) pe_int set_list))) pss_nil)) (pss_one (ps_if (pt_cmpR op_eq (pv 0) pe_str (nomark _)) (pss_cons (ps_set (i := 3) sc_exchange_in.nd rfl (by first | exact Or.inl rfl | exact Or.inr rfl) (pe_op op_sub (pe_callB call_len_seq (by rfl) T.m_len (by decide +kernel) (pa_cons (pv 1) pa_nil)) pe_int))
      (pss_one (ps_if (pt_cmpR op_eq (pv 2) pe_int (nomark _)) (pss_one (ps_asg (pe_op op_add (pe_ix ix_list (pv 1) pe_int (fun _ _ => rfl)) (pv 3)) (pg_sub (pv 1) (pv 3) set_list))) (pss_one (ps_if (pt_cmpR op_eq (pv 2) (pe_op op_sub (pv 3) pe_int) (nomark _)) (pss_one (ps_asg (pe_op op_sub (pe_ix ix_list (pv 1) (pv 3) (fun _ _ => rfl)) (pv 3)) (pg_sub (pv 1) pe_int set_list))) pss_nil))))) pss_nil))))), ?_⟩
    refine ⟨_, rfl, _, rfl, _, _, rfl, rfl, l, _, _, _, rfl, rfl, .inl (.inl hL), at_of (j := z + 1) (by omega) (map_getD (by omega)), _, rfl, _, rfl, l, _, _, _, rfl, rfl, .inl (.inl hL), atI_nat (map_getD (by omega)), (by show 2 ≤ sizeLine; decide), fun t nt => ?_⟩
    have hlt : l ≠ t := ne_of_none hL nt
    have eL := (upd_ne (o := .tup [.int (S.getD (z + 1) 0), .int (S.getD z 0)]) hlt).trans hL
    have x1 : SameX l H (L2.upd H t (.tup [.int (S.getD (z + 1) 0), .int (S.getD z 0)])) := Same.x l (Same.upd nt)
    refine ⟨t, _, rfl, SqT.of upd_same, rfl, _, _, rfl, _, rfl, _, rfl, l, _, _, z, rfl, rfl, eL, ixN_nat (by rw [List.length_map]; omega), ?_⟩
    refine ⟨_, _, rfl, _, rfl, _, rfl, _, _, rfl, rfl, l, _, _, z + 1, rfl, rfl, upd_same, (by rw [List.length_set, List.length_map]; exact ixN_nat (i := z + 1) (by omega)), rfl, ?_⟩
    rw [set_map, set_map]
    have x3 := (x1.trans (SameX.upd (o := .lst ((S.set z (S.getD (z + 1) 0)).map V.int)))).trans (SameX.upd (o := .lst ((swpS S z).map V.int)))
    have hsl := swpS_len S z
    show _
    refine ⟨_, rfl, rfl, _, rfl, ite2 (fun hk => ?_) (fun hk => ?_)⟩
    · have ek := is_mi hk
      subst ek
      refine ⟨_, rfl, rfl, _, rfl, ite2 (fun h1 => ?_) (fun h1 => ?_)⟩
      · have h1 : (z : Int) = 1 := V.int.inj (of_decide_eq_true h1)
        have e : exIn .mi S z = (swpS S z).set 0 (-((swpS S z).getD 1 0)) := if_pos (by omega)
        rw [e] at q
        refine ⟨_, rfl, l, _, _, _, rfl, rfl, .inl (.inl upd_same), atI_nat (j := 1) (map_getD (by rw [show ((S.set z (S.getD (z + 1) 0)).set (z + 1) (S.getD z 0)).length = S.length from hsl]; omega)), _, rfl, _, rfl, l, _, _, 0, rfl, rfl, upd_same, ixN_nat (i := 0) (by rw [List.length_map]; show 0 < (swpS S z).length; omega), ?_⟩
        refine q _ (x3.trans SameX.upd) ?_
        rw [upd_same, set_map]
        rfl
      · have h1 : ¬ (z : Int) = 1 := fun e => h1 (decide_eq_true (congrArg V.int e))
        have e : exIn .mi S z = swpS S z := if_neg (by omega)
        rw [e] at q
        exact q _ x3 upd_same
    · have ek := not_mi hk
      refine ⟨_, rfl, rfl, _, rfl, ite2 (fun hr2 => ?_) (fun hr2 => ?_)⟩
      · rw [s_ri] at hr2
        have er := of_decide_eq_true hr2
        subst er
        have e : exIn .ri S z = if z = 0 then (swpS S z).set (S.length - 1) ((swpS S z).getD 0 0 + ((S.length - 1 : Nat) : Int)) else if z + 1 = S.length - 1 then (swpS S z).set 0 ((swpS S z).getD (S.length - 1) 0 - ((S.length - 1 : Nat) : Int)) else swpS S z := rfl
        rw [e] at q
        have hml : ((((S.set z (S.getD (z + 1) 0)).set (z + 1) (S.getD z 0)).map V.int).length : Int) = (S.length : Int) := by
          rw [List.length_map]
          exact congrArg Nat.cast hsl
        refine ⟨_, rfl, l, _, rfl, .inl (.inl (.inl upd_same)), _, _, rfl, rfl, ?_⟩
        rw [hml]
        refine ⟨_, rfl, rfl, _, rfl, ite2 (fun h0 => ?_) (fun h0 => ?_)⟩
        · have h0 : (z : Int) = 0 := V.int.inj (of_decide_eq_true h0)
          rw [if_pos (by omega)] at q
          refine ⟨_, rfl, l, _, _, _, rfl, rfl, .inl (.inl upd_same), atI_nat (j := 0) (map_getD (by show 0 < (swpS S z).length; omega)), _, rfl, _, _, rfl, rfl, _, rfl, _, rfl, l, _, _, S.length - 1, rfl, rfl, upd_same, (by rw [show (S.length : Int) - 1 = ((S.length - 1 : Nat) : Int) by omega]; exact ixN_nat (by rw [List.length_map]; show _ < (swpS S z).length; omega)), ?_⟩
          refine q _ (x3.trans SameX.upd) ?_
          rw [upd_same, set_map, show (S.length : Int) - 1 = ((S.length - 1 : Nat) : Int) by omega]
          rfl
        · have h0 : ¬ (z : Int) = 0 := fun e => h0 (decide_eq_true (congrArg V.int e))
          rw [if_neg (by omega)] at q
          refine ⟨_, rfl, _, rfl, _, _, rfl, rfl, rfl, _, rfl, ite2 (fun h1 => ?_) (fun h1 => ?_)⟩
          · have h1 : (z : Int) = (S.length : Int) - 1 - 1 := V.int.inj (of_decide_eq_true h1)
            rw [if_pos (by omega)] at q
            refine ⟨_, rfl, _, rfl, l, _, _, _, rfl, rfl, .inl (.inl upd_same), at_of (j := S.length - 1) (by omega) (map_getD (by show _ < (swpS S z).length; omega)), _, rfl, _, _, rfl, rfl, _, rfl, l, _, _, 0, rfl, rfl, upd_same, ixN_nat (i := 0) (by rw [List.length_map]; show 0 < (swpS S z).length; omega), ?_⟩
            refine q _ (x3.trans SameX.upd) ?_
            rw [upd_same, set_map, show (S.length : Int) - 1 = ((S.length - 1 : Nat) : Int) by omega]
            rfl
          · have h1 : ¬ (z : Int) = (S.length : Int) - 1 - 1 := fun e => h1 (decide_eq_true (congrArg V.int e))
            rw [if_neg (by omega)] at q
            exact q _ x3 upd_same
      · rw [s_ri] at hr2
        have er : k ≠ .ri := fun e => hr2 (decide_eq_true e)
        have e : exIn k S z = swpS S z := by
          cases k
          · rfl
          · exact absurd rfl ek
          · exact absurd rfl er
        rw [e] at q
        exact q _ x3 upd_same
def spOrdIn (K : PySem.W.Frag) (C : Addr) : Sp := fun vs H Q _ => ∃ (p l : Addr) (k : Nm) (n : Nat) (ws : List Int), vs = [.ref p, .ref l] ∧ KAt C H p k n ∧ H l = some (.lst ((sprd k n ws).map V.int)) ∧ ws.length = n ∧ okK k n = true ∧
  ∀ q H', Same H H' → H q = none → H' q = some (.lst (ws.map V.int)) → Q (.ref q) H'
theorem ok_order_in (T : Tk K w mg C D) (F : FnP K "order_in" "order_in" s_order_in f fd) (c_m_name : Md P w K mg base C "name" ["self"] 1 (spName C)) : FnOk P w K mg base CX0 2 f fd ["kind", "spread"] (spOrdIn K C) := by
  refine okN F sc_order_in (fun vs H Q E h => ?_) (fun cdv A outer s H vs Q E hr h => ?_)
  · obtain ⟨p, l, k, n, ws, rfl, _⟩ := h
    rfl
  · obtain ⟨p, l, k, n, ws, rfl, hk0, hL, hl, hK, q⟩ := h
    obtain ⟨dx, hp⟩ := id hk0
    have hn := okK_le hK
    refine ⟨_, (pss_cons (ps_set (i := 2) sc_order_in.nd rfl (by first | exact Or.inl rfl | exact Or.inr rfl) (pe_methG0 T.cl c_m_name (hr.mono (by decide)) (pv 0)))
      (pss_cons (ps_if (pt_cmpR op_eq (pv 2) pe_str (nomark _)) (pss_one (ps_ret (pe_slice sl_list (pv 1) (po_some pe_int) po_none))) pss_nil)
      (pss_one (ps_ret (pe_ifExp (pt_cmpR op_eq (pv 2) pe_str (nomark _)) (pe_slice sl_list (pv 1) po_none (po_some (pe_un un_neg pe_int))) (pe_callTy call_list_of (by rfl) T.m_list (by decide +kernel) (pa_cons (pv 1) pa_nil))))))), ?_⟩
    refine ⟨_, rfl, p, dx, _, rfl, hp, noM, p, k, n, rfl, hk0, ?_⟩
    refine ⟨_, rfl, rfl, _, rfl, ite2 (fun hk => ?_) (fun hk => ?_)⟩
    · have ek := is_mi hk
      subst ek
      refine ⟨_, rfl, _, rfl, l, _, rfl, .inl (.inl hL), fun t nt => q t _ (Same.upd nt) nt ?_⟩
      rw [upd_same]
      show some (HO.lst (cutV ((-(ws.getD 0 0) :: ws).map V.int) (some 1) none)) = _
      rw [cut_tail]
    · have ek := not_mi hk
      refine ⟨_, rfl, rfl, _, rfl, ite2 (fun hr2 => ?_) (fun hr2 => ?_)⟩
      · rw [s_ri] at hr2
        have er := of_decide_eq_true hr2
        subst er
        refine ⟨_, rfl, _, rfl, _, rfl, l, _, rfl, .inl (.inl hL), fun t nt => q t _ (Same.upd nt) nt ?_⟩
        rw [upd_same]
        show some (HO.lst (cutV ((ws ++ [ws.getD 0 0 + (n : Int)]).map V.int) none (some (-1)))) = _
        rw [cut_init]
      · rw [s_ri] at hr2
        have er : k ≠ .ri := fun e => hr2 (decide_eq_true e)
        have e : sprd k n ws = ws := by
          cases k
          · rfl
          · exact absurd rfl ek
          · exact absurd rfl er
        rw [e] at hL
        exact ⟨_, rfl, l, _, rfl, .inl (.inl (.inl hL)), fun m nm => q m _ (Same.upd nm) nm upd_same⟩
def spCrossP (K : PySem.W.Frag) (C : Addr) : Sp := fun vs H Q _ => ∃ (p o : Addr) (k : Nm) (n : Nat) (ws : List Int) (s : Nat), vs = [.ref p, .ref o, .int (s : Int)] ∧ KOS K C H p o k n ws s ∧
  ∀ H', Same H H' → Q (.bl (crossP k n ws s)) H'
theorem ok_is_crossedP (T : Tk K w mg C D) (F : FnP K "is_crossed" "is_crossed" s_is_crossed f fd) (c_m_name : Md P w K mg base C "name" ["self"] 1 (spName C)) : FnOk P w K mg base CX0 3 f fd ["kind", "order", "step"] (spCrossP K C) := by
  refine okN F sc_is_crossed (fun vs H Q E h => ?_) (fun cdv A outer s H vs Q E hr h => ?_)
  · obtain ⟨p, o, k, n, ws, s, rfl, _⟩ := h
    rfl
  · obtain ⟨p, o, k, n, ws, z, rfl, hh, q⟩ := h
    obtain ⟨dx, hp⟩ := id hh.kat
    have hl := hh.len
    have hn := okK_le hh.ok
    have qq := q H (Same.refl H)
    unfold crossP at qq
    refine ⟨_, (pss_cons (ps_if (pt_cmpR op_eq (pe_methG0 T.cl c_m_name (hr.mono (by decide)) (pv 0)) pe_str (nomark _)) (pss_one (ps_ret (pe_ifExp (pt_cmpR op_gt (pv 2) pe_int (nomark _)) (pe_cmpR op_gt (pe_ix ix_list (pv 1) (pe_op op_sub (pv 2) pe_int) (fun _ _ => rfl)) (pe_ix ix_list (pv 1) (pv 2) (fun _ _ => rfl)) (nomark _)) (pe_cmpR op_lt (pe_ix ix_list (pv 1) pe_int (fun _ _ => rfl)) pe_int (nomark _))))) pss_nil)
      (pss_cons (ps_if (pt_cmpR op_eq (pe_op op_add (pv 2) pe_int) (pe_callB call_len_seq (by rfl) T.m_len (by decide +kernel) (pa_cons (pv 1) pa_nil)) (nomark _)) (pss_one (ps_ret (pe_cmpR op_gt (pe_ix ix_list (pv 1) (pv 2) (fun _ _ => rfl)) (pe_op op_add (pe_ix ix_list (pv 1) pe_int (fun _ _ => rfl)) (pe_callB call_len_seq (by rfl) T.m_len (by decide +kernel) (pa_cons (pv 1) pa_nil))) (nomark _)))) pss_nil)
      (pss_one (ps_ret (pe_cmpR op_gt (pe_ix ix_list (pv 1) (pv 2) (fun _ _ => rfl)) (pe_ix ix_list (pv 1) (pe_op op_add (pv 2) pe_int) (fun _ _ => rfl)) (nomark _)))))), ?_⟩
    refine ⟨_, rfl, p, dx, _, rfl, hp, noM, p, k, n, rfl, hh.kat, rfl, _, rfl, ite2 (fun hk => ?_) (fun hk => ?_)⟩
    · have ek := is_mi hk
      subst ek
      have h1 := st_np (by decide) hh.st
      refine ⟨_, rfl, _, _, rfl, rfl, _, rfl, ite2 (fun h0 => ?_) (fun h0 => ?_)⟩
      · have h0 := of_decide_eq_true h0
        have e : exch .mi n ws z = (ws.getD (z - 1) 0, ws.getD z 0) := by
          unfold exch
          rw [if_neg (by decide), if_neg (by decide), if_neg (by omega)]
        rw [e] at qq
        exact ⟨_, rfl, _, rfl, _, _, rfl, rfl, o, _, _, _, rfl, rfl, hh.ord, at_of (j := z - 1) (by omega) (map_getD (by omega)), _, rfl, _, rfl, o, _, _, _, rfl, rfl, hh.ord, atI_nat (map_getD (by omega)), _, _, rfl, rfl, qq⟩
      · have h0 : ¬ (0 : Int) < (z : Int) := fun z => h0 (decide_eq_true z)
        have e : exch .mi n ws z = (-(ws.getD 0 0), ws.getD 0 0) := by
          unfold exch
          rw [if_neg (by decide), if_neg (by decide), if_pos (by omega)]
        rw [e] at qq
        refine ⟨_, rfl, o, _, _, _, rfl, rfl, hh.ord, atI_nat (j := 0) (map_getD (by omega)), _, _, rfl, rfl, qB qq ?_⟩
        exact decide_eq_decide.mpr (by dsimp only; omega)
    · have ek := not_mi hk
      refine ⟨_, rfl, _, _, rfl, rfl, _, rfl, o, _, rfl, .inl hh.ord, rfl, _, rfl, ite2 (fun h2 => ?_) (fun h2 => ?_)⟩
      · have h2 : (z : Int) + 1 = ((ws.map V.int).length : Int) := V.int.inj (of_decide_eq_true h2)
        rw [List.length_map, hl] at h2
        have er : k = .ri := by
          cases k with
          | pl => have := st_pl hh.st; omega
          | mi => exact absurd rfl ek
          | ri => rfl
        subst er
        have e : exch .ri n ws z = (ws.getD z 0, ws.getD 0 0 + (n : Int)) := by
          unfold exch
          rw [if_neg (by decide), if_pos rfl, if_pos (by omega)]
        rw [e] at qq
        refine ⟨_, rfl, _, rfl, o, _, _, _, rfl, rfl, hh.ord, atI_nat (map_getD (by omega)), _, rfl, o, _, _, _, rfl, rfl, hh.ord, atI_nat (j := 0) (map_getD (by omega)), _, rfl, o, _, rfl, .inl hh.ord, _, _, rfl, rfl, _, _, rfl, rfl, ?_⟩
        rw [List.length_map, hl]
        exact qq
      · have h2 : ¬ (z : Int) + 1 = ((ws.map V.int).length : Int) := fun e => h2 (decide_eq_true (congrArg V.int e))
        rw [List.length_map, hl] at h2
        have h1 : z + 1 < n := by
          cases k with
          | pl => exact st_pl hh.st
          | mi => exact absurd rfl ek
          | ri => have := st_np (by decide) hh.st; omega
        have e : exch k n ws z = (ws.getD z 0, ws.getD (z + 1) 0) := by
          unfold exch
          cases k with
          | pl => rfl
          | mi => exact absurd rfl ek
          | ri => rw [if_neg (by decide), if_pos rfl, if_neg (by omega)]
        rw [e] at qq
        exact ⟨_, rfl, _, rfl, o, _, _, _, rfl, rfl, hh.ord, atI_nat (map_getD (by omega)), _, rfl, _, rfl, _, _, rfl, rfl, o, _, _, _, rfl, rfl, hh.ord, at_of (j := z + 1) (by omega) (map_getD (by omega)), _, _, rfl, rfl, qq⟩
def spAfter (K : PySem.W.Frag) (C : Addr) : Sp := fun vs H Q _ => ∃ (p o : Addr) (k : Nm) (n : Nat) (ws : List Int) (s : Nat), vs = [.ref p, .ref o, .int (s : Int)] ∧ KOS K C H p o k n ws s ∧
  ∀ q H', Same H H' → H q = none → H' q = some (.lst ((after k n ws s).map V.int)) → Q (.ref q) H'
theorem ok_after_step (T : Tk K w mg C D) (F : FnP K "after_step" "after_step" s_after_step f fd) (c_m_name : Md P w K mg base C "name" ["self"] 1 (spName C)) : FnOk P w K mg base CX0 3 f fd ["kind", "order", "step"] (spAfter K C) := by
  refine okN F sc_after_step (fun vs H Q E h => ?_) (fun cdv A outer s H vs Q E hr h => ?_)
  · obtain ⟨p, o, k, n, ws, s, rfl, _⟩ := h
    rfl
  · obtain ⟨p, o, k, n, ws, z, rfl, hh, q⟩ := h
    have hl := hh.len
    have hn := okK_le hh.ok
    refine ⟨_, (pss_cons (ps_set (i := 3) sc_after_step.nd rfl (by first | exact Or.inl rfl | exact Or.inr rfl) (pe_callTy call_list_of (by rfl) T.m_list (by decide +kernel) (pa_cons (pv 1) pa_nil)))
      (pss_cons (ps_if (pt_cmpR op_eq (pe_methG0 T.cl c_m_name (hr.mono (by decide)) (pv 0)) pe_str (nomark _)) (pss_one (ps_if (pt_cmpR op_eq (pv 2) pe_int (nomark _)) (pss_one (ps_asg (pe_un un_neg (pe_ix ix_list (pv 3) pe_int (fun _ _ => rfl))) (pg_sub (pv 3) pe_int set_list))) (pss_one (ps_asg (pe_tup (pa_cons (pe_ix ix_list (pv 3) (pv 2) (fun _ _ => rfl)) (pa_cons (pe_ix ix_list (pv 3) (pe_op op_sub (pv 2) pe_int) (fun _ _ => rfl)) pa_nil))) (pg_tup rfl (pgs_cons (pg_sub (pv 3) (pe_op op_sub (pv 2) pe_int) set_list) (pgs_cons (pg_sub (pv 3) (pv 2) set_list) pgs_nil))))))) (pss_one (ps_if (pt_cmpR op_eq (pe_op op_add (pv 2) pe_int) (pe_callB call_len_seq (by rfl) T.m_len (by decide +kernel) (pa_cons (pv 3) pa_nil)) (nomark _)) (pss_one (ps_asg (pe_tup (pa_cons (pe_op op_add (pe_ix ix_list (pv 3) pe_int (fun _ _ => rfl)) (pe_callB call_len_seq (by rfl) T.m_len (by decide +kernel) (pa_cons (pv 3) pa_nil))) (pa_cons (pe_op op_sub (pe_ix ix_list (pv 3) (pv 2) (fun _ _ => rfl)) (pe_callB call_len_seq (by rfl) T.m_len (by decide +kernel) (pa_cons (pv 3) pa_nil))) pa_nil))) (pg_tup rfl (pgs_cons (pg_sub (pv 3) (pv 2) set_list) (pgs_cons (pg_sub (pv 3) pe_int set_list) pgs_nil))))) (pss_one (ps_asg (pe_tup (pa_cons (pe_ix ix_list (pv 3) (pe_op op_add (pv 2) pe_int) (fun _ _ => rfl)) (pa_cons (pe_ix ix_list (pv 3) (pv 2) (fun _ _ => rfl)) pa_nil))) (pg_tup rfl (pgs_cons (pg_sub (pv 3) (pv 2) set_list) (pgs_cons (pg_sub (pv 3) (pe_op op_add (pv 2) pe_int) set_list) pgs_nil))))))))
      (pss_one (ps_ret (pv 3))))), ?_⟩
    refine ⟨_, rfl, o, _, rfl, .inl hh.ord, fun m nm => ?_⟩
    have u1 := Same.upd (o := .lst (ws.map V.int)) nm
    obtain ⟨dx, hp⟩ := (hh.keep u1).kat
    have kp : KAt C _ p k n := ⟨dx, hp⟩
    have em : (L2.upd H m (.lst (ws.map V.int))) m = some (.lst (ws.map V.int)) := upd_same
    have em' : SqL K (L2.upd H m (.lst (ws.map V.int))) m (ws.map V.int) := .inl (.inl em)
    -- two items that change their places
    have two : ∀ (t : Addr) (x y : Int) (i j : Nat) (nt : (L2.upd H m (.lst (ws.map V.int))) t = none), i < n → j < n → after k n ws z = (ws.set i x).set j y →
        (L2.upd (L2.upd H m (.lst (ws.map V.int))) t (.tup [.int x, .int y])) m = some (.lst (ws.map V.int)) ∧ ∀ H3, H3 = L2.upd (L2.upd (L2.upd (L2.upd H m (.lst (ws.map V.int))) t (.tup [.int x, .int y])) m (.lst ((ws.map V.int).set i (.int x)))) m (.lst (((ws.map V.int).set i (.int x)).set j (.int y))) → Q (.ref m) H3 := fun t x y i j nt hi hj e => by
      have hm2 : m ≠ t := ne_of_none em nt
      refine ⟨(upd_ne hm2).trans em, fun H3 e3 => ?_⟩
      subst e3
      refine q m _ (fun b yb eb => ?_) nm ?_
      · rw [upd_ne (ne_of_none eb nm), upd_ne (ne_of_none eb nm)]
        exact (u1.trans (Same.upd nt)) _ _ eb
      · rw [upd_same, set_map, set_map, e]
    refine ⟨_, rfl, p, dx, _, rfl, hp, noM, p, k, n, rfl, kp, rfl, _, rfl, ite2 (fun hk => ?_) (fun hk => ?_)⟩
    · have ek := is_mi hk
      subst ek
      have h1 := st_np (by decide) hh.st
      refine ⟨_, rfl, rfl, _, rfl, ite2 (fun h0 => ?_) (fun h0 => ?_)⟩
      · have h0 : (z : Int) = 0 := V.int.inj (of_decide_eq_true h0)
        refine ⟨_, rfl, m, _, _, _, rfl, rfl, em', atI_nat (j := 0) (map_getD (by omega)), _, rfl, _, rfl, m, _, _, 0, rfl, rfl, em, ixN_nat (i := 0) (by rw [List.length_map]; omega), ?_⟩
        refine ⟨_, rfl, q m _ (fun b y e => ?_) nm ?_⟩
        · rw [upd_ne (ne_of_none e nm)]
          exact u1 _ _ e
        · rw [upd_same, set_map]
          unfold after exch
          rw [if_neg (by decide), if_neg (by simp), if_neg (by decide), if_pos (by omega), if_neg (by decide), if_neg (by decide), if_pos (by omega)]
      · have h0 : ¬ (z : Int) = 0 := fun e => h0 (decide_eq_true (congrArg V.int e))
        refine ⟨_, rfl, _, rfl, m, _, _, _, rfl, rfl, em', atI_nat (map_getD (by omega)), _, rfl, _, rfl, _, _, rfl, rfl, m, _, _, _, rfl, rfl, em', at_of (j := z - 1) (by omega) (map_getD (by omega)), (by show 2 ≤ sizeLine; decide), fun t nt => ?_⟩
        obtain ⟨em2, fin⟩ := two t (ws.getD z 0) (ws.getD (z - 1) 0) (z - 1) z nt (by omega) (by omega) (by
          unfold after exch
          rw [if_neg (by decide), if_neg (by simp), if_neg (by decide), if_neg (by omega), if_neg (by decide), if_neg (by decide), if_neg (by omega)])
        refine ⟨t, _, rfl, SqT.of upd_same, rfl, _, _, rfl, _, rfl, _, rfl, _, _, rfl, rfl, m, _, _, z - 1, rfl, rfl, em2, (by rw [show (z : Int) - 1 = ((z - 1 : Nat) : Int) by omega]; exact ixN_nat (by rw [List.length_map]; omega)), ?_⟩
        refine ⟨_, _, rfl, _, rfl, _, rfl, m, _, _, z, rfl, rfl, upd_same, (by rw [List.length_set, List.length_map]; exact ixN_nat (by omega)), rfl, ?_⟩
        exact ⟨_, rfl, fin _ rfl⟩
    · have ek := not_mi hk
      refine ⟨_, rfl, _, _, rfl, rfl, _, rfl, m, _, rfl, .inl em', rfl, _, rfl, ite2 (fun h2 => ?_) (fun h2 => ?_)⟩
      · have h2 : (z : Int) + 1 = ((ws.map V.int).length : Int) := V.int.inj (of_decide_eq_true h2)
        rw [List.length_map, hl] at h2
        have er : k = .ri := by
          cases k with
          | pl => have := st_pl hh.st; omega
          | mi => exact absurd rfl ek
          | ri => rfl
        subst er
        refine ⟨_, rfl, m, _, _, _, rfl, rfl, em', atI_nat (j := 0) (map_getD (by omega)), _, rfl, m, _, rfl, .inl em', _, _, rfl, rfl, _, rfl, _, rfl, m, _, _, _, rfl, rfl, em', atI_nat (map_getD (by omega)), _, rfl, m, _, rfl, .inl em', _, _, rfl, rfl, (by show 2 ≤ sizeLine; decide), fun t nt => ?_⟩
        obtain ⟨em2, fin⟩ := two t (ws.getD 0 0 + ((ws.map V.int).length : Int)) (ws.getD z 0 - ((ws.map V.int).length : Int)) z 0 nt (by omega) (by omega) (by
          rw [List.length_map, hl]
          unfold after exch
          rw [if_neg (by decide), if_pos ⟨rfl, by omega⟩, if_neg (by decide), if_pos rfl, if_pos (by omega)])
        refine ⟨t, _, rfl, SqT.of upd_same, rfl, _, _, rfl, _, rfl, _, rfl, m, _, _, z, rfl, rfl, em2, ixN_nat (by rw [List.length_map]; omega), ?_⟩
        refine ⟨_, _, rfl, _, rfl, m, _, _, 0, rfl, rfl, upd_same, (by rw [List.length_set, List.length_map]; exact ixN_nat (i := 0) (by omega)), rfl, ?_⟩
        exact ⟨_, rfl, fin _ rfl⟩
      · have h2 : ¬ (z : Int) + 1 = ((ws.map V.int).length : Int) := fun e => h2 (decide_eq_true (congrArg V.int e))
        rw [List.length_map, hl] at h2
        have h1 : z + 1 < n := by
          cases k with
          | pl => exact st_pl hh.st
          | mi => exact absurd rfl ek
          | ri => have := st_np (by decide) hh.st; omega
        refine ⟨_, rfl, _, rfl, _, _, rfl, rfl, m, _, _, _, rfl, rfl, em', at_of (j := z + 1) (by omega) (map_getD (by omega)), _, rfl, _, rfl, m, _, _, _, rfl, rfl, em', atI_nat (map_getD (by omega)), (by show 2 ≤ sizeLine; decide), fun t nt => ?_⟩
        obtain ⟨em2, fin⟩ := two t (ws.getD (z + 1) 0) (ws.getD z 0) z (z + 1) nt (by omega) (by omega) (by
          unfold after exch
          cases k with
          | pl => rfl
          | mi => exact absurd rfl ek
          | ri => rw [if_neg (by decide), if_neg (fun e => by have := e.2; omega), if_pos rfl, if_neg (by decide), if_pos rfl, if_neg (by omega)])
        refine ⟨t, _, rfl, SqT.of upd_same, rfl, _, _, rfl, _, rfl, _, rfl, m, _, _, z, rfl, rfl, em2, ixN_nat (by rw [List.length_map]; omega), ?_⟩
        refine ⟨_, _, rfl, _, rfl, _, rfl, _, _, rfl, rfl, m, _, _, z + 1, rfl, rfl, upd_same, (by rw [List.length_set, List.length_map]; exact ixN_nat (i := z + 1) (by omega)), rfl, ?_⟩
        exact ⟨_, rfl, fin _ rfl⟩
end
end Sv

namespace Sv
open PySem PySem.Spec PyProof.Rows L2
section
variable {P : Program} {w : World} {K : PySem.W.Frag} {mg : Str → Option Value} {base : Heap} {f C D : Addr} {fd : FuncData}
def spAreWhole (K : PySem.W.Frag) : Sp := fun vs H Q _ => ∃ (o : Addr) (ws : List Int), vs = [.ref o] ∧ SqL K H o (ws.map V.int) ∧ ws.length ≤ 100 ∧ ∀ H', Same H H' → Q (.bl true) H'
theorem ok_are_whole (T : Tk K w mg C D) (F : FnP K "are_whole" "are_whole" s_are_whole f fd) : FnOk P w K mg base CX0 2 f fd ["values"] (spAreWhole K) := by
  refine okN F sc_are_whole (fun vs H Q E h => ?_) (fun cdv A outer s H vs Q E hr h => ?_)
  · obtain ⟨o, ws, rfl, _⟩ := h
    rfl
  · obtain ⟨o, ws, rfl, hO, hl, q⟩ := h
    refine ⟨_, (pss_cons (ps_for PassesOwn.never rfl (pi_list (pv 0)) (pg_name (i := 1) sc_are_whole.nd rfl (Or.inl rfl)) (pss_one (ps_if (PW.pt (pw_or (pt_not (pt_val (pe_callB call_isi (by rfl) T.m_isinstance (by decide +kernel) (pa_cons (pv 1) (pa_cons (pe_bltn (v := .ty "int") (by rfl) T.m_int (by decide +kernel) rfl) pa_nil))))) (pw_or1 (pt_val (pe_callB call_isi (by rfl) T.m_isinstance (by decide +kernel) (pa_cons (pv 1) (pa_cons (pe_bltn (v := .ty "bool") (by rfl) T.m_bool (by decide +kernel) rfl) pa_nil))))))) (pss_one (ps_ret pe_bl)) pss_nil)))
      (pss_one (ps_ret pe_bl))), ?_⟩
    refine ⟨_, rfl, o, rfl, ⟨_, hO⟩, ?_⟩
    refine for_list (K := K) (a := o) (xs := ws.map V.int) (fun i σ H2 => ∃ (v : Option V), σ = [some (.ref o), v] ∧ Same H H2) ⟨none, rfl, Same.refl _⟩ (fun i σ H2 _ h2 => by obtain ⟨_, _, s2⟩ := h2; exact s2.seq hO) ?_ ?_
    · rintro i x σ H2 hi ⟨v, rfl, s2⟩
      obtain ⟨hj, rfl⟩ := at_map hi
      refine ⟨_, rfl, .int (ws.getD i 0), .ty "int", .type "int", .type "int", true, rfl, .ty _, .base (.int _), kit_ty (by decide +kernel), true, rfl, iteN (by decide) ?_⟩
      refine ⟨_, rfl, .int (ws.getD i 0), .ty "bool", .type "int", .type "bool", false, rfl, .ty _, .base (.int _), kit_ty (by decide +kernel), false, rfl, iteN (by decide) ?_⟩
      exact ⟨_, rfl, s2⟩
    · rintro σ H2 ⟨v, rfl, s2⟩
      exact q H2 s2
def spFallsOf (K : PySem.W.Frag) (C : Addr) : Sp := fun vs H Q _ => ∃ (p o : Addr) (k : Nm) (n : Nat) (ws : List Int), vs = [.ref p, .ref o] ∧ KO K C H p o k n ws ∧
  ∀ q H', Same H H' → H q = none → H' q = some (.lst ((fallsP k n ws).map V.int)) → Q (.ref q) H'
def spItemAt (K : PySem.W.Frag) (C : Addr) : Sp := fun vs H Q _ => ∃ (p o : Addr) (k : Nm) (n : Nat) (ws : List Int) (x : Int), vs = [.ref p, .ref o, .int x] ∧ KO K C H p o k n ws ∧ okP k n x ∧ Q (.int (itemP k n ws x)) H
def spProd (K : PySem.W.Frag) (C : Addr) : Sp := fun vs H Q _ => ∃ (p o u : Addr) (k : Nm) (n : Nat) (ws us : List Int), vs = [.ref p, .ref o, .ref u] ∧ KO K C H p o k n ws ∧ SqL K H u (us.map V.int) ∧ us.length ≤ 100 ∧ (∀ x ∈ us, okQ k n x) ∧
  ∀ q H', Same H H' → H q = none → H' q = some (.lst ((prodP k n ws us).map V.int)) → Q (.ref q) H'
theorem invPos_lt {k : Nm} {n : Nat} {x : Int} (hn : 1 ≤ n) (h : okP k n x) : invPos k n x < n := by
  unfold invPos
  split
  · rename_i e
    have := h e
    omega
  · have h1 := Int.emod_nonneg x (show (n : Int) ≠ 0 by omega)
    have h2 := Int.emod_lt_of_pos x (show (0 : Int) < n by omega)
    omega
theorem invUpTo_len (k : Nm) (n : Nat) (ws : List Int) : ∀ i, (invUpTo k n ws i).length = n
  | 0 => startL_len _ _
  | i + 1 => by
    show ((invUpTo k n ws i).set _ _).length = n
    rw [List.length_set, invUpTo_len k n ws i]
def spOpp (K : PySem.W.Frag) (C : Addr) : Sp := fun vs H Q _ => ∃ (p o : Addr) (k : Nm) (n : Nat) (ws : List Int), vs = [.ref p, .ref o] ∧ KO K C H p o k n ws ∧ Form k n ws ∧
  ∀ q H', Same H H' → H q = none → H' q = some (.lst ((invP k n ws).map V.int)) → Q (.ref q) H'
theorem rep_flat : ∀ n : Nat, (List.replicate n [V.int 0]).flatten = (List.replicate n (0 : Int)).map V.int
  | 0 => rfl
  | n + 1 => by
    rw [List.replicate_succ, List.flatten_cons, rep_flat n, List.replicate_succ]
    rfl
theorem ok_opposite_of (T : Tk K w mg C D) (F : FnP K "opposite_of" "opposite_of" s_opposite_of f fd) (c_m_name : Md P w K mg base C "name" ["self"] 1 (spName C)) : FnOk P w K mg base CX0 2 f fd ["kind", "order"] (spOpp K C) := by
  refine okN F sc_opposite_of (fun vs H Q E h => ?_) (fun cdv A outer s H vs Q E hr h => ?_)
  · obtain ⟨p, o, k, n, ws, rfl, _⟩ := h
    rfl
  · obtain ⟨p, o, k, n, ws, rfl, hh, hF, q⟩ := h
    obtain ⟨dx, hp⟩ := id hh.kat
    have hl := hh.len
    have hn := okK_le hh.ok
    have hx := form_okQ hF
    rw [← invZ_eq hF] at q
    have hlI : ((ws.map V.int).length : Int) = (n : Int) := by rw [List.length_map, hl]
    refine ⟨_, (pss_cons (ps_set (i := 2) sc_opposite_of.nd rfl (by first | exact Or.inl rfl | exact Or.inr rfl) (pe_methG0 T.cl c_m_name (hr.mono (by decide)) (pv 0)))
      (pss_cons (ps_set (i := 3) sc_opposite_of.nd rfl (by first | exact Or.inl rfl | exact Or.inr rfl) (pe_callB call_len_seq (by rfl) T.m_len (by decide +kernel) (pa_cons (pv 1) pa_nil)))
      (pss_cons (ps_set (i := 4) sc_opposite_of.nd rfl (by first | exact Or.inl rfl | exact Or.inr rfl) (pe_op op_rep (pe_lst (pa_cons pe_int pa_nil)) (pv 3)))
      (pss_cons (ps_if (pt_cmpR op_eq (pv 2) pe_str (nomark _)) (pss_one (ps_for PassesOwn.never rfl (pi_enum (by rfl) T.m_enumerate (pa_cons (pv 1) pa_nil)) (pg_tup rfl (pgs_cons (pg_name (i := 5) sc_opposite_of.nd rfl (Or.inl rfl)) (pgs_cons (pg_name (i := 6) sc_opposite_of.nd rfl (Or.inl rfl)) pgs_nil))) (pss_one (ps_asg (pv 5) (pg_sub (pv 4) (pv 6) set_list))))) (pss_one (ps_if (pt_cmpR op_eq (pv 2) pe_str (nomark _)) (pss_one (ps_for PassesOwn.never rfl (pi_enum (by rfl) T.m_enumerate (pa_cons (pv 1) pa_nil)) (pg_tup rfl (pgs_cons (pg_name (i := 5) sc_opposite_of.nd rfl (Or.inl rfl)) (pgs_cons (pg_name (i := 6) sc_opposite_of.nd rfl (Or.inl rfl)) pgs_nil))) (pss_one (ps_asg (pe_ifExp (pt_cmpR op_gt (pv 6) pe_int (nomark _)) (pe_op op_add (pv 5) pe_int) (pe_op op_sub (pe_un un_neg (pv 5)) pe_int)) (pg_sub (pv 4) (pe_op op_sub (pe_callB call_abs (by rfl) T.m_abs (by decide +kernel) (pa_cons (pv 6) pa_nil)) pe_int) set_list))))) (pss_one (ps_for PassesOwn.never rfl (pi_enum (by rfl) T.m_enumerate (pa_cons (pv 1) pa_nil)) (pg_tup rfl (pgs_cons (pg_name (i := 5) sc_opposite_of.nd rfl (Or.inl rfl)) (pgs_cons (pg_name (i := 6) sc_opposite_of.nd rfl (Or.inl rfl)) pgs_nil))) (pss_cons (ps_set (i := 7) sc_opposite_of.nd rfl (by first | exact Or.inl rfl | exact Or.inr rfl) (pe_op op_mod (pv 6) (pv 3)))
      (pss_one (ps_asg (pe_op op_add (pe_op op_sub (pv 5) (pv 6)) (pv 7)) (pg_sub (pv 4) (pv 7) set_list)))))))))
      (pss_one (ps_ret (pv 4))))))), ?_⟩
    refine ⟨_, rfl, p, dx, _, rfl, hp, noM, p, k, n, rfl, hh.kat, ?_⟩
    refine ⟨_, rfl, o, _, rfl, .inl hh.ord, ?_⟩
    rw [hlI]
    refine ⟨(by show 1 ≤ sizeLine; decide), fun l0 n0 => ?_⟩
    refine ⟨_, rfl, l0, _, _, rfl, rfl, upd_same, by omega, by omega, (by show 1 * (n : Int).toNat ≤ sizeLine; exact Nat.le_of_lt (small1000 (by omega))), fun l nl => ?_⟩
    have u1 : Same H (L2.upd (L2.upd H l0 (.lst [.int 0])) l (.lst (List.replicate ((n : Int)).toNat [V.int 0]).flatten)) := (Same.upd n0).trans (Same.upd nl)
    have nl0 : H l = none := (Same.upd n0).free nl
    have e1 : (L2.upd (L2.upd H l0 (.lst [.int 0])) l (.lst (List.replicate ((n : Int)).toNat [V.int 0]).flatten)) l = some (.lst ((invZ k n ws 0).map V.int)) := by
      rw [upd_same, Int.toNat_natCast, rep_flat]
      rfl
    generalize (L2.upd (L2.upd H l0 (.lst [.int 0])) l (.lst (List.replicate ((n : Int)).toNat [V.int 0]).flatten)) = H1 at *
    have put : ∀ (i : Nat) (H2 : Hp) (t : Addr), i < ws.length → H2 l = some (.lst ((invZ k n ws i).map V.int)) → Same H H2 → H2 t = none →
        (L2.upd H2 t (.tup [.int (i : Nat), .int (ws.getD i 0)])) l = some (.lst ((invZ k n ws i).map V.int)) ∧ ixN ((invZ k n ws i).map V.int).length ((invPos k n (ws.getD i 0) : Nat) : Int) = some (invPos k n (ws.getD i 0)) ∧ Same H (L2.upd H2 t (.tup [.int (i : Nat), .int (ws.getD i 0)])) ∧
        ∀ y, y = invVal k n i (ws.getD i 0) → (L2.upd (L2.upd H2 t (.tup [.int (i : Nat), .int (ws.getD i 0)])) l (.lst (((invZ k n ws i).map V.int).set (invPos k n (ws.getD i 0)) (.int y)))) l = some (.lst ((invZ k n ws (i + 1)).map V.int)) := fun i H2 t hj hL s2 nt => by
      have hpos : invPos k n (ws.getD i 0) < n := invPos_lt hn.1 (okQ_okP (hx _ (mem_getD hj)))
      refine ⟨(upd_ne (ne_of_none hL nt)).trans hL, ixN_nat (by rw [List.length_map, invZ_len]; exact hpos), s2.trans (Same.upd nt), fun y ey => ?_⟩
      rw [upd_same, set_map, ey]
      rfl
    have done_ : ∀ (H2 : Hp), H2 l = some (.lst ((invZ k n ws (ws.map V.int).length).map V.int)) → Same H H2 → Q (.ref l) H2 := fun H2 hL s2 => by
      rw [List.length_map, hl] at hL
      exact q l H2 s2 nl0 hL
    refine ⟨_, rfl, rfl, _, rfl, ite2 (fun hk => ?_) (fun hk => ?_)⟩
    · rw [s_pl] at hk
      have ek := of_decide_eq_true hk
      subst ek
      refine ⟨_, rfl, o, ws.map V.int, rfl, u1.seq hh.ord, ?_⟩
      refine for_it (walk_enum (K := K) (a := o) (xs := ws.map V.int)) (fun i σ H2 => ∃ v1 v2 v3, σ = [some (.ref p), some (.ref o), some (.str Nm.pl.s), some (.int (n : Int)), some (.ref l), v1, v2, v3] ∧ H2 l = some (.lst ((invZ .pl n ws i).map V.int)) ∧ Same H H2)
        ⟨none, none, none, rfl, e1, u1⟩ (fun i σ H2 _ h2 => by obtain ⟨_, _, _, _, _, s2⟩ := h2; exact s2.seq hh.ord) ?_ ?_
      · rintro i x σ H2 H3 hi ⟨v1, v2, v3, rfl, hL, s2⟩ ⟨t, a, b, rfl, nt, rfl, ha, hb⟩
        obtain ⟨hj, rfl⟩ := at_map hb
        cases ha
        obtain ⟨g1, g2, g3, g4⟩ := put i H2 t hj hL s2 nt
        have hq := hx _ (mem_getD hj)
        obtain ⟨q1, q2⟩ := id hq
        refine ⟨t, _, rfl, SqT.of upd_same, rfl, _, _, rfl, _, _, rfl, rfl, ?_⟩
        refine ⟨_, rfl, _, rfl, _, rfl, l, _, _, invPos .pl n (ws.getD i 0), rfl, rfl, g1, ?_, _, _, _, rfl, g4 _ (invVal_pl hq).symm, Same_updD g3 nl0⟩
        have e : ws.getD i 0 = ((invPos .pl n (ws.getD i 0) : Nat) : Int) := by
          rw [invPos_pl hq]
          omega
        rw [← e] at g2
        exact g2
      · rintro σ H2 ⟨v1, v2, v3, rfl, hL, s2⟩
        exact ⟨_, rfl, done_ H2 hL s2⟩
    · rw [s_pl] at hk
      have ekp : k ≠ .pl := fun e => hk (decide_eq_true e)
      refine ⟨_, rfl, rfl, _, rfl, ite2 (fun hm => ?_) (fun hm => ?_)⟩
      · have ek := is_mi hm
        subst ek
        refine ⟨_, rfl, o, ws.map V.int, rfl, u1.seq hh.ord, ?_⟩
        refine for_it (walk_enum (K := K) (a := o) (xs := ws.map V.int)) (fun i σ H2 => ∃ v1 v2 v3, σ = [some (.ref p), some (.ref o), some (.str Nm.mi.s), some (.int (n : Int)), some (.ref l), v1, v2, v3] ∧ H2 l = some (.lst ((invZ .mi n ws i).map V.int)) ∧ Same H H2)
          ⟨none, none, none, rfl, e1, u1⟩ (fun i σ H2 _ h2 => by obtain ⟨_, _, _, _, _, s2⟩ := h2; exact s2.seq hh.ord) ?_ ?_
        · rintro i x σ H2 H3 hi ⟨v1, v2, v3, rfl, hL, s2⟩ ⟨t, a, b, rfl, nt, rfl, ha, hb⟩
          obtain ⟨hj, rfl⟩ := at_map hb
          cases ha
          obtain ⟨g1, g2, g3, g4⟩ := put i H2 t hj hL s2 nt
          obtain ⟨x0, x1⟩ := hx _ (mem_getD hj)
          have eix : ixN ((invZ .mi n ws i).map V.int).length ((if ws.getD i 0 < 0 then -(ws.getD i 0) else ws.getD i 0) - 1) = some (invPos .mi n (ws.getD i 0)) := by
            rw [abs_eq]
            have : (((ws.getD i 0).natAbs : Int) - 1) = ((invPos .mi n (ws.getD i 0) : Nat) : Int) := by
              show _ = (((ws.getD i 0).natAbs - 1 : Nat) : Int)
              omega
            rw [this]
            exact g2
          refine ⟨t, _, rfl, SqT.of upd_same, rfl, _, _, rfl, _, _, rfl, rfl, ?_⟩
          refine ⟨_, rfl, _, _, rfl, rfl, _, rfl, ite2 (fun h0 => ?_) (fun h0 => ?_)⟩
          · have h0 := of_decide_eq_true h0
            exact ⟨_, rfl, _, _, rfl, rfl, _, rfl, _, rfl, _, rfl, _, _, rfl, rfl, l, _, _, invPos .mi n (ws.getD i 0), rfl, rfl, g1, eix, _, _, _, rfl, g4 _ (if_pos h0).symm, Same_updD g3 nl0⟩
          · have h0 : ¬ (0 : Int) < ws.getD i 0 := fun z => h0 (decide_eq_true z)
            exact ⟨_, rfl, _, rfl, _, _, rfl, rfl, _, rfl, _, rfl, _, rfl, _, _, rfl, rfl, l, _, _, invPos .mi n (ws.getD i 0), rfl, rfl, g1, eix, _, _, _, rfl, g4 _ (if_neg h0).symm, Same_updD g3 nl0⟩
        · rintro σ H2 ⟨v1, v2, v3, rfl, hL, s2⟩
          exact ⟨_, rfl, done_ H2 hL s2⟩
      · have ek := not_mi hm
        refine ⟨_, rfl, o, ws.map V.int, rfl, u1.seq hh.ord, ?_⟩
        refine for_it (walk_enum (K := K) (a := o) (xs := ws.map V.int)) (fun i σ H2 => ∃ v1 v2 v3, σ = [some (.ref p), some (.ref o), some (.str k.s), some (.int (n : Int)), some (.ref l), v1, v2, v3] ∧ H2 l = some (.lst ((invZ k n ws i).map V.int)) ∧ Same H H2)
          ⟨none, none, none, rfl, e1, u1⟩ (fun i σ H2 _ h2 => by obtain ⟨_, _, _, _, _, s2⟩ := h2; exact s2.seq hh.ord) ?_ ?_
        · rintro i x σ H2 H3 hi ⟨v1, v2, v3, rfl, hL, s2⟩ ⟨t, a, b, rfl, nt, rfl, ha, hb⟩
          obtain ⟨hj, rfl⟩ := at_map hb
          cases ha
          obtain ⟨g1, g2, g3, g4⟩ := put i H2 t hj hL s2 nt
          have h1 := Int.emod_nonneg (ws.getD i 0) (show (n : Int) ≠ 0 by omega)
          have eix : (ws.getD i 0) % (n : Int) = ((invPos k n (ws.getD i 0) : Nat) : Int) := by
            unfold invPos
            rw [if_neg ek]
            omega
          rw [← eix] at g2
          refine ⟨t, _, rfl, SqT.of upd_same, rfl, _, _, rfl, _, _, rfl, rfl, ?_⟩
          refine ⟨_, rfl, _, rfl, _, _, rfl, rfl, (by omega), ?_⟩
          exact ⟨_, rfl, _, rfl, _, _, rfl, rfl, _, rfl, _, _, rfl, rfl, _, rfl, _, rfl, l, _, _, invPos k n (ws.getD i 0), rfl, rfl, g1, g2, _, _, _, rfl, g4 _ (if_neg ek).symm, Same_updD g3 nl0⟩
        · rintro σ H2 ⟨v1, v2, v3, rfl, hL, s2⟩
          exact ⟨_, rfl, done_ H2 hL s2⟩
def spHeadsOf (K : PySem.W.Frag) (C : Addr) : Sp := fun vs H Q _ => ∃ (p o : Addr) (k : Nm) (n : Nat) (ws : List Int), vs = [.ref p, .ref o] ∧ KO K C H p o k n ws ∧ Form k n ws ∧
  ∀ q H', Same H H' → H q = none → H' q = some (.lst ((fallsP k n (invP k n ws)).map V.int)) → Q (.ref q) H'
def spAhead (K : PySem.W.Frag) (C : Addr) : Sp := fun vs H Q _ => ∃ (p o : Addr) (k : Nm) (n : Nat) (ws : List Int) (s : Nat), vs = [.ref p, .ref o, .int (s : Int)] ∧ KOS K C H p o k n ws s ∧ (∀ x ∈ ws, okQ k n x) ∧
  ∀ q H', Same H H' → H q = none → H' q = some (.lst ((prodP k n (after k n (startL k n) s) ws).map V.int)) → Q (.ref q) H'
end
end Sv

/-! The pairs of combinations as a list, and how they stand to the pairs counted before, by the verifier. -/
namespace Sv
open PySem PySem.Spec PyProof.Rows L2
def ixC (n : Nat) : List (Nat × Nat) := (List.range n).flatMap fun a => (List.range (n - 1 - a)).map fun d => (a, a + 1 + d)
def ixP (n : Nat) : List (Nat × Nat) := (List.range n).flatMap fun b => (List.range b).map fun a => (a, b)
def cmbL (w : List Int) : List (Int × Int) := (ixC w.length).map fun p => (w.getD p.1 0, w.getD p.2 0)
theorem pairsTo_ix (w : List Int) : ∀ b, pairsTo w b = (ixP b).map fun p => (w.getD p.1 0, w.getD p.2 0)
  | 0 => rfl
  | b + 1 => by
    show pairsTo w b ++ rowPairs w b = _
    unfold ixP
    rw [List.range_succ, List.flatMap_append, List.map_append, pairsTo_ix w b]
    unfold ixP rowPairs
    simp [List.flatMap_cons, List.map_map, Function.comp_def]
theorem ix_perm : ∀ n, n ≤ 7 → (ixC n).Perm (ixP n) := by
  intro n hn
  have : n = 0 ∨ n = 1 ∨ n = 2 ∨ n = 3 ∨ n = 4 ∨ n = 5 ∨ n = 6 ∨ n = 7 := by omega
  rcases this with rfl | rfl | rfl | rfl | rfl | rfl | rfl | rfl <;> decide +kernel
theorem cmb_perm {w : List Int} (h : w.length ≤ 7) : (cmbL w).Perm (pairsL w) := by
  unfold pairsL cmbL
  rw [pairsTo_ix]
  exact (ix_perm _ h).map _
theorem prs_fin : ∀ n : Fin 8, (ixC n.val).length ≤ 21 ∧ ∀ i : Fin 22, i.val ≤ (ixC n.val).length → Cm.prs n.val i.val = (ixC n.val)[i.val]? := by decide +kernel
theorem prs_all (n : Nat) (hn : n ≤ 7) : (ixC n).length ≤ 21 ∧ ∀ i, i ≤ 21 → i ≤ (ixC n).length → Cm.prs n i = (ixC n)[i]? :=
  let h := prs_fin ⟨n, by omega⟩
  ⟨h.1, fun i hi => h.2 ⟨i, by omega⟩⟩
theorem cmb_len {w : List Int} (h : w.length ≤ 7) : (cmbL w).length ≤ 21 := by
  unfold cmbL
  rw [List.length_map]
  exact (prs_all _ h).1
/-- the i-th pair in a new tuple -/
def YCmb (ps : List (Int × Int)) : Nat → Hp → V → Hp → Prop := fun i H v H' => ∃ (t : Addr) (q : Int × Int), v = .ref t ∧ H t = none ∧ H' = L2.upd H t (.tup [.int q.1, .int q.2]) ∧ ps[i]? = some q
theorem walk_comb {w : List Int} (h : w.length ≤ 7) : Walk (Itcm (w.map V.int)) (cmbL w).length (fun _ => True) (YCmb (cmbL w)) := by
  obtain ⟨hz, hp⟩ := prs_all _ h
  have hl : (cmbL w).length = (ixC w.length).length := by unfold cmbL; rw [List.length_map]
  have hm : (w.map V.int).length = w.length := List.length_map ..
  refine ⟨fun i H hi _ => ?_, fun H _ => ?_, fun i H v H' hi _ y => ?_⟩
  · refine ⟨(ixC w.length)[i]'(by omega), ?_⟩
    rw [hm, hp i (by omega) (by omega)]
    exact List.getElem?_eq_getElem _
  · show Cm.prs (w.map V.int).length (cmbL w).length = none
    rw [hm, hp _ (by omega) (by omega), hl]
    exact List.getElem?_eq_none (Nat.le_refl _)
  · obtain ⟨T, a, b, x, y, h1, h2, h3, h4, h5, h6⟩ := y
    rw [hm, hp i (by omega) (by omega)] at h1
    have ea : x = .int (w.getD a 0) := by
      rw [List.getElem?_map] at h2
      rw [List.getD_eq_getElem?_getD]
      cases e : w[a]? with
      | none => rw [e] at h2; cases h2
      | some z => rw [e] at h2; cases h2; rfl
    have eb : y = .int (w.getD b 0) := by
      rw [List.getElem?_map] at h3
      rw [List.getD_eq_getElem?_getD]
      cases e : w[b]? with
      | none => rw [e] at h3; cases h3
      | some z => rw [e] at h3; cases h3; rfl
    subst ea eb
    refine ⟨T, (w.getD a 0, w.getD b 0), h4, h5, h6, ?_⟩
    unfold cmbL
    rw [List.getElem?_map, h1]
    rfl
theorem filter_len_permC {α : Type} {xs ys : List α} (h : xs.Perm ys) (f : α → Bool) : (xs.filter f).length = (ys.filter f).length := (h.filter f).length_eq
theorem sum_permC : ∀ {xs ys : List Int}, xs.Perm ys → xs.sum = ys.sum := fun h => by
  induction h with
  | nil => rfl
  | cons x _ ih => simp [ih]
  | swap x y l => simp; omega
  | trans _ _ a b => exact a.trans b
/-- crossings, by the pairs in the other order -/
theorem crP_cmb {k : Nm} {n : Nat} {w : List Int} (h : w.length ≤ 7) : crP k n w =
    if k = .ri then ((cmbL w).map fun q => absI ((q.2 - q.1) / (n : Int))).sum
    else if k = .mi then (((cmbL w).filter fun q => decide (q.2 < q.1)).length : Int) + ((w.filter fun x => decide (x < 0)).length : Int) + (((cmbL w).filter fun q => decide (q.1 + q.2 < 0)).length : Int)
    else (((cmbL w).filter fun q => decide (q.2 < q.1)).length : Int) := by
  have p := cmb_perm h
  unfold crP
  rw [filter_len_permC p, filter_len_permC p, sum_permC (p.map _)]
end Sv

namespace Sv
open PySem PySem.Spec PyProof.Rows L2
/-- a walk with any block -/
theorem it_gen {J : It} {n : Nat} {G : Hp → Prop} {Y : Nat → Hp → V → Hp → Prop} (w : Walk J n G Y) {B : (Hp → Prop) → V → Hp → Prop} {H0 : Hp} {Nx : Hp → Prop} (Pv : Nat → Hp → Prop) (h0 : Pv 0 H0) (hG : ∀ i H, i ≤ n → Pv i H → G H)
    (hs : ∀ i x H H', i < n → Pv i H → Y i H x H' → B (Pv (i + 1)) x H') (hd : ∀ H, Pv n H → Nx H) :
    ∃ W : Nat → Nat → Hp → Prop, (∃ m, W 0 m H0) ∧ ∀ i m H, W i m H → (J.stop i H ∧ Nx H) ∨ (J.go i H ∧ ∃ N : Hp → Prop, (∀ H', N H' → ∃ m', m' < m ∧ W (i + 1) m' H') ∧ ∀ x H', J.yld i H x H' → B N x H') := by
  refine ⟨fun i m H => m = n - i ∧ i ≤ n ∧ Pv i H, ⟨n, by simp, Nat.zero_le _, h0⟩, ?_⟩
  rintro i m H ⟨rfl, hi, p⟩
  have q := hG i H hi p
  by_cases hlt : i < n
  · refine .inr ⟨w.goes i H hlt q, Pv (i + 1), fun H' p' => ⟨n - (i + 1), by omega, rfl, hlt, p'⟩, fun x H' y => hs i x H H' hlt p (w.yields i H x H' hlt q y)⟩
  · have e : i = n := by omega
    subst e
    exact .inl ⟨w.stops H q, hd H p⟩
def PairsAt (H : Hp) : List Addr → List (Int × Int) → Prop
  | [], [] => True
  | t :: ts, q :: ps => H t = some (.tup [.int q.1, .int q.2]) ∧ PairsAt H ts ps
  | _, _ => False
theorem PairsAt.keep {H H' : Hp} (e : Same H H') : ∀ {ts : List Addr} {ps : List (Int × Int)}, PairsAt H ts ps → PairsAt H' ts ps
  | [], [], _ => trivial
  | t :: ts, q :: ps, h => ⟨e _ _ h.1, h.2.keep e⟩
theorem PairsAt.snoc {H : Hp} {t : Addr} {a b : Int} (ht : H t = some (.tup [.int a, .int b])) : ∀ {ts : List Addr} {ps : List (Int × Int)}, PairsAt H ts ps → PairsAt H (ts ++ [t]) (ps ++ [(a, b)])
  | [], [], _ => ⟨ht, trivial⟩
  | u :: ts, q :: ps, h => ⟨h.1, PairsAt.snoc ht h.2⟩
theorem PairsAt.len {H : Hp} : ∀ {ts : List Addr} {ps : List (Int × Int)}, PairsAt H ts ps → ts.length = ps.length
  | [], [], _ => rfl
  | t :: ts, q :: ps, h => congrArg (· + 1) h.2.len
theorem PairsAt.get {H : Hp} : ∀ {ts : List Addr} {ps : List (Int × Int)} {i : Nat} {x : V}, PairsAt H ts ps → (ts.map V.ref)[i]? = some x → ∃ t q, x = .ref t ∧ ps[i]? = some q ∧ H t = some (.tup [.int q.1, .int q.2])
  | [], [], i, x, _, e => by simp at e
  | t :: ts, q :: ps, 0, x, h, e => ⟨t, q, (Option.some.inj e).symm, rfl, h.1⟩
  | t :: ts, q :: ps, i + 1, x, h, e => PairsAt.get (ts := ts) (ps := ps) (i := i) h.2 e
theorem PairsAt.updL {H : Hp} {L : Addr} {xs ys : List V} (hL : H L = some (.lst xs)) : ∀ {ts : List Addr} {ps : List (Int × Int)}, PairsAt H ts ps → PairsAt (L2.upd H L (.lst ys)) ts ps
  | [], [], _ => trivial
  | t :: ts, q :: ps, h => by
    have n : t ≠ L := fun e => by
      have h1 := h.1
      rw [e, hL] at h1
      cases h1
    exact ⟨by rw [upd_ne n]; exact h.1, PairsAt.updL hL h.2⟩
theorem take_succ {α : Type} {ps : List α} {i : Nat} {q : α} (h : ps[i]? = some q) : ps.take (i + 1) = ps.take i ++ [q] := by
  rw [List.take_add_one, h]
  rfl
theorem pairsTo_len (w : List Int) : ∀ b : Nat, b ≤ 7 → (pairsTo w b).length ≤ 7 * b
  | 0, _ => Nat.le_refl _
  | b + 1, h => by
    have := pairsTo_len w b (by omega)
    show (pairsTo w b ++ rowPairs w b).length ≤ _
    rw [List.length_append]
    have : (rowPairs w b).length = b := by unfold rowPairs; rw [List.length_map, List.length_range]
    omega
theorem rowPairs_get (w : List Int) {b j : Nat} (h : j < b) : (rowPairs w b)[j]? = some (w.getD j 0, w.getD b 0) := by
  unfold rowPairs
  rw [List.getElem?_map, List.getElem?_range h]
  rfl
theorem rowPairs_len (w : List Int) (b : Nat) : (rowPairs w b).length = b := by unfold rowPairs; rw [List.length_map, List.length_range]
theorem sqL_ty {K : PySem.W.Frag} {H : Hp} {a : Addr} {xs : List V} (h : SqL K H a xs) : TyX K H (.ref a) (.type "list") := by
  rcases h with (h | ⟨o, h⟩) | ⟨o, its, n, h, c, _⟩
  · exact .base (.lst h)
  · exact .base (.frz h)
  · exact .kList h c
section
variable {P : Program} {w : World} {K : PySem.W.Frag} {mg : Str → Option Value} {base : Heap} {f C D : Addr} {fd : FuncData}
def spCount (K : PySem.W.Frag) (C : Addr) : Sp := fun vs H Q _ => ∃ (p o : Addr) (k : Nm) (n : Nat) (ws : List Int), vs = [.ref p, .ref o] ∧ KO K C H p o k n ws ∧ ∀ H', Same H H' → Q (.int (crP k n ws)) H'
theorem ok_count_crossings (T : Tk K w mg C D) (F : FnP K "count_crossings" "count_crossings" s_count_crossings f fd) (c_m_name : Md P w K mg base C "name" ["self"] 1 (spName C)) : FnOk P w K mg base CX0 2 f fd ["kind", "order"] (spCount K C) := by
  refine okN F sc_count_crossings (fun vs H Q E h => ?_) (fun cdv A outer s H vs Q E hr h => ?_)
  · obtain ⟨p, o, k, n, ws, rfl, _⟩ := h
    rfl
  · obtain ⟨p, o, k, n, ws, rfl, hh, q⟩ := h
    obtain ⟨dx, hp⟩ := id hh.kat
    have hl := hh.len
    have hn := okK_le hh.ok
    have h7 : ws.length ≤ 7 := by omega
    have hc := cmb_len h7
    rw [crP_cmb h7] at q
    have hlI : ((ws.map V.int).length : Int) = (n : Int) := by rw [List.length_map, hl]
    have tl : ∀ (i : Nat) (f : Int × Int → Bool), (((cmbL ws).take i).filter f).length < sizeLine := fun i f => by
      have := List.length_filter_le f ((cmbL ws).take i)
      rw [List.length_take] at this
      exact small1000 (by omega)
    refine ⟨_, (pss_cons (ps_set (i := 2) sc_count_crossings.nd rfl (by first | exact Or.inl rfl | exact Or.inr rfl) (pe_methG0 T.cl c_m_name (hr.mono (by decide)) (pv 0)))
      (pss_cons (ps_if (pt_cmpR op_eq (pv 2) pe_str (nomark _)) (pss_cons (ps_set (i := 3) sc_count_crossings.nd rfl (by first | exact Or.inl rfl | exact Or.inr rfl) (pe_callB call_len_seq (by rfl) T.m_len (by decide +kernel) (pa_cons (pv 1) pa_nil)))
      (pss_one (ps_ret (pe_callB (cr_sum rfl) (by rfl) T.m_sum (by decide +kernel) (pa_cons (pe_lc (own := [(("first" : Str), 5), (("second" : Str), 6)]) (g := (gTup K 2 (gCons (gName 5) (gCons (gName 6) gNil)))) (tt := tYes) rfl sc_count_crossings.nd (pi_comb (by rfl) T.gCb (pa_cons (pv 1) (pa_cons pe_int pa_nil))) (blkOk_by (own := [(("first" : Str), 5), (("second" : Str), 6)]) (N := ["kind", "order", "name", "size", "many", "first", "second", "item"]) (sc := defScope s_count_crossings) (by decide +kernel)) (fun _ _ _ _ _ => (pg_tup rfl (pgs_cons (pg_name (i := 5) sc_count_crossings.nd rfl (Or.inl rfl)) (pgs_cons (pg_name (i := 6) sc_count_crossings.nd rfl (Or.inl rfl)) pgs_nil)))) (fun _ _ _ _ _ => pts_nil) (fun _ _ _ _ _ => (pe_callB call_abs (by rfl) T.m_abs (by decide +kernel) (pa_cons (pe_op op_fdiv (pe_op op_sub (pv 6) (pv 5)) (pv 3)) pa_nil)))) pa_nil))))) pss_nil)
      (pss_cons (ps_set (i := 4) sc_count_crossings.nd rfl (by first | exact Or.inl rfl | exact Or.inr rfl) (pe_callB call_len_seq (by rfl) T.m_len (by decide +kernel) (pa_cons (pe_lc (own := [(("first" : Str), 5), (("second" : Str), 6)]) (g := (gTup K 2 (gCons (gName 5) (gCons (gName 6) gNil)))) rfl sc_count_crossings.nd (pi_comb (by rfl) T.gCb (pa_cons (pv 1) (pa_cons pe_int pa_nil))) (blkOk_by (own := [(("first" : Str), 5), (("second" : Str), 6)]) (N := ["kind", "order", "name", "size", "many", "first", "second", "item"]) (sc := defScope s_count_crossings) (by decide +kernel)) (fun _ _ _ _ _ => (pg_tup rfl (pgs_cons (pg_name (i := 5) sc_count_crossings.nd rfl (Or.inl rfl)) (pgs_cons (pg_name (i := 6) sc_count_crossings.nd rfl (Or.inl rfl)) pgs_nil)))) (fun _ _ _ _ _ => pts_one (pt_cmpR op_gt (pv 5) (pv 6) (nomark _))) (fun _ _ _ _ _ => (pv 5))) pa_nil)))
      (pss_cons (ps_if (pt_cmpR op_eq (pv 2) pe_str (nomark _)) (pss_cons (ps_aug (i := 4) sc_count_crossings.nd rfl (.inl rfl) (pe_callB call_len_seq (by rfl) T.m_len (by decide +kernel) (pa_cons (pe_lc (own := [(("item" : Str), 7)]) (g := (gName 7)) rfl sc_count_crossings.nd (pi_list (pv 1)) (blkOk_by (own := [(("item" : Str), 7)]) (N := ["kind", "order", "name", "size", "many", "first", "second", "item"]) (sc := defScope s_count_crossings) (by decide +kernel)) (fun _ _ _ _ _ => (pg_name (i := 7) sc_count_crossings.nd rfl (Or.inl rfl))) (fun _ _ _ _ _ => pts_one (pt_cmpR op_lt (pv 7) pe_int (nomark _))) (fun _ _ _ _ _ => (pv 7))) pa_nil)) ip_add)
      (pss_one (ps_aug (i := 4) sc_count_crossings.nd rfl (.inl rfl) (pe_callB call_len_seq (by rfl) T.m_len (by decide +kernel) (pa_cons (pe_lc (own := [(("first" : Str), 5), (("second" : Str), 6)]) (g := (gTup K 2 (gCons (gName 5) (gCons (gName 6) gNil)))) rfl sc_count_crossings.nd (pi_comb (by rfl) T.gCb (pa_cons (pv 1) (pa_cons pe_int pa_nil))) (blkOk_by (own := [(("first" : Str), 5), (("second" : Str), 6)]) (N := ["kind", "order", "name", "size", "many", "first", "second", "item"]) (sc := defScope s_count_crossings) (by decide +kernel)) (fun _ _ _ _ _ => (pg_tup rfl (pgs_cons (pg_name (i := 5) sc_count_crossings.nd rfl (Or.inl rfl)) (pgs_cons (pg_name (i := 6) sc_count_crossings.nd rfl (Or.inl rfl)) pgs_nil)))) (fun _ _ _ _ _ => pts_one (pt_cmpR op_lt (pe_op op_add (pv 5) (pv 6)) pe_int (nomark _))) (fun _ _ _ _ _ => (pv 5))) pa_nil)) ip_add))) pss_nil)
      (pss_one (ps_ret (pv 4))))))), ?_⟩
    refine ⟨_, rfl, p, dx, _, rfl, hp, noM, p, k, n, rfl, hh.kat, ?_⟩
    refine ⟨_, rfl, rfl, _, rfl, ite2 (fun hk => ?_) (fun hk => ?_)⟩
    · rw [s_ri] at hk
      have ek := of_decide_eq_true hk
      subst ek
      refine ⟨_, rfl, o, _, rfl, .inl hh.ord, ?_⟩
      rw [hlI]
      refine ⟨_, rfl, o, ws.map V.int, rfl, hh.ord, fun D2 nD => ?_⟩
      refine lc_it (walk_comb h7) (fun i H3 => H3 D2 = some (.lst ((((cmbL ws).take i).map fun q => absI ((q.2 - q.1) / (n : Int))).map V.int)) ∧ Same H H3) ⟨upd_same, Same.upd nD⟩ (fun _ _ _ _ => trivial) ?_ ?_
      · rintro i x H3 H4 hi ⟨hD, s3⟩ ⟨t, qq, rfl, nt, rfl, eq⟩
        have hD4 := (upd_ne (o := .tup [.int qq.1, .int qq.2]) (ne_of_none hD nt)).trans hD
        have s4 := s3.trans (Same.upd (o := .tup [.int qq.1, .int qq.2]) nt)
        refine ⟨t, _, rfl, SqT.of upd_same, rfl, _, _, rfl, _, _, rfl, rfl, rfl, ?_⟩
        refine ⟨_, rfl, _, rfl, _, _, rfl, rfl, _, rfl, _, _, rfl, rfl, ⟨by omega, by omega⟩, _, rfl, ?_⟩
        refine ⟨_, hD4, ?_, ?_, Same_updD s4 nD⟩
        · rw [List.length_map, List.length_map, List.length_take]
          exact small1000 (by omega)
        · rw [upd_same, take_succ eq, List.map_append, List.map_append]
          rfl
      · rintro H3 ⟨hD, s3⟩
        rw [List.take_of_length_le (Nat.le_refl _)] at hD
        exact ⟨D2, _, rfl, SqL.of hD, q H3 s3⟩
    · rw [s_ri] at hk
      have ek : k ≠ .ri := fun e => hk (decide_eq_true e)
      refine ⟨_, rfl, o, ws.map V.int, rfl, hh.ord, fun D2 nD => ?_⟩
      refine lc_it (walk_comb h7) (fun i H3 => ∃ acc, H3 D2 = some (.lst acc) ∧ acc.length = (((cmbL ws).take i).filter fun q => decide (q.2 < q.1)).length ∧ Same H H3) ⟨[], upd_same, rfl, Same.upd nD⟩ (fun _ _ _ _ => trivial) ?_ ?_
      · rintro i x H3 H4 hi ⟨acc, hD, la, s3⟩ ⟨t, qq, rfl, nt, rfl, eq⟩
        have hD4 := (upd_ne (o := .tup [.int qq.1, .int qq.2]) (ne_of_none hD nt)).trans hD
        have s4 := s3.trans (Same.upd (o := .tup [.int qq.1, .int qq.2]) nt)
        refine ⟨t, _, rfl, SqT.of upd_same, rfl, _, _, rfl, _, _, rfl, rfl, rfl, ?_⟩
        rw [take_succ eq, List.filter_append]
        refine ⟨_, rfl, _, rfl, _, _, rfl, rfl, _, rfl, ite2 (fun hc => ?_) (fun hc => ?_)⟩
        · refine ⟨_, rfl, acc, hD4, ?_, acc ++ [.int qq.1], upd_same, ?_, Same_updD s4 nD⟩
          · rw [la]
            exact tl _ _
          · rw [List.length_append, List.length_append, la, List.filter_cons, if_pos hc]
            rfl
        · refine ⟨acc, hD4, ?_, s4⟩
          rw [List.length_append, la, List.filter_cons, if_neg hc]
          rfl
      · rintro H3 ⟨acc, hD, la, s3⟩
        rw [List.take_of_length_le (Nat.le_refl _)] at la
        refine ⟨D2, _, rfl, .inl (SqL.of hD), ?_⟩
        refine ⟨_, rfl, rfl, _, rfl, ite2 (fun hk2 => ?_) (fun hk2 => ?_)⟩
        · have em := is_mi hk2
          subst em
          refine ⟨_, rfl, ?_⟩
          refine ⟨_, rfl, o, rfl, ⟨_, s3.seq hh.ord⟩, fun D3 nD3 => ?_⟩
          refine lc_list (K := K) (a := o) (xs := ws.map V.int) (fun i H4 => ∃ acc, H4 D3 = some (.lst acc) ∧ acc.length = ((ws.take i).filter fun x => decide (x < 0)).length ∧ Same H3 H4) ⟨[], upd_same, rfl, Same.upd nD3⟩ (fun i H4 _ h4 => by obtain ⟨_, _, _, s4⟩ := h4; exact (s3.trans s4).seq hh.ord) ?_ ?_
          · rintro i x H4 hi ⟨acc4, hD4, la4, s4⟩
            obtain ⟨hj, rfl⟩ := at_map hi
            refine ⟨rfl, ?_⟩
            have eq : ws[i]? = some (ws.getD i 0) := by rw [List.getD_eq_getElem?_getD, List.getElem?_eq_getElem hj]; rfl
            rw [take_succ eq, List.filter_append]
            refine ⟨_, rfl, _, _, rfl, rfl, _, rfl, ite2 (fun hc => ?_) (fun hc => ?_)⟩
            · refine ⟨_, rfl, acc4, hD4, ?_, acc4 ++ [.int (ws.getD i 0)], upd_same, ?_, Same_updD s4 nD3⟩
              · have := List.length_filter_le (fun x : Int => decide (x < 0)) (ws.take i)
                rw [List.length_take] at this
                exact small1000 (by omega)
              · rw [List.length_append, List.length_append, la4, List.filter_cons, if_pos hc]
                rfl
            · refine ⟨acc4, hD4, ?_, s4⟩
              rw [List.length_append, la4, List.filter_cons, if_neg hc]
              rfl
          · rintro H4 ⟨acc4, hD4, la4, s4⟩
            rw [List.length_map, List.take_of_length_le (Nat.le_refl _)] at la4
            refine ⟨D3, _, rfl, .inl (SqL.of hD4), ?_⟩
            have s34 := s3.trans s4
            refine ⟨_, _, rfl, rfl, ?_⟩
            refine ⟨_, rfl, ?_⟩
            refine ⟨_, rfl, o, ws.map V.int, rfl, s34.seq hh.ord, fun D4 nD4 => ?_⟩
            refine lc_it (walk_comb h7) (fun i H5 => ∃ acc, H5 D4 = some (.lst acc) ∧ acc.length = (((cmbL ws).take i).filter fun q => decide (q.1 + q.2 < 0)).length ∧ Same H4 H5) ⟨[], upd_same, rfl, Same.upd nD4⟩ (fun _ _ _ _ => trivial) ?_ ?_
            · rintro i x H5 H6 hi ⟨acc5, hD5, la5, s5⟩ ⟨t, qq, rfl, nt, rfl, eq⟩
              have hD6 := (upd_ne (o := .tup [.int qq.1, .int qq.2]) (ne_of_none hD5 nt)).trans hD5
              have s6 := s5.trans (Same.upd (o := .tup [.int qq.1, .int qq.2]) nt)
              refine ⟨t, _, rfl, SqT.of upd_same, rfl, _, _, rfl, _, _, rfl, rfl, rfl, ?_⟩
              rw [take_succ eq, List.filter_append]
              refine ⟨_, rfl, _, rfl, _, _, rfl, rfl, _, _, rfl, rfl, _, rfl, ite2 (fun hc => ?_) (fun hc => ?_)⟩
              · refine ⟨_, rfl, acc5, hD6, ?_, acc5 ++ [.int qq.1], upd_same, ?_, Same_updD s6 nD4⟩
                · rw [la5]
                  exact tl _ _
                · rw [List.length_append, List.length_append, la5, List.filter_cons, if_pos hc]
                  rfl
              · refine ⟨acc5, hD6, ?_, s6⟩
                rw [List.length_append, la5, List.filter_cons, if_neg hc]
                rfl
            · rintro H5 ⟨acc5, hD5, la5, s5⟩
              rw [List.take_of_length_le (Nat.le_refl _)] at la5
              refine ⟨D4, _, rfl, .inl (SqL.of hD5), ?_⟩
              refine ⟨_, _, rfl, rfl, ?_⟩
              refine ⟨_, rfl, ?_⟩
              have e := q H5 (s34.trans s5)
              rw [if_neg ek, if_pos rfl, ← la, ← la4, ← la5] at e
              exact e
        · have em := not_mi hk2
          refine ⟨_, rfl, ?_⟩
          have e := q H3 s3
          rw [if_neg ek, if_neg em, ← la] at e
          exact e
theorem dp_list {H : Hp} {a : Addr} {xs : List Int} (h : SqL K H a (xs.map V.int)) : Dp K H (.ref a) (.list (xs.map PyData.int)) := Dp.lst h (dp_ints _)
def spForm (K : PySem.W.Frag) (C : Addr) : Sp := fun vs H Q _ => ∃ (p o : Addr) (k : Nm) (n : Nat) (ws : List Int), vs = [.ref p, .ref o] ∧ KO K C H p o k n ws ∧ Form k n ws ∧ ∀ H', Same H H' → Q (.bl true) H'
theorem ok_has_order_form (T : Tk K w mg C D) (F : FnP K "has_order_form" "has_order_form" s_has_order_form f fd) (c_m_name : Md P w K mg base C "name" ["self"] 1 (spName C)) (c_m_size : Md P w K mg base C "size" ["self"] 1 (spSize C)) (c_m_start : Md P w K mg base C "start" ["self"] 1 (spStartM C))
    (c_are_whole : Gd P w K mg base "are_whole" ["values"] 2 (spAreWhole K)) : FnOk P w K mg base CX0 3 f fd ["kind", "value"] (spForm K C) := by
  refine okN F sc_has_order_form (fun vs H Q E h => ?_) (fun cdv A outer s H vs Q E hr h => ?_)
  · obtain ⟨p, o, k, n, ws, rfl, _⟩ := h
    rfl
  · obtain ⟨p, o, k, n, ws, rfl, hh, hF, q⟩ := h
    obtain ⟨dx, hp⟩ := id hh.kat
    have hl := hh.len
    have hn := okK_le hh.ok
    refine ⟨_, (pss_cons (ps_set (i := 2) sc_has_order_form.nd rfl (by first | exact Or.inl rfl | exact Or.inr rfl) (pe_methG0 T.cl c_m_size (hr.mono (by decide)) (pv 0)))
      (pss_cons (ps_if (pt_not (PW.pt (pw_and (pt_val (pe_callB call_isi (by rfl) T.m_isinstance (by decide +kernel) (pa_cons (pv 1) (pa_cons (pe_bltn (v := .ty "list") (by rfl) T.m_list (by decide +kernel) rfl) pa_nil)))) (pw_and (pt_cmpR op_eq (pe_callB call_len_seq (by rfl) T.m_len (by decide +kernel) (pa_cons (pv 1) pa_nil)) (pv 2) (nomark _)) (pw_and1 (pt_val (pe_callG c_are_whole (hr.mono (by decide)) (by rfl) (pa_cons (pv 1) pa_nil)))))))) (pss_one (ps_ret pe_bl)) pss_nil)
      (pss_cons (ps_set (i := 3) sc_has_order_form.nd rfl (by first | exact Or.inl rfl | exact Or.inr rfl) (pe_methG0 T.cl c_m_name (hr.mono (by decide)) (pv 0)))
      (pss_cons (ps_if (pt_cmpR op_eq (pv 3) pe_str (nomark _)) (pss_one (ps_ret (pe_cmpR (op_eqD hr.units) (pe_callB cr_sortedI (by rfl) T.m_sorted (by decide +kernel) (pa_cons (pv 1) pa_nil)) (pe_methG0 T.cl c_m_start (hr.mono (by decide)) (pv 0)) (nomark _)))) pss_nil)
      (pss_cons (ps_if (pt_cmpR op_eq (pv 3) pe_str (nomark _)) (pss_one (ps_ret (pe_cmpR (op_eqD hr.units) (pe_callB cr_sortedI (by rfl) T.m_sorted (by decide +kernel) (pa_cons (pe_lc (own := [(("item" : Str), 4)]) (g := (gName 4)) (tt := tYes) rfl sc_has_order_form.nd (pi_list (pv 1)) (blkOk_by (own := [(("item" : Str), 4)]) (N := ["kind", "value", "size", "name", "item"]) (sc := defScope s_has_order_form) (by decide +kernel)) (fun _ _ _ _ _ => (pg_name (i := 4) sc_has_order_form.nd rfl (Or.inl rfl))) (fun _ _ _ _ _ => pts_nil) (fun _ _ _ _ _ => (pe_callB call_abs (by rfl) T.m_abs (by decide +kernel) (pa_cons (pv 4) pa_nil)))) pa_nil)) (pe_methG0 T.cl c_m_start (hr.mono (by decide)) (pv 0)) (nomark _)))) pss_nil)
      (pss_one (ps_ret (pe_and (pe_cmpR op_eq (pe_callB (cr_sum rfl) (by rfl) T.m_sum (by decide +kernel) (pa_cons (pv 1) pa_nil)) (pe_op op_fdiv (pe_op op_mul (pv 2) (pe_op op_sub (pv 2) pe_int)) pe_int) (nomark _)) (pe_one (pe_cmpR (op_eqD hr.units) (pe_callB cr_sortedI (by rfl) T.m_sorted (by decide +kernel) (pa_cons (pe_lc (own := [(("item" : Str), 4)]) (g := (gName 4)) (tt := tYes) rfl sc_has_order_form.nd (pi_list (pv 1)) (blkOk_by (own := [(("item" : Str), 4)]) (N := ["kind", "value", "size", "name", "item"]) (sc := defScope s_has_order_form) (by decide +kernel)) (fun _ _ _ _ _ => (pg_name (i := 4) sc_has_order_form.nd rfl (Or.inl rfl))) (fun _ _ _ _ _ => pts_nil) (fun _ _ _ _ _ => (pe_op op_mod (pv 4) (pv 2)))) pa_nil)) (pe_methG0 T.cl c_m_start (hr.mono (by decide)) (pv 0)) (nomark _))))))))))), ?_⟩
    refine ⟨_, rfl, p, dx, _, rfl, hp, noM, p, k, n, rfl, hh.kat, ?_⟩
    refine ⟨_, rfl, .ref o, .ty "list", .type "list", .type "list", true, rfl, .ty _, sqL_ty hh.ord, kit_ty (by decide +kernel), true, rfl, ?_⟩
    refine ⟨_, rfl, o, _, rfl, .inl hh.ord, _, rfl, rfl, _, rfl, ?_⟩
    refine iteP (decide_eq_true (by rw [List.length_map, hl])) ?_
    refine ⟨_, rfl, o, ws, rfl, hh.ord, by omega, fun H1 s1 => ⟨true, rfl, ?_⟩⟩
    have hp1 := s1 _ _ hp
    have k1 := hh.kat.keep s1
    refine ⟨_, rfl, p, dx, _, rfl, hp1, noM, p, k, n, rfl, k1, ?_⟩
    refine ⟨_, rfl, rfl, _, rfl, ite2 (fun hk => ?_) (fun hk => ?_)⟩
    · rw [s_pl] at hk
      have ek := of_decide_eq_true hk
      subst ek
      refine ⟨_, rfl, o, ws, rfl, s1.seq hh.ord, fun ys a hy hs na => ?_⟩
      have u1 := Same.upd (o := .lst (ys.map V.int)) na
      refine ⟨_, rfl, p, dx, _, rfl, u1 _ _ hp1, noM, p, .pl, n, rfl, k1.keep u1, by omega, fun b nb => ?_⟩
      have u2 := Same.upd (o := .lst ((startL .pl n).map V.int)) nb
      refine ⟨_, _, dp_list (SqL.of (u2 _ _ upd_same)), dp_list (SqL.of upd_same), shaped_ints _, shaped_ints _, qB (q _ ((s1.trans u1).trans u2)) ?_⟩
      rw [eqv_l]
      exact decide_eq_true (sorted_start hy hs hF.2)
    · rw [s_pl] at hk
      have ek : k ≠ .pl := fun e => hk (decide_eq_true e)
      refine ⟨_, rfl, rfl, _, rfl, ite2 (fun hk => ?_) (fun hk => ?_)⟩
      · have em := is_mi hk
        subst em
        refine ⟨_, rfl, o, rfl, ⟨_, s1.seq hh.ord⟩, fun L nL => ?_⟩
        refine lc_list (K := K) (a := o) (xs := ws.map V.int) (fun i H2 => H2 L = some (.lst (((ws.take i).map absI).map V.int)) ∧ Same H1 H2) ⟨upd_same, Same.upd nL⟩ (fun i H2 _ h2 => (s1.trans h2.2).seq hh.ord) ?_ ?_
        · rintro i x H2 hi ⟨hD, s2⟩
          obtain ⟨hj, rfl⟩ := at_map hi
          refine ⟨rfl, ?_⟩
          have eq : ws[i]? = some (ws.getD i 0) := by rw [List.getD_eq_getElem?_getD, List.getElem?_eq_getElem hj]; rfl
          refine ⟨_, rfl, _, rfl, _, hD, ?_, ?_, Same_updD s2 nL⟩
          · rw [List.length_map, List.length_map, List.length_take]
            exact small1000 (by omega)
          · rw [upd_same, take_succ eq, List.map_append, List.map_append]
            rfl
        · rintro H2 ⟨hD, s2⟩
          rw [List.length_map, List.take_of_length_le (Nat.le_refl _)] at hD
          refine ⟨L, ws.map absI, rfl, SqL.of hD, fun ys a hy hs na => ?_⟩
          have u1 := (s1.trans s2).trans (Same.upd (o := .lst (ys.map V.int)) na)
          refine ⟨_, rfl, p, dx, _, rfl, u1 _ _ hp, noM, p, .mi, n, rfl, hh.kat.keep u1, by omega, fun b nb => ?_⟩
          have u2 := Same.upd (o := .lst ((startL .mi n).map V.int)) nb
          refine ⟨_, _, dp_list (SqL.of (u2 _ _ upd_same)), dp_list (SqL.of upd_same), shaped_ints _, shaped_ints _, qB (q _ (u1.trans u2)) ?_⟩
          rw [eqv_l]
          exact decide_eq_true (sorted_start hy hs hF.2)
      · have em := not_mi hk
        have er : k = .ri := by cases k <;> simp_all
        subst er
        refine ⟨_, rfl, o, ws, rfl, s1.seq hh.ord, ?_⟩
        refine ⟨_, rfl, _, rfl, _, _, rfl, rfl, _, _, rfl, rfl, .inl ⟨by omega, by omega⟩, _, _, rfl, rfl, ⟨by decide, by decide⟩, rfl, _, rfl, iteP (decide_eq_true (congrArg V.int hF.2.1)) ?_⟩
        refine ⟨_, rfl, o, rfl, ⟨_, s1.seq hh.ord⟩, fun L nL => ?_⟩
        refine lc_list (K := K) (a := o) (xs := ws.map V.int) (fun i H2 => H2 L = some (.lst (((ws.take i).map fun x => x % (n : Int)).map V.int)) ∧ Same H1 H2) ⟨upd_same, Same.upd nL⟩ (fun i H2 _ h2 => (s1.trans h2.2).seq hh.ord) ?_ ?_
        · rintro i x H2 hi ⟨hD, s2⟩
          obtain ⟨hj, rfl⟩ := at_map hi
          refine ⟨rfl, ?_⟩
          have eq : ws[i]? = some (ws.getD i 0) := by rw [List.getD_eq_getElem?_getD, List.getElem?_eq_getElem hj]; rfl
          refine ⟨_, rfl, _, rfl, _, _, rfl, rfl, (by omega), _, hD, ?_, ?_, Same_updD s2 nL⟩
          · rw [List.length_map, List.length_map, List.length_take]
            exact small1000 (by omega)
          · rw [upd_same, take_succ eq, List.map_append, List.map_append]
            rfl
        · rintro H2 ⟨hD, s2⟩
          rw [List.length_map, List.take_of_length_le (Nat.le_refl _)] at hD
          refine ⟨L, ws.map fun x => x % (n : Int), rfl, SqL.of hD, fun ys a hy hs na => ?_⟩
          have u1 := (s1.trans s2).trans (Same.upd (o := .lst (ys.map V.int)) na)
          refine ⟨_, rfl, p, dx, _, rfl, u1 _ _ hp, noM, p, .ri, n, rfl, hh.kat.keep u1, by omega, fun b nb => ?_⟩
          have u2 := Same.upd (o := .lst ((startL .ri n).map V.int)) nb
          refine ⟨_, _, dp_list (SqL.of (u2 _ _ upd_same)), dp_list (SqL.of upd_same), shaped_ints _, shaped_ints _, qB (q _ (u1.trans u2)) ?_⟩
          rw [eqv_l]
          exact decide_eq_true (sorted_start hy hs hF.2.2)
def spTold (K : PySem.W.Frag) (C : Addr) : Sp := fun vs H Q _ => ∃ (p o : Addr) (k : Nm) (n : Nat) (ws : List Int), vs = [.ref p, .ref o] ∧ KO K C H p o k n ws ∧ Form k n ws ∧ crP k n ws ≤ 60 ∧ ∀ H', Same H H' → Q (.bl true) H'
theorem ok_is_told_order (T : Tk K w mg C D) (F : FnP K "is_told_order" "is_told_order" s_is_told_order f fd) (gM : ∃ t, mg "MOST_CROSSINGS" = some (.int 60 t)) (c_has_order_form : Gd P w K mg base "has_order_form" ["kind", "value"] 3 (spForm K C))
    (c_count_crossings : Gd P w K mg base "count_crossings" ["kind", "order"] 2 (spCount K C)) (c_m_name : Md P w K mg base C "name" ["self"] 1 (spName C)) : FnOk P w K mg base CX0 4 f fd ["kind", "value"] (spTold K C) := by
  obtain ⟨tM, gM⟩ := gM
  refine okN F sc_is_told_order (fun vs H Q E h => ?_) (fun cdv A outer s H vs Q E hr h => ?_)
  · obtain ⟨p, o, k, n, ws, rfl, _⟩ := h
    rfl
  · obtain ⟨p, o, k, n, ws, rfl, hh, hF, h6, q⟩ := h
    refine ⟨_, (pss_cons (ps_if (pt_not (pt_val (pe_callG c_has_order_form (hr.mono (by decide)) (by rfl) (pa_cons (pv 0) (pa_cons (pv 1) pa_nil))))) (pss_one (ps_ret pe_bl)) pss_nil)
      (pss_one (ps_ret (pe_or (pe_cmpR op_ne (pe_methG0 T.cl c_m_name (hr.mono (by decide)) (pv 0)) pe_str (nomark _)) (pe_one (pe_cmpR op_le (pe_callG c_count_crossings (hr.mono (by decide)) (by rfl) (pa_cons (pv 0) (pa_cons (pv 1) pa_nil))) (pe_glob (v := .int 60) (by rfl) gM ⟨_, rfl⟩) (nomark _))))))), ?_⟩
    refine ⟨_, rfl, _, rfl, p, o, k, n, ws, rfl, hh, hF, fun H1 s1 => ⟨true, rfl, iteN (by decide) ?_⟩⟩
    obtain ⟨dx, hp⟩ := (hh.keep s1).kat
    refine ⟨_, rfl, p, dx, _, rfl, hp, noM, p, k, n, rfl, ⟨dx, hp⟩, rfl, _, rfl, ite2 (fun _ => q H1 s1) (fun _ => ?_)⟩
    refine ⟨_, rfl, _, rfl, p, o, k, n, ws, rfl, hh.keep s1, fun H2 s2 => ?_⟩
    refine ⟨_, _, rfl, rfl, qB (q H2 (s1.trans s2)) (decide_eq_true h6)⟩
def spCkO (K : PySem.W.Frag) (C : Addr) : Sp := fun vs H Q _ => ∃ (p o : Addr) (k : Nm) (n : Nat) (ws : List Int), vs = [.ref p, .ref o] ∧ KO K C H p o k n ws ∧ Form k n ws ∧ crP k n ws ≤ 60 ∧ ∀ H', Same H H' → Q .non H'
def spCkB (K : PySem.W.Frag) (C : Addr) : Sp := fun vs H Q _ => ∃ (p t o : Addr) (k : Nm) (n : Nat) (ws : List Int), vs = [.ref p, .ref t] ∧ SqT K H t [.ref o] ∧ KO K C H p o k n ws ∧ Form k n ws ∧ crP k n ws ≤ 60 ∧ ∀ H', Same H H' → Q .non H'
theorem body_check_orders {cdv : Value} {A : Around} {outer : List Env} {s : Shared} {H : Hp} {vs : List V} {Q : VK} {E : XK} (T : Tk K w mg C D) (F : FnP K "check_orders" "check_orders" s_check_orders f fd) (c_check_kind : Gd P w K mg base "check_kind" ["kind"] 1 (spCk C)) (c_is_told_order : Gd P w K mg base "is_told_order" ["kind", "value"] 4 (spTold K C))
    (hr : Room 4 (A.deeper (envOfC "check_orders" (defScope s_check_orders) s.heap.objs.size f cdv))) (h : spCkB K C vs H Q E) :
    ∃ t, PSs (cxOf CX0 P w K mg base ["kind", "orders", "order"] "check_orders" (defScope s_check_orders) f cdv A outer s H E).nox (defBody s_check_orders) t ∧ t { nx := fun _ H' => Q .non H', rt := Q } (start ["kind", "orders", "order"] vs) H := by
  obtain ⟨p, t, o, k, n, ws, rfl, hT, hh, hF, h6, q⟩ := h
  refine ⟨_, (pss_cons (ps_expr (pe_callG c_check_kind (hr.mono (by decide)) (by rfl) (pa_cons (pv 0) pa_nil)))
      (pss_one (ps_for PassesOwn.never rfl (pi_tup (pv 1)) (pg_name (i := 2) sc_check_orders.nd rfl (Or.inl rfl)) (pss_one (ps_if (pt_not (pt_val (pe_callG c_is_told_order (hr.mono (by decide)) (by rfl) (pa_cons (pv 0) (pa_cons (pv 2) pa_nil))))) (pss_one ps_never) pss_nil))))), ?_⟩
  refine ⟨_, rfl, p, k, n, rfl, hh.kat, ?_⟩
  refine ⟨_, rfl, t, rfl, ⟨_, hT⟩, ?_⟩
  refine for_tup (K := K) (a := t) (xs := [.ref o]) (fun i σ H2 => ∃ v, σ = [some (.ref p), some (.ref t), v] ∧ Same H H2) ⟨none, rfl, Same.refl H⟩ (fun i σ H2 _ h2 => by obtain ⟨_, _, s2⟩ := h2; exact Same.tup s2 hT) ?_ ?_
  · rintro i x σ H2 hi ⟨v, rfl, s2⟩
    have ex : x = .ref o := by
      match i, hi with
      | 0, hi => exact (Option.some.inj hi).symm
    subst ex
    refine ⟨_, rfl, _, rfl, p, o, k, n, ws, rfl, hh.keep s2, hF, h6, fun H3 s3 => ⟨true, rfl, ?_⟩⟩
    exact ⟨_, rfl, s2.trans s3⟩
  · rintro σ H2 ⟨v, rfl, s2⟩
    exact q H2 s2
theorem ok_check_orders (T : Tk K w mg C D) (F : FnP K "check_orders" "check_orders" s_check_orders f fd) (c_check_kind : Gd P w K mg base "check_kind" ["kind"] 1 (spCk C)) (c_is_told_order : Gd P w K mg base "is_told_order" ["kind", "value"] 4 (spTold K C)) : FnR P w K mg base CX0 5 f (spCkO K C) := by
  obtain ⟨oc, od, dV, kV, doc, pm, an, cdv, ct, osl, rfl, lk, hcd, hD, hK⟩ := id F.ex
  rcases hD with ⟨_, rfl⟩ | ⟨e, _⟩
  · have R := StX.fn_star (P := P) (w := w) (mg := mg) (base := base) (CX := CX0) (ps := ["kind"]) (pv := "orders") (N := ["kind", "orders", "order"]) (sp := spCkB K C) (k := 4) lk hcd sc_check_orders StX.cxUp_none
      (StX.bind_star1 (B := fun us => bindArgs _ ⟨us, []⟩) (fun a => rfl) (fun a r rs => rfl)) (fun A outer s H vs Q E hr h => let ⟨t, p, q⟩ := body_check_orders T F c_check_kind c_is_told_order hr h; ⟨t, p.nox, q⟩)
    intro A outer s H us vs Q E hr e0 r h
    refine R A outer s H us vs Q E hr e0 r ?_
    obtain ⟨p, o, k, n, ws, rfl, hh, hF, h6, q⟩ := h
    refine ⟨[.ref p], [.ref o], rfl, rfl, (by show 1 ≤ sizeLine; decide), fun t nt => ?_⟩
    have u1 := Same.upd (o := .tup [V.ref o]) nt
    exact ⟨p, t, o, k, n, ws, rfl, SqT.of upd_same, hh.keep u1, hF, h6, fun H' s' => q H' (u1.trans s')⟩
  · exact absurd rfl e
def spCross2 (K : PySem.W.Frag) (C : Addr) : Sp := fun vs H Q _ => ∃ (p o : Addr) (k : Nm) (n : Nat) (ws : List Int), vs = [.ref p, .ref o] ∧ KO K C H p o k n ws ∧ Form k n ws ∧ crP k n ws ≤ 60 ∧ ∀ H', Same H H' → Q (.int (crP k n ws)) H'
def spFalls2 (K : PySem.W.Frag) (C : Addr) : Sp := fun vs H Q _ => ∃ (p o : Addr) (k : Nm) (n : Nat) (ws : List Int), vs = [.ref p, .ref o] ∧ KO K C H p o k n ws ∧ Form k n ws ∧ crP k n ws ≤ 60 ∧
  ∀ q H', Same H H' → H q = none → H' q = some (.lst ((fallsP k n ws).map V.int)) → Q (.ref q) H'
def spHeads2 (K : PySem.W.Frag) (C : Addr) : Sp := fun vs H Q _ => ∃ (p o : Addr) (k : Nm) (n : Nat) (ws : List Int), vs = [.ref p, .ref o] ∧ KO K C H p o k n ws ∧ Form k n ws ∧ crP k n ws ≤ 60 ∧
  ∀ q H', Same H H' → H q = none → H' q = some (.lst ((fallsP k n (invP k n ws)).map V.int)) → Q (.ref q) H'
def spStepped2 (K : PySem.W.Frag) (C : Addr) : Sp := fun vs H Q _ => ∃ (p o : Addr) (k : Nm) (n : Nat) (ws : List Int) (z : Int), vs = [.ref p, .ref o, .int z] ∧ KO K C H p o k n ws ∧ Form k n ws ∧ crP k n ws ≤ 60 ∧ okS k n z ∧
  ∀ q H', Same H H' → H q = none → H' q = some (.lst ((stepped k n ws z).map V.int)) → Q (.ref q) H'
def spAhead2 (K : PySem.W.Frag) (C : Addr) : Sp := fun vs H Q _ => ∃ (p o : Addr) (k : Nm) (n : Nat) (ws : List Int) (z : Int), vs = [.ref p, .ref o, .int z] ∧ KO K C H p o k n ws ∧ Form k n ws ∧ crP k n ws ≤ 60 ∧ okS k n z ∧
  ∀ q H', Same H H' → H q = none → H' q = some (.lst ((aheadL k n ws z).map V.int)) → Q (.ref q) H'
end
end Sv

/-! xs[:] = ys, another list, by the verifier -/
namespace Sv
open PySem PySem.Spec PyProof.Rows L2
section
variable {prog : Program} {w : World} {A : Around} {E : Value → Shared → Prop} {s : Shared}
theorem bounds_all (n : Nat) : sliceBounds none none none n = (0, (n : Int), 1) := by
  simp [sliceBounds]
theorem whole_eq (its its2 : List Value) : its.toArray.extract 0 0 ++ its2.toArray ++ its.toArray.extract its.toArray.size its.toArray.size = its2.toArray := by
  simp
/-- a slice object is asked for an index: it has none -/
theorem sub_none {sl : Addr} {Q : Option Int → Shared → Prop} (ts : s.TypeIs (.ref sl) "slice") (q : Q none s) : wpAny (model prog w) A (Builtin.List.listSubscript? (.ref sl)) Q E s := by
  unfold Builtin.List.listSubscript?
  exact wpAny_bind (wpAny_specialOf ts slice_no_index (by simpa using wpAny_pure q))
/-- the parts of [:] -/
theorem parts_none {sl : Addr} {os : Obj} {Q : Value × Value × Value → Shared → Prop} (h1 : s.heap.get? sl = some os) (h3 : os.data = .fields #[.none, .none, .none]) (q : Q (.none, .none, .none) s) :
    wpAny (model prog w) A (Builtin.List.listSliceParts (.ref sl)) Q E s := by
  rw [listSliceParts_eq]
  refine wpAny_bind (wpAny_field h1 h3 (x := .none) rfl (wpAny_bind (wpAny_listPart .none ?_)))
  rw [if_neg (show ¬ ((rawPart none == rawInt 0) = true) from Bool.false_ne_true)]
  exact wpAny_bind (wpAny_field h1 h3 (x := .none) rfl (wpAny_bind (wpAny_listPart .none (wpAny_bind (wpAny_field h1 h3 (x := .none) rfl (wpAny_bind (wpAny_listPart .none (wpAny_pure q))))))))
/-- all items of a list -/
theorem items_of {b : Addr} {new : Array Value} {n2 : Nat} {m : String} {Q : Array Value → Shared → Prop} (e2 : s.heap.get? b = some { cls := .type "list", data := .seq new n2 }) (q : Q new s) :
    wpAny (model prog w) A (Builtin.List.listAllItems (.ref b) m) Q E s := by
  have tb := (PySem.IsL.isList e2 : s.heap.IsList b new).typeIs
  unfold Builtin.List.listAllItems Builtin.List.listItems
  refine wpAny_bind (wpAny_typeOf tb ?_)
  first
    | exact PySem.W.KFB.if_so (by decide) (wpAny_seqItems e2 rfl (wpAny_pure q))
    | exact PySem.W.KFB.if_so (by decide) (wpAny_bind (wpAny_seqItems e2 rfl (wpAny_pure q)))
    | (rw [if_pos (by decide)]; exact wpAny_bind (wpAny_seqItems e2 rfl (wpAny_pure q)))
theorem setItem_all {l b sl : Addr} {items new : Array Value} {n n2 : Nat} {Q : Unit → Shared → Prop}
    (e : s.heap.get? l = some { cls := .type "list", data := .seq items n }) (e2 : s.heap.get? b = some { cls := .type "list", data := .seq new n2 }) (hne : l ≠ b)
    (hs : s.heap.IsSliceOf sl .none .none .none) (hsz : items.size + new.size ≤ sizeLine)
    (h : Q () { s with heap := s.heap.update l (Obj.mapSeq fun xs => xs.extract 0 0 ++ new ++ xs.extract items.size xs.size) }) :
    wpAny (model prog w) A (setItem (.ref l) (.ref sl) (.ref b)) Q E s := by
  have tl := (PySem.IsL.isList e : s.heap.IsList l items).typeIs
  obtain ⟨os, h1, h2, h3⟩ := id hs
  have ts : s.TypeIs (.ref sl) "slice" := ⟨os, h1, h2⟩
  have d0 : Builtin.List.listSameRef (.ref l) (.ref b) = false := beq_eq_false_iff_ne.mpr hne
  have room : ((fun xs : Array Value => xs.extract 0 0 ++ new ++ xs.extract items.size xs.size) items).size ≤ sizeLine + 1 := by
    rw [Array.size_append, Array.size_append, Array.size_extract, Array.size_extract]
    omega
  have top : (max (0 : Int) (items.size : Int)).toNat = items.size := by omega
  unfold setItem
  refine wpAny_holding (wpAny_bind (wpAny_sequenceKey tl (by decide) ?_))
  refine wpAny_bind (wpAny_callSpecial?_slot (name := Str.ofString "__setitem__") tl slot_list_setitem (wpAny_call_entry slot_list_setitem tl entry_list_setitem ?_ (args_list_setitem _ _ _)))
  show wpAny _ _ (Builtin.List.listSubscript? (.ref sl) >>= _) _ _ s
  refine wpAny_bind (sub_none ts ?_)
  show wpAny _ _ (typeOf (.ref sl) >>= _) _ _ s
  refine wpAny_bind (wpAny_typeOf ts (PySem.W.KFB.if_not (by decide) (wpAny_bind (parts_none h1 h3 (PySem.W.KFB.if_not d0 ?_)))))
  refine wpAny_bind (items_of e2 ?_)
  refine wpAny_bind (m := Builtin.List.listItems (.ref l)) ?_
  unfold Builtin.List.listItems
  refine wpAny_bind (wpAny_seqItems e rfl (wpAny_pure (wpAny_bind (wpAny_of_eq ((sliceIndices_raw none none none items.size (by simp)).trans (congrArg (pure : Int × Int × Int → Sem (Int × Int × Int)) (bounds_all items.size))) ?_))))
  refine PySem.W.KFB.if_so (by decide) (wpAny_bind (wpAny_rule (PySem.W.KFB.if_not (notLongL hsz) ?_)))
  show wpAny _ _ (updateSeq l (fun xs => xs.extract 0 ((0 : Int)).toNat ++ new ++ xs.extract (max (0 : Int) (items.size : Int)).toNat xs.size) >>= _) _ _ s
  rw [top]
  exact wpAny_bind (wpAny_updateSeq (hz := Nat.le_trans (Nat.le_add_right _ _) hsz) (_hz' := room) e rfl (wpAny_bind (wpAny_letGo (wpAny_bind (wpAny_pure (wpAny_pure ⟨.none, rfl, wpAny_pure h⟩))))))
end
section
variable {X : Cx}
theorem set_all {pins : List (Addr × Obj)} {s : Shared} {σ : L2.St} {H : Hp} {l b sl : Addr} {xs ys : List V} {Q : Unit → Shared → Prop} (I : Inv X pins σ H s)
    (hH : H l = some (.lst xs)) (hB : H b = some (.lst ys)) (hne : l ≠ b) (hs : s.heap.IsSliceOf sl .none .none .none)
    (hz : xs.length + ys.length ≤ sizeLine) (h : ∀ s', Inv X pins σ (L2.upd H l (.lst ys)) s' → Q () s') :
    wpAny (model X.prog X.w) X.A (setItem (.ref l) (.ref sl) (.ref b)) Q X.xe s := by
  obtain ⟨its, n, r, e, z⟩ := I.lst hH
  obtain ⟨its2, n2, r2, e2, z2⟩ := I.lst hB
  have l1 := r.length
  have l2 := r2.length
  refine setItem_all e e2 hne hs (by rw [List.size_toArray, List.size_toArray]; omega) (h _ ?_)
  exact I.lset (its' := its2) (t' := s.toks) hH e (whole_eq its its2) r2 z2
/-- o[:] = .. -/
def gAll (to : TE) : TG := fun v σ H Q => to σ H fun o H1 => ∃ a b xs ys, o = .ref a ∧ v = .ref b ∧ H1 a = some (.lst xs) ∧ H1 b = some (.lst ys) ∧ a ≠ b ∧ xs.length + ys.length ≤ sizeLine ∧ Q σ (L2.upd H1 a (.lst ys))
theorem pg_all {o : Expr} {to : TE} {p2 pos : Pos} (ho : PE X o to)
    (ha : ∀ v, assign (.Subscript o (.Slice none none none p2) pos) X.env v = (do
      let ov ← holding [v] (eval o X.env)
      let iv ← holding [v, ov] (eval (.Slice none none none p2) X.env)
      standAt pos
      holding [v, ov, iv] (setItem ov iv v)
      release [iv, v, ov] []) := by intro _; rfl) : PG X (.Subscript o (.Slice none none none p2) pos) (gAll to) := by
  refine ⟨fun pins s σ H v u Q I r h => ?_⟩
  rw [ha]
  refine wpAny_bind (wpAny_holding (thn (ho.run pins s σ H _ I h) fun ov s1 ⟨x, H1, I1, r1, q1⟩ => ?_))
  obtain ⟨a, b, xs, ys, rfl, rfl, hA, hB, hne, hz, q⟩ := q1
  cases (show ov = Value.ref a from r1)
  cases (show u = Value.ref b from r)
  refine wpAny_bind (wpAny_holding ?_)
  refine wpAny_Slice ?_
  rw [evalPart_none]
  refine wpAny_pure (wpAny_pure (wpAny_pure ?_))
  have I4 : Inv X pins σ H1 { s1 with heap := s1.heap.push { cls := .type "slice", data := .fields #[.none, .none, .none] } } := I1.kept (t' := s1.toks) fun b ob q => Heap.get?_push_of_some _ q
  refine wpAny_bind (wpAny_standAt (wpAny_bind (wpAny_holding ?_)))
  refine set_all I4 hA hB hne (Heap.IsSliceOf.new ..) hz fun s' I5 => ?_
  exact wpAny_release ⟨σ, _, I5, q⟩
end
end Sv

namespace Sv
open PySem PySem.Spec PyProof.Rows L2
section
variable {P : Program} {w : World} {K : PySem.W.Frag} {mg : Str → Option Value} {base : Heap} {f C D : Addr} {fd : FuncData}
/-- a kind told, an order of it -/
structure TO (K : PySem.W.Frag) (H : Hp) (t o : Addr) (k : Nm) (n : Nat) (ws : List Int) : Prop where
  told : Told K H t k n
  ord : SqL K H o (ws.map V.int)
  len : ws.length = n
  ok : okK k n = true
theorem TO.keep {H H' : Hp} {t o : Addr} {k : Nm} {n : Nat} {ws : List Int} (h : TO K H t o k n ws) (e : Same H H') : TO K H' t o k n ws := ⟨Same.tup e h.told, e.seq h.ord, h.len, h.ok⟩
def spLFalls (K : PySem.W.Frag) : Sp := fun vs H Q _ => ∃ (t o : Addr) (k : Nm) (n : Nat) (ws : List Int), vs = [.ref t, .ref o] ∧ TO K H t o k n ws ∧ ∀ q H', Same H H' → H q = none → H' q = some (.lst ((fallsP k n ws).map V.int)) → Q (.ref q) H'
def spLProd (K : PySem.W.Frag) : Sp := fun vs H Q _ => ∃ (t o u : Addr) (k : Nm) (n : Nat) (ws us : List Int), vs = [.ref t, .ref o, .ref u] ∧ TO K H t o k n ws ∧ SqL K H u (us.map V.int) ∧ us.length ≤ 100 ∧ (∀ x ∈ us, okP k n x) ∧
  ∀ q H', Same H H' → H q = none → H' q = some (.lst ((us.map (item k n ws)).map V.int)) → Q (.ref q) H'
def spMade (K : PySem.W.Frag) : Sp := fun vs H Q _ => ∃ (t r : Addr) (k : Nm) (n : Nat) (l : List Int), vs = [.ref t, .ref r] ∧ Told K H t k n ∧ SqL K H r (l.map V.int) ∧ okK k n = true ∧ (∀ s ∈ l, okS k n s) ∧
  ∀ q H', Same H H' → H q = none → H' q = some (.lst ((run k n (startL k n) l).map V.int)) → Q (.ref q) H'
theorem run_take {k : Nm} {n : Nat} {w l : List Int} {i : Nat} (h : i < l.length) : run k n w (l.take (i + 1)) = stepped k n (run k n w (l.take i)) (l.getD i 0) := by
  have e : l[i]? = some (l.getD i 0) := by rw [List.getD_eq_getElem?_getD, List.getElem?_eq_getElem h]; rfl
  rw [take_succ e, run_snoc]
def spLeast (K : PySem.W.Frag) : Sp := fun vs H Q _ => ∃ (t o : Addr) (k : Nm) (n : Nat) (ws : List Int), vs = [.ref t, .ref o] ∧ TO K H t o k n ws ∧ Form k n ws ∧ crP k n ws ≤ 500 ∧
  ∀ (q : Addr) (l : List Int) (H' : Hp), (∀ s ∈ l, okS k n s) → ws = run k n (startL k n) l → (l.length : Int) = crP k n ws → Same H H' → H q = none → H' q = some (.lst (l.map V.int)) → Q (.ref q) H'
theorem last_get {xs : List Int} (h : 0 < xs.length) : atI (xs.map V.int) ((xs.map V.int).length - 1 : Int) = some (.int (xs.getD (xs.length - 1) 0)) := by
  rw [List.length_map]
  exact at_of (j := xs.length - 1) (by omega) (map_getD (by omega))
def spLOpp (K : PySem.W.Frag) : Sp := fun vs H Q _ => ∃ (t o : Addr) (k : Nm) (n : Nat) (ws : List Int), vs = [.ref t, .ref o] ∧ TO K H t o k n ws ∧ Form k n ws ∧ crP k n ws ≤ 500 ∧ ∀ q H', Same H H' → H q = none → H' q = some (.lst ((invP k n ws).map V.int)) → Q (.ref q) H'
def spLCr (K : PySem.W.Frag) : Sp := fun vs H Q _ => ∃ (t o : Addr) (k : Nm) (n : Nat) (ws : List Int), vs = [.ref t, .ref o] ∧ TO K H t o k n ws ∧ Form k n ws ∧ crP k n ws ≤ 500 ∧ ∀ H', Same H H' → Q (.int (crP k n ws)) H'
end
end Sv

/-! Gains along rows: what a row of gains does depends only on what it does to the start. By the verifier: plain mathematics.
    f: what stands at each place of a whole line; S a b: how many places below a hold something of b or more; a gain is a (min, +) step on S. -/
namespace Sv
open PySem L2
/-- S counts, for f, the places below a that hold b or more -/
structure IsS (f : Int → Int) (S : Int → Int → Int) : Prop where
  up : ∀ a b, S (a + 1) b = S a b + (if b ≤ f a then 1 else 0)
  far : ∃ K : Int, ∀ a b, a + K ≤ b → S a b = 0
/-- at each place of D the greater one of the two that stand there and behind, at the next one the lesser -/
def gD (D : Int → Bool) (f : Int → Int) : Int → Int := fun p => if D p = true then max (f p) (f (p + 1)) else if D (p - 1) = true then min (f (p - 1)) (f p) else f p
def tD (D : Int → Bool) (S : Int → Int → Int) : Int → Int → Int := fun a b => if D (a - 1) = true then min (S (a + 1) b) (1 + S (a - 1) b) else S a b
theorem IsS.down {f : Int → Int} {S : Int → Int → Int} (h : IsS f S) (a b : Int) : S a b = S (a - 1) b + (if b ≤ f (a - 1) then 1 else 0) := by
  have := h.up (a - 1) b
  rw [Int.sub_add_cancel] at this
  exact this
theorem IsS.gain {f : Int → Int} {S : Int → Int → Int} {D : Int → Bool} (h : IsS f S) (hD : ∀ a, D a = true → D (a + 1) = false) : IsS (gD D f) (tD D S) := by
  refine ⟨fun a b => ?_, ?_⟩
  · have e1 : a + 1 - 1 = a := by omega
    unfold tD gD
    rw [e1]
    by_cases h1 : D a = true
    · have h2 : D (a - 1) ≠ true := fun z => by
        have := hD _ z
        rw [Int.sub_add_cancel] at this
        rw [this] at h1
        cases h1
      rw [if_pos h1, if_neg h2, if_pos h1]
      have u1 := h.up a b
      have u2 := h.up (a + 1) b
      by_cases x : b ≤ f a <;> by_cases y : b ≤ f (a + 1) <;> simp only [x, y, if_true, if_false] at u1 u2 <;> (split <;> omega)
    · rw [if_neg h1, if_neg h1]
      by_cases h2 : D (a - 1) = true
      · rw [if_pos h2, if_pos h2]
        have u1 := h.up a b
        have u2 := h.down a b
        by_cases x : b ≤ f a <;> by_cases y : b ≤ f (a - 1) <;> simp only [x, y, if_true, if_false] at u1 u2 <;> (split <;> omega)
      · rw [if_neg h2, if_neg h2]
        exact h.up a b
  · obtain ⟨K, hK⟩ := h.far
    refine ⟨K + 1, fun a b hab => ?_⟩
    unfold tD
    have h1 := hK a b (by omega)
    have h2 := hK (a + 1) b (by omega)
    have h3 := hK (a - 1) b (by omega)
    split <;> omega
theorem IsS.same {f : Int → Int} {S R : Int → Int → Int} (h : IsS f S) (g : IsS f R) : S = R := by
  funext a b
  obtain ⟨K, hK⟩ := h.far
  obtain ⟨L, hL⟩ := g.far
  have far0 : ∀ a, a + max K L ≤ b → S a b = R a b := fun a ha => by rw [hK a b (by omega), hL a b (by omega)]
  have up : ∀ m : Nat, S (b - max K L + (m : Int)) b = R (b - max K L + (m : Int)) b := by
    intro m
    induction m with
    | zero => exact far0 _ (by omega)
    | succ m ih =>
      have e : b - max K L + ((m + 1 : Nat) : Int) = b - max K L + (m : Int) + 1 := by omega
      rw [e, h.up, g.up, ih]
  by_cases ha : a + max K L ≤ b
  · exact far0 a ha
  · have := up (a - (b - max K L)).toNat
    have e : b - max K L + ((a - (b - max K L)).toNat : Int) = a := by omega
    rw [e] at this
    exact this
theorem IsS.inj {f g : Int → Int} {S : Int → Int → Int} (h : IsS f S) (k : IsS g S) : f = g := by
  funext a
  have h1 := h.up a (f a)
  have k1 := k.up a (f a)
  have h2 := h.up a (g a)
  have k2 := k.up a (g a)
  have r1 : f a ≤ f a := Int.le_refl _
  have r2 : g a ≤ g a := Int.le_refl _
  simp only [r1, r2, if_true] at h1 k2
  by_cases x : f a ≤ g a
  · by_cases y : g a ≤ f a
    · omega
    · simp only [y, if_false] at h2
      omega
  · simp only [x, if_false] at k1
    omega
/-- R is the least sum of V and S by way of all places between -/
def Rel (V S R : Int → Int → Int) : Prop := ∀ a b, (∀ c, R a b ≤ V a c + S c b) ∧ ∃ c, R a b = V a c + S c b
theorem Rel.gain {V S R : Int → Int → Int} (D : Int → Bool) (h : Rel V S R) : Rel (tD D V) S (tD D R) := by
  intro a b
  unfold tD
  by_cases hd : D (a - 1) = true
  · simp only [hd, if_true]
    have h1 := h (a + 1) b
    have h2 := h (a - 1) b
    refine ⟨fun c => ?_, ?_⟩
    · have x1 := h1.1 c
      have x2 := h2.1 c
      omega
    · obtain ⟨c1, e1⟩ := h1.2
      obtain ⟨c2, e2⟩ := h2.2
      by_cases hm : R (a + 1) b ≤ 1 + R (a - 1) b
      · refine ⟨c1, ?_⟩
        have x := h2.1 c1
        omega
      · refine ⟨c2, ?_⟩
        have x := h1.1 c2
        omega
  · simp only [hd, if_false]
    exact h a b
theorem Rel.same {V S R R' : Int → Int → Int} (h : Rel V S R) (k : Rel V S R') : R = R' := by
  funext a b
  obtain ⟨c, e⟩ := (h a b).2
  obtain ⟨c', e'⟩ := (k a b).2
  have x := (h a b).1 c'
  have y := (k a b).1 c
  omega
def sId : Int → Int → Int := fun a b => if b ≤ a then a - b else 0
theorem isS_id : IsS (fun p => p) sId := by
  refine ⟨fun a b => ?_, 0, fun a b h => ?_⟩
  · unfold sId
    (repeat' split) <;> omega
  · unfold sId
    split <;> omega
theorem IsS.near {f : Int → Int} {S : Int → Int → Int} (h : IsS f S) (b : Int) : ∀ (m : Nat) (a : Int), S a b ≤ S (a + (m : Int)) b ∧ S (a + (m : Int)) b ≤ S a b + (m : Int)
  | 0, a => by
    rw [show a + ((0 : Nat) : Int) = a by omega]
    exact ⟨by omega, by omega⟩
  | m + 1, a => by
    have i := h.near b m a
    have u := h.up (a + (m : Int)) b
    rw [show a + ((m + 1 : Nat) : Int) = a + (m : Int) + 1 by omega]
    split at u <;> omega
theorem rel_id {f : Int → Int} {S : Int → Int → Int} (h : IsS f S) : Rel sId S S := by
  intro a b
  refine ⟨fun c => ?_, a, ?_⟩
  · unfold sId
    by_cases hc : c ≤ a
    · have := (h.near b (a - c).toNat c).2
      rw [show c + ((a - c).toNat : Int) = a by omega] at this
      rw [if_pos hc]
      omega
    · have := (h.near b (c - a).toNat a).1
      rw [show a + ((c - a).toNat : Int) = c by omega] at this
      rw [if_neg hc]
      omega
  · unfold sId
    rw [if_pos (Int.le_refl _)]
    omega
/-- gains one behind another -/
def gDs (f : Int → Int) (Ds : List (Int → Bool)) : Int → Int := Ds.foldl (fun g D => gD D g) f
def tDs (S : Int → Int → Int) (Ds : List (Int → Bool)) : Int → Int → Int := Ds.foldl (fun T D => tD D T) S
def Apart (D : Int → Bool) : Prop := ∀ a, D a = true → D (a + 1) = false
theorem gains_isS : ∀ {Ds : List (Int → Bool)} {f : Int → Int} {S : Int → Int → Int}, (∀ D ∈ Ds, Apart D) → IsS f S → IsS (gDs f Ds) (tDs S Ds)
  | [], _, _, _, h => h
  | D :: Ds, f, S, hD, h => gains_isS (Ds := Ds) (f := gD D f) (S := tD D S) (fun E hE => hD E (List.mem_cons_of_mem _ hE)) (h.gain (hD D List.mem_cons_self))
theorem gains_rel : ∀ {Ds : List (Int → Bool)} {V S R : Int → Int → Int}, Rel V S R → Rel (tDs V Ds) S (tDs R Ds)
  | [], _, _, _, h => h
  | D :: Ds, V, S, R, h => gains_rel (Ds := Ds) (h.gain D)
/-- THE FACT: two rows of gains that do the same to the start do the same to all -/
theorem gains_indep {Ds Es : List (Int → Bool)} {f : Int → Int} {S : Int → Int → Int} (hD : ∀ D ∈ Ds, Apart D) (hE : ∀ D ∈ Es, Apart D) (h : IsS f S) (e : gDs (fun p => p) Ds = gDs (fun p => p) Es) : gDs f Ds = gDs f Es := by
  have a1 := gains_isS hD isS_id
  have a2 := gains_isS hE isS_id
  rw [← e] at a2
  have eV := a1.same a2
  have b1 := gains_rel (Ds := Ds) (rel_id h)
  have b2 := gains_rel (Ds := Es) (rel_id h)
  rw [eV] at b1
  have eR := b1.same b2
  have c1 := gains_isS hD h
  have c2 := gains_isS hE h
  rw [← eR] at c2
  exact c1.inj c2
end Sv

/-! Gains on orders are gains on a line of places: by the verifier. -/
namespace Sv
open PySem L2
/-- the place that stands at q: mirror orders have no place 0 -/
def pl (k : Nm) (q : Int) : Int := if k = .mi then (if 0 ≤ q then q + 1 else q) else q
def rng (k : Nm) (n : Nat) (q : Int) : Bool := decide (k = .mi → -(n : Int) ≤ q ∧ q < (n : Int))
def fn_ (k : Nm) (n : Nat) (w : List Int) (q : Int) : Int := if rng k n q = true then item k n w (pl k q) else pl k q
def sw (k : Nm) (n : Nat) (s q : Int) : Bool := if k = .mi then (if s = 0 then decide (q = -1) else decide (q = s - 1 ∨ q = -s - 1)) else decide ((q - s) % (n : Int) = 0)
theorem sw_apart {k : Nm} {n : Nat} {s : Int} (hK : okK k n = true) (hs : okS k n s) : Apart (sw k n s) := by
  intro a ha
  unfold sw at ha ⊢
  by_cases hk : k = .mi
  · rw [if_pos hk] at ha ⊢
    by_cases h0 : s = 0
    · rw [if_pos h0] at ha ⊢
      have := of_decide_eq_true ha
      exact decide_eq_false (by omega)
    · rw [if_neg h0] at ha ⊢
      have := of_decide_eq_true ha
      have := hs.1
      exact decide_eq_false (by omega)
  · rw [if_neg hk] at ha ⊢
    have h2 := okS_two hK hk hs
    have h := of_decide_eq_true ha
    refine decide_eq_false ?_
    rcases upto7 h2 with rfl | rfl | rfl | rfl | rfl | rfl <;> omega
theorem item_period {k : Nm} (hk : k ≠ .mi) {n : Nat} {w : List Int} {p q : Int} (h : p % (n : Int) = q % (n : Int)) : item k n w p = item k n w q + (p - q) := by
  rw [item_nm hk, item_nm hk, h]
  omega
theorem fn_nm {k : Nm} (hk : k ≠ .mi) (n : Nat) (w : List Int) (q : Int) : fn_ k n w q = item k n w q := by
  unfold fn_ rng pl
  rw [if_pos (decide_eq_true (fun e => absurd e hk)), if_neg hk]
theorem gD_at {D : Int → Bool} {f : Int → Int} {q : Int} (d : D q = true) : gD D f q = max (f q) (f (q + 1)) := if_pos d
theorem gD_next {D : Int → Bool} {f : Int → Int} {q : Int} (d : D q = false) (e : D (q - 1) = true) : gD D f q = min (f (q - 1)) (f q) := by
  unfold gD
  rw [d, e]
  rfl
theorem gD_none {D : Int → Bool} {f : Int → Int} {q : Int} (d : D q = false) (e : D (q - 1) = false) : gD D f q = f q := by
  unfold gD
  rw [d, e]
  rfl
theorem sw_mi0 (n : Nat) (q : Int) : sw .mi n 0 q = decide (q = -1) := by
  unfold sw
  rw [if_pos rfl, if_pos rfl]
theorem sw_mis {n : Nat} {s : Int} (h : s ≠ 0) (q : Int) : sw .mi n s q = decide (q = s - 1 ∨ q = -s - 1) := by
  unfold sw
  rw [if_pos rfl, if_neg h]
theorem sw_nm {k : Nm} (hk : k ≠ .mi) (n : Nat) (s q : Int) : sw k n s q = decide ((q - s) % (n : Int) = 0) := by
  unfold sw
  rw [if_neg hk]
theorem pl_pos {x : Int} (hx : 0 ≤ x) : pl .mi x = x + 1 := by unfold pl; rw [if_pos rfl, if_pos hx]
theorem pl_neg {x : Int} (hx : x < 0) : pl .mi x = x := by unfold pl; rw [if_pos rfl, if_neg (by omega)]
theorem fn_in {n : Nat} {w : List Int} {q : Int} (hq : -(n : Int) ≤ q ∧ q < n) : fn_ .mi n w q = item .mi n w (pl .mi q) := by
  unfold fn_ rng
  rw [if_pos (decide_eq_true (fun _ => hq))]
theorem fn_out {n : Nat} {w : List Int} {q : Int} (hq : ¬ (-(n : Int) ≤ q ∧ q < n)) : fn_ .mi n w q = pl .mi q := by
  unfold fn_ rng
  rw [if_neg (by simpa using hq)]
theorem pl_ok {n : Nat} {q : Int} (hq : -(n : Int) ≤ q ∧ q < n) : okP .mi n (pl .mi q) := fun _ => by
  by_cases h : 0 ≤ q
  · rw [pl_pos h]
    omega
  · rw [pl_neg (by omega)]
    omega
/-- what stands at a place behind a gain -/
theorem fn_after {n : Nat} {w : List Int} {s q : Int} (hK : okK .mi n = true) (hs : okS .mi n s) (hq : -(n : Int) ≤ q ∧ q < n) :
    fn_ .mi n (gained .mi n w s) q = if crossed .mi n w s = true then fn_ .mi n w q else item .mi n w (turned .mi n s (pl .mi q)) := by
  rw [fn_in hq, fn_in hq]
  unfold gained
  split
  · rfl
  · rw [item_step hK hs (pl_ok hq)]
theorem turned_far {n : Nat} {s q : Int} (hs : 0 ≤ s) (hq : -(n : Int) ≤ q ∧ q < n) (h1 : sw .mi n s q = false) (h2 : sw .mi n s (q - 1) = false) : turned .mi n s (pl .mi q) = pl .mi q := by
  have hp := (pl_ok hq rfl).1
  rw [turned_mi' n s _ hp hs]
  by_cases h0 : s = 0
  · subst h0
    rw [sw_mi0] at h1 h2
    have h1 := of_decide_eq_false h1
    have h2 := of_decide_eq_false h2
    rw [if_pos rfl]
    by_cases h : 0 ≤ q
    · rw [pl_pos h, if_neg (by omega)]
    · rw [pl_neg (by omega), if_neg (by omega)]
  · rw [sw_mis h0] at h1 h2
    have h1 := of_decide_eq_false h1
    have h2 := of_decide_eq_false h2
    rw [if_neg h0]
    by_cases h : 0 ≤ q
    · rw [pl_pos h, if_neg (by omega), if_neg (by omega), if_neg (by omega), if_neg (by omega)]
    · rw [pl_neg (by omega), if_neg (by omega), if_neg (by omega), if_neg (by omega), if_neg (by omega)]
theorem fn_gained_mi {n : Nat} {w : List Int} {s : Int} (hK : okK .mi n = true) (hs : okS .mi n s) : fn_ .mi n (gained .mi n w s) = gD (sw .mi n s) (fn_ .mi n w) := by
  funext q
  have h2 := okS_mi hs
  have hn := okK_le hK
  by_cases hq : -(n : Int) ≤ q ∧ q < n
  · rw [fn_after hK hs hq]
    cases d : sw .mi n s q with
    | true =>
      rw [gD_at d]
      by_cases h0 : s = 0
      · subst h0
        rw [sw_mi0] at d
        have d := of_decide_eq_true d
        subst d
        have e1 : item .mi n w (-1) = - item .mi n w 1 := item_neg n w 1 (by omega)
        have c : crossed .mi n w 0 = decide (item .mi n w 1 < item .mi n w (-1)) := by
          unfold crossed low
          rw [if_pos rfl, if_neg (by omega), turned_mi' n 0 _ (by omega) (by omega), if_pos rfl, if_pos (by omega)]
          rfl
        have f1 : fn_ .mi n w (-1) = item .mi n w (-1) := fn_in hq
        have f2 : fn_ .mi n w (-1 + 1) = item .mi n w 1 := fn_in (q := 0) (by omega)
        have t : turned .mi n 0 (pl .mi (-1)) = 1 := by
          rw [pl_neg (by omega), turned_mi' n 0 _ (by omega) (by omega), if_pos rfl, if_pos (by omega)]
          rfl
        rw [f1, f2, t]
        split
        · rename_i hc
          rw [c] at hc
          have := of_decide_eq_true hc
          omega
        · rename_i hc
          rw [c] at hc
          have : ¬ _ := fun z => hc (decide_eq_true z)
          omega
      · rw [sw_mis h0] at d
        have d := of_decide_eq_true d
        have e1 : item .mi n w (-s) = - item .mi n w s := item_neg n w s h0
        have e2 : item .mi n w (-(s + 1)) = - item .mi n w (s + 1) := item_neg n w (s + 1) (by omega)
        have c : crossed .mi n w s = decide (item .mi n w (s + 1) < item .mi n w s) := by
          unfold crossed low
          rw [if_pos rfl, if_pos (by omega), turned_mi' n s _ (by omega) (by omega), if_neg h0, if_pos rfl]
        rcases d with d | d
        · subst d
          have f1 : fn_ .mi n w (s - 1) = item .mi n w s := by rw [fn_in hq, pl_pos (by omega), Int.sub_add_cancel]
          have f2 : fn_ .mi n w (s - 1 + 1) = item .mi n w (s + 1) := by rw [Int.sub_add_cancel, fn_in (by omega), pl_pos (by omega)]
          have t : turned .mi n s (pl .mi (s - 1)) = s + 1 := by rw [pl_pos (by omega), Int.sub_add_cancel, turned_mi' n s _ (by omega) (by omega), if_neg h0, if_pos rfl]
          rw [f1, f2, t]
          split
          · rename_i hc
            rw [c] at hc
            have := of_decide_eq_true hc
            omega
          · rename_i hc
            rw [c] at hc
            have : ¬ _ := fun z => hc (decide_eq_true z)
            omega
        · subst d
          have f1 : fn_ .mi n w (-s - 1) = item .mi n w (-(s + 1)) := by rw [fn_in hq, pl_neg (by omega), show -s - 1 = -(s + 1) by omega]
          have f2 : fn_ .mi n w (-s - 1 + 1) = item .mi n w (-s) := by rw [Int.sub_add_cancel, fn_in (by omega), pl_neg (by omega)]
          have t : turned .mi n s (pl .mi (-s - 1)) = -s := by
            rw [pl_neg (by omega), turned_mi' n s _ (by omega) (by omega), if_neg h0, if_neg (by omega), if_neg (by omega), if_neg (by omega), if_pos (by omega)]
          rw [f1, f2, t]
          split
          · rename_i hc
            rw [c] at hc
            have := of_decide_eq_true hc
            omega
          · rename_i hc
            rw [c] at hc
            have : ¬ _ := fun z => hc (decide_eq_true z)
            omega
    | false =>
      cases d' : sw .mi n s (q - 1) with
      | true =>
        rw [gD_next d d']
        by_cases h0 : s = 0
        · subst h0
          rw [sw_mi0] at d'
          have d' := of_decide_eq_true d'
          have eq : q = 0 := by omega
          subst eq
          have e1 : item .mi n w (-1) = - item .mi n w 1 := item_neg n w 1 (by omega)
          have c : crossed .mi n w 0 = decide (item .mi n w 1 < item .mi n w (-1)) := by
            unfold crossed low
            rw [if_pos rfl, if_neg (by omega), turned_mi' n 0 _ (by omega) (by omega), if_pos rfl, if_pos (by omega)]
            rfl
          have f1 : fn_ .mi n w (0 - 1) = item .mi n w (-1) := fn_in (q := -1) (by omega)
          have f2 : fn_ .mi n w 0 = item .mi n w 1 := fn_in hq
          have t : turned .mi n 0 (pl .mi 0) = -1 := by
            rw [pl_pos (by omega), turned_mi' n 0 _ (by omega) (by omega), if_pos rfl, if_pos (by omega)]
            rfl
          rw [f1, f2, t]
          split
          · rename_i hc
            rw [c] at hc
            have := of_decide_eq_true hc
            omega
          · rename_i hc
            rw [c] at hc
            have : ¬ _ := fun z => hc (decide_eq_true z)
            omega
        · rw [sw_mis h0] at d'
          have d' := of_decide_eq_true d'
          have e1 : item .mi n w (-s) = - item .mi n w s := item_neg n w s h0
          have e2 : item .mi n w (-(s + 1)) = - item .mi n w (s + 1) := item_neg n w (s + 1) (by omega)
          have c : crossed .mi n w s = decide (item .mi n w (s + 1) < item .mi n w s) := by
            unfold crossed low
            rw [if_pos rfl, if_pos (by omega), turned_mi' n s _ (by omega) (by omega), if_neg h0, if_pos rfl]
          rcases d' with d' | d'
          · have eq : q = s := by omega
            subst eq
            have f1 : fn_ .mi n w (q - 1) = item .mi n w q := by rw [fn_in (by omega), pl_pos (by omega), Int.sub_add_cancel]
            have f2 : fn_ .mi n w q = item .mi n w (q + 1) := by rw [fn_in hq, pl_pos (by omega)]
            have t : turned .mi n q (pl .mi q) = q := by rw [pl_pos (by omega), turned_mi' n q _ (by omega) (by omega), if_neg h0, if_neg (by omega), if_pos rfl]
            rw [f1, f2, t]
            split
            · rename_i hc
              rw [c] at hc
              have := of_decide_eq_true hc
              omega
            · rename_i hc
              rw [c] at hc
              have : ¬ _ := fun z => hc (decide_eq_true z)
              omega
          · have eq : q = -s := by omega
            subst eq
            have f1 : fn_ .mi n w (-s - 1) = item .mi n w (-(s + 1)) := by rw [fn_in (by omega), pl_neg (by omega), show -s - 1 = -(s + 1) by omega]
            have f2 : fn_ .mi n w (-s) = item .mi n w (-s) := by rw [fn_in hq, pl_neg (by omega)]
            have t : turned .mi n s (pl .mi (-s)) = -(s + 1) := by
              rw [pl_neg (by omega), turned_mi' n s _ (by omega) (by omega), if_neg h0, if_neg (by omega), if_neg (by omega), if_pos rfl]
            rw [f1, f2, t]
            split
            · rename_i hc
              rw [c] at hc
              have := of_decide_eq_true hc
              omega
            · rename_i hc
              rw [c] at hc
              have : ¬ _ := fun z => hc (decide_eq_true z)
              omega
      | false =>
        rw [gD_none d d', turned_far h2.1 hq d d', fn_in hq]
        split <;> rfl
  · have d : sw .mi n s q = false := by
      by_cases h0 : s = 0
      · subst h0
        rw [sw_mi0]
        exact decide_eq_false (by omega)
      · rw [sw_mis h0]
        exact decide_eq_false (by omega)
    have d' : sw .mi n s (q - 1) = false := by
      by_cases h0 : s = 0
      · subst h0
        rw [sw_mi0]
        exact decide_eq_false (by omega)
      · rw [sw_mis h0]
        exact decide_eq_false (by omega)
    rw [gD_none d d', fn_out hq, fn_out hq]
theorem fn_gained_nm {k : Nm} (hk : k ≠ .mi) {n : Nat} {w : List Int} {s : Int} (hK : okK k n = true) (hs : okS k n s) : fn_ k n (gained k n w s) = gD (sw k n s) (fn_ k n w) := by
  funext q
  have h2 := okS_two hK hk hs
  have c : crossed k n w s = decide (item k n w (s + 1) < item k n w s) := by
    unfold crossed low
    rw [if_neg hk, turned_nm hk, if_pos (by rw [Int.sub_self]; rfl)]
  have G : fn_ k n (gained k n w s) q = if crossed k n w s = true then item k n w q else item k n w (turned k n s q) := by
    rw [fn_nm hk]
    unfold gained
    split
    · rfl
    · rw [item_step hK hs (fun e => absurd e hk)]
  rw [G, turned_nm hk]
  cases d : sw k n s q with
  | true =>
    rw [gD_at d, fn_nm hk, fn_nm hk]
    rw [sw_nm hk] at d
    have d := of_decide_eq_true d
    have m1 : q % (n : Int) = s % (n : Int) := by rcases upto7 h2 with rfl | rfl | rfl | rfl | rfl | rfl <;> omega
    have m2 : (q + 1) % (n : Int) = (s + 1) % (n : Int) := by rcases upto7 h2 with rfl | rfl | rfl | rfl | rfl | rfl <;> omega
    have p1 := item_period hk (w := w) m1
    have p2 := item_period hk (w := w) m2
    rw [if_pos d]
    split
    · rename_i hc
      rw [c] at hc
      have := of_decide_eq_true hc
      omega
    · rename_i hc
      rw [c] at hc
      have : ¬ _ := fun z => hc (decide_eq_true z)
      omega
  | false =>
    rw [sw_nm hk] at d
    have dn := of_decide_eq_false d
    rw [← sw_nm hk n s q] at d
    rw [if_neg dn]
    cases d' : sw k n s (q - 1) with
    | true =>
      rw [gD_next d d', fn_nm hk, fn_nm hk]
      rw [sw_nm hk] at d'
      have d' := of_decide_eq_true d'
      have hb : (q - s) % (n : Int) = 1 := by rcases upto7 h2 with rfl | rfl | rfl | rfl | rfl | rfl <;> omega
      have m1 : (q - 1) % (n : Int) = s % (n : Int) := by rcases upto7 h2 with rfl | rfl | rfl | rfl | rfl | rfl <;> omega
      have m2 : q % (n : Int) = (s + 1) % (n : Int) := by rcases upto7 h2 with rfl | rfl | rfl | rfl | rfl | rfl <;> omega
      have p1 := item_period hk (w := w) m1
      have p2 := item_period hk (w := w) m2
      rw [if_pos hb]
      split
      · rename_i hc
        rw [c] at hc
        have := of_decide_eq_true hc
        omega
      · rename_i hc
        rw [c] at hc
        have : ¬ _ := fun z => hc (decide_eq_true z)
        omega
    | false =>
      rw [gD_none d d', fn_nm hk]
      rw [sw_nm hk] at d'
      have d' := of_decide_eq_false d'
      have hb : ¬ (q - s) % (n : Int) = 1 := by rcases upto7 h2 with rfl | rfl | rfl | rfl | rfl | rfl <;> omega
      rw [if_neg hb]
      split <;> rfl
theorem fn_gained {k : Nm} {n : Nat} {w : List Int} {s : Int} (hK : okK k n = true) (hs : okS k n s) : fn_ k n (gained k n w s) = gD (sw k n s) (fn_ k n w) := by
  by_cases hk : k = .mi
  · subst hk
    exact fn_gained_mi hK hs
  · exact fn_gained_nm hk hK hs
end Sv

/-! What a row of gains does to an order depends only on the order that the row makes of the start; greedy products. By the verifier. -/
namespace Sv
open PySem L2
theorem pl_mono (k : Nm) {a b : Int} (h : a ≤ b) : pl k a ≤ pl k b := by
  unfold pl
  (repeat' split) <;> omega
theorem pl_inj (k : Nm) {a b : Int} (h : pl k a = pl k b) : a = b := by
  unfold pl at h
  (repeat' split at h) <;> omega
theorem pl_max (k : Nm) (a b : Int) : pl k (max a b) = max (pl k a) (pl k b) := by
  by_cases h : a ≤ b
  · have := pl_mono k h
    rw [show max a b = b by omega]
    omega
  · have := pl_mono k (show b ≤ a by omega)
    rw [show max a b = a by omega]
    omega
theorem pl_min (k : Nm) (a b : Int) : pl k (min a b) = min (pl k a) (pl k b) := by
  by_cases h : a ≤ b
  · have := pl_mono k h
    rw [show min a b = a by omega]
    omega
  · have := pl_mono k (show b ≤ a by omega)
    rw [show min a b = b by omega]
    omega
theorem gD_pl (k : Nm) (D : Int → Bool) (f : Int → Int) : gD D (fun p => pl k (f p)) = fun p => pl k (gD D f p) := by
  funext p
  unfold gD
  by_cases h1 : D p = true
  · rw [if_pos h1, if_pos h1, pl_max]
  · rw [if_neg h1, if_neg h1]
    by_cases h2 : D (p - 1) = true
    · rw [if_pos h2, if_pos h2, pl_min]
    · rw [if_neg h2, if_neg h2]
theorem gDs_pl (k : Nm) : ∀ (Ds : List (Int → Bool)) (f : Int → Int), gDs (fun p => pl k (f p)) Ds = fun p => pl k (gDs f Ds p)
  | [], _ => rfl
  | D :: Ds, f => by
    show gDs (gD D (fun p => pl k (f p))) Ds = _
    rw [gD_pl, gDs_pl k Ds]
    rfl
/-- the counts of the places themselves -/
def sPl (k : Nm) : Int → Int → Int := fun a b => sId a (if k = .mi then (if 0 < b then b - 1 else b) else b)
theorem isS_pl (k : Nm) : IsS (pl k) (sPl k) := by
  refine ⟨fun a b => ?_, 1, fun a b h => ?_⟩
  · unfold sPl sId pl
    by_cases hk : k = .mi
    · simp only [hk, if_true]
      (repeat' split) <;> omega
    · simp only [hk, if_false]
      (repeat' split) <;> omega
  · unfold sPl sId
    (repeat' split) <;> omega
theorem fn_start {k : Nm} {n : Nat} (hK : okK k n = true) : fn_ k n (startL k n) = pl k := by
  funext q
  have hn := okK_le hK
  unfold fn_
  by_cases h : rng k n q = true
  · rw [if_pos h]
    refine item_start hn.1 ?_
    intro hk
    subst hk
    have := of_decide_eq_true h rfl
    exact pl_ok this rfl
  · rw [if_neg h]
theorem fn_inj {k : Nm} {n : Nat} {w u : List Int} (hw : w.length = n) (hu : u.length = n) (h : fn_ k n w = fn_ k n u) : w = u := by
  refine ext_getD hw hu fun i hi => ?_
  have e := congrFun h (i : Int)
  by_cases hk : k = .mi
  · subst hk
    rw [fn_in (by omega), fn_in (by omega), pl_pos (by omega)] at e
    have a := item_off (k := .mi) (w := w) hi
    have b := item_off (k := .mi) (w := u) hi
    rw [show off .mi + (i : Int) = (i : Int) + 1 by show (1 : Int) + _ = _; omega] at a b
    rw [← a, ← b, e]
  · rw [fn_nm hk, fn_nm hk, item_in hk hi, item_in hk hi] at e
    exact e
def gains (k : Nm) (n : Nat) (w l : List Int) : List Int := l.foldl (gained k n) w
theorem gained_len {k : Nm} {n : Nat} {w : List Int} {s : Int} (h : w.length = n) : (gained k n w s).length = n := by
  unfold gained
  split
  · exact h
  · exact stepped_len _ _ _ _
theorem gains_len {k : Nm} {n : Nat} : ∀ {l w : List Int}, w.length = n → (gains k n w l).length = n
  | [], _, h => h
  | s :: l, w, h => gains_len (l := l) (w := gained k n w s) (gained_len h)
theorem gains_append (k : Nm) (n : Nat) (w l m : List Int) : gains k n w (l ++ m) = gains k n (gains k n w l) m := List.foldl_append
theorem fn_gains {k : Nm} {n : Nat} (hK : okK k n = true) : ∀ {l w : List Int}, (∀ s ∈ l, okS k n s) → fn_ k n (gains k n w l) = gDs (fn_ k n w) (l.map (sw k n))
  | [], _, _ => rfl
  | s :: l, w, hl => by
    show fn_ k n (gains k n (gained k n w s) l) = gDs (gD (sw k n s) (fn_ k n w)) (l.map (sw k n))
    rw [fn_gains hK (fun t ht => hl t (List.mem_cons_of_mem _ ht)), fn_gained hK (hl s List.mem_cons_self)]
theorem sw_all {k : Nm} {n : Nat} (hK : okK k n = true) {l : List Int} (hl : ∀ s ∈ l, okS k n s) : ∀ D ∈ l.map (sw k n), Apart D := fun D hD => by
  obtain ⟨s, hs, rfl⟩ := List.mem_map.mp hD
  exact sw_apart hK (hl s hs)
/-- rows of gains that do the same to the start do the same to each order that gains make -/
theorem gains_same {k : Nm} {n : Nat} {l m r : List Int} (hK : okK k n = true) (hl : ∀ s ∈ l, okS k n s) (hm : ∀ s ∈ m, okS k n s) (hr : ∀ s ∈ r, okS k n s) (e : gains k n (startL k n) l = gains k n (startL k n) m) :
    gains k n (gains k n (startL k n) r) l = gains k n (gains k n (startL k n) r) m := by
  have ls := startL_len k n
  refine fn_inj (k := k) (gains_len (gains_len ls)) (gains_len (gains_len ls)) ?_
  rw [fn_gains hK hl, fn_gains hK hm]
  have h1 := congrArg (fn_ k n) e
  rw [fn_gains hK hl, fn_gains hK hm, fn_start hK] at h1
  have h2 : gDs (fun p => p) (l.map (sw k n)) = gDs (fun p => p) (m.map (sw k n)) := by
    funext p
    have a := congrFun (gDs_pl k (l.map (sw k n)) (fun p => p)) p
    have b := congrFun (gDs_pl k (m.map (sw k n)) (fun p => p)) p
    have c := congrFun h1 p
    refine pl_inj k ?_
    rw [← a, ← b]
    exact c
  have hS := gains_isS (sw_all hK hr) (isS_pl k)
  rw [← fn_start hK, ← fn_gains hK hr] at hS
  exact gains_indep (sw_all hK hl) (sw_all hK hm) hS h2
/-- a row whose steps cross all new is a row of gains -/
theorem run_gains {k : Nm} {n : Nat} (hK : okK k n = true) : ∀ {l w : List Int}, (∀ s ∈ l, okS k n s) → Form k n w → crP k n (run k n w l) = crP k n w + (l.length : Int) → gains k n w l = run k n w l
  | [], _, _, _, _ => rfl
  | s :: l, w, hl, hF, hc => by
    have hl' : ∀ t ∈ l, okS k n t := fun t ht => hl t (List.mem_cons_of_mem _ ht)
    have h1 := cr_stepI hK (hl s List.mem_cons_self) hF
    have h2 := (run_form hK hl' h1.2).2
    have hc' : crP k n (run k n (stepped k n w s) l) = crP k n w + ((s :: l).length : Int) := hc
    rw [List.length_cons] at hc'
    have hn : ¬ crossed k n w s = true := fun z => by
      have := h1.1
      rw [if_pos z] at this
      omega
    have h3 := h1.1
    rw [if_neg hn] at h3
    show gains k n (gained k n w s) l = run k n (stepped k n w s) l
    have : gained k n w s = stepped k n w s := if_neg hn
    rw [this]
    exact run_gains hK hl' h1.2 (by omega)
/-- l is a least row of w -/
def Least (k : Nm) (n : Nat) (w l : List Int) : Prop := (∀ s ∈ l, okS k n s) ∧ run k n (startL k n) l = w ∧ (l.length : Int) = crP k n w
theorem Least.gains {k : Nm} {n : Nat} {w l : List Int} (hK : okK k n = true) (h : Least k n w l) : gains k n (startL k n) l = w := by
  obtain ⟨hl, e, c⟩ := h
  rw [← e]
  refine run_gains hK hl (form_start hK) ?_
  rw [e, cr_start hK, ← c]
  omega
theorem least_of {k : Nm} {n : Nat} {w : List Int} (hK : okK k n = true) (hF : Form k n w) : ∃ l, Least k n w l := by
  obtain ⟨l, hl, e, c⟩ := least_ex hK (crP k n w).toNat w hF (by omega)
  exact ⟨l, hl, e.symm, c⟩
/-- THE GREEDY PRODUCT: whichever least row of the second order is gained, the same comes out -/
theorem greedy_one {k : Nm} {n : Nat} {u v l m : List Int} (hK : okK k n = true) (hu : Form k n u) (hl : Least k n v l) (hm : Least k n v m) : gains k n u l = gains k n u m := by
  obtain ⟨r, hr⟩ := least_of hK hu
  have := gains_same hK hl.1 hm.1 hr.1 (by rw [hl.gains hK, hm.gains hK])
  rw [hr.gains hK] at this
  exact this
/-- .. and each row whose gains make the second order does too -/
theorem greedy_row {k : Nm} {n : Nat} {u v l m : List Int} (hK : okK k n = true) (hu : Form k n u) (hl : Least k n v l) (hm : ∀ s ∈ m, okS k n s) (e : gains k n (startL k n) m = v) : gains k n u m = gains k n u l := by
  obtain ⟨r, hr⟩ := least_of hK hu
  have := gains_same hK hm hl.1 hr.1 (by rw [hl.gains hK, e])
  rw [hr.gains hK] at this
  exact this
/-- associative: a row of gains of a product -/
theorem greedy_assoc {k : Nm} {n : Nat} {u v x lv lx lz : List Int} (hK : okK k n = true) (hu : Form k n u) (hv : Least k n v lv) (hx : Least k n x lx) (hz : Least k n (gains k n v lx) lz) :
    gains k n (gains k n u lv) lx = gains k n u lz := by
  rw [← gains_append]
  refine greedy_row hK hu hz (fun s hs => ?_) ?_
  · rcases List.mem_append.mp hs with h | h
    · exact hv.1 s h
    · exact hx.1 s h
  · rw [gains_append, hv.gains hK]
theorem gains_form {k : Nm} {n : Nat} (hK : okK k n = true) : ∀ {l w : List Int}, (∀ s ∈ l, okS k n s) → Form k n w → Form k n (gains k n w l)
  | [], _, _, h => h
  | s :: l, w, hl, h => by
    refine gains_form hK (l := l) (w := gained k n w s) (fun t ht => hl t (List.mem_cons_of_mem _ ht)) ?_
    unfold gained
    split
    · exact h
    · exact (cr_stepI hK (hl s List.mem_cons_self) h).2
end Sv

/-! The two items of a step differ; falls below a step that is done, by the verifier. -/
namespace Sv
open PySem L2
theorem after_eqv {k : Nm} {n : Nat} {w : List Int} {s : Nat} (hl : w.length = n) (hK : okK k n = true) (hs : okS k n (s : Int)) (e : (exch k n w s).1 = (exch k n w s).2) : after k n w s = w := by
  have hn := okK_le hK
  obtain ⟨_, h2⟩ := hs
  have hsn : s < n := by unfold many at h2; split at h2 <;> omega
  refine ext_getDS (after_lenS k n w s) fun j hj => ?_
  unfold after
  unfold exch at *
  cases k
  · have h1 : s + 1 < n := by unfold many at h2; rw [if_pos rfl] at h2; omega
    simp only [if_true] at *
    rw [getD_setS _ _ _ _ (by rw [List.length_set]; omega), getD_setS _ _ _ _ (by omega)]
    by_cases ja : j = s + 1
    · rw [if_pos ja, ja]; exact e
    · rw [if_neg ja]
      by_cases jb : j = s
      · rw [if_pos jb, jb]; exact e.symm
      · rw [if_neg jb]
  · by_cases e0 : s = 0
    · subst e0
      simp only [reduceCtorEq, if_false, false_and, if_true] at *
      rw [getD_setS _ _ _ _ (by omega)]
      by_cases j0 : j = 0
      · rw [if_pos j0, j0]; exact e
      · rw [if_neg j0]
    · simp only [reduceCtorEq, if_false, false_and, if_neg e0] at *
      rw [getD_setS _ _ _ _ (by rw [List.length_set]; omega), getD_setS _ _ _ _ (by omega)]
      by_cases ja : j = s
      · rw [if_pos ja, ja]; exact e
      · rw [if_neg ja]
        by_cases jb : j = s - 1
        · rw [if_pos jb, jb]; exact e.symm
        · rw [if_neg jb]
  · by_cases e0 : s + 1 = n
    · simp only [reduceCtorEq, if_false, if_pos e0, if_true, true_and] at *
      rw [getD_setS _ _ _ _ (by rw [List.length_set]; omega), getD_setS _ _ _ _ (by omega)]
      by_cases ja : j = 0
      · rw [if_pos ja, ja]; omega
      · rw [if_neg ja]
        by_cases jb : j = s
        · rw [if_pos jb, jb]; exact e.symm
        · rw [if_neg jb]
    · simp only [reduceCtorEq, if_false, true_and, if_neg e0, if_true] at *
      rw [getD_setS _ _ _ _ (by rw [List.length_set]; omega), getD_setS _ _ _ _ (by omega)]
      by_cases ja : j = s + 1
      · rw [if_pos ja, ja]; exact e
      · rw [if_neg ja]
        by_cases jb : j = s
        · rw [if_pos jb, jb]; exact e.symm
        · rw [if_neg jb]
theorem form_apart {k : Nm} {n : Nat} {w : List Int} {s : Nat} (hK : okK k n = true) (hF : Form k n w) (hs : okS k n (s : Int)) : (exch k n w s).1 ≠ (exch k n w s).2 := fun e => by
  have h := (cr_stepI hK hs hF).1
  rw [← after_eq hK hs hF.1, after_eqv hF.1 hK hs e] at h
  split at h <;> omega
/-- an order gains a step exactly where the spread rises -/
theorem rises {k : Nm} {n : Nat} {w : List Int} {s : Nat} (hK : okK k n = true) (hF : Form k n w) (hs : okS k n (s : Int)) :
    ((sprd k n w).getD s 0 < (sprd k n w).getD (s + 1) 0) ↔ crossed k n w (s : Int) = false := by
  have h1 := form_apart hK hF hs
  rw [sprd_at hF.1 hK hs] at h1
  have h2 := crossP_sprd hF.1 hK hs
  rw [cross_eq hK hs hF.1] at h2
  rw [h2]
  constructor
  · intro h
    exact decide_eq_false (by omega)
  · intro h
    have := of_decide_eq_false h
    dsimp only at h1
    omega
/-- the least step at which there may be a fall behind a step -/
def lch (k : Nm) (s m : Int) : Int := if s = 0 ∨ (k = .ri ∧ s = m - 1) then 0 else s - 1
theorem below {k : Nm} {n : Nat} {w : List Int} {s t : Nat} (hK : okK k n = true) (hl : w.length = n) (hs : okS k n (s : Int)) (h : ∀ t : Nat, (t : Int) < (s : Int) → crossP k n w t = false) (ht : (t : Int) < lch k s (many k n)) : crossP k n (after k n w s) t = false := by
  unfold lch at ht
  have hn := okK_le hK
  split at ht
  · omega
  · rename_i hc
    have hc1 : s ≠ 0 := fun z => hc (.inl (by omega))
    have hst : t + 1 < s := by omega
    have htS : okS k n (t : Int) := ⟨by omega, by have := hs.2; omega⟩
    have hw := h t (by omega)
    have hlen := sprd_len (k := k) hl hn.1
    have hsb : s + 1 < (sprd k n w).length := by have := hs.2; omega
    rw [crossP_sprd ((after_lenS k n w s).trans hl) hK htS, ← exIn_sprd hl hK hs]
    rw [crossP_sprd hl hK htS] at hw
    have sw : ∀ j, j < s → (swpS (sprd k n w) s).getD j 0 = (sprd k n w).getD j 0 := fun j hj => by
      rw [swpS_getD hsb, if_neg (by omega), if_neg (by omega)]
    have e : ∀ j, j < s → (exIn k (sprd k n w) s).getD j 0 = (sprd k n w).getD j 0 := fun j hj => by
      unfold exIn
      cases k
      · exact sw j hj
      · dsimp only
        rw [if_neg (by omega)]
        exact sw j hj
      · dsimp only
        have e2 : (many .ri n) = (n : Int) := by unfold many; rw [if_neg (by decide)]; omega
        rw [if_neg hc1, if_neg (fun z => hc (.inr ⟨rfl, by rw [hlen] at z; omega⟩))]
        exact sw j hj
    rw [e t (by omega), e (t + 1) hst]
    exact hw
theorem lch_le {k : Nm} {s : Nat} {m : Int} : 0 ≤ lch k s m ∧ lch k s m ≤ s := by
  unfold lch
  split <;> omega
theorem falls_none {k : Nm} {n : Nat} {w : List Int} (h : ∀ t : Nat, (t : Int) < many k n → crossP k n w t = false) : fallsP k n w = [] := by
  unfold fallsP
  rw [List.filter_eq_nil_iff.mpr (fun t ht => by
    have := List.mem_range.mp ht
    rw [h t (by omega)]
    exact Bool.false_ne_true)]
  rfl
end Sv

namespace Sv
open PySem L2
/-- the greedy product, by some least row of the second order -/
noncomputable def dem (k : Nm) (n : Nat) (w v : List Int) : List Int := by
  classical
  exact if h : ∃ l, Least k n v l then gains k n w h.choose else []
theorem dem_eq {k : Nm} {n : Nat} {w v l : List Int} (hK : okK k n = true) (hw : Form k n w) (hl : Least k n v l) : gains k n w l = dem k n w v := by
  unfold dem
  have h : ∃ l, Least k n v l := ⟨l, hl⟩
  rw [dif_pos h]
  exact greedy_one hK hw hl h.choose_spec
theorem dem_form {k : Nm} {n : Nat} {w v : List Int} (hK : okK k n = true) (hw : Form k n w) (hv : Form k n v) : Form k n (dem k n w v) := by
  obtain ⟨l, hl⟩ := least_of hK hv
  rw [← dem_eq hK hw hl]
  exact gains_form hK hl.1 hw
/-- a row that takes the opposite down to the start is a least row -/
theorem down_least {k : Nm} {n : Nat} {w l : List Int} (hK : okK k n = true) (hO : Ord k n w) (hl : ∀ s ∈ l, okS k n s) (e : run k n (invP k n w) l = startL k n) (c : (l.length : Int) = crP k n (invP k n w)) : Least k n w l := by
  refine ⟨hl, ?_, by rw [c, cr_inv hK hO]⟩
  have hi := hO.inv hK
  have hlen := (hi.1.form hK).1
  have h1 : invP k n w = run k n (startL k n) l.reverse := by
    have := run_rev hK hl hlen
    rw [e] at this
    exact this.symm
  have h2 := inv_run hK (rev_ok hl)
  rw [← h1, List.reverse_reverse, hi.2] at h2
  exact h2.symm
theorem gains_take {k : Nm} {n : Nat} {w l : List Int} {i : Nat} (h : i < l.length) : gains k n w (l.take (i + 1)) = gained k n (gains k n w (l.take i)) (l.getD i 0) := by
  have e : l[i]? = some (l.getD i 0) := by rw [List.getD_eq_getElem?_getD, List.getElem?_eq_getElem h]; rfl
  rw [List.take_add_one, e]
  show gains k n w (l.take i ++ [l.getD i 0]) = _
  rw [gains_append]
  rfl
end Sv

namespace Sv
open PySem PySem.Spec PyProof.Rows L2
def OrdsAt (K : PySem.W.Frag) (H : Hp) : List Addr → List (List Int) → Prop
  | [], [] => True
  | o :: os, ws :: wss => SqL K H o (ws.map V.int) ∧ OrdsAt K H os wss
  | _, _ => False
theorem OrdsAt.keep {K : PySem.W.Frag} {H H' : Hp} (e : Same H H') : ∀ {os : List Addr} {wss : List (List Int)}, OrdsAt K H os wss → OrdsAt K H' os wss
  | [], [], _ => trivial
  | o :: os, ws :: wss, h => ⟨e.seq h.1, OrdsAt.keep e h.2⟩
theorem OrdsAt.len {K : PySem.W.Frag} {H : Hp} : ∀ {os : List Addr} {wss : List (List Int)}, OrdsAt K H os wss → os.length = wss.length
  | [], [], _ => rfl
  | o :: os, ws :: wss, h => congrArg (· + 1) h.2.len
theorem OrdsAt.get {K : PySem.W.Frag} {H : Hp} : ∀ {os : List Addr} {wss : List (List Int)} {i : Nat} {x : V}, OrdsAt K H os wss → (os.map V.ref)[i]? = some x → ∃ o ws, x = .ref o ∧ wss[i]? = some ws ∧ SqL K H o (ws.map V.int)
  | [], [], i, x, _, e => by simp at e
  | o :: os, ws :: wss, 0, x, h, e => ⟨o, ws, (Option.some.inj e).symm, rfl, h.1⟩
  | o :: os, ws :: wss, i + 1, x, h, e => OrdsAt.get (os := os) (wss := wss) (i := i) h.2 e
theorem OrdsAt.snoc {K : PySem.W.Frag} {H : Hp} {o : Addr} {ws : List Int} (ho : SqL K H o (ws.map V.int)) : ∀ {os : List Addr} {wss : List (List Int)}, OrdsAt K H os wss → OrdsAt K H (os ++ [o]) (wss ++ [ws])
  | [], [], _ => ⟨ho, trivial⟩
  | u :: os, us :: wss, h => ⟨h.1, OrdsAt.snoc ho h.2⟩
section
variable {P : Program} {w : World} {K : PySem.W.Frag} {mg : Str → Option Value} {base : Heap} {f C D : Addr} {fd : FuncData}
def spFirstDown (K : PySem.W.Frag) (C : Addr) : Sp := fun vs H Q _ => ∃ (p o : Addr) (k : Nm) (n : Nat) (ws : List Int), vs = [.ref p, .ref o] ∧ KO K C H p o k n ws ∧ H o = some (.lst (ws.map V.int)) ∧ Form k n ws ∧ crP k n ws ≤ 500 ∧
  ∀ (q : Addr) (l : List Int) (H' : Hp), (∀ s ∈ l, okS k n s) → run k n ws l = startL k n → (l.length : Int) = crP k n ws → Same H H' → H q = none → H' q = some (.lst (l.map V.int)) → Q (.ref q) H'
theorem first_get {xs : List Int} (h : 0 < xs.length) : atI (xs.map V.int) 0 = some (.int (xs.getD 0 0)) := at_of (j := 0) rfl (map_getD h)
def spLeastCh : Sp := fun vs H Q _ => ∃ (k : Nm) (s m : Int), vs = [.str k.s, .int s, .int m] ∧ Q (.int (lch k s m)) H
theorem ok_least_changed (T : Tk K w mg C D) (F : FnP K "least_changed" "least_changed" s_least_changed f fd) : FnOk P w K mg base CX0 1 f fd ["name", "step", "steps"] spLeastCh := by
  refine okN F sc_least_changed (fun vs H Q E h => ?_) (fun cdv A outer s H vs Q E hr h => ?_)
  · obtain ⟨k, z, m, rfl, _⟩ := h
    rfl
  · obtain ⟨k, z, m, rfl, q⟩ := h
    refine ⟨_, (pss_cons (ps_if (PW.pt (pw_or (pt_cmpR op_eq (pv 1) pe_int (nomark _)) (pw_or1 (PW.pt (pw_and (pt_cmpR op_eq (pv 0) pe_str (nomark _)) (pw_and1 (pt_cmpR op_eq (pv 1) (pe_op op_sub (pv 2) pe_int) (nomark _)))))))) (pss_one (ps_ret pe_int)) pss_nil)
      (pss_one (ps_ret (pe_op op_sub (pv 1) pe_int)))), ?_⟩
    unfold lch at q
    refine ⟨_, rfl, rfl, _, rfl, ite2 (fun h0 => ?_) (fun h0 => ?_)⟩
    · have h0 : z = 0 := V.int.inj (of_decide_eq_true h0)
      rw [if_pos (.inl h0)] at q
      exact iteP rfl q
    · have h0 : ¬ z = 0 := fun e => h0 (decide_eq_true (congrArg V.int e))
      refine ⟨_, rfl, rfl, _, rfl, ite2 (fun h1 => ?_) (fun h1 => ?_)⟩
      · rw [s_ri] at h1
        have e1 := of_decide_eq_true h1
        refine ⟨_, rfl, _, rfl, _, _, rfl, rfl, rfl, _, rfl, ite2 (fun h2 => ?_) (fun h2 => ?_)⟩
        · have h2 : z = m - 1 := V.int.inj (of_decide_eq_true h2)
          rw [if_pos (.inr ⟨e1, h2⟩)] at q
          exact q
        · have h2 : ¬ z = m - 1 := fun e => h2 (decide_eq_true (congrArg V.int e))
          rw [if_neg (fun e => e.elim h0 (fun e => h2 e.2))] at q
          exact ⟨_, rfl, _, _, rfl, rfl, q⟩
      · rw [s_ri] at h1
        have e1 : k ≠ .ri := fun e => h1 (decide_eq_true e)
        rw [if_neg (fun e => e.elim h0 (fun e => e1 e.1))] at q
        exact iteN (by decide) ⟨_, rfl, _, _, rfl, rfl, q⟩
theorem ok_first_down (T : Tk K w mg C D) (F : FnP K "first_down" "first_down" s_first_down f fd) (c_m_name : Md P w K mg base C "name" ["self"] 1 (spName C)) (c_spread_of : Gd P w K mg base "spread_of" ["kind", "order"] 2 (spSpread K C)) (c_exchange_in : Gd P w K mg base "exchange_in" ["name", "spread", "step"] 1 (spExIn K)) (c_least_changed : Gd P w K mg base "least_changed" ["name", "step", "steps"] 1 spLeastCh) : FnOk P w K mg base CX0 5 f fd ["kind", "flipped"] (spFirstDown K C) := by
  refine okN F sc_first_down (fun vs H Q E h => ?_) (fun cdv A outer s H vs Q E hr h => ?_)
  · obtain ⟨p, o, k, n, ws, rfl, _⟩ := h
    rfl
  · obtain ⟨p, o, k, n, ws, rfl, hh, hoe, hF, h5, q⟩ := h
    obtain ⟨dx, hp⟩ := id hh.kat
    have hn := okK_le hh.ok
    have hm := many_nn hh.ok
    refine ⟨_, (pss_cons (ps_par (i := 2) (j := 3) (by rfl) sc_first_down.nd rfl rfl (by decide) rfl rfl (pa_cons (pe_methG0 T.cl c_m_name (hr.mono (by decide)) (pv 0)) (pa_cons (pe_callG c_spread_of (hr.mono (by decide)) (by rfl) (pa_cons (pv 0) (pa_cons (pv 1) pa_nil))) pa_nil)) (by rfl))
      (pss_cons (ps_set (i := 4) sc_first_down.nd rfl (by first | exact Or.inl rfl | exact Or.inr rfl) (pe_lst pa_nil))
      (pss_cons (ps_par (i := 5) (j := 6) (by rfl) sc_first_down.nd rfl rfl (by decide) rfl rfl (pa_cons pe_int (pa_cons (pe_op op_sub (pe_callB call_len_seq (by rfl) T.m_len (by decide +kernel) (pa_cons (pv 3) pa_nil)) pe_int) pa_nil)) (by rfl))
      (pss_cons (ps_while PassesOwn.never (pt_cmpR op_lt (pv 5) (pv 6) (nomark _)) (pss_one (ps_if (pt_cmpR op_gt (pe_ix ix_list (pv 3) (pv 5) (fun _ _ => rfl)) (pe_ix ix_list (pv 3) (pe_op op_add (pv 5) pe_int) (fun _ _ => rfl)) (nomark _)) (pss_cons (ps_expr (pe_bm PySem.F.plainAttrs_list PySem.F.slot_list_append PySem.F.type_list_append mt_append (pv 4) (pa_cons (pv 5) pa_nil)))
      (pss_cons (ps_expr (pe_callG c_exchange_in (hr.mono (by decide)) (by rfl) (pa_cons (pv 2) (pa_cons (pv 3) (pa_cons (pv 5) pa_nil)))))
      (pss_one (ps_set (i := 5) sc_first_down.nd rfl (by first | exact Or.inl rfl | exact Or.inr rfl) (pe_callG c_least_changed (hr.mono (by decide)) (by rfl) (pa_cons (pv 2) (pa_cons (pv 5) (pa_cons (pv 6) pa_nil)))))))) (pss_one (ps_aug (i := 5) sc_first_down.nd rfl (.inl rfl) pe_int ip_add)))))
      (pss_one (ps_ret (pv 4))))))), ?_⟩
    refine ⟨_, rfl, p, dx, _, rfl, hp, noM, p, k, n, rfl, hh.kat, ?_⟩
    refine ⟨_, rfl, _, rfl, p, o, k, n, ws, rfl, hh, fun l H1 s1 nl hL => ⟨_, _, rfl, ?_⟩⟩
    refine ⟨Nat.zero_le _, fun lf nf => ?_⟩
    have u1 := Same.upd (o := .lst []) nf
    have ell : l ≠ lf := ne_of_none hL nf
    have nlf : H lf = none := s1.free nf
    have hlen : ∀ u : List Int, u.length = n → (sprd k n u).length = (many k n).toNat + 1 := fun u hu => sprd_len hu hn.1
    have hLl : (((sprd k n ws).map V.int).length : Int) - 1 = many k n := by
      rw [List.length_map, hlen ws hF.1]
      omega
    refine ⟨_, rfl, l, _, rfl, .inl (.inl (.inl (u1 _ _ hL))), _, _, rfl, rfl, ⟨.int 0, .int (many k n), congrArg (fun z => [V.int 0, V.int z]) hLl, ?_⟩⟩
    refine ⟨fun m σ H4 => ∃ (fs u : List Int) (z : Nat), σ = [some (.ref p), some (.ref o), some (.str k.s), some (.ref l), some (.ref lf), some (.int (z : Int)), some (.int (many k n))] ∧ m = (crP k n u).toNat * 8 + (8 - z) ∧ (z : Int) ≤ many k n ∧ Same H H4 ∧ H4 lf = some (.lst (fs.map V.int)) ∧ H4 l = some (.lst ((sprd k n u).map V.int)) ∧
        (∀ s ∈ fs, okS k n s) ∧ run k n ws fs = u ∧ Form k n u ∧ crP k n u + (fs.length : Int) = crP k n ws ∧ ∀ t : Nat, (t : Int) < (z : Int) → crossP k n u t = false,
      ⟨_, [], ws, 0, rfl, rfl, by omega, s1.trans u1, upd_same, u1 _ _ hL, (fun s h => by cases h), rfl, hF, by show crP k n ws + 0 = _; omega, fun t ht => by omega⟩, ?_⟩
    rintro m σ H4 ⟨fs, u, z, rfl, rfl, hz, s4, hlf4, hl4, hfs, hrun, hFu, hcr, hb⟩
    have cu := cr_nn k n u
    refine ⟨_, rfl, _, rfl, _, _, rfl, rfl, _, rfl, ?_⟩
    by_cases hlt : (z : Int) < many k n
    · refine iteP (decide_eq_true hlt) ?_
      have hs : okS k n (z : Int) := ⟨by omega, hlt⟩
      have hul := hlen u hFu.1
      have hcP := crossP_sprd hFu.1 hh.ok hs
      refine ⟨fun σ' H' => ∃ m', m' < (crP k n u).toNat * 8 + (8 - z) ∧ _, fun σ' H' h => h, ?_⟩
      refine ⟨_, rfl, _, rfl, l, _, _, _, rfl, rfl, .inl (.inl hl4), atI_nat (map_getD (by omega)), _, rfl, _, rfl, _, _, rfl, rfl, l, _, _, _, rfl, rfl, .inl (.inl hl4), at_of (j := z + 1) (by omega) (map_getD (by omega)), _, _, rfl, rfl, _, rfl, ?_⟩
      rw [← hcP]
      by_cases hc : crossP k n u z = true
      · refine iteP hc ?_
        have hst := cr_stepI hh.ok hs hFu
        rw [← cross_eq hh.ok hs hFu.1, if_pos hc] at hst
        have cs := cr_nn k n (stepped k n u (z : Int))
        refine ⟨_, rfl, .inl ⟨rfl, _, SqL.of hlf4⟩, _, rfl, lf, _, _, rfl, rfl, hlf4, ?_, ?_⟩
        · rw [List.length_map]
          exact small1000 (by omega)
        have s5 : Same H (L2.upd H4 lf (.lst (fs.map V.int ++ [.int (z : Int)]))) := Same_updD s4 nlf
        have hl5 : (L2.upd H4 lf (.lst (fs.map V.int ++ [.int (z : Int)]))) l = some (.lst ((sprd k n u).map V.int)) := (upd_ne ell).trans hl4
        have hlf5 : (L2.upd H4 lf (.lst (fs.map V.int ++ [.int (z : Int)]))) lf = some (.lst ((fs ++ [(z : Int)]).map V.int)) := push_int _ _ _ _
        refine ⟨_, rfl, _, rfl, _, rfl, l, k, n, u, z, rfl, hl5, hFu.1, hh.ok, hs, fun H6 x6 hl6 => ?_⟩
        refine ⟨_, rfl, _, rfl, _, rfl, k, _, _, rfl, ?_⟩
        obtain ⟨l0, l1⟩ := lch_le (k := k) (s := z) (m := many k n)
        have el : lch k z (many k n) = (((lch k z (many k n)).toNat : Nat) : Int) := by omega
        refine ⟨_, ?_, fs ++ [(z : Int)], stepped k n u z, (lch k z (many k n)).toNat, by rw [← el]; rfl, rfl, by omega, SameX.to s5 nl x6, x6 _ _ hlf5 (Ne.symm ell), by rw [hl6, after_eq hh.ok hs hFu.1], ?_, ?_, hst.2, ?_, fun t ht => ?_⟩
        · omega
        · intro s hs2
          rcases List.mem_append.mp hs2 with h | h
          · exact hfs s h
          · rw [List.mem_singleton.mp h]
            exact hs
        · rw [run_snoc, hrun]
        · rw [List.length_append, List.length_singleton]
          omega
        · rw [← after_eq hh.ok hs hFu.1]
          exact below hh.ok hFu.1 hs hb (by omega)
      · refine iteN hc ?_
        refine ⟨_, rfl, _, _, rfl, rfl, ?_⟩
        refine ⟨_, ?_, fs, u, z + 1, rfl, rfl, by omega, s4, hlf4, hl4, hfs, hrun, hFu, hcr, fun t ht => ?_⟩
        · omega
        · by_cases e : t = z
          · subst e
            exact Bool.eq_false_iff.mpr hc
          · exact hb t (by omega)
    · refine iteN (fun h => hlt (of_decide_eq_true h)) ?_
      have hu := falls_nil hh.ok hFu (falls_none (fun t ht => hb t (by omega)))
      refine ⟨_, rfl, q lf fs H4 hfs (by rw [hrun, hu]) ?_ s4 nlf hlf4⟩
      rw [hu, cr_start hh.ok] at hcr
      omega
def spFirstLeast (K : PySem.W.Frag) (C : Addr) : Sp := fun vs H Q _ => ∃ (p o : Addr) (k : Nm) (n : Nat) (ws : List Int), vs = [.ref p, .ref o] ∧ KO K C H p o k n ws ∧ Form k n ws ∧ crP k n ws ≤ 500 ∧
  ∀ (q : Addr) (l : List Int) (H' : Hp), Least k n ws l → Same H H' → H q = none → H' q = some (.lst (l.map V.int)) → Q (.ref q) H'
theorem ok_first_least (T : Tk K w mg C D) (F : FnP K "first_least" "first_least" s_first_least f fd) (c_first_down : Gd P w K mg base "first_down" ["kind", "flipped"] 5 (spFirstDown K C)) (c_opposite_of : Gd P w K mg base "opposite_of" ["kind", "order"] 2 (spOpp K C)) : FnOk P w K mg base CX0 6 f fd ["kind", "order"] (spFirstLeast K C) := by
  refine okN F sc_first_least (fun vs H Q E h => ?_) (fun cdv A outer s H vs Q E hr h => ?_)
  · obtain ⟨p, o, k, n, ws, rfl, _⟩ := h
    rfl
  · obtain ⟨p, o, k, n, ws, rfl, hh, hF, h5, q⟩ := h
    have hO := form_ord hh.ok hF
    have hi := hO.inv hh.ok
    refine ⟨_, (pss_one (ps_ret (pe_callG c_first_down (hr.mono (by decide)) (by rfl) (pa_cons (pv 0) (pa_cons (pe_callG c_opposite_of (hr.mono (by decide)) (by rfl) (pa_cons (pv 0) (pa_cons (pv 1) pa_nil))) pa_nil))))), ?_⟩
    refine ⟨_, rfl, _, rfl, _, rfl, p, o, k, n, ws, rfl, hh, hF, fun a H2 s2 na ha => ?_⟩
    refine ⟨p, a, k, n, invP k n ws, rfl, ⟨hh.kat.keep s2, SqL.of ha, invUpTo_len _ _ _ _, hh.ok⟩, ha, hi.1.form hh.ok, by rw [cr_inv hh.ok hO]; exact h5, fun r l H3 hl e c s3 nr hr3 => ?_⟩
    exact q r l H3 (down_least hh.ok hO hl e c) (s2.trans s3) (s2.free nr) hr3
def spAfterGain (K : PySem.W.Frag) (C : Addr) : Sp := fun vs H Q _ => ∃ (p o : Addr) (k : Nm) (n : Nat) (ws : List Int) (z : Int), vs = [.ref p, .ref o, .int z] ∧ KO K C H p o k n ws ∧ okS k n z ∧
  ∀ q H', Same H H' → H q = none → H' q = some (.lst ((gained k n ws z).map V.int)) → Q (.ref q) H'
theorem gained_form {k : Nm} {n : Nat} {w : List Int} {s : Int} (hK : okK k n = true) (hs : okS k n s) (hF : Form k n w) : Form k n (gained k n w s) := gains_form hK (l := [s]) (fun t ht => by rw [List.mem_singleton.mp ht]; exact hs) hF
def spAfterGainA (K : PySem.W.Frag) (C : Addr) : Sp := fun vs H Q _ => ∃ (p o : Addr) (k : Nm) (n : Nat) (ws : List Int) (z : Int), vs = [.ref p, .ref o, .int z] ∧ KO K C H p o k n ws ∧ Form k n ws ∧ okS k n z ∧
  ∀ q H', Same H H' → H q = none → H' q = some (.lst ((invP k n (gained k n (invP k n ws) z)).map V.int)) → Q (.ref q) H'
def spAfterRow (K : PySem.W.Frag) (C : Addr) : Sp := fun vs H Q _ => ∃ (p o r : Addr) (k : Nm) (n : Nat) (ws l : List Int), vs = [.ref p, .ref o, .ref r] ∧ KO K C H p o k n ws ∧ Form k n ws ∧ SqL K H r (l.map V.int) ∧ (∀ s ∈ l, okS k n s) ∧
  ∀ q H', Same H H' → H q = none → H' q = some (.lst ((gains k n ws l).map V.int)) → Q (.ref q) H'
def spGreedyOf (K : PySem.W.Frag) (C : Addr) : Sp := fun vs H Q _ => ∃ (p o u : Addr) (k : Nm) (n : Nat) (ws us : List Int), vs = [.ref p, .ref o, .ref u] ∧ KO K C H p o k n ws ∧ SqL K H u (us.map V.int) ∧ Form k n ws ∧ Form k n us ∧ crP k n us ≤ 500 ∧
  ∀ q H', Same H H' → H q = none → H' q = some (.lst ((dem k n ws us).map V.int)) → Q (.ref q) H'
/-! ### checks of more orders; the calls -/
def spCkB2 (K : PySem.W.Frag) (C : Addr) : Sp := fun vs H Q _ => ∃ (p t : Addr) (os : List Addr) (k : Nm) (n : Nat) (wss : List (List Int)), vs = [.ref p, .ref t] ∧ SqT K H t (os.map V.ref) ∧ KAt C H p k n ∧ okK k n = true ∧ OrdsAt K H os wss ∧ (∀ ws ∈ wss, Form k n ws ∧ crP k n ws ≤ 60) ∧ ∀ H', Same H H' → Q .non H'
theorem body_check_orders2 {cdv : Value} {A : Around} {outer : List Env} {s : Shared} {H : Hp} {vs : List V} {Q : VK} {E : XK} (T : Tk K w mg C D) (F : FnP K "check_orders" "check_orders" s_check_orders f fd) (c_check_kind : Gd P w K mg base "check_kind" ["kind"] 1 (spCk C)) (c_is_told_order : Gd P w K mg base "is_told_order" ["kind", "value"] 4 (spTold K C))
    (hr : Room 4 (A.deeper (envOfC "check_orders" (defScope s_check_orders) s.heap.objs.size f cdv))) (h : spCkB2 K C vs H Q E) :
    ∃ t, PSs (cxOf CX0 P w K mg base ["kind", "orders", "order"] "check_orders" (defScope s_check_orders) f cdv A outer s H E).nox (defBody s_check_orders) t ∧ t { nx := fun _ H' => Q .non H', rt := Q } (start ["kind", "orders", "order"] vs) H := by
  obtain ⟨p, t, os, k, n, wss, rfl, hT, hk, hK, hO, hw, q⟩ := h
  refine ⟨_, (pss_cons (ps_expr (pe_callG c_check_kind (hr.mono (by decide)) (by rfl) (pa_cons (pv 0) pa_nil)))
      (pss_one (ps_for PassesOwn.never rfl (pi_tup (pv 1)) (pg_name (i := 2) sc_check_orders.nd rfl (Or.inl rfl)) (pss_one (ps_if (pt_not (pt_val (pe_callG c_is_told_order (hr.mono (by decide)) (by rfl) (pa_cons (pv 0) (pa_cons (pv 2) pa_nil))))) (pss_one ps_never) pss_nil))))), ?_⟩
  refine ⟨_, rfl, p, k, n, rfl, hk, ?_⟩
  refine ⟨_, rfl, t, rfl, ⟨_, hT⟩, ?_⟩
  refine for_tup (K := K) (a := t) (xs := os.map V.ref) (fun i σ H2 => ∃ v, σ = [some (.ref p), some (.ref t), v] ∧ Same H H2) ⟨none, rfl, Same.refl H⟩ (fun i σ H2 _ h2 => by obtain ⟨_, _, s2⟩ := h2; exact Same.tup s2 hT) ?_ ?_
  · rintro i x σ H2 hi ⟨v, rfl, s2⟩
    obtain ⟨o, ws, rfl, hg, hs⟩ := hO.get hi
    obtain ⟨hF, h6⟩ := hw ws (List.mem_of_getElem? hg)
    refine ⟨_, rfl, _, rfl, p, o, k, n, ws, rfl, ⟨hk.keep s2, s2.seq hs, hF.1, hK⟩, hF, h6, fun H3 s3 => ⟨true, rfl, ?_⟩⟩
    exact ⟨_, rfl, s2.trans s3⟩
  · rintro σ H2 ⟨v, rfl, s2⟩
    exact q H2 s2
def spCkOn (K : PySem.W.Frag) (C : Addr) : Sp := fun vs H Q _ => ∃ (p : Addr) (os : List Addr) (k : Nm) (n : Nat) (wss : List (List Int)), vs = .ref p :: os.map V.ref ∧ os.length ≤ 100 ∧ KAt C H p k n ∧ okK k n = true ∧ OrdsAt K H os wss ∧ (∀ ws ∈ wss, Form k n ws ∧ crP k n ws ≤ 60) ∧ ∀ H', Same H H' → Q .non H'
theorem ok_check_ordersN (T : Tk K w mg C D) (F : FnP K "check_orders" "check_orders" s_check_orders f fd) (c_check_kind : Gd P w K mg base "check_kind" ["kind"] 1 (spCk C)) (c_is_told_order : Gd P w K mg base "is_told_order" ["kind", "value"] 4 (spTold K C)) : FnR P w K mg base CX0 5 f (spCkOn K C) := by
  obtain ⟨oc, od, dV, kV, doc, pm, an, cdv, ct, osl, rfl, lk, hcd, hD, hK⟩ := id F.ex
  rcases hD with ⟨_, rfl⟩ | ⟨e, _⟩
  · have R := StX.fn_star (P := P) (w := w) (mg := mg) (base := base) (CX := CX0) (ps := ["kind"]) (pv := "orders") (N := ["kind", "orders", "order"]) (sp := spCkB2 K C) (k := 4) lk hcd sc_check_orders StX.cxUp_none
      (StX.bind_star1 (B := fun us => bindArgs _ ⟨us, []⟩) (fun a => rfl) (fun a r rs => rfl)) (fun A outer s H vs Q E hr h => let ⟨t, p, q⟩ := body_check_orders2 T F c_check_kind c_is_told_order hr h; ⟨t, p.nox, q⟩)
    intro A outer s H us vs Q E hr e0 r h
    refine R A outer s H us vs Q E hr e0 r ?_
    obtain ⟨p, os, k, n, wss, rfl, hz, hk, hK, hO, hw, q⟩ := h
    refine ⟨[.ref p], os.map V.ref, rfl, rfl, Nat.le_of_lt (small1000 (by rw [List.length_map]; omega)), fun t nt => ?_⟩
    have u1 := Same.upd (o := .tup (os.map V.ref)) nt
    exact ⟨p, t, os, k, n, wss, rfl, SqT.of upd_same, hk.keep u1, hK, hO.keep u1, hw, fun H' s' => q H' (u1.trans s')⟩
  · exact absurd rfl e
theorem one_ord {H : Hp} {o : Addr} {k : Nm} {n : Nat} {ws : List Int} (h : SqL K H o (ws.map V.int)) (hF : Form k n ws) (h6 : crP k n ws ≤ 60) : OrdsAt K H [o] [ws] ∧ ∀ us ∈ [ws], Form k n us ∧ crP k n us ≤ 60 :=
  ⟨⟨h, trivial⟩, fun us hu => by rw [List.mem_singleton.mp hu]; exact ⟨hF, h6⟩⟩
def spGained2 (K : PySem.W.Frag) (C : Addr) : Sp := fun vs H Q _ => ∃ (p o : Addr) (k : Nm) (n : Nat) (ws : List Int) (z : Int), vs = [.ref p, .ref o, .int z] ∧ KO K C H p o k n ws ∧ Form k n ws ∧ crP k n ws ≤ 60 ∧ okS k n z ∧
  ∀ q H', Same H H' → H q = none → H' q = some (.lst ((gained k n ws z).map V.int)) → Q (.ref q) H'
def spGainedA2 (K : PySem.W.Frag) (C : Addr) : Sp := fun vs H Q _ => ∃ (p o : Addr) (k : Nm) (n : Nat) (ws : List Int) (z : Int), vs = [.ref p, .ref o, .int z] ∧ KO K C H p o k n ws ∧ Form k n ws ∧ crP k n ws ≤ 60 ∧ okS k n z ∧
  ∀ q H', Same H H' → H q = none → H' q = some (.lst ((invP k n (gained k n (invP k n ws) z)).map V.int)) → Q (.ref q) H'
def spGreedy2 (K : PySem.W.Frag) (C : Addr) : Sp := fun vs H Q _ => ∃ (p o u : Addr) (k : Nm) (n : Nat) (ws us : List Int), vs = [.ref p, .ref o, .ref u] ∧ KO K C H p o k n ws ∧ SqL K H u (us.map V.int) ∧ Form k n ws ∧ crP k n ws ≤ 60 ∧ Form k n us ∧ crP k n us ≤ 60 ∧
  ∀ q H', Same H H' → H q = none → H' q = some (.lst ((dem k n ws us).map V.int)) → Q (.ref q) H'
noncomputable def demAll (k : Nm) (n : Nat) (wss : List (List Int)) : List Int := wss.foldl (dem k n) (startL k n)
theorem demAll_take {k : Nm} {n : Nat} {wss : List (List Int)} {i : Nat} {ws : List Int} (h : wss[i]? = some ws) : demAll k n (wss.take (i + 1)) = dem k n (demAll k n (wss.take i)) ws := by
  unfold demAll
  rw [take_succ h, List.foldl_append]
  rfl
theorem demAll_form {k : Nm} {n : Nat} (hK : okK k n = true) {wss : List (List Int)} (hw : ∀ ws ∈ wss, Form k n ws) : ∀ i, i ≤ wss.length → Form k n (demAll k n (wss.take i))
  | 0, _ => form_start hK
  | i + 1, h => by
    have e : wss[i]? = some wss[i] := List.getElem?_eq_getElem (by omega)
    rw [demAll_take e]
    exact dem_form hK (demAll_form hK hw i (by omega)) (hw _ (List.getElem_mem _))
def spGreedyAll (K : PySem.W.Frag) (C : Addr) : Sp := fun vs H Q _ => ∃ (p a : Addr) (os : List Addr) (k : Nm) (n : Nat) (wss : List (List Int)), vs = [.ref p, .ref a] ∧ KAt C H p k n ∧ okK k n = true ∧ SqL K H a (os.map V.ref) ∧ os.length ≤ 20 ∧ OrdsAt K H os wss ∧ (∀ ws ∈ wss, Form k n ws ∧ crP k n ws ≤ 60) ∧
  ∀ q H', Same H H' → H q = none → H' q = some (.lst ((demAll k n wss).map V.int)) → Q (.ref q) H'
end
end Sv

/-! Orders beneath one another, by counts; down steps. By the verifier: plain mathematics. -/
namespace Sv
open PySem L2
def swp (k : Nm) (n : Nat) (s q : Int) : Int := if sw k n s q = true then q + 1 else if sw k n s (q - 1) = true then q - 1 else q
theorem swp_mi (n : Nat) (s q : Int) : swp .mi n s q = if s = 0 then (if q = -1 then 0 else if q = 0 then -1 else q) else if q = s - 1 ∨ q = -s - 1 then q + 1 else if q = s ∨ q = -s then q - 1 else q := by
  unfold swp
  by_cases h : s = 0
  · subst h
    rw [sw_mi0, sw_mi0, if_pos rfl]
    simp only [decide_eq_true_eq]
    repeat' split
    all_goals omega
  · rw [sw_mis h, sw_mis h, if_neg h]
    simp only [decide_eq_true_eq]
    repeat' split
    all_goals omega
theorem turned_pl {n : Nat} {s q : Int} (hs : 0 ≤ s) (hq : -(n : Int) ≤ q ∧ q < n) : turned .mi n s (pl .mi q) = pl .mi (swp .mi n s q) := by
  have hp := (pl_ok hq rfl).1
  rw [turned_mi' n s _ hp hs, swp_mi]
  unfold pl
  simp only [if_true]
  by_cases h : s = 0
  · simp only [h, if_true]
    repeat' split
    all_goals omega
  · simp only [h, if_false]
    repeat' split
    all_goals omega
theorem fn_stepped {k : Nm} {n : Nat} {w : List Int} {s : Int} (hK : okK k n = true) (hs : okS k n s) : fn_ k n (stepped k n w s) = fun q => fn_ k n w (swp k n s q) := by
  funext q
  by_cases hk : k = .mi
  · subst hk
    have h2 := okS_mi hs
    by_cases hq : -(n : Int) ≤ q ∧ q < n
    · have hq' : -(n : Int) ≤ swp .mi n s q ∧ swp .mi n s q < n := by
        rw [swp_mi]
        repeat' split
        all_goals omega
      rw [fn_in hq, fn_in hq', item_step hK hs (pl_ok hq), turned_pl h2.1 hq]
    · have e : swp .mi n s q = q := by
        rw [swp_mi]
        repeat' split
        all_goals omega
      rw [e, fn_out hq, fn_out hq]
  · have h2 := okS_two hK hk hs
    rw [fn_nm hk, fn_nm hk, item_step hK hs (fun e => absurd e hk), turned_nm hk]
    congr 1
    unfold swp
    rw [sw_nm hk, sw_nm hk]
    simp only [decide_eq_true_eq]
    rcases upto7 h2 with rfl | rfl | rfl | rfl | rfl | rfl <;> (repeat' split) <;> omega
theorem up_of {k : Nm} {n : Nat} {w : List Int} {s q : Int} (hK : okK k n = true) (hs : okS k n s) (d : sw k n s q = true) :
    (crossed k n w s = true → fn_ k n w (q + 1) ≤ fn_ k n w q) ∧ (¬ crossed k n w s = true → fn_ k n w q ≤ fn_ k n w (q + 1)) := by
  have g := congrFun (fn_gained (w := w) hK hs) q
  rw [gD_at d] at g
  refine ⟨fun h => ?_, fun h => ?_⟩
  · unfold gained at g
    rw [if_pos h] at g
    omega
  · unfold gained at g
    rw [if_neg h, fn_stepped hK hs] at g
    have e : swp k n s q = q + 1 := if_pos d
    simp only [e] at g
    omega
/-- a fall taken away where there is one -/
def downed (k : Nm) (n : Nat) (w : List Int) (s : Int) : List Int := if crossed k n w s = true then stepped k n w s else w
def dD (D : Int → Bool) (f : Int → Int) : Int → Int := fun p => if D p = true then min (f p) (f (p + 1)) else if D (p - 1) = true then max (f (p - 1)) (f p) else f p
def uD (D : Int → Bool) (S : Int → Int → Int) : Int → Int → Int := fun a b => if D (a - 1) = true then max (S (a - 1) b) (S (a + 1) b - 1) else S a b
theorem fn_downed {k : Nm} {n : Nat} {w : List Int} {s : Int} (hK : okK k n = true) (hs : okS k n s) : fn_ k n (downed k n w s) = dD (sw k n s) (fn_ k n w) := by
  funext q
  have ap := sw_apart hK hs
  unfold dD
  by_cases d : sw k n s q = true
  · rw [if_pos d]
    have u := up_of (w := w) hK hs d
    unfold downed
    by_cases hc : crossed k n w s = true
    · have := u.1 hc
      rw [if_pos hc, fn_stepped hK hs]
      have e : swp k n s q = q + 1 := if_pos d
      simp only [e]
      omega
    · have := u.2 hc
      rw [if_neg hc]
      omega
  · rw [if_neg d]
    by_cases d' : sw k n s (q - 1) = true
    · rw [if_pos d']
      have u := up_of (w := w) hK hs d'
      rw [Int.sub_add_cancel] at u
      unfold downed
      by_cases hc : crossed k n w s = true
      · have := u.1 hc
        rw [if_pos hc, fn_stepped hK hs]
        have e : swp k n s q = q - 1 := by unfold swp; rw [if_neg d, if_pos d']
        simp only [e]
        omega
      · have := u.2 hc
        rw [if_neg hc]
        omega
    · rw [if_neg d']
      unfold downed
      split
      · rw [fn_stepped hK hs]
        have e : swp k n s q = q := by unfold swp; rw [if_neg d, if_neg d']
        simp only [e]
      · rfl
theorem IsS.lower {f : Int → Int} {S : Int → Int → Int} {D : Int → Bool} (h : IsS f S) (hD : Apart D) : IsS (dD D f) (uD D S) := by
  refine ⟨fun a b => ?_, ?_⟩
  · have e1 : a + 1 - 1 = a := by omega
    unfold uD dD
    rw [e1]
    by_cases h1 : D a = true
    · have h2 : D (a - 1) ≠ true := fun z => by
        have := hD _ z
        rw [Int.sub_add_cancel] at this
        rw [this] at h1
        cases h1
      rw [if_pos h1, if_neg h2, if_pos h1]
      have u1 := h.up a b
      have u2 := h.up (a + 1) b
      by_cases x : b ≤ f a <;> by_cases y : b ≤ f (a + 1) <;> simp only [x, y, if_true, if_false] at u1 u2 <;> (split <;> omega)
    · rw [if_neg h1, if_neg h1]
      by_cases h2 : D (a - 1) = true
      · rw [if_pos h2, if_pos h2]
        have u1 := h.up a b
        have u2 := h.down a b
        by_cases x : b ≤ f a <;> by_cases y : b ≤ f (a - 1) <;> simp only [x, y, if_true, if_false] at u1 u2 <;> (split <;> omega)
      · rw [if_neg h2, if_neg h2]
        exact h.up a b
  · obtain ⟨K, hK⟩ := h.far
    refine ⟨K + 1, fun a b hab => ?_⟩
    unfold uD
    have h1 := hK a b (by omega)
    have h2 := hK (a + 1) b (by omega)
    have h3 := hK (a - 1) b (by omega)
    split <;> omega
/-- beneath: nowhere more -/
def LeS (S R : Int → Int → Int) : Prop := ∀ a b, S a b ≤ R a b
theorem LeS.gain {S R : Int → Int → Int} (D : Int → Bool) (h : LeS S R) : LeS (tD D S) (tD D R) := fun a b => by
  have h1 := h a b
  have h2 := h (a + 1) b
  have h3 := h (a - 1) b
  unfold tD
  split <;> omega
theorem LeS.lower {S R : Int → Int → Int} (D : Int → Bool) (h : LeS S R) : LeS (uD D S) (uD D R) := fun a b => by
  have h1 := h a b
  have h2 := h (a + 1) b
  have h3 := h (a - 1) b
  unfold uD
  split <;> omega
theorem IsS.le_gain {f : Int → Int} {S : Int → Int → Int} (D : Int → Bool) (h : IsS f S) : LeS S (tD D S) := fun a b => by
  have h1 := h.near b 1 a
  have h2 := h.near b 1 (a - 1)
  rw [show a - 1 + ((1 : Nat) : Int) = a by omega] at h2
  rw [show a + ((1 : Nat) : Int) = a + 1 by omega] at h1
  unfold tD
  split <;> omega
theorem IsS.lower_le {f : Int → Int} {S : Int → Int → Int} (D : Int → Bool) (h : IsS f S) : LeS (uD D S) S := fun a b => by
  have h1 := h.near b 1 a
  have h2 := h.near b 1 (a - 1)
  rw [show a - 1 + ((1 : Nat) : Int) = a by omega] at h2
  rw [show a + ((1 : Nat) : Int) = a + 1 by omega] at h1
  unfold uD
  split <;> omega
theorem LeS.trans {S R T : Int → Int → Int} (h : LeS S R) (g : LeS R T) : LeS S T := fun a b => Int.le_trans (h a b) (g a b)
theorem LeS.anti {S R : Int → Int → Int} (h : LeS S R) (g : LeS R S) : S = R := by
  funext a b
  exact Int.le_antisymm (h a b) (g a b)
/-- the counts of an order -/
theorem counts_of {k : Nm} {n : Nat} {w : List Int} (hK : okK k n = true) (hF : Form k n w) : ∃ S, IsS (fn_ k n w) S := by
  obtain ⟨r, hr⟩ := least_of hK hF
  have hS := gains_isS (sw_all hK hr.1) (isS_pl k)
  rw [← fn_start hK, ← fn_gains hK hr.1, hr.gains hK] at hS
  exact ⟨_, hS⟩
/-- x lies beneath v -/
def Beneath (k : Nm) (n : Nat) (x v : List Int) : Prop := ∀ S R, IsS (fn_ k n x) S → IsS (fn_ k n v) R → LeS S R
theorem Beneath.refl {k : Nm} {n : Nat} (x : List Int) : Beneath k n x x := fun S R h g a b => by rw [h.same g]; exact Int.le_refl _
theorem Beneath.downed {k : Nm} {n : Nat} {x v : List Int} {s : Int} (hK : okK k n = true) (hs : okS k n s) (hx : Form k n x) (hv : Form k n v) (h : Beneath k n x v) : Beneath k n (downed k n x s) (downed k n v s) := by
  obtain ⟨S, hS⟩ := counts_of hK hx
  obtain ⟨R, hR⟩ := counts_of hK hv
  have a := hS.lower (sw_apart hK hs)
  have b := hR.lower (sw_apart hK hs)
  rw [← fn_downed hK hs] at a b
  intro S' R' h1 h2
  rw [h1.same a, h2.same b]
  exact (h S R hS hR).lower _
theorem start_beneath {k : Nm} {n : Nat} {x : List Int} (hK : okK k n = true) (hx : Form k n x) : Beneath k n (startL k n) x := by
  obtain ⟨r, hr⟩ := least_of hK hx
  have go : ∀ (l w : List Int) (S : Int → Int → Int), (∀ s ∈ l, okS k n s) → Form k n w → IsS (fn_ k n w) S → ∃ R, IsS (fn_ k n (gains k n w l)) R ∧ LeS S R := by
    intro l
    induction l with
    | nil => exact fun w S _ _ h => ⟨S, h, fun a b => Int.le_refl _⟩
    | cons s l ih =>
      intro w S hl hF h
      have hs := hl s List.mem_cons_self
      have g := h.gain (sw_apart hK hs)
      rw [← fn_gained hK hs] at g
      obtain ⟨R, h1, h2⟩ := ih (gained k n w s) _ (fun t ht => hl t (List.mem_cons_of_mem _ ht)) (gains_form hK (l := [s]) (fun t ht => by rw [List.mem_singleton.mp ht]; exact hs) hF) g
      exact ⟨R, h1, (h.le_gain _).trans h2⟩
  intro S R hS hR
  obtain ⟨R', h1, h2⟩ := go r (startL k n) S hr.1 (form_start hK) hS
  rw [hr.gains hK] at h1
  rw [hR.same h1]
  exact h2
theorem beneath_eq {k : Nm} {n : Nat} {x v : List Int} (hK : okK k n = true) (hx : Form k n x) (hv : Form k n v) (h : Beneath k n x v) (g : Beneath k n v x) : x = v := by
  obtain ⟨S, hS⟩ := counts_of hK hx
  obtain ⟨R, hR⟩ := counts_of hK hv
  have e := (h S R hS hR).anti (g R S hR hS)
  rw [← e] at hR
  exact fn_inj (k := k) hx.1 hv.1 (hS.inj hR)
def downs (k : Nm) (n : Nat) (w l : List Int) : List Int := l.foldl (downed k n) w
theorem downed_form {k : Nm} {n : Nat} {w : List Int} {s : Int} (hK : okK k n = true) (hs : okS k n s) (hF : Form k n w) : Form k n (downed k n w s) := by
  unfold downed
  split
  · exact (cr_stepI hK hs hF).2
  · exact hF
/-- the last step of a least row is a fall; without it the row is least -/
theorem Least.last {k : Nm} {n : Nat} {v l : List Int} {s : Int} (hK : okK k n = true) (h : Least k n v (l ++ [s])) : okS k n s ∧ Form k n v ∧ Least k n (downed k n v s) l := by
  obtain ⟨hl, e, c⟩ := h
  have hs := hl s (List.mem_append_right _ List.mem_cons_self)
  have hl' : ∀ t ∈ l, okS k n t := fun t ht => hl t (List.mem_append_left _ ht)
  have f := run_form hK hl' (form_start hK)
  rw [cr_start hK] at f
  rw [run_snoc] at e
  have st := cr_stepI hK hs f.1
  rw [List.length_append, List.length_singleton] at c
  have hF : Form k n v := by rw [← e]; exact st.2
  have nc : ¬ crossed k n (run k n (startL k n) l) s = true := fun z => by
    have := st.1
    rw [if_pos z, e] at this
    have := f.2
    omega
  have c1 := st.1
  rw [if_neg nc, e] at c1
  have back : stepped k n v s = run k n (startL k n) l := by rw [← e, step_step hK hs f.1.1]
  have vc : crossed k n v s = true := by
    cases z : crossed k n v s with
    | true => rfl
    | false =>
      have := (cr_stepI hK hs hF).1
      rw [z, back] at this
      simp at this
      omega
  have d : downed k n v s = run k n (startL k n) l := by
    unfold downed
    rw [if_pos vc, back]
  exact ⟨hs, hF, hl', d.symm, by rw [d]; omega⟩
/-- what lies beneath v is taken down to the start by each least row of v, the last step first -/
theorem beneath_down {k : Nm} {n : Nat} (hK : okK k n = true) : ∀ (m : Nat) {l x v : List Int}, l.length = m → Form k n x → Least k n v l → Beneath k n x v → downs k n x l.reverse = startL k n
  | 0, l, x, v, hm, hx, hl, hb => by
    have e : l = [] := List.length_eq_zero_iff.mp hm
    subst e
    have ev : v = startL k n := hl.2.1.symm
    rw [ev] at hb
    exact beneath_eq hK hx (form_start hK) hb (start_beneath hK hx)
  | m + 1, l, x, v, hm, hx, hl, hb => by
    rcases List.eq_nil_or_concat l with rfl | ⟨l', s, rfl⟩
    · simp at hm
    · rw [List.concat_eq_append] at *
      obtain ⟨hs, hF, hl'⟩ := hl.last hK
      rw [List.reverse_append]
      show downs k n (downed k n x s) l'.reverse = _
      exact beneath_down hK m (by simpa using hm) (downed_form hK hs hx) hl' (hb.downed hK hs hx hF)
/-- a part of a row makes what lies beneath what the row makes -/
theorem part_beneath {k : Nm} {n : Nat} (hK : okK k n = true) {m l : List Int} (h : m.Sublist l) : ∀ {y v : List Int}, (∀ s ∈ l, okS k n s) → Form k n y → Form k n v → Beneath k n y v → Beneath k n (run k n y m) (gains k n v l) := by
  induction h with
  | slnil => exact fun _ _ _ h => h
  | cons s _ ih =>
    intro y v hl hy hv hb
    have hs := hl s List.mem_cons_self
    refine ih (fun t ht => hl t (List.mem_cons_of_mem _ ht)) hy (gains_form hK (l := [s]) (fun t ht => by rw [List.mem_singleton.mp ht]; exact hs) hv) ?_
    obtain ⟨S, hS⟩ := counts_of hK hy
    obtain ⟨R, hR⟩ := counts_of hK hv
    have g := hR.gain (sw_apart hK hs)
    rw [← fn_gained hK hs] at g
    intro S' R' h1 h2
    rw [h1.same hS, h2.same g]
    exact (hb S R hS hR).trans (hR.le_gain _)
  | cons_cons s _ ih =>
    intro y v hl hy hv hb
    have hs := hl s List.mem_cons_self
    refine ih (fun t ht => hl t (List.mem_cons_of_mem _ ht)) (cr_stepI hK hs hy).2 (gains_form hK (l := [s]) (fun t ht => by rw [List.mem_singleton.mp ht]; exact hs) hv) ?_
    obtain ⟨S, hS⟩ := counts_of hK hy
    obtain ⟨R, hR⟩ := counts_of hK hv
    have g := hR.gain (sw_apart hK hs)
    rw [← fn_gained hK hs] at g
    have gs := hS.gain (sw_apart hK hs)
    rw [← fn_gained hK hs] at gs
    intro S' R' h1 h2
    rw [h2.same g]
    refine LeS.trans ?_ ((hb S R hS hR).gain _)
    by_cases hc : crossed k n y s = true
    · have d := hS.lower (sw_apart hK hs)
      rw [← fn_downed hK hs] at d
      have e : downed k n y s = stepped k n y s := if_pos hc
      rw [e] at d
      rw [h1.same d]
      exact (hS.lower_le _).trans (hS.le_gain _)
    · have e : gained k n y s = stepped k n y s := if_neg hc
      rw [e] at gs
      rw [h1.same gs]
      exact fun a b => Int.le_refl _
end Sv

/-! Halves of greedy products: by the verifier, plain mathematics. -/
namespace Sv
open PySem L2
/-- the steps of a row that are gained -/
def gsub (k : Nm) (n : Nat) : List Int → List Int → List Int
  | _, [] => []
  | w, s :: l => if crossed k n w s = true then gsub k n w l else s :: gsub k n (stepped k n w s) l
theorem gsub_sub {k : Nm} {n : Nat} : ∀ (l w : List Int), (gsub k n w l).Sublist l
  | [], _ => List.Sublist.slnil
  | s :: l, w => by
    unfold gsub
    split
    · exact List.Sublist.cons s (gsub_sub l w)
    · exact (gsub_sub l _).cons_cons s
theorem gsub_run {k : Nm} {n : Nat} (hK : okK k n = true) : ∀ {l w : List Int}, (∀ s ∈ l, okS k n s) → Form k n w → run k n w (gsub k n w l) = gains k n w l ∧ crP k n (gains k n w l) = crP k n w + ((gsub k n w l).length : Int)
  | [], w, _, _ => ⟨rfl, by show crP k n w = crP k n w + 0; omega⟩
  | s :: l, w, hl, hF => by
    have hs := hl s List.mem_cons_self
    have hl' : ∀ t ∈ l, okS k n t := fun t ht => hl t (List.mem_cons_of_mem _ ht)
    by_cases hc : crossed k n w s = true
    · have e : gained k n w s = w := if_pos hc
      have g : gsub k n w (s :: l) = gsub k n w l := if_pos hc
      have r := gsub_run hK hl' hF
      show run k n w (gsub k n w (s :: l)) = gains k n (gained k n w s) l ∧ crP k n (gains k n (gained k n w s) l) = _
      rw [g, e]
      exact r
    · have e : gained k n w s = stepped k n w s := if_neg hc
      have g : gsub k n w (s :: l) = s :: gsub k n (stepped k n w s) l := if_neg hc
      have st := cr_stepI hK hs hF
      rw [if_neg hc] at st
      have r := gsub_run hK hl' st.2
      show run k n w (gsub k n w (s :: l)) = gains k n (gained k n w s) l ∧ crP k n (gains k n (gained k n w s) l) = _
      rw [g, e]
      refine ⟨r.1, ?_⟩
      rw [r.2, st.1, List.length_cons]
      omega
/-- what stands behind the first factor -/
theorem rest_eq {k : Nm} {n : Nat} {u m : List Int} (hK : okK k n = true) (hu : Form k n u) (hm : ∀ s ∈ m, okS k n s) : prodP k n (invP k n u) (run k n u m) = run k n (startL k n) m := by
  obtain ⟨l, hl, e⟩ := form_ord hK hu
  subst e
  have hF := (run_form hK hm hu).1
  rw [prodP_eq hF, inv_run hK hl]
  have e1 : (startL k n).map (item k n (run k n (startL k n) m)) = run k n (startL k n) m := map_item (run_len (startL_len _ _))
  have e2 : (startL k n).map (item k n (run k n (run k n (startL k n) l) m)) = run k n (run k n (startL k n) l) m := map_item hF.1
  rw [← e1]
  conv => lhs; rw [← e2]
  rw [List.map_map]
  apply List.map_congr_left
  intro p hp
  have ho := startL_okP hp
  show item k n (run k n (startL k n) l.reverse) (item k n (run k n (run k n (startL k n) l) m) p) = _
  rw [item_run hK hm ho, item_runS hK hl (turns_ok hm ho), item_runS hK (rev_ok hl) (turns_ok hl (turns_ok hm ho)), turns_rev hK hl (turns_ok hm ho), item_runS hK hm ho]
/-- a row ahead: the orders of rows are products -/
theorem prod_rows {k : Nm} {n : Nat} {l m : List Int} (hK : okK k n = true) (hl : ∀ s ∈ l, okS k n s) (hm : ∀ s ∈ m, okS k n s) : prodP k n (run k n (startL k n) l) (run k n (startL k n) m) = run k n (startL k n) (l ++ m) := by
  have hF := (run_form hK hm (form_start hK)).1
  rw [prodP_eq hF, run_append]
  have e2 : (startL k n).map (item k n (run k n (startL k n) m)) = run k n (startL k n) m := map_item (run_len (startL_len _ _))
  have hFl := (run_form hK hl (form_start hK)).1
  have e1 : (startL k n).map (item k n (run k n (run k n (startL k n) l) m)) = run k n (run k n (startL k n) l) m := map_item (run_len hFl.1)
  rw [← e1]
  conv => lhs; rw [← e2]
  rw [List.map_map]
  apply List.map_congr_left
  intro p hp
  have ho := startL_okP hp
  show item k n (run k n (startL k n) l) (item k n (run k n (startL k n) m) p) = _
  rw [item_runS hK hm ho, item_run hK hm ho]
theorem gained_twice {k : Nm} {n : Nat} {w : List Int} {s : Int} (hK : okK k n = true) (hs : okS k n s) (hF : Form k n w) : gained k n (gained k n w s) s = gained k n w s := by
  by_cases hc : crossed k n w s = true
  · have e : gained k n w s = w := if_pos hc
    rw [e, e]
  · have e : gained k n w s = stepped k n w s := if_neg hc
    rw [e]
    have st := cr_stepI hK hs hF
    rw [if_neg hc] at st
    have st2 := (cr_stepI hK hs st.2).1
    rw [step_step hK hs hF.1] at st2
    have : crossed k n (stepped k n w s) s = true := by
      cases z : crossed k n (stepped k n w s) s with
      | true => rfl
      | false =>
        rw [z] at st2
        simp at st2
        omega
    exact if_pos this
/-- a step ahead of a least row: either all is least, or nothing is won -/
theorem ahead_two {k : Nm} {n : Nat} {W r : List Int} {s : Int} (hK : okK k n = true) (hs : okS k n s) (hr : Least k n W r) :
    (Least k n (gains k n (startL k n) (s :: r)) (s :: r)) ∨ gains k n (startL k n) (s :: r) = W := by
  obtain ⟨hl, e, c⟩ := hr
  have hF : Form k n W := by rw [← e]; exact (run_form hK hl (form_start hK)).1
  have hcons : ∀ t ∈ s :: r, okS k n t := fun t ht => by
    rcases List.mem_cons.mp ht with rfl | h
    · exact hs
    · exact hl t h
  have a1 := ahead_run hK hs hl
  rw [e] at a1
  have a2 := ahead_cr hK hs (form_ord hK hF)
  rw [a1] at a2
  by_cases hc : crossed k n (invP k n W) s = true
  · right
    rw [if_pos hc] at a2
    have hF' := a2.1.form hK
    obtain ⟨l', hl'⟩ := least_of hK hF'
    have hcons' : ∀ t ∈ s :: l', okS k n t := fun t ht => by
      rcases List.mem_cons.mp ht with rfl | h
      · exact hs
      · exact hl'.1 t h
    have b1 := ahead_run hK hs hl'.1
    rw [hl'.2.1, ← a1, ahead_ahead hK hs hF] at b1
    have L1 : Least k n W (s :: l') := ⟨hcons', b1.symm, by rw [List.length_cons]; have := hl'.2.2; omega⟩
    have L0 : Least k n W r := ⟨hl, e, c⟩
    have g := gains_same (r := [s]) hK hl hcons' (fun t ht => by rw [List.mem_singleton.mp ht]; exact hs) (by rw [L0.gains hK, L1.gains hK])
    show gains k n (gains k n (startL k n) [s]) r = W
    rw [g]
    show gains k n (gained k n (gained k n (startL k n) s) s) l' = W
    rw [gained_twice hK hs (form_start hK)]
    exact L1.gains hK
  · left
    rw [if_neg hc] at a2
    have g : gains k n (startL k n) (s :: r) = run k n (startL k n) (s :: r) := run_gains hK hcons (form_start hK) (by rw [cr_start hK, a2.2, List.length_cons]; omega)
    rw [g]
    exact ⟨hcons, rfl, by rw [a2.2, List.length_cons]; omega⟩
/-- the greedy product as the second order behind a part of the first one's row -/
theorem part_ex {k : Nm} {n : Nat} {v lv : List Int} (hK : okK k n = true) (hv : Least k n v lv) : ∀ {l : List Int}, (∀ s ∈ l, okS k n s) → ∃ m, m.Sublist l ∧ Least k n (gains k n (startL k n) (l ++ lv)) (m ++ lv)
  | [], _ => ⟨[], List.Sublist.slnil, by
      show Least k n (gains k n (startL k n) lv) lv
      rw [hv.gains hK]
      exact hv⟩
  | s :: l, hl => by
    have hs := hl s List.mem_cons_self
    have hl' : ∀ t ∈ l, okS k n t := fun t ht => hl t (List.mem_cons_of_mem _ ht)
    obtain ⟨m, hm, L⟩ := part_ex hK hv hl'
    have hall : ∀ t ∈ l ++ lv, okS k n t := fun t ht => by
      rcases List.mem_append.mp ht with h | h
      · exact hl' t h
      · exact hv.1 t h
    have g := gains_same (r := [s]) hK hall L.1 (fun t ht => by rw [List.mem_singleton.mp ht]; exact hs) (L.gains hK).symm
    have e : gains k n (startL k n) (s :: l ++ lv) = gains k n (startL k n) (s :: (m ++ lv)) := g
    rcases ahead_two hK hs L with h | h
    · exact ⟨s :: m, hm.cons_cons s, by rw [e]; exact h⟩
    · exact ⟨m, List.Sublist.cons s hm, by rw [e, h]; exact L⟩
end Sv

/-! What is lacking: gains and down steps are adjoint. By the verifier: plain mathematics. -/
namespace Sv
open PySem L2
theorem adjS {f g : Int → Int} {S R : Int → Int → Int} {D : Int → Bool} (hS : IsS f S) (hR : IsS g R) (hD : Apart D) : LeS S (tD D R) ↔ LeS (uD D S) R := by
  have stepR : ∀ a b, R a b ≤ R (a + 1) b ∧ R (a + 1) b ≤ R a b + 1 := fun a b => hR.near b 1 a
  have stepS : ∀ a b, S a b ≤ S (a + 1) b ∧ S (a + 1) b ≤ S a b + 1 := fun a b => hS.near b 1 a
  constructor
  · intro h a b
    unfold uD
    by_cases hd : D (a - 1) = true
    · rw [if_pos hd]
      have n1 : ¬ D (a - 1 - 1) = true := fun z => by
        have := hD _ z
        rw [Int.sub_add_cancel] at this
        rw [this] at hd
        cases hd
      have n2 : ¬ D (a + 1 - 1) = true := fun z => by
        have := hD _ hd
        rw [Int.sub_add_cancel] at this
        rw [Int.add_sub_cancel, this] at z
        cases z
      have h1 := h (a - 1) b
      have h2 := h (a + 1) b
      unfold tD at h1 h2
      rw [if_neg n1] at h1
      rw [if_neg n2] at h2
      have r1 := (stepR (a - 1) b).1
      have r2 := (stepR a b).2
      rw [Int.sub_add_cancel] at r1
      omega
    · rw [if_neg hd]
      have h1 := h a b
      unfold tD at h1
      rw [if_neg hd] at h1
      exact h1
  · intro h a b
    unfold tD
    by_cases hd : D (a - 1) = true
    · rw [if_pos hd]
      have n1 : ¬ D (a - 1 - 1) = true := fun z => by
        have := hD _ z
        rw [Int.sub_add_cancel] at this
        rw [this] at hd
        cases hd
      have n2 : ¬ D (a + 1 - 1) = true := fun z => by
        have := hD _ hd
        rw [Int.sub_add_cancel] at this
        rw [Int.add_sub_cancel, this] at z
        cases z
      have h1 := h (a - 1) b
      have h2 := h (a + 1) b
      unfold uD at h1 h2
      rw [if_neg n1] at h1
      rw [if_neg n2] at h2
      have r1 := (stepS (a - 1) b).2
      have r2 := (stepS a b).1
      rw [Int.sub_add_cancel] at r1
      omega
    · rw [if_neg hd]
      have h1 := h a b
      unfold uD at h1
      rw [if_neg hd] at h1
      exact h1
theorem gained_form2 {k : Nm} {n : Nat} {w : List Int} {s : Int} (hK : okK k n = true) (hs : okS k n s) (hF : Form k n w) : Form k n (gained k n w s) :=
  gains_form hK (l := [s]) (fun t ht => by rw [List.mem_singleton.mp ht]; exact hs) hF
theorem adj_one {k : Nm} {n : Nat} {x v : List Int} {s : Int} (hK : okK k n = true) (hs : okS k n s) (hx : Form k n x) (hv : Form k n v) :
    Beneath k n x (gained k n v s) ↔ Beneath k n (downed k n x s) v := by
  obtain ⟨S, hS⟩ := counts_of hK hx
  obtain ⟨R, hR⟩ := counts_of hK hv
  have a := hR.gain (sw_apart hK hs)
  rw [← fn_gained hK hs] at a
  have b := hS.lower (sw_apart hK hs)
  rw [← fn_downed hK hs] at b
  have key := adjS hS hR (sw_apart hK hs)
  constructor
  · intro h S' R' h1 h2
    rw [h1.same b, h2.same hR]
    exact key.mp (h S _ hS a)
  · intro h S' R' h1 h2
    rw [h1.same hS, h2.same a]
    exact key.mpr (h _ R b hR)
theorem downs_append (k : Nm) (n : Nat) (w l m : List Int) : downs k n w (l ++ m) = downs k n (downs k n w l) m := List.foldl_append
theorem downs_form {k : Nm} {n : Nat} (hK : okK k n = true) : ∀ {l w : List Int}, (∀ s ∈ l, okS k n s) → Form k n w → Form k n (downs k n w l)
  | [], _, _, h => h
  | s :: l, w, hl, h => downs_form hK (l := l) (w := downed k n w s) (fun t ht => hl t (List.mem_cons_of_mem _ ht)) (downed_form hK (hl s List.mem_cons_self) h)
theorem adj {k : Nm} {n : Nat} (hK : okK k n = true) : ∀ {l x v : List Int}, (∀ s ∈ l, okS k n s) → Form k n x → Form k n v → (Beneath k n x (gains k n v l) ↔ Beneath k n (downs k n x l.reverse) v)
  | [], x, v, _, _, _ => Iff.rfl
  | s :: l, x, v, hl, hx, hv => by
    have hs := hl s List.mem_cons_self
    have hl' : ∀ t ∈ l, okS k n t := fun t ht => hl t (List.mem_cons_of_mem _ ht)
    have h1 := adj hK hl' hx (gained_form2 hK hs hv)
    have h2 := adj_one (x := downs k n x l.reverse) hK hs (downs_form hK (rev_ok hl') hx) hv
    rw [List.reverse_cons, downs_append]
    exact h1.trans h2
theorem Beneath.trans {k : Nm} {n : Nat} {x y z : List Int} (hK : okK k n = true) (hy : Form k n y) (h : Beneath k n x y) (g : Beneath k n y z) : Beneath k n x z := by
  obtain ⟨R, hR⟩ := counts_of hK hy
  exact fun S T hS hT => (h S R hS hR).trans (g R T hR hT)
theorem beneath_start {k : Nm} {n : Nat} {x : List Int} (hK : okK k n = true) (hx : Form k n x) : Beneath k n x (startL k n) ↔ x = startL k n :=
  ⟨fun h => beneath_eq hK hx (form_start hK) h (start_beneath hK hx), fun h => by rw [h]; exact Beneath.refl _⟩
/-- x lies beneath what a row makes by gains just if taking the row off, from behind, leads to the start -/
theorem beneath_row {k : Nm} {n : Nat} {l x : List Int} (hK : okK k n = true) (hl : ∀ s ∈ l, okS k n s) (hx : Form k n x) : Beneath k n x (gains k n (startL k n) l) ↔ downs k n x l.reverse = startL k n :=
  (adj hK hl hx (form_start hK)).trans (beneath_start hK (downs_form hK (rev_ok hl) hx))
theorem beneath_least {k : Nm} {n : Nat} {l x v : List Int} (hK : okK k n = true) (hl : Least k n v l) (hx : Form k n x) : Beneath k n x v ↔ downs k n x l.reverse = startL k n := by
  have := beneath_row hK hl.1 hx
  rw [hl.gains hK] at this
  exact this
/-- the steps that are taken off -/
theorem downs_sub {k : Nm} {n : Nat} : ∀ (l w : List Int), ∃ m, m.Sublist l ∧ downs k n w l = run k n w m
  | [], w => ⟨[], List.Sublist.slnil, rfl⟩
  | s :: l, w => by
    by_cases hc : crossed k n w s = true
    · obtain ⟨m, hm, e⟩ := downs_sub (k := k) (n := n) l (stepped k n w s)
      refine ⟨s :: m, hm.cons_cons s, ?_⟩
      show downs k n (downed k n w s) l = run k n (stepped k n w s) m
      have : downed k n w s = stepped k n w s := if_pos hc
      rw [this]
      exact e
    · obtain ⟨m, hm, e⟩ := downs_sub (k := k) (n := n) l w
      refine ⟨m, List.Sublist.cons s hm, ?_⟩
      show downs k n (downed k n w s) l = run k n w m
      have : downed k n w s = w := if_neg hc
      rw [this]
      exact e
theorem part_of {k : Nm} {n : Nat} {l x : List Int} (hK : okK k n = true) (hl : ∀ s ∈ l, okS k n s) (hx : Form k n x) (h : Beneath k n x (gains k n (startL k n) l)) : ∃ m, m.Sublist l ∧ run k n (startL k n) m = x := by
  have e := (beneath_row hK hl hx).mp h
  obtain ⟨m, hm, e2⟩ := downs_sub (k := k) (n := n) l.reverse x
  rw [e] at e2
  have hmo : ∀ s ∈ m, okS k n s := fun s hs => rev_ok hl s (hm.subset hs)
  have := run_rev hK hmo hx.1
  rw [← e2] at this
  refine ⟨m.reverse, ?_, this⟩
  have := hm.reverse
  rw [List.reverse_reverse] at this
  exact this
theorem Least.rev {k : Nm} {n : Nat} {v l : List Int} (hK : okK k n = true) (h : Least k n v l) : Least k n (invP k n v) l.reverse := by
  obtain ⟨hl, e, c⟩ := h
  have hO : Ord k n v := ⟨l, hl, e.symm⟩
  refine ⟨rev_ok hl, ?_, by rw [List.length_reverse, cr_inv hK hO]; exact c⟩
  rw [← inv_run hK hl, e]
theorem inv_form {k : Nm} {n : Nat} {v : List Int} (hK : okK k n = true) (hv : Form k n v) : Form k n (invP k n v) := ((form_ord hK hv).inv hK).1.form hK
theorem inv_inv {k : Nm} {n : Nat} {v : List Int} (hK : okK k n = true) (hv : Form k n v) : invP k n (invP k n v) = v := ((form_ord hK hv).inv hK).2
theorem sub_ok {k : Nm} {n : Nat} {m l : List Int} (h : m.Sublist l) (hl : ∀ s ∈ l, okS k n s) : ∀ s ∈ m, okS k n s := fun s hs => hl s (h.subset hs)
theorem beneath_inv_row {k : Nm} {n : Nat} {l x : List Int} (hK : okK k n = true) (hl : ∀ s ∈ l, okS k n s) (hx : Form k n x) (h : Beneath k n x (gains k n (startL k n) l)) : Beneath k n (invP k n x) (gains k n (startL k n) l.reverse) := by
  obtain ⟨m, hm, e⟩ := part_of hK hl hx h
  have hmo := sub_ok hm hl
  rw [← e, inv_run hK hmo]
  exact part_beneath hK hm.reverse (rev_ok hl) (form_start hK) (form_start hK) (Beneath.refl _)
theorem beneath_inv1 {k : Nm} {n : Nat} {x v : List Int} (hK : okK k n = true) (hx : Form k n x) (hv : Form k n v) (h : Beneath k n x v) : Beneath k n (invP k n x) (invP k n v) := by
  obtain ⟨l, hl⟩ := least_of hK hv
  rw [← hl.gains hK] at h
  have := beneath_inv_row hK hl.1 hx h
  rw [(hl.rev hK).gains hK] at this
  exact this
theorem beneath_inv {k : Nm} {n : Nat} {x v : List Int} (hK : okK k n = true) (hx : Form k n x) (hv : Form k n v) : Beneath k n (invP k n x) (invP k n v) ↔ Beneath k n x v := by
  refine ⟨fun h => ?_, beneath_inv1 hK hx hv⟩
  have := beneath_inv1 hK (inv_form hK hx) (inv_form hK hv) h
  rw [inv_inv hK hx, inv_inv hK hv] at this
  exact this
theorem dem_row {k : Nm} {n : Nat} {u v lu lv : List Int} (hK : okK k n = true) (hu : Least k n u lu) (hv : Least k n v lv) : gains k n (startL k n) (lu ++ lv) = dem k n u v := by
  have hF : Form k n u := by rw [← hu.2.1]; exact (run_form hK hu.1 (form_start hK)).1
  rw [gains_append, hu.gains hK]
  exact dem_eq hK hF hv
theorem app_ok {k : Nm} {n : Nat} {l m : List Int} (hl : ∀ s ∈ l, okS k n s) (hm : ∀ s ∈ m, okS k n s) : ∀ s ∈ l ++ m, okS k n s := fun s hs => by
  rcases List.mem_append.mp hs with h | h
  · exact hl s h
  · exact hm s h
theorem dem_inv_le {k : Nm} {n : Nat} {u v : List Int} (hK : okK k n = true) (hu : Form k n u) (hv : Form k n v) : Beneath k n (invP k n (dem k n u v)) (dem k n (invP k n v) (invP k n u)) := by
  obtain ⟨lu, hlu⟩ := least_of hK hu
  obtain ⟨lv, hlv⟩ := least_of hK hv
  have h := beneath_inv_row hK (app_ok hlu.1 hlv.1) (dem_form hK hu hv) (by rw [dem_row hK hlu hlv]; exact Beneath.refl _)
  rw [List.reverse_append, dem_row hK (hlv.rev hK) (hlu.rev hK)] at h
  exact h
/-- the opposite of a greedy product -/
theorem dem_inv {k : Nm} {n : Nat} {u v : List Int} (hK : okK k n = true) (hu : Form k n u) (hv : Form k n v) : invP k n (dem k n u v) = dem k n (invP k n v) (invP k n u) := by
  have hd := dem_form hK hu hv
  have hd' := dem_form hK (inv_form hK hv) (inv_form hK hu)
  refine beneath_eq hK (inv_form hK hd) hd' (dem_inv_le hK hu hv) ?_
  have h := dem_inv_le hK (inv_form hK hv) (inv_form hK hu)
  rw [inv_inv hK hu, inv_inv hK hv] at h
  have h2 := beneath_inv1 hK (inv_form hK hd') hd h
  rw [inv_inv hK hd'] at h2
  exact h2
theorem dem_assoc {k : Nm} {n : Nat} {u v x : List Int} (hK : okK k n = true) (hu : Form k n u) (hv : Form k n v) (hx : Form k n x) : dem k n (dem k n u v) x = dem k n u (dem k n v x) := by
  obtain ⟨lv, hlv⟩ := least_of hK hv
  obtain ⟨lx, hlx⟩ := least_of hK hx
  have hd := dem_form hK hv hx
  rw [← dem_eq hK hv hlx] at hd
  obtain ⟨lz, hlz⟩ := least_of hK hd
  have := greedy_assoc hK hu hlv hlx hlz
  rw [dem_eq hK hu hlv, dem_eq hK (dem_form hK hu hv) hlx, dem_eq hK hu hlz, dem_eq hK hv hlx] at this
  exact this
theorem take_succ_ {w : List Int} {i : Nat} {z : Int} (e : w[i]? = some z) : w.take (i + 1) = w.take i ++ [z] := by rw [List.take_add_one, e]; rfl
theorem downs_take {k : Nm} {n : Nat} {w l : List Int} {i : Nat} (h : i < l.length) : downs k n w (l.take (i + 1)) = downed k n (downs k n w (l.take i)) (l.getD i 0) := by
  have e : l[i]? = some (l.getD i 0) := by rw [List.getD_eq_getElem?_getD, List.getElem?_eq_getElem h]; rfl
  rw [take_succ_ e]
  unfold downs
  rw [List.foldl_append]
  rfl
theorem downed_len {k : Nm} {n : Nat} {w : List Int} {s : Int} (h : w.length = n) : (downed k n w s).length = n := by
  unfold downed
  split
  · exact stepped_len _ _ _ _
  · exact h
theorem downs_len {k : Nm} {n : Nat} : ∀ {l w : List Int}, w.length = n → (downs k n w l).length = n
  | [], _, h => h
  | s :: l, w, h => downs_len (l := l) (w := downed k n w s) (downed_len h)
/-- what is lacking behind x for g -/
noncomputable def lack (k : Nm) (n : Nat) (x g : List Int) : List Int := by
  classical
  exact if h : ∃ l, Least k n x l then invP k n (downs k n (invP k n g) h.choose) else []
theorem lack_adj0 {k : Nm} {n : Nat} {x g y l : List Int} (hK : okK k n = true) (hl : Least k n x l) (hx : Form k n x) (hg : Form k n g) (hy : Form k n y) :
    Beneath k n (invP k n (downs k n (invP k n g) l)) y ↔ Beneath k n g (dem k n x y) := by
  have hd := downs_form hK hl.1 (inv_form hK hg)
  rw [← beneath_inv hK (inv_form hK hd) hy, inv_inv hK hd]
  have h1 := adj (l := l.reverse) hK (rev_ok hl.1) (inv_form hK hg) (inv_form hK hy)
  rw [List.reverse_reverse] at h1
  rw [← h1, dem_eq hK (inv_form hK hy) (hl.rev hK), ← dem_inv hK hx hy, beneath_inv hK hg (dem_form hK hx hy)]
theorem lack_uniq {k : Nm} {n : Nat} {a b : List Int} (hK : okK k n = true) (ha : Form k n a) (hb : Form k n b) (h : ∀ y, Form k n y → (Beneath k n a y ↔ Beneath k n b y)) : a = b :=
  beneath_eq hK ha hb ((h b hb).mpr (Beneath.refl _)) ((h a ha).mp (Beneath.refl _))
theorem lack_eq {k : Nm} {n : Nat} {x g l : List Int} (hK : okK k n = true) (hl : Least k n x l) (hg : Form k n g) : invP k n (downs k n (invP k n g) l) = lack k n x g := by
  have hx : Form k n x := by rw [← hl.2.1]; exact (run_form hK hl.1 (form_start hK)).1
  unfold lack
  have h : ∃ l, Least k n x l := ⟨l, hl⟩
  rw [dif_pos h]
  have f1 := inv_form hK (downs_form hK hl.1 (inv_form hK hg))
  have f2 := inv_form hK (downs_form hK h.choose_spec.1 (inv_form hK hg))
  exact lack_uniq hK f1 f2 fun y hy => (lack_adj0 hK hl hx hg hy).trans (lack_adj0 hK h.choose_spec hx hg hy).symm
theorem lack_form {k : Nm} {n : Nat} {x g : List Int} (hK : okK k n = true) (hx : Form k n x) (hg : Form k n g) : Form k n (lack k n x g) := by
  obtain ⟨l, hl⟩ := least_of hK hx
  rw [← lack_eq hK hl hg]
  exact inv_form hK (downs_form hK hl.1 (inv_form hK hg))
/-- THE FACT: what is lacking lies beneath just what brings the goal beneath -/
theorem lack_adj {k : Nm} {n : Nat} {x g y : List Int} (hK : okK k n = true) (hx : Form k n x) (hg : Form k n g) (hy : Form k n y) : Beneath k n (lack k n x g) y ↔ Beneath k n g (dem k n x y) := by
  obtain ⟨l, hl⟩ := least_of hK hx
  rw [← lack_eq hK hl hg]
  exact lack_adj0 hK hl hx hg hy
theorem least_start {k : Nm} {n : Nat} (hK : okK k n = true) : Least k n (startL k n) [] := ⟨(fun s h => by cases h), rfl, by rw [cr_start hK]; rfl⟩
theorem dem_startR {k : Nm} {n : Nat} {x : List Int} (hK : okK k n = true) (hx : Form k n x) : dem k n x (startL k n) = x := (dem_eq hK hx (least_start hK)).symm
theorem dem_startLf {k : Nm} {n : Nat} {x : List Int} (hK : okK k n = true) (hx : Form k n x) : dem k n (startL k n) x = x := by
  obtain ⟨l, hl⟩ := least_of hK hx
  rw [← dem_eq hK (form_start hK) hl]
  exact hl.gains hK
theorem lack_none {k : Nm} {n : Nat} {x g : List Int} (hK : okK k n = true) (hx : Form k n x) (hg : Form k n g) : lack k n x g = startL k n ↔ Beneath k n g x := by
  have h := lack_adj hK hx hg (form_start hK)
  rw [dem_startR hK hx] at h
  rw [← h]
  exact (beneath_start hK (lack_form hK hx hg)).symm
theorem lack_dem {k : Nm} {n : Nat} {x y g : List Int} (hK : okK k n = true) (hx : Form k n x) (hy : Form k n y) (hg : Form k n g) : lack k n (dem k n x y) g = lack k n y (lack k n x g) := by
  have hd := dem_form hK hx hy
  have hl := lack_form hK hx hg
  refine lack_uniq hK (lack_form hK hd hg) (lack_form hK hy hl) fun z hz => ?_
  rw [lack_adj hK hd hg hz, lack_adj hK hy hl hz, lack_adj hK hx hg (dem_form hK hy hz), dem_assoc hK hx hy hz]
theorem lack_full {k : Nm} {n : Nat} {x g : List Int} (hK : okK k n = true) (hx : Form k n x) (hg : Form k n g) : Beneath k n g (dem k n x (lack k n x g)) := (lack_adj hK hx hg (lack_form hK hx hg)).mp (Beneath.refl _)
theorem lack_of_start {k : Nm} {n : Nat} {g : List Int} (hK : okK k n = true) (hg : Form k n g) : lack k n (startL k n) g = g := by
  refine lack_uniq hK (lack_form hK (form_start hK) hg) hg fun y hy => ?_
  rw [lack_adj hK (form_start hK) hg hy, dem_startLf hK hy]
theorem lack_for_start {k : Nm} {n : Nat} {x : List Int} (hK : okK k n = true) (hx : Form k n x) : lack k n x (startL k n) = startL k n := (lack_none hK hx (form_start hK)).mpr (start_beneath hK hx)
theorem downs_cr {k : Nm} {n : Nat} (hK : okK k n = true) : ∀ {l w : List Int}, (∀ s ∈ l, okS k n s) → Form k n w → crP k n (downs k n w l) ≤ crP k n w ∧ crP k n w ≤ crP k n (downs k n w l) + (l.length : Int)
  | [], w, _, _ => by constructor <;> (show _ ≤ _; simp [downs])
  | s :: l, w, hl, h => by
    have hs := hl s List.mem_cons_self
    have h1 := cr_stepI hK hs h
    have h2 := downs_cr hK (l := l) (w := downed k n w s) (fun t ht => hl t (List.mem_cons_of_mem _ ht)) (downed_form hK hs h)
    show crP k n (downs k n (downed k n w s) l) ≤ _ ∧ _ ≤ crP k n (downs k n (downed k n w s) l) + _
    rw [List.length_cons]
    have h3 : crP k n (downed k n w s) ≤ crP k n w ∧ crP k n w ≤ crP k n (downed k n w s) + 1 := by
      unfold downed
      split
      · rename_i hc
        have := h1.1
        rw [if_pos hc] at this
        omega
      · omega
    omega
theorem lack_cr {k : Nm} {n : Nat} {x g : List Int} (hK : okK k n = true) (hx : Form k n x) (hg : Form k n g) : crP k n (lack k n x g) ≤ crP k n g ∧ crP k n g ≤ crP k n (lack k n x g) + crP k n x := by
  obtain ⟨l, hl⟩ := least_of hK hx
  rw [← lack_eq hK hl hg]
  have f := downs_form hK hl.1 (inv_form hK hg)
  have c := downs_cr hK hl.1 (inv_form hK hg)
  rw [cr_inv hK (form_ord hK f)]
  rw [cr_inv hK (form_ord hK hg)] at c
  have := hl.2.2
  omega
theorem beneath_cr {k : Nm} {n : Nat} {x v : List Int} (hK : okK k n = true) (hx : Form k n x) (hv : Form k n v) (h : Beneath k n x v) : crP k n x ≤ crP k n v := by
  obtain ⟨l, hl⟩ := least_of hK hv
  have e := (beneath_least hK hl hx).mp h
  have c := (downs_cr hK (rev_ok hl.1) hx).2
  rw [e, cr_start hK, List.length_reverse] at c
  have := hl.2.2
  omega
/-- what is less than what is lacking does not do -/
theorem lack_min {k : Nm} {n : Nat} {x g y : List Int} (hK : okK k n = true) (hx : Form k n x) (hg : Form k n g) (hy : Form k n y) (hc : crP k n y < crP k n (lack k n x g)) : ¬ Beneath k n g (dem k n x y) := fun h => by
  have := beneath_cr hK (lack_form hK hx hg) hy ((lack_adj hK hx hg hy).mpr h)
  omega
/-- what is lacking ahead of x -/
noncomputable def lackA (k : Nm) (n : Nat) (x g : List Int) : List Int := invP k n (lack k n (invP k n x) (invP k n g))
theorem lackA_form {k : Nm} {n : Nat} {x g : List Int} (hK : okK k n = true) (hx : Form k n x) (hg : Form k n g) : Form k n (lackA k n x g) := inv_form hK (lack_form hK (inv_form hK hx) (inv_form hK hg))
theorem lackA_adj {k : Nm} {n : Nat} {x g y : List Int} (hK : okK k n = true) (hx : Form k n x) (hg : Form k n g) (hy : Form k n y) : Beneath k n (lackA k n x g) y ↔ Beneath k n g (dem k n y x) := by
  unfold lackA
  have hl := lack_form hK (inv_form hK hx) (inv_form hK hg)
  rw [← beneath_inv hK (inv_form hK hl) hy, inv_inv hK hl, lack_adj hK (inv_form hK hx) (inv_form hK hg) (inv_form hK hy), ← dem_inv hK hy hx, beneath_inv hK hg (dem_form hK hy hx)]
theorem lack_lackA {k : Nm} {n : Nat} {x y g : List Int} (hK : okK k n = true) (hx : Form k n x) (hy : Form k n y) (hg : Form k n g) : lackA k n y (lack k n x g) = lack k n x (lackA k n y g) := by
  have h1 := lack_form hK hx hg
  have h2 := lackA_form hK hy hg
  refine lack_uniq hK (lackA_form hK hy h1) (lack_form hK hx h2) fun z hz => ?_
  rw [lackA_adj hK hy h1 hz, lack_adj hK hx hg (dem_form hK hz hy), lack_adj hK hx h2 hz, lackA_adj hK hy hg (dem_form hK hx hz), dem_assoc hK hx hz hy]
end Sv

namespace Sv
open PySem PySem.Spec PyProof.Rows L2
section
variable {P : Program} {w : World} {K : PySem.W.Frag} {mg : Str → Option Value} {base : Heap} {f C D : Addr} {fd : FuncData}
def spLack (K : PySem.W.Frag) (C : Addr) : Sp := fun vs H Q _ => ∃ (p o u : Addr) (k : Nm) (n : Nat) (ws us : List Int), vs = [.ref p, .ref o, .ref u] ∧ KO K C H p o k n ws ∧ SqL K H u (us.map V.int) ∧ Form k n ws ∧ Form k n us ∧ crP k n ws ≤ 500 ∧
  ∀ q H', Same H H' → H q = none → H' q = some (.lst ((lack k n ws us).map V.int)) → Q (.ref q) H'
def spLackA (K : PySem.W.Frag) (C : Addr) : Sp := fun vs H Q _ => ∃ (p o u : Addr) (k : Nm) (n : Nat) (ws us : List Int), vs = [.ref p, .ref o, .ref u] ∧ KO K C H p o k n ws ∧ SqL K H u (us.map V.int) ∧ Form k n ws ∧ Form k n us ∧ crP k n ws ≤ 500 ∧
  ∀ q H', Same H H' → H q = none → H' q = some (.lst ((lackA k n ws us).map V.int)) → Q (.ref q) H'
def spLack2 (K : PySem.W.Frag) (C : Addr) (g : Nm → Nat → List Int → List Int → List Int) : Sp := fun vs H Q _ => ∃ (p o u : Addr) (k : Nm) (n : Nat) (ws us : List Int), vs = [.ref p, .ref o, .ref u] ∧ KO K C H p o k n ws ∧ SqL K H u (us.map V.int) ∧ Form k n ws ∧ crP k n ws ≤ 60 ∧ Form k n us ∧ crP k n us ≤ 60 ∧
  ∀ q H', Same H H' → H q = none → H' q = some (.lst ((g k n ws us).map V.int)) → Q (.ref q) H'
def spOpp2 (K : PySem.W.Frag) (C : Addr) : Sp := fun vs H Q _ => ∃ (p o : Addr) (k : Nm) (n : Nat) (ws : List Int), vs = [.ref p, .ref o] ∧ KO K C H p o k n ws ∧ Form k n ws ∧ crP k n ws ≤ 60 ∧ ∀ q H', Same H H' → H q = none → H' q = some (.lst ((invP k n ws).map V.int)) → Q (.ref q) H'
noncomputable def lackB (k : Nm) (n : Nat) (x y g : List Int) : List Int := lackA k n y (lack k n x g)
def spLackB (K : PySem.W.Frag) (C : Addr) : Sp := fun vs H Q _ => ∃ (p o u v : Addr) (k : Nm) (n : Nat) (ws us ys : List Int), vs = [.ref p, .ref o, .ref u, .ref v] ∧ KO K C H p o k n ws ∧ SqL K H u (us.map V.int) ∧ SqL K H v (ys.map V.int) ∧ Form k n ws ∧ crP k n ws ≤ 60 ∧ Form k n us ∧ crP k n us ≤ 60 ∧ Form k n ys ∧ crP k n ys ≤ 60 ∧
  ∀ q H', Same H H' → H q = none → H' q = some (.lst ((lackB k n ws us ys).map V.int)) → Q (.ref q) H'
end
end Sv

/-! Halves of greedy products, all facts together: by the verifier, plain mathematics. -/
namespace Sv
open PySem L2
structure Halves (k : Nm) (n : Nat) (ws us d pt rs : List Int) : Prop where
  formD : Form k n d
  formP : Form k n pt
  formR : Form k n rs
  one : prodP k n ws rs = d
  two : prodP k n pt us = d
  crP_ : crP k n pt + crP k n us = crP k n d
  crR : crP k n ws + crP k n rs = crP k n d
  beP : Beneath k n pt ws
  beR : Beneath k n rs us
theorem run_cr {k : Nm} {n : Nat} (hK : okK k n = true) {l w : List Int} (hl : ∀ s ∈ l, okS k n s) (hF : Form k n w) : crP k n (run k n w l) ≤ crP k n w + (l.length : Int) := (run_form hK hl hF).2
theorem prod_cr {k : Nm} {n : Nat} (hK : okK k n = true) {w u : List Int} (hw : Form k n w) (hu : Form k n u) : crP k n (prodP k n w u) ≤ crP k n w + crP k n u := by
  obtain ⟨l, hl⟩ := least_of hK hw
  obtain ⟨m, hm⟩ := least_of hK hu
  have e := prod_rows hK hl.1 hm.1
  rw [hl.2.1, hm.2.1] at e
  rw [e, run_append, hl.2.1]
  have := run_cr hK hm.1 hw
  rw [hm.2.2] at this
  exact this
theorem halves_all {k : Nm} {n : Nat} {ws us : List Int} (hK : okK k n = true) (hw : Form k n ws) (hu : Form k n us) :
    Halves k n ws us (dem k n ws us) (prodP k n (dem k n ws us) (invP k n us)) (prodP k n (invP k n ws) (dem k n ws us)) := by
  obtain ⟨lw, hlw⟩ := least_of hK hw
  obtain ⟨lu, hlu⟩ := least_of hK hu
  have hD := dem_form hK hw hu
  have hd := dem_eq hK hw hlu
  -- the rest
  have g := gsub_run hK hlu.1 hw
  have gs := gsub_sub (k := k) (n := n) lu ws
  have go := sub_ok gs hlu.1
  rw [hd] at g
  have er : prodP k n (invP k n ws) (dem k n ws us) = run k n (startL k n) (gsub k n ws lu) := by
    rw [← g.1]
    exact rest_eq hK hw go
  have fr := run_form hK go (form_start hK)
  rw [cr_start hK] at fr
  have one : prodP k n ws (run k n (startL k n) (gsub k n ws lu)) = dem k n ws us := by
    have e := prod_rows hK hlw.1 go
    rw [hlw.2.1] at e
    rw [e, run_append, hlw.2.1, g.1]
  have crR : crP k n ws + crP k n (run k n (startL k n) (gsub k n ws lu)) = crP k n (dem k n ws us) := by
    have h1 := prod_cr hK hw fr.1
    rw [one] at h1
    have := g.2
    omega
  have beR : Beneath k n (run k n (startL k n) (gsub k n ws lu)) us := by
    have := part_beneath hK gs hlu.1 (form_start hK) (form_start hK) (Beneath.refl _)
    rw [hlu.gains hK] at this
    exact this
  -- the part
  obtain ⟨m, hm, L⟩ := part_ex hK hlu hlw.1
  rw [dem_row hK hlw hlu] at L
  have mo := sub_ok hm hlw.1
  have fp := run_form hK mo (form_start hK)
  rw [cr_start hK] at fp
  have two : prodP k n (run k n (startL k n) m) us = dem k n ws us := by
    have e := prod_rows hK mo hlu.1
    rw [hlu.2.1] at e
    rw [e, L.2.1]
  have ep : prodP k n (dem k n ws us) (invP k n us) = run k n (startL k n) m := by
    have e := prod_rows hK L.1 (rev_ok hlu.1)
    rw [L.2.1, ← inv_run hK hlu.1, hlu.2.1] at e
    rw [e, List.append_assoc, run_append, run_append, run_rev hK hlu.1 (run_len (startL_len _ _))]
  have crL := L.2.2
  rw [List.length_append] at crL
  have crQ : crP k n (run k n (startL k n) m) + crP k n us = crP k n (dem k n ws us) := by
    have h1 := prod_cr hK fp.1 hu
    rw [two] at h1
    have := hlu.2.2
    omega
  have beP : Beneath k n (run k n (startL k n) m) ws := by
    have := part_beneath hK hm hlw.1 (form_start hK) (form_start hK) (Beneath.refl _)
    rw [hlw.gains hK] at this
    exact this
  rw [er, ep]
  exact ⟨hD, fp.1, fr.1, one, two, crQ, crR, beP, beR⟩
theorem lost_none {k : Nm} {n : Nat} {ws us : List Int} (hK : okK k n = true) (hw : Form k n ws) (hu : Form k n us) :
    crP k n ws + crP k n us - crP k n (dem k n ws us) = 0 ↔ prodP k n ws us = dem k n ws us := by
  obtain ⟨lw, hlw⟩ := least_of hK hw
  obtain ⟨lu, hlu⟩ := least_of hK hu
  have hd := dem_eq hK hw hlu
  have g := gsub_run hK hlu.1 hw
  have gs := gsub_sub (k := k) (n := n) lu ws
  rw [hd] at g
  have ep : prodP k n ws us = run k n ws lu := by
    have e := prod_rows hK hlw.1 hlu.1
    rw [hlw.2.1, hlu.2.1] at e
    rw [e, run_append, hlw.2.1]
  constructor
  · intro h
    have hl : (gsub k n ws lu).length = lu.length := by
      have := hlu.2.2
      omega
    have e := gs.eq_of_length hl
    rw [ep, ← g.1, e]
  · intro h
    have H := halves_all hK hw hu
    have e1 : prodP k n (invP k n ws) (prodP k n ws us) = us := by
      rw [ep, rest_eq hK hw hlu.1, hlu.2.1]
    rw [h] at e1
    have := H.crR
    rw [e1] at this
    omega
end Sv

/-! Plain and mirror orders turned about by the greatest one: by the verifier, plain mathematics. -/
namespace Sv
open PySem L2
def flx (k : Nm) (n : Nat) (x : Int) : Int := if k = .mi then -x else (n : Int) - 1 - x
def flipL (k : Nm) (n : Nat) (w : List Int) : List Int := w.map (flx k n)
theorem flx_flx (k : Nm) (n : Nat) (x : Int) : flx k n (flx k n x) = x := by
  unfold flx
  split <;> omega
theorem flipL_flipL (k : Nm) (n : Nat) (w : List Int) : flipL k n (flipL k n w) = w := by
  unfold flipL
  rw [List.map_map]
  conv => rhs; rw [← List.map_id w]
  exact List.map_congr_left fun x _ => flx_flx k n x
theorem flipL_len (k : Nm) (n : Nat) (w : List Int) : (flipL k n w).length = w.length := List.length_map _
theorem flip_getD (k : Nm) (n : Nat) (w : List Int) {i : Nat} (h : i < w.length) : (flipL k n w).getD i 0 = flx k n (w.getD i 0) := by
  unfold flipL
  rw [List.getD_eq_getElem?_getD, List.getElem?_map, List.getD_eq_getElem?_getD, List.getElem?_eq_getElem h]
  rfl
theorem flip_form {k : Nm} (hk : k ≠ .ri) {n : Nat} {w : List Int} (hF : Form k n w) : Form k n (flipL k n w) := by
  refine ⟨by rw [flipL_len]; exact hF.1, ?_⟩
  cases k with
  | ri => exact absurd rfl hk
  | mi =>
    have e : (flipL .mi n w).map absI = w.map absI := by
      unfold flipL
      rw [List.map_map]
      refine List.map_congr_left fun x _ => ?_
      show absI (flx .mi n x) = absI x
      unfold absI flx
      rw [if_pos rfl]
      (repeat' split) <;> omega
    show ((flipL .mi n w).map absI).Perm (startL .mi n)
    rw [e]
    exact hF.2
  | pl =>
    have h : w.Perm (startL .pl n) := hF.2
    show (flipL .pl n w).Perm (startL .pl n)
    refine (h.map (flx .pl n)).trans ?_
    have e : (startL .pl n).map (flx .pl n) = (startL .pl n).reverse := by
      refine List.ext_getElem (by rw [List.length_map, List.length_reverse]) fun i h1 h2 => ?_
      rw [List.length_map, startL_len] at h1
      rw [List.getElem_map, List.getElem_reverse]
      have a : (startL .pl n)[i]'(by rw [startL_len]; exact h1) = off .pl + (i : Int) := by
        have := startL_get .pl n i h1
        rw [List.getElem?_eq_getElem (by rw [startL_len]; exact h1)] at this
        exact Option.some.inj this
      have hj : (startL .pl n).length - 1 - i < n := by rw [startL_len]; omega
      have b : (startL .pl n)[(startL .pl n).length - 1 - i]'(by rw [startL_len] at hj ⊢; exact hj) = off .pl + (((startL .pl n).length - 1 - i : Nat) : Int) := by
        have := startL_get .pl n _ hj
        rw [List.getElem?_eq_getElem (by rw [startL_len] at hj ⊢; exact hj)] at this
        exact Option.some.inj this
      rw [a, b, startL_len]
      show (n : Int) - 1 - (0 + (i : Int)) = 0 + _
      omega
    rw [e]
    exact List.reverse_perm _
theorem pl_distinct {n : Nat} {w : List Int} (hF : Form .pl n w) {i : Nat} (h : i + 1 < w.length) : w.getD i 0 ≠ w.getD (i + 1) 0 := by
  obtain ⟨l, x, y, r, rfl, rfl⟩ := split2 h
  rw [getD_l, getD_l1]
  exact pl_ne hF
theorem mi_distinct {n : Nat} {w : List Int} (hF : Form .mi n w) {i : Nat} (h : i + 1 < w.length) : w.getD i 0 ≠ w.getD (i + 1) 0 := by
  obtain ⟨l, x, y, r, rfl, rfl⟩ := split2 h
  rw [getD_l, getD_l1]
  intro e
  exact mi_ne hF (by rw [e])
theorem mi_nz {n : Nat} {w : List Int} (hF : Form .mi n w) (h : 0 < w.length) : w.getD 0 0 ≠ 0 := by
  cases w with
  | nil => cases h
  | cons x m => exact (mi_all hF).2
theorem flip_crossed {k : Nm} (hk : k ≠ .ri) {n : Nat} {w : List Int} {s : Int} (hK : okK k n = true) (hs : okS k n s) (hF : Form k n w) : crossed k n (flipL k n w) s = !crossed k n w s := by
  obtain ⟨z, rfl⟩ := step_of hs
  have hl := hF.1
  have hn := okK_le hK
  rw [← cross_eq hK hs (by rw [flipL_len]; exact hl), ← cross_eq hK hs hl]
  unfold crossP
  cases k with
  | ri => exact absurd rfl hk
  | pl =>
    have h1 : z + 1 < n := by
      have := hs.2
      unfold many at this
      rw [if_pos rfl] at this
      omega
    have e : ∀ u : List Int, exch .pl n u z = (u.getD z 0, u.getD (z + 1) 0) := fun u => if_pos rfl
    rw [e, e, flip_getD _ _ _ (by omega), flip_getD _ _ _ (by omega)]
    have d := pl_distinct hF (i := z) (by omega)
    unfold flx
    rw [if_neg (by decide), if_neg (by decide)]
    rw [Bool.eq_iff_iff, decide_eq_true_iff, Bool.not_eq_true', decide_eq_false_iff_not]
    show ((n : Int) - 1 - w.getD (z + 1) 0 < (n : Int) - 1 - w.getD z 0) ↔ ¬ (w.getD (z + 1) 0 < w.getD z 0)
    omega
  | mi =>
    have h1 := okS_mi hs
    by_cases h0 : z = 0
    · subst h0
      rw [exch_mi0, exch_mi0, flip_getD _ _ _ (by omega)]
      have d := mi_nz hF (by omega)
      unfold flx
      rw [if_pos rfl]
      rw [Bool.eq_iff_iff, decide_eq_true_iff, Bool.not_eq_true', decide_eq_false_iff_not]
      show (- w.getD 0 0 < -(-w.getD 0 0)) ↔ ¬ (w.getD 0 0 < -(w.getD 0 0))
      omega
    · rw [exch_mis h0, exch_mis h0, flip_getD _ _ _ (by omega), flip_getD _ _ _ (by omega)]
      have d := mi_distinct hF (i := z - 1) (by omega)
      rw [Nat.sub_add_cancel (by omega)] at d
      unfold flx
      rw [if_pos rfl, if_pos rfl]
      rw [Bool.eq_iff_iff, decide_eq_true_iff, Bool.not_eq_true', decide_eq_false_iff_not]
      show (- w.getD z 0 < - w.getD (z - 1) 0) ↔ ¬ (w.getD z 0 < w.getD (z - 1) 0)
      omega
theorem flip_set (k : Nm) (n : Nat) (w : List Int) (i : Nat) (x : Int) : flipL k n (w.set i x) = (flipL k n w).set i (flx k n x) := by
  unfold flipL
  rw [List.map_set]
theorem flip_stepped {k : Nm} (hk : k ≠ .ri) {n : Nat} {w : List Int} {s : Int} (hK : okK k n = true) (hs : okS k n s) (hl : w.length = n) : stepped k n (flipL k n w) s = flipL k n (stepped k n w s) := by
  obtain ⟨z, rfl⟩ := step_of hs
  have hn := okK_le hK
  rw [← after_eq hK hs (by rw [flipL_len]; exact hl), ← after_eq hK hs hl]
  cases k with
  | ri => exact absurd rfl hk
  | pl =>
    have h1 : z + 1 < n := by
      have := hs.2
      unfold many at this
      rw [if_pos rfl] at this
      omega
    rw [after_in (by decide) h1, after_in (by decide) h1, flip_set, flip_set, flip_getD _ _ _ (by omega), flip_getD _ _ _ (by omega)]
  | mi =>
    have h1 := okS_mi hs
    by_cases h0 : z = 0
    · subst h0
      rw [after_mi0, after_mi0, flip_set, flip_getD _ _ _ (by omega)]
      congr 1
    · rw [after_mis h0, after_mis h0, flip_set, flip_set, flip_getD _ _ _ (by omega), flip_getD _ _ _ (by omega)]
theorem flip_down {k : Nm} (hk : k ≠ .ri) {n : Nat} {w : List Int} {s : Int} (hK : okK k n = true) (hs : okS k n s) (hF : Form k n w) : flipL k n (downed k n w s) = gained k n (flipL k n w) s := by
  have c := flip_crossed hk hK hs hF
  unfold downed gained
  cases h : crossed k n w s with
  | true =>
    rw [h] at c
    rw [if_pos rfl, c, if_neg (by decide), flip_stepped hk hK hs hF.1]
  | false =>
    rw [h] at c
    rw [if_neg (by decide), c, if_pos (by decide)]
/-- the greatest order: the start turned about; each order lies beneath it -/
def topL (k : Nm) (n : Nat) : List Int := flipL k n (startL k n)
theorem allcrossed {k : Nm} (hk : k ≠ .ri) {n : Nat} {w : List Int} (hK : okK k n = true) (hF : Form k n w) (h : ∀ s, okS k n s → crossed k n w s = true) : w = topL k n := by
  have f := flip_form hk hF
  have e : flipL k n w = startL k n := nofall hK f fun s hs => by
    rw [cross_eq hK hs f.1, flip_crossed hk hK hs hF, h _ hs]
    rfl
  unfold topL
  rw [← e, flipL_flipL]
theorem flip_beneath {k : Nm} (hk : k ≠ .ri) {n : Nat} (hK : okK k n = true) : ∀ (m : Nat) {l u v : List Int}, l.length = m → Form k n u → Least k n v l → (Beneath k n (flipL k n v) (flipL k n u) ↔ Beneath k n u v)
  | 0, l, u, v, hm, hu, hl => by
    have e : l = [] := List.length_eq_zero_iff.mp hm
    subst e
    have ev : v = startL k n := hl.2.1.symm
    subst ev
    rw [beneath_start hK hu]
    constructor
    · intro h
      have top : ∀ s, okS k n s → crossed k n (flipL k n u) s = true := fun s hs => by
        cases hc : crossed k n (flipL k n u) s with
        | true => rfl
        | false =>
          -- the step would lead above what is greatest
          have st := cr_stepI hK hs (flip_form hk hu)
          rw [hc] at st
          have hb : Beneath k n (stepped k n (flipL k n u) s) (flipL k n u) := by
            have g : gained k n (flipL k n u) s = stepped k n (flipL k n u) s := if_neg (by rw [hc]; decide)
            have F0 := form_start hK
            have top0 : ∀ x, Form k n x → Beneath k n x (flipL k n (startL k n)) := fun x hx => by
              obtain ⟨lx, hlx⟩ := least_of hK hx
              have go : ∀ (r : List Int), (∀ t ∈ r, okS k n t) → gains k n (flipL k n (startL k n)) r = flipL k n (startL k n) := by
                intro r
                induction r with
                | nil => exact fun _ => rfl
                | cons t r ih =>
                  intro hr
                  have ht := hr t List.mem_cons_self
                  have nc : crossed k n (startL k n) t = false := by
                    cases z : crossed k n (startL k n) t with
                    | false => rfl
                    | true =>
                      have := (cr_stepI hK ht F0).1
                      rw [if_pos z, cr_start hK] at this
                      have := cr_nn k n (stepped k n (startL k n) t)
                      omega
                  have c := flip_crossed hk hK ht F0
                  rw [nc] at c
                  show gains k n (gained k n (flipL k n (startL k n)) t) r = _
                  have g : gained k n (flipL k n (startL k n)) t = flipL k n (startL k n) := if_pos (by rw [c]; rfl)
                  rw [g]
                  exact ih fun y hy => hr y (List.mem_cons_of_mem _ hy)
              have h1 := go lx hlx.1
              have hd := dem_eq hK (flip_form hk F0) hlx
              rw [h1] at hd
              have H := halves_all hK (flip_form hk F0) hx
              have b2 := lack_full hK (flip_form hk F0) hx
              -- x lies beneath the greedy product of the greatest and x
              have b3 : Beneath k n x (dem k n (flipL k n (startL k n)) x) := by
                obtain ⟨lt, hlt⟩ := least_of hK (flip_form hk F0)
                have := part_beneath hK (List.sublist_append_right lt lx) (app_ok hlt.1 hlx.1) F0 F0 (Beneath.refl _)
                rw [hlx.2.1, dem_row hK hlt hlx] at this
                exact this
              rw [← hd] at b3
              exact b3
            exact Beneath.trans hK (flip_form hk F0) (top0 _ st.2) h
          have := beneath_cr hK st.2 (flip_form hk hu) hb
          have := st.1
          simp at this
          omega
      have e := allcrossed hk hK (flip_form hk hu) top
      unfold topL at e
      have := congrArg (flipL k n) e
      rw [flipL_flipL, flipL_flipL] at this
      exact this
    · intro h
      rw [h]
      exact Beneath.refl _
  | m + 1, l, u, v, hm, hu, hl => by
    rcases List.eq_nil_or_concat l with rfl | ⟨l', s, rfl⟩
    · simp at hm
    · rw [List.concat_eq_append] at *
      obtain ⟨hs, hF, hl'⟩ := hl.last hK
      have hFd := downed_form hK hs hF
      have hud := downed_form hK hs hu
      have ih := flip_beneath hk hK m (u := downed k n u s) (by simpa using hm) hud hl'
      -- v is its lesser one gained
      have vc : crossed k n v s = true := by
        cases z : crossed k n v s with
        | true => rfl
        | false =>
          have d : downed k n v s = v := if_neg (by rw [z]; decide)
          have := hl'.2.2
          rw [d] at this
          have := hl.2.2
          rw [List.length_append, List.length_singleton] at this
          omega
      have dv : downed k n v s = stepped k n v s := if_pos vc
      have st := cr_stepI hK hs hF
      rw [if_pos vc] at st
      have back := step_step hK hs hF.1
      have nc : ¬ crossed k n (stepped k n v s) s = true := fun z => by
        have := (cr_stepI hK hs st.2).1
        rw [if_pos z, back] at this
        omega
      have gv : gained k n (downed k n v s) s = v := by
        rw [dv]
        unfold gained
        rw [if_neg nc, back]
      have a := adj_one (x := u) (v := downed k n v s) hK hs hu hFd
      rw [gv] at a
      rw [a, ← ih, flip_down hk hK hs hu]
      have b := adj_one (x := flipL k n (downed k n v s)) (v := flipL k n u) hK hs (flip_form hk hFd) (flip_form hk hu)
      rw [b]
      have e : downed k n (flipL k n (downed k n v s)) s = flipL k n v := by
        have c := flip_crossed hk hK hs hFd
        rw [dv] at c ⊢
        unfold downed
        rw [Bool.eq_false_iff.mpr nc] at c
        rw [if_pos (by rw [c]; rfl), flip_stepped hk hK hs st.2.1, back]
      rw [e]
theorem flip_beneathF {k : Nm} (hk : k ≠ .ri) {n : Nat} {u v : List Int} (hK : okK k n = true) (hu : Form k n u) (hv : Form k n v) : Beneath k n (flipL k n v) (flipL k n u) ↔ Beneath k n u v := by
  obtain ⟨l, hl⟩ := least_of hK hv
  exact flip_beneath hk hK _ rfl hu hl
theorem top_form {k : Nm} (hk : k ≠ .ri) {n : Nat} (hK : okK k n = true) : Form k n (topL k n) := flip_form hk (form_start hK)
/-- the greatest order ahead: all turned about -/
theorem top_left {k : Nm} (hk : k ≠ .ri) {n : Nat} {v : List Int} (hK : okK k n = true) (hv : Form k n v) : prodP k n (topL k n) v = flipL k n v := by
  have hn := okK_le hK
  have hT := top_form hk hK
  rw [prodP_eq hv]
  unfold flipL
  refine List.map_congr_left fun x hx => ?_
  have ho := form_okP hv x hx
  obtain ⟨i, hi, e⟩ : ∃ i : Nat, i < n ∧ ((k = .mi ∧ (x = (i : Int) + 1 ∨ x = -((i : Int) + 1))) ∨ (k = .pl ∧ x = (i : Int))) := by
    cases k with
    | ri => exact absurd rfl hk
    | mi =>
      have := ho rfl
      exact ⟨x.natAbs - 1, by omega, .inl ⟨rfl, by omega⟩⟩
    | pl =>
      have hp : v.Perm (startL .pl n) := hv.2
      obtain ⟨i, hi, e⟩ := mem_startL (hp.subset hx)
      exact ⟨i, hi, .inr ⟨rfl, by rw [e]; show 0 + (i : Int) = _; omega⟩⟩
  have g : ∀ j : Nat, j < n → (topL k n).getD j 0 = flx k n (off k + (j : Int)) := fun j hj => by
    unfold topL
    rw [flip_getD _ _ _ (by rw [startL_len]; exact hj), startL_getD k n j hj]
  rcases e with ⟨rfl, e | e⟩ | ⟨rfl, e⟩
  · rw [item_mi, e, show ((i : Int) + 1).natAbs - 1 = i by omega, g i hi, sg_pos (by omega)]
    unfold flx
    rw [if_pos rfl, if_pos rfl]
    show -(1 + (i : Int)) * 1 = _
    omega
  · rw [item_mi, e, show (-((i : Int) + 1)).natAbs - 1 = i by omega, g i hi, sg_neg (by omega)]
    unfold flx
    rw [if_pos rfl, if_pos rfl]
    show -(1 + (i : Int)) * -1 = _
    omega
  · rw [e, item_in (by decide) hi, g i hi]
    unfold flx
    rw [if_neg (by decide), if_neg (by decide)]
    show (n : Int) - 1 - (0 + (i : Int)) = _
    omega
theorem top_inv {k : Nm} (hk : k ≠ .ri) {n : Nat} (hK : okK k n = true) : invP k n (topL k n) = topL k n := by
  obtain ⟨l, hl⟩ := least_of hK (top_form hk hK)
  have e := prod_rows hK hl.1 hl.1
  rw [hl.2.1, top_left hk hK (top_form hk hK)] at e
  unfold topL at e
  rw [flipL_flipL, run_append] at e
  have r := run_rev (w := run k n (startL k n) l) hK hl.1 (run_len (startL_len k n))
  rw [← e] at r
  have f := inv_run hK hl.1
  rw [r, hl.2.1] at f
  exact f
/-- the greatest order behind -/
theorem top_right {k : Nm} (hk : k ≠ .ri) {n : Nat} {v : List Int} (hK : okK k n = true) (hv : Form k n v) : prodP k n v (topL k n) = invP k n (flipL k n (invP k n v)) := by
  obtain ⟨l, hl⟩ := least_of hK (top_form hk hK)
  obtain ⟨lv, hlv⟩ := least_of hK hv
  have e1 := prod_rows hK hlv.1 hl.1
  rw [hlv.2.1, hl.2.1] at e1
  have rv := hlv.rev hK
  have e2 := prod_rows hK hl.1 rv.1
  rw [hl.2.1, rv.2.1, top_left hk hK (inv_form hK hv)] at e2
  rw [e2, inv_run hK (app_ok hl.1 rv.1), List.reverse_append, List.reverse_reverse, e1, run_append, run_append]
  have r1 : run k n (startL k n) l.reverse = run k n (startL k n) l := by
    rw [← inv_run hK hl.1, hl.2.1, top_inv hk hK]
  have e3 := prod_rows hK hlv.1 (rev_ok hl.1)
  have e4 := prod_rows hK hlv.1 hl.1
  rw [r1] at e3
  rw [e4, run_append, run_append] at e3
  exact e3
theorem top_beneath {k : Nm} (hk : k ≠ .ri) {n : Nat} {u v : List Int} (hK : okK k n = true) (hu : Form k n u) (hv : Form k n v) :
    (Beneath k n (prodP k n v (topL k n)) (prodP k n u (topL k n)) ↔ Beneath k n u v) ∧ (Beneath k n (prodP k n (topL k n) v) (prodP k n (topL k n) u) ↔ Beneath k n u v) := by
  have iu := inv_form hK hu
  have iv := inv_form hK hv
  constructor
  · rw [top_right hk hK hu, top_right hk hK hv, beneath_inv hK (flip_form hk iv) (flip_form hk iu), flip_beneathF hk hK iu iv, beneath_inv hK hu hv]
  · rw [top_left hk hK hu, top_left hk hK hv, flip_beneathF hk hK hu hv]
/-- a fall taken off above, and where there is one beneath -/
theorem lift_fall {k : Nm} {n : Nat} {u v : List Int} {s : Int} (hK : okK k n = true) (hs : okS k n s) (hu : Form k n u) (hv : Form k n v) (hc : crossed k n v s = true) : Beneath k n (downed k n u s) (stepped k n v s) ↔ Beneath k n u v := by
  have st := cr_stepI hK hs hv
  rw [if_pos hc] at st
  have back := step_step hK hs hv.1
  have nc : ¬ crossed k n (stepped k n v s) s = true := fun z => by
    have := (cr_stepI hK hs st.2).1
    rw [if_pos z, back] at this
    omega
  have gv : gained k n (stepped k n v s) s = v := by
    unfold gained
    rw [if_neg nc, back]
  have a := adj_one (x := u) (v := stepped k n v s) hK hs hu st.2
  rw [gv] at a
  exact a.symm
theorem ahead_inv {k : Nm} {n : Nat} {w : List Int} {s : Int} (hK : okK k n = true) (hs : okS k n s) (hF : Form k n w) : invP k n (aheadL k n w s) = stepped k n (invP k n w) s ∧ Form k n (aheadL k n w s) := by
  obtain ⟨l, hl⟩ := least_of hK hF
  have e := ahead_run hK hs hl.1
  rw [hl.2.1] at e
  have ho : ∀ t ∈ s :: l, okS k n t := fun t ht => by
    rcases List.mem_cons.mp ht with rfl | h
    · exact hs
    · exact hl.1 t h
  refine ⟨?_, by rw [e]; exact (run_form hK ho (form_start hK)).1⟩
  rw [e, inv_run hK ho, List.reverse_cons, run_snoc, ← inv_run hK hl.1, hl.2.1]
end Sv

namespace Sv
open PySem PySem.Spec PyProof.Rows L2
theorem rev_getD7 {l : List Int} {i : Nat} (h : i < l.length) : l.reverse.getD i 0 = l.getD (l.length - 1 - i) 0 := by
  rw [List.getD_eq_getElem?_getD, List.getElem?_reverse h, List.getD_eq_getElem?_getD]
theorem pairsTo_lenB (w : List Int) : ∀ b : Nat, (pairsTo w b).length ≤ b * b
  | 0 => Nat.le_refl _
  | b + 1 => by
    have h := pairsTo_lenB w b
    show (pairsTo w b ++ rowPairs w b).length ≤ _
    rw [List.length_append]
    have : (rowPairs w b).length = b := by unfold rowPairs; rw [List.length_map, List.length_range]
    rw [this, Nat.mul_add, Nat.add_mul]
    omega
theorem cr_bound {k : Nm} (hk : k ≠ .ri) {n : Nat} {w : List Int} (hn : n ≤ 7) (hl : w.length = n) : crP k n w ≤ 105 := by
  have hp : (pairsL w).length ≤ 49 := by
    have := pairsTo_lenB w w.length
    have e : w.length * w.length ≤ 7 * 7 := Nat.mul_le_mul (by omega) (by omega)
    unfold pairsL
    omega
  have f1 := List.length_filter_le (fun q : Int × Int => decide (q.2 < q.1)) (pairsL w)
  have f2 := List.length_filter_le (fun q : Int × Int => decide (q.1 + q.2 < 0)) (pairsL w)
  have f3 := List.length_filter_le (fun x : Int => decide (x < 0)) w
  unfold crP
  rw [if_neg hk]
  split <;> omega
def opsP (k : Nm) (n : Nat) (w : List Int) (m : Nat) : List Int := ((List.range m).filter fun s => !crossP k n w s).map fun (s : Nat) => (s : Int)
section
variable {P : Program} {w : World} {K : PySem.W.Frag} {mg : Str → Option Value} {base : Heap} {f C D : Addr} {fd : FuncData}
def spPlaces (K : PySem.W.Frag) (C : Addr) : Sp := fun vs H Q _ => ∃ (p o r : Addr) (k : Nm) (n : Nat) (ws l : List Int), vs = [.ref p, .ref o, .ref r] ∧ KO K C H p o k n ws ∧ H o = some (.lst (ws.map V.int)) ∧ Form k n ws ∧ SqL K H r (l.map V.int) ∧ (∀ s ∈ l, okS k n s) ∧ l.length ≤ 500 ∧
  ∀ v H', Same H H' → (v = .non ↔ ¬ downs k n ws l.reverse = startL k n) → Q v H'
theorem ok_places_of (T : Tk K w mg C D) (F : FnP K "places_of" "places_of" s_places_of f fd) (c_is_crossed : Gd P w K mg base "is_crossed" ["kind", "order", "step"] 3 (spCrossP K C)) (c_after_step : Gd P w K mg base "after_step" ["kind", "order", "step"] 3 (spAfter K C)) (c_m_start : Md P w K mg base C "start" ["self"] 1 (spStartM C)) :
    FnOk P w K mg base CX0 4 f fd ["kind", "order", "row"] (spPlaces K C) := by
  refine okN F sc_places_of (fun vs H Q E h => ?_) (fun cdv A outer s H vs Q E hr h => ?_)
  · obtain ⟨p, o, r, k, n, ws, l, rfl, _⟩ := h
    rfl
  · obtain ⟨p, o, r, k, n, ws, l, rfl, hh, hoe, hF, hR, hl, h5, q⟩ := h
    have hn := okK_le hh.ok
    refine ⟨_, (pss_cons (ps_set (i := 3) sc_places_of.nd rfl (by first | exact Or.inl rfl | exact Or.inr rfl) (pe_lst pa_nil))
      (pss_cons (ps_for PassesOwn.never rfl (pi_range3 (by rfl) T.m_range (pa_cons (pe_op op_sub (pe_callB call_len_seq (by rfl) T.m_len (by decide +kernel) (pa_cons (pv 2) pa_nil)) pe_int) (pa_cons (pe_un un_neg pe_int) (pa_cons (pe_un un_neg pe_int) pa_nil)))) (pg_name (i := 4) sc_places_of.nd rfl (Or.inl rfl)) (pss_one (ps_if (pt_val (pe_callG c_is_crossed (hr.mono (by decide)) (by rfl) (pa_cons (pv 0) (pa_cons (pv 1) (pa_cons (pe_ix ix_list (pv 2) (pv 4) (fun _ _ => rfl)) pa_nil))))) (pss_cons (ps_expr (pe_bm PySem.F.plainAttrs_list PySem.F.slot_list_append PySem.F.type_list_append mt_append (pv 3) (pa_cons (pv 4) pa_nil)))
      (pss_one (ps_set (i := 1) sc_places_of.nd rfl (by first | exact Or.inl rfl | exact Or.inr rfl) (pe_callG c_after_step (hr.mono (by decide)) (by rfl) (pa_cons (pv 0) (pa_cons (pv 1) (pa_cons (pe_ix ix_list (pv 2) (pv 4) (fun _ _ => rfl)) pa_nil))))))) pss_nil)))
      (pss_one (ps_ret (pe_ifExp (pt_cmpR (op_eqD hr.units) (pv 1) (pe_methG0 T.cl c_m_start (hr.mono (by decide)) (pv 0)) (nomark _)) (pe_revL (pv 3)) pe_non))))), ?_⟩
    refine ⟨Nat.zero_le _, fun lf nf => ?_⟩
    have u1 := Same.upd (o := .lst []) nf
    have hlf1 : (L2.upd H lf (.lst [])) lf = some (.lst []) := upd_same
    refine ⟨_, rfl, r, _, rfl, .inl (u1.seq hR), _, _, rfl, rfl, _, rfl, _, rfl, _, _, _, l.length, rfl, ?_, ?_⟩
    · have := RgC.neg (i := ((l.map V.int).length : Int) - 1) (j := -1) (by omega) (by rw [List.length_map]; omega) (by omega) (by omega)
      rw [show (((l.map V.int).length : Int) - 1 - -1).toNat = l.length by rw [List.length_map]; omega] at this
      exact this
    rw [List.length_map]
    refine for_rangeC (lo := (l.length : Int) - 1) (c := -1) (n := l.length) (fun i σ H2 => ∃ (fo : Addr) (v : Option V) (qs : List V), σ = [some (.ref p), some (.ref fo), some (.ref r), some (.ref lf), v] ∧ SqL K H2 fo ((downs k n ws (l.reverse.take i)).map V.int) ∧ fo ≠ lf ∧ H2 lf = some (.lst qs) ∧ qs.length ≤ i ∧ Same H H2)
      ⟨o, none, [], rfl, u1.seq hh.ord, ?_, hlf1, Nat.le_refl _, u1⟩ ?_ ?_
    · exact ne_of_none hoe nf
    · rintro i σ H2 hi ⟨fo, v, qs, rfl, hF2, efo, hlf, hql, s2⟩
      have hj : i < l.reverse.length := by rw [List.length_reverse]; exact hi
      have hz := rev_ok hl _ (mem_getD hj)
      rw [downs_take hj]
      have eg := rev_getD7 hi
      have hat : atI (l.map V.int) ((l.length : Int) - 1 + (i : Int) * -1) = some (.int (l.getD (l.length - 1 - i) 0)) := at_of (j := l.length - 1 - i) (by omega) (map_getD (by omega))
      rw [← eg] at hat
      generalize l.reverse.getD i 0 = z at hz hat
      obtain ⟨t, rfl⟩ := step_of hz
      have hlen : (downs k n ws (l.reverse.take i)).length = n := downs_len hh.len
      have k2 : KO K C H2 p fo k n (downs k n ws (l.reverse.take i)) := ⟨hh.kat.keep s2, hF2, hlen, hh.ok⟩
      refine ⟨_, rfl, _, rfl, _, rfl, _, rfl, r, _, _, _, rfl, rfl, s2.seq hR, hat, p, fo, k, n, _, t, rfl, k2.st hz, fun H3 s3 => ⟨_, rfl, ?_⟩⟩
      rw [cross_eq hh.ok hz hlen]
      have hlf3 := s3 _ _ hlf
      refine ite2 (fun hc => ?_) (fun hc => ?_)
      · refine ⟨_, rfl, .inl ⟨rfl, _, SqL.of hlf3⟩, _, rfl, lf, _, _, rfl, rfl, hlf3, small1000 (by omega), ?_⟩
        have xf : SameX lf H3 (L2.upd H3 lf (.lst (qs ++ [.int ((l.length : Int) - 1 + (i : Int) * -1)]))) := SameX.upd
        have s4 := Same_updD (o := .lst (qs ++ [.int ((l.length : Int) - 1 + (i : Int) * -1)])) (s2.trans s3) nf
        have hlf4 : (L2.upd H3 lf (.lst (qs ++ [.int ((l.length : Int) - 1 + (i : Int) * -1)]))) lf = some (.lst (qs ++ [.int ((l.length : Int) - 1 + (i : Int) * -1)])) := upd_same
        have k4 : KO K C _ p fo k n (downs k n ws (l.reverse.take i)) := ⟨hh.kat.keep s4, xf.seq efo (s3.seq hF2), hlen, hh.ok⟩
        refine ⟨_, rfl, _, rfl, _, rfl, _, rfl, r, _, _, _, rfl, rfl, s4.seq hR, hat, p, fo, k, n, _, t, rfl, k4.st hz, fun b H5 s5 nb hb => ?_⟩
        rw [after_eq hh.ok hz hlen] at hb
        refine ⟨b, _, _, rfl, ?_, (ne_of_none hlf4 nb).symm, s5 _ _ hlf4, by rw [List.length_append, List.length_singleton]; omega, s4.trans s5⟩
        unfold downed
        rw [if_pos hc]
        exact SqL.of hb
      · refine ⟨fo, _, qs, rfl, ?_, efo, hlf3, by omega, s2.trans s3⟩
        unfold downed
        rw [if_neg hc]
        exact s3.seq hF2
    · rintro σ H2 ⟨fo, v, qs, rfl, hF2, efo, hlf, hql, s2⟩
      rw [show l.reverse.take l.length = l.reverse by rw [← List.length_reverse, List.take_length]] at hF2
      obtain ⟨dx, hp2⟩ := hh.kat.keep s2
      refine ⟨_, rfl, _, rfl, p, dx, _, rfl, hp2, noM, p, k, n, rfl, ⟨dx, hp2⟩, by omega, fun ls ns => ?_⟩
      have us := Same.upd (o := .lst ((startL k n).map V.int)) ns
      refine ⟨_, _, dp_list (us.seq hF2), dp_list (SqL.of upd_same), shaped_ints _, shaped_ints _, _, rfl, ?_⟩
      rw [eqv_l]
      refine ite2 (fun hc => ?_) (fun hc => ?_)
      · have e := of_decide_eq_true hc
        refine ⟨_, rfl, lf, _, rfl, SqL.of (us _ _ hlf), fun b nb => q _ _ ((s2.trans us).trans (Same.upd nb)) ?_⟩
        exact ⟨fun h => (nomatch h), fun h => absurd e h⟩
      · have e : ¬ downs k n ws l.reverse = startL k n := fun z => hc (decide_eq_true z)
        exact q _ _ (s2.trans us) ⟨fun _ => e, fun _ => rfl⟩
def spLies (K : PySem.W.Frag) (C : Addr) : Sp := fun vs H Q _ => ∃ (p o u : Addr) (k : Nm) (n : Nat) (ws us : List Int), vs = [.ref p, .ref o, .ref u] ∧ KO K C H p o k n ws ∧ H o = some (.lst (ws.map V.int)) ∧ SqL K H u (us.map V.int) ∧ Form k n ws ∧ Form k n us ∧ crP k n us ≤ 500 ∧
  ∀ (b : Bool) H', Same H H' → (b = true ↔ Beneath k n ws us) → Q (.bl b) H'
theorem ok_lies_beneath (T : Tk K w mg C D) (F : FnP K "lies_beneath" "lies_beneath" s_lies_beneath f fd) (c_places_of : Gd P w K mg base "places_of" ["kind", "order", "row"] 4 (spPlaces K C)) (c_first_least : Gd P w K mg base "first_least" ["kind", "order"] 6 (spFirstLeast K C)) : FnOk P w K mg base CX0 7 f fd ["kind", "one", "other"] (spLies K C) := by
  refine okN F sc_lies_beneath (fun vs H Q E h => ?_) (fun cdv A outer s H vs Q E hr h => ?_)
  · obtain ⟨p, o, u, k, n, ws, us, rfl, _⟩ := h
    rfl
  · obtain ⟨p, o, u, k, n, ws, us, rfl, hh, hoe, hU, hF, hFu, h5, q⟩ := h
    refine ⟨_, (pss_one (ps_ret (pe_cmpR op_notN (pe_callG c_places_of (hr.mono (by decide)) (by rfl) (pa_cons (pv 0) (pa_cons (pv 1) (pa_cons (pe_callG c_first_least (hr.mono (by decide)) (by rfl) (pa_cons (pv 0) (pa_cons (pv 2) pa_nil))) pa_nil)))) pe_non (nomark _)))), ?_⟩
    refine ⟨_, rfl, _, rfl, _, rfl, _, rfl, p, u, k, n, us, rfl, ⟨hh.kat, hU, hFu.1, hh.ok⟩, hFu, h5, fun r l H1 hl s1 nr hr1 => ?_⟩
    have hlen := hl.2.2
    refine ⟨p, o, r, k, n, ws, l, rfl, hh.keep s1, s1 _ _ hoe, hF, SqL.of hr1, hl.1, by omega, fun v H2 s2 hv => ?_⟩
    refine ⟨rfl, q _ _ (s1.trans s2) ?_⟩
    rw [beneath_least hh.ok hl hF, Bool.not_eq_true', decide_eq_false_iff_not, hv, Classical.not_not]
def spIsBeneath (K : PySem.W.Frag) (C : Addr) : Sp := fun vs H Q _ => ∃ (p o u : Addr) (k : Nm) (n : Nat) (ws us : List Int), vs = [.ref p, .ref o, .ref u] ∧ KO K C H p o k n ws ∧ H o = some (.lst (ws.map V.int)) ∧ SqL K H u (us.map V.int) ∧ Form k n ws ∧ crP k n ws ≤ 60 ∧ Form k n us ∧ crP k n us ≤ 60 ∧
  ∀ (b : Bool) H', Same H H' → (b = true ↔ Beneath k n ws us) → Q (.bl b) H'
theorem ok_is_beneath (T : Tk K w mg C D) (F : FnP K "is_beneath" "is_beneath" s_is_beneath f fd) (c_check_orders : Rd P w K mg base "check_orders" 5 (spCkOn K C)) (c_lies_beneath : Gd P w K mg base "lies_beneath" ["kind", "one", "other"] 7 (spLies K C)) : FnOk P w K mg base CX0 8 f fd ["kind", "one", "other"] (spIsBeneath K C) := by
  refine okN F sc_is_beneath (fun vs H Q E h => ?_) (fun cdv A outer s H vs Q E hr h => ?_)
  · obtain ⟨p, o, u, k, n, ws, us, rfl, _⟩ := h
    rfl
  · obtain ⟨p, o, u, k, n, ws, us, rfl, hh, hoe, hU, hF, h6, hFu, h6u, q⟩ := h
    refine ⟨_, (pss_cons (ps_expr (pe_callRG c_check_orders (hr.mono (by decide)) (by rfl) (pa_cons (pv 0) (pa_cons (pv 1) (pa_cons (pv 2) pa_nil)))))
      (pss_one (ps_ret (pe_callG c_lies_beneath (hr.mono (by decide)) (by rfl) (pa_cons (pv 0) (pa_cons (pv 1) (pa_cons (pv 2) pa_nil))))))), ?_⟩
    refine ⟨_, rfl, _, rfl, _, rfl, p, [o, u], k, n, [ws, us], rfl, (by simp), hh.kat, hh.ok, ⟨hh.ord, hU, trivial⟩, fun x hx => ?_, fun H1 s1 => ?_⟩
    · rcases List.mem_cons.mp hx with rfl | hx
      · exact ⟨hF, h6⟩
      · rw [List.mem_singleton.mp hx]
        exact ⟨hFu, h6u⟩
    exact ⟨_, rfl, _, rfl, _, rfl, p, o, u, k, n, ws, us, rfl, hh.keep s1, s1 _ _ hoe, s1.seq hU, hF, hFu, by omega, fun b H2 s2 hb => q b H2 (s1.trans s2) hb⟩
/-! ### the greatest order -/
def spEndless (K : PySem.W.Frag) (C : Addr) : Sp := fun vs H Q _ => ∃ (p r : Addr) (k : Nm) (n : Nat), vs = [.ref p, .ref r] ∧ KAt C H p k n ∧ k ≠ .ri ∧ Q (.bl false) H
def spGreatest (K : PySem.W.Frag) (C : Addr) : Sp := fun vs H Q _ => ∃ (p r : Addr) (k : Nm) (n : Nat), vs = [.ref p, .ref r] ∧ KAt C H p k n ∧ okK k n = true ∧ k ≠ .ri ∧ SqL K H r (((List.range (many k n).toNat).map fun (s : Nat) => (s : Int)).map V.int) ∧ ∀ q H', Same H H' → H q = none → H' q = some (.lst ((topL k n).map V.int)) → Q (.ref q) H'
theorem start_open {k : Nm} {n : Nat} {s : Nat} (hK : okK k n = true) (hs : okS k n (s : Int)) : crossP k n (startL k n) s = false := by
  rw [cross_eq hK hs (startL_len k n)]
  cases z : crossed k n (startL k n) (s : Int) with
  | false => rfl
  | true =>
    have := (cr_stepI hK hs (form_start hK)).1
    rw [if_pos z, cr_start hK] at this
    have := cr_nn k n (stepped k n (startL k n) (s : Int))
    omega
def spGreatest2 (K : PySem.W.Frag) (C : Addr) : Sp := fun vs H Q _ => ∃ (p : Addr) (k : Nm) (n : Nat), vs = [.ref p] ∧ KAt C H p k n ∧ okK k n = true ∧ k ≠ .ri ∧ ∀ q H', Same H H' → H q = none → H' q = some (.lst ((topL k n).map V.int)) → Q (.ref q) H'
end
end Sv

namespace Sv
open PySem PySem.Spec PyProof.Rows L2
def gRev (us ws : List V) : List V := us ++ ws.reverse
theorem cut_takeN (ws : List Int) {i : Nat} (h : i ≤ ws.length) : cutV (ws.map V.int) none (some (i : Int)) = (ws.take i).map V.int := by
  unfold cutV
  rw [show HT.sIx (ws.map V.int).length (ws.map V.int).length (some (i : Int)) = min i (ws.map V.int).length from HT.sIx_nat _ _ i, HT.sIx_none, List.length_map, List.drop_zero, Nat.sub_zero, Nat.min_eq_left h, List.map_take]
theorem cut_dropN (ws : List Int) {i : Nat} (h : i ≤ ws.length) : cutV (ws.map V.int) (some (i : Int)) none = (ws.drop i).map V.int := by
  unfold cutV
  rw [show HT.sIx (ws.map V.int).length 0 (some (i : Int)) = min i (ws.map V.int).length from HT.sIx_nat _ _ i, HT.sIx_none, List.length_map, Nat.min_eq_left h, List.map_drop]
  exact List.take_of_length_le (by rw [List.length_drop, List.length_map]; omega)
theorem upd_selfN {H : Hp} {p : Addr} {o : HO} (_ : H p = none) : L2.upd H p o p = some o := upd_same
theorem gains_crN {k : Nm} {n : Nat} (hK : okK k n = true) : ∀ {l w : List Int}, (∀ s ∈ l, okS k n s) → Form k n w → crP k n (gains k n w l) ≤ crP k n w + (l.length : Int)
  | [], w, _, _ => by show crP k n w ≤ crP k n w + 0; omega
  | s :: l, w, hl, h => by
    have hs := hl s List.mem_cons_self
    have h1 := cr_stepI hK hs h
    have h2 := gains_crN hK (l := l) (w := gained k n w s) (fun t ht => hl t (List.mem_cons_of_mem _ ht)) (gained_form hK hs h)
    show crP k n (gains k n (gained k n w s) l) ≤ _
    rw [List.length_cons]
    have h3 : crP k n (gained k n w s) ≤ crP k n w + 1 := by
      unfold gained
      split
      · omega
      · have := h1.1
        split at this <;> omega
    omega
theorem run_takeN {k : Nm} {n : Nat} {w l : List Int} {i : Nat} (h : i < l.length) : run k n w (l.take (i + 1)) = stepped k n (run k n w (l.take i)) (l.getD i 0) := by
  have e : l[i]? = some (l.getD i 0) := by rw [List.getD_eq_getElem?_getD, List.getElem?_eq_getElem h]; rfl
  rw [take_succ e, run_snoc]
theorem down_revN {k : Nm} {n : Nat} {ws fs : List Int} (hK : okK k n = true) (hl : ws.length = n) (hfs : ∀ s ∈ fs, okS k n s) (e : run k n ws fs = startL k n) (c : (fs.length : Int) = crP k n ws) : Least k n ws fs.reverse := by
  have := run_rev hK (l := fs) (w := ws) hfs hl
  rw [e] at this
  exact ⟨rev_ok hfs, this, by rw [List.length_reverse]; exact c⟩
section
variable {P : Program} {w : World} {K : PySem.W.Frag} {mg : Str → Option Value} {base : Heap} {f C D : Addr} {fd : FuncData}
theorem ok_startT (T : Tx K mg) (F : FnP K "_law_start" "_law_start" s__law_start f fd) : FnOk P w K mg base CX0 1 f fd ["_law_pair"] (spStart K) := by
  refine okN F sc__law_start (fun vs H Q E h => ?_) (fun cdv A outer s H vs Q E hr h => ?_)
  · obtain ⟨t, k, n, rfl, _⟩ := h
    rfl
  · obtain ⟨t, k, n, rfl, hT, hn, q⟩ := h
    refine ⟨_, (pss_cons (ps_set (i := 1) sc__law_start.nd rfl (by first | exact Or.inl rfl | exact Or.inr rfl) (pe_callTy call_int1 (by rfl) T.m_int (by decide +kernel) (pa_cons (pe_cmpR op_eq (pe_ix ix_tup (pv 0) pe_int (fun _ _ => rfl)) pe_str (nomark _)) pa_nil)))
      (pss_one (ps_ret (pe_listRg rfl (by rfl) T.m_list (prg_2 (by rfl) T.m_range (pv 1) (pe_op op_add (pv 1) (pe_ix ix_tup (pv 0) pe_int (fun _ _ => rfl)))))))), ?_⟩
    refine ⟨_, rfl, t, _, 0, _, rfl, rfl, hT, atI_nat (j := 0) rfl, rfl, .inr ⟨_, rfl, ?_⟩⟩
    refine ⟨_, rfl, _, rfl, _, rfl, t, _, 1, _, rfl, rfl, hT, atI_nat (j := 1) rfl, _, _, rfl, rfl, _, _, rfl, rfl, ?_, fun l nl => ?_⟩
    · have e := off_dec k
      have h0 : 0 ≤ off k ∧ off k ≤ 1 := by unfold off; split <;> omega
      rw [e]
      exact RgOk.of_le h0.1 (by omega) (by omega) (by omega)
    · have e := off_dec k
      rw [e, Int.add_comm, rg_start]
      exact q l nl
def spCrossT (K : PySem.W.Frag) : Sp := fun vs H Q _ => ∃ (t o : Addr) (k : Nm) (n : Nat) (ws : List Int) (z : Int), vs = [.ref t, .ref o, .int z] ∧ TO K H t o k n ws ∧ okS k n z ∧ Q (.bl (crossed k n ws z)) H
theorem ok_crossT (T : Tx K mg) (F : FnP K "_law_crossed" "_law_crossed" s__law_crossed f fd) : FnOk P w K mg base CX0 1 f fd ["_law_pair", "_law_order_here", "_law_step_here"] (spCrossT K) := by
  refine okN F sc__law_crossed (fun vs H Q E h => ?_) (fun cdv A outer s H vs Q E hr h => ?_)
  · obtain ⟨t, o, k, n, ws, z, rfl, _⟩ := h
    rfl
  · obtain ⟨t, o, k, n, ws, z, rfl, hh, hz, q⟩ := h
    have hT := hh.told
    have hl := hh.len
    obtain ⟨z, rfl⟩ := step_of hz
    rw [← cross_eq hh.ok hz hl] at q
    unfold crossP at q
    refine ⟨_, (pss_cons (ps_if (pt_cmpR op_eq (pe_ix ix_tup (pv 0) pe_int (fun _ _ => rfl)) pe_str (nomark _)) (pss_one (ps_ret (pe_ifExp (pt_cmpR op_eq (pv 2) pe_int (nomark _)) (pe_cmpR op_lt (pe_ix ix_list (pv 1) pe_int (fun _ _ => rfl)) pe_int (nomark _)) (pe_cmpR op_gt (pe_ix ix_list (pv 1) (pe_op op_sub (pv 2) pe_int) (fun _ _ => rfl)) (pe_ix ix_list (pv 1) (pv 2) (fun _ _ => rfl)) (nomark _))))) pss_nil)
      (pss_cons (ps_if (PW.pt (pw_and (pt_cmpR op_eq (pe_ix ix_tup (pv 0) pe_int (fun _ _ => rfl)) pe_str (nomark _)) (pw_and1 (pt_cmpR op_eq (pv 2) (pe_op op_sub (pe_ix ix_tup (pv 0) pe_int (fun _ _ => rfl)) pe_int) (nomark _))))) (pss_one (ps_ret (pe_cmpR op_gt (pe_ix ix_list (pv 1) (pv 2) (fun _ _ => rfl)) (pe_op op_add (pe_ix ix_list (pv 1) pe_int (fun _ _ => rfl)) (pe_ix ix_tup (pv 0) pe_int (fun _ _ => rfl))) (nomark _)))) pss_nil)
      (pss_one (ps_ret (pe_cmpR op_gt (pe_ix ix_list (pv 1) (pv 2) (fun _ _ => rfl)) (pe_ix ix_list (pv 1) (pe_op op_add (pv 2) pe_int) (fun _ _ => rfl)) (nomark _)))))), ?_⟩
    refine ⟨_, rfl, t, _, 0, _, rfl, rfl, hT, atI_nat (j := 0) rfl, rfl, _, rfl, ite2 (fun hk => ?_) (fun hk => ?_)⟩
    · have ek := is_mi hk
      subst ek
      have h1 := okS_mi hz
      refine ⟨_, rfl, rfl, _, rfl, ite2 (fun h0 => ?_) (fun h0 => ?_)⟩
      · have e0 : (z : Int) = 0 := V.int.inj (of_decide_eq_true h0)
        have e0' : z = 0 := by omega
        subst e0'
        rw [exch_mi0] at q
        refine ⟨_, rfl, o, _, _, _, rfl, rfl, hh.ord, atI_nat (j := 0) (map_getD (by omega)), _, _, rfl, rfl, ?_⟩
        refine qB q ?_
        exact decide_eq_decide.mpr ⟨fun h => by omega, fun h => by omega⟩
      · have e0 : ¬ (z : Int) = 0 := fun e => h0 (decide_eq_true (congrArg V.int e))
        rw [exch_mis (by omega)] at q
        refine ⟨_, rfl, _, rfl, _, _, rfl, rfl, o, _, _, _, rfl, rfl, hh.ord, at_of (j := z - 1) (by omega) (map_getD (by omega)), _, rfl, _, rfl, o, _, _, _, rfl, rfl, hh.ord, atI_nat (map_getD (by omega)), _, _, rfl, rfl, q⟩
    · have ek := not_mi hk
      have hsn : z < n := by
        obtain ⟨_, h⟩ := hz
        unfold many at h
        split at h <;> omega
      have hlm : (ws.map V.int).length = n := by rw [List.length_map, hl]
      by_cases hr2 : k = .ri
      · subst hr2
        refine ⟨_, rfl, t, _, 0, _, rfl, rfl, hT, atI_nat (j := 0) rfl, rfl, _, rfl, iteP (by decide +kernel) ?_⟩
        refine ⟨_, rfl, _, rfl, t, _, 1, _, rfl, rfl, hT, atI_nat (j := 1) rfl, _, _, rfl, rfl, rfl, _, rfl, ?_⟩
        by_cases e2 : z + 1 = n
        · refine iteP (decide_eq_true (congrArg V.int (by omega))) ?_
          rw [exch_ril e2] at q
          refine ⟨_, rfl, _, rfl, o, _, _, _, rfl, rfl, hh.ord, atI_nat (map_getD (by omega)), _, rfl, o, _, _, _, rfl, rfl, hh.ord, atI_nat (j := 0) (map_getD (by omega)), _, rfl, t, _, 1, _, rfl, rfl, hT, atI_nat (j := 1) rfl, _, _, rfl, rfl, _, _, rfl, rfl, ?_⟩
          exact q
        · refine iteN (fun h => by have := V.int.inj (of_decide_eq_true h); omega) ?_
          have e : exch .ri n ws z = (ws.getD z 0, ws.getD (z + 1) 0) := by
            unfold exch
            rw [if_neg (by decide), if_pos rfl, if_neg (by omega)]
          rw [e] at q
          exact ⟨_, rfl, _, rfl, o, _, _, _, rfl, rfl, hh.ord, atI_nat (map_getD (by omega)), _, rfl, _, rfl, _, _, rfl, rfl, o, _, _, _, rfl, rfl, hh.ord, at_of (j := z + 1) (by omega) (map_getD (by omega)), _, _, rfl, rfl, q⟩
      · have ep : k = .pl := by cases k <;> simp_all
        subst ep
        have h1 := st_pl hz
        refine ⟨_, rfl, t, _, 0, _, rfl, rfl, hT, atI_nat (j := 0) rfl, rfl, _, rfl, iteN (fun h => hr2 (by rw [s_ri] at h; exact of_decide_eq_true h)) ?_⟩
        exact ⟨_, rfl, _, rfl, o, _, _, _, rfl, rfl, hh.ord, atI_nat (map_getD (by omega)), _, rfl, _, rfl, _, _, rfl, rfl, o, _, _, _, rfl, rfl, hh.ord, at_of (j := z + 1) (by omega) (map_getD (by omega)), _, _, rfl, rfl, q⟩
def spStepT (K : PySem.W.Frag) : Sp := fun vs H Q _ => ∃ (t o : Addr) (k : Nm) (n : Nat) (ws : List Int) (z : Int), vs = [.ref t, .ref o, .int z] ∧ TO K H t o k n ws ∧ okS k n z ∧ ∀ q H', Same H H' → H q = none → H' q = some (.lst ((stepped k n ws z).map V.int)) → Q (.ref q) H'
theorem ok_stepT (T : Tx K mg) (F : FnP K "_law_step" "_law_step" s__law_step f fd) : FnOk P w K mg base CX0 1 f fd ["_law_pair", "_law_order_here", "_law_step_here"] (spStepT K) := by
  refine okN F sc__law_step (fun vs H Q E h => ?_) (fun cdv A outer s H vs Q E hr h => ?_)
  · obtain ⟨t, o, k, n, ws, z, rfl, _⟩ := h
    rfl
  · obtain ⟨tp, o, k, n, ws, z, rfl, hh, hz, q⟩ := h
    have hl := hh.len
    obtain ⟨z, rfl⟩ := step_of hz
    rw [← after_eq hh.ok hz hl] at q
    have hn := okK_le hh.ok
    refine ⟨_, (pss_cons (ps_par (i := 3) (j := 4) (by rfl) sc__law_step.nd rfl rfl (by decide) rfl rfl (pa_cons (pe_callTy call_list_of (by rfl) T.m_list (by decide +kernel) (pa_cons (pv 1) pa_nil)) (pa_cons (pe_ix ix_tup (pv 0) pe_int (fun _ _ => rfl)) pa_nil)) (by rfl))
      (pss_cons (ps_if (PW.pt (pw_and (pt_cmpR op_eq (pe_ix ix_tup (pv 0) pe_int (fun _ _ => rfl)) pe_str (nomark _)) (pw_and1 (pt_cmpR op_eq (pv 2) pe_int (nomark _))))) (pss_one (ps_asg (pe_op op_sub pe_int (pe_ix ix_list (pv 3) pe_int (fun _ _ => rfl))) (pg_sub (pv 3) pe_int set_list))) (pss_one (ps_if (PW.pt (pw_and (pt_cmpR op_eq (pe_ix ix_tup (pv 0) pe_int (fun _ _ => rfl)) pe_str (nomark _)) (pw_and1 (pt_cmpR op_eq (pv 2) (pe_op op_sub (pv 4) pe_int) (nomark _))))) (pss_one (ps_asg (pe_tup (pa_cons (pe_op op_sub (pe_ix ix_list (pv 1) (pv 2) (fun _ _ => rfl)) (pv 4)) (pa_cons (pe_op op_add (pe_ix ix_list (pv 1) pe_int (fun _ _ => rfl)) (pv 4)) pa_nil))) (pg_tup rfl (pgs_cons (pg_sub (pv 3) pe_int set_list) (pgs_cons (pg_sub (pv 3) (pv 2) set_list) pgs_nil))))) (pss_cons (ps_set (i := 5) sc__law_step.nd rfl (by first | exact Or.inl rfl | exact Or.inr rfl) (pe_op op_sub (pv 2) (pe_callTy call_int1 (by rfl) T.m_int (by decide +kernel) (pa_cons (pe_cmpR op_eq (pe_ix ix_tup (pv 0) pe_int (fun _ _ => rfl)) pe_str (nomark _)) pa_nil))))
      (pss_one (ps_asg (pe_tup (pa_cons (pe_ix ix_list (pv 1) (pe_op op_add (pv 5) pe_int) (fun _ _ => rfl)) (pa_cons (pe_ix ix_list (pv 1) (pv 5) (fun _ _ => rfl)) pa_nil))) (pg_tup rfl (pgs_cons (pg_sub (pv 3) (pv 5) set_list) (pgs_cons (pg_sub (pv 3) (pe_op op_add (pv 5) pe_int) set_list) pgs_nil)))))))))
      (pss_one (ps_ret (pv 3))))), ?_⟩
    refine ⟨_, rfl, o, _, rfl, .inl hh.ord, fun m nm => ?_⟩
    have u1 := Same.upd (o := .lst (ws.map V.int)) nm
    have em : (L2.upd H m (.lst (ws.map V.int))) m = some (.lst (ws.map V.int)) := upd_same
    have h1 := hh.keep u1
    have hlm : (ws.map V.int).length = n := by rw [List.length_map, hl]
    generalize L2.upd H m (.lst (ws.map V.int)) = H1 at *
    have hT := h1.told
    refine ⟨_, rfl, tp, _, 1, _, rfl, rfl, hT, atI_nat (j := 1) rfl, _, _, rfl, ?_⟩
    by_cases hk : k = .mi
    · subst hk
      have h2 := okS_mi hz
      refine ⟨_, rfl, tp, _, 0, _, rfl, rfl, hT, atI_nat (j := 0) rfl, rfl, _, rfl, iteP (by decide +kernel) ?_⟩
      refine ⟨_, rfl, rfl, _, rfl, ite2 (fun h0 => ?_) (fun h0 => ?_)⟩
      · have e0 : (z : Int) = 0 := V.int.inj (of_decide_eq_true h0)
        have e0' : z = 0 := by omega
        subst e0'
        rw [after_mi0] at q
        refine ⟨_, rfl, m, _, _, _, rfl, rfl, SqL.of em, atI_nat (j := 0) (map_getD (by omega)), _, _, rfl, rfl, ?_⟩
        refine ⟨_, rfl, m, _, _, 0, rfl, rfl, em, ixN_nat (i := 0) (by rw [hlm]; omega), ?_⟩
        refine ⟨_, rfl, q m _ (fun b y e => ?_) nm ?_⟩
        · rw [upd_ne (ne_of_none e nm)]
          exact u1 _ _ e
        · rw [upd_same]
          show some (HO.lst ((ws.map V.int).set 0 (.int (0 - ws.getD 0 0)))) = _
          rw [Int.zero_sub, set_map]
      · have e0 : ¬ (z : Int) = 0 := fun e => h0 (decide_eq_true (congrArg V.int e))
        rw [after_mis (by omega)] at q
        refine ⟨_, rfl, tp, _, 0, _, rfl, rfl, hT, atI_nat (j := 0) rfl, rfl, _, rfl, iteN (by decide +kernel) ?_⟩
        refine ⟨_, rfl, _, rfl, tp, _, 0, _, rfl, rfl, hT, atI_nat (j := 0) rfl, rfl, .inr ⟨_, rfl, _, _, rfl, rfl, ?_⟩⟩
        refine ⟨_, rfl, _, rfl, _, _, rfl, rfl, o, _, _, _, rfl, rfl, h1.ord, at_of (j := z) (by rw [off_dec]; show (z : Int) - 1 + 1 = _; omega) (map_getD (by omega)), _, rfl, _, rfl, o, _, _, _, rfl, rfl, h1.ord, at_of (j := z - 1) (by rw [off_dec]; show (z : Int) - 1 = _; omega) (map_getD (by omega)), (by show 2 ≤ sizeLine; decide), fun t nt => ?_⟩
        have hm2 : m ≠ t := ne_of_none em nt
        have em2 := (upd_ne (o := .tup [.int (ws.getD z 0), .int (ws.getD (z - 1) 0)]) hm2).trans em
        have u3 := u1.trans (Same.upd (o := .tup [.int (ws.getD z 0), .int (ws.getD (z - 1) 0)]) nt)
        refine ⟨t, _, rfl, SqT.of upd_same, rfl, _, _, rfl, _, rfl, _, rfl, m, _, _, z - 1, rfl, rfl, em2, (by rw [off_dec]; show ixN _ ((z : Int) - 1) = _; rw [show (z : Int) - 1 = ((z - 1 : Nat) : Int) by omega]; exact ixN_nat (by rw [hlm]; omega)), ?_⟩
        refine ⟨_, _, rfl, _, rfl, _, rfl, _, _, rfl, rfl, m, _, _, z, rfl, rfl, upd_same, (by rw [off_dec, List.length_set, hlm]; show ixN _ ((z : Int) - 1 + 1) = _; rw [Int.sub_add_cancel]; exact ixN_nat (by omega)), rfl, ?_⟩
        refine ⟨_, rfl, q m _ (fun b y e => ?_) nm ?_⟩
        · rw [upd_ne (ne_of_none e nm), upd_ne (ne_of_none e nm)]
          exact u3 _ _ e
        · rw [upd_same, set_map, set_map]
    · have nmi : ¬ decide (V.str k.s = V.str "mirror") = true := fun h => hk (is_mi h)
      have hsn : z < n := by
        obtain ⟨_, h⟩ := hz
        unfold many at h
        split at h <;> omega
      refine ⟨_, rfl, tp, _, 0, _, rfl, rfl, hT, atI_nat (j := 0) rfl, rfl, _, rfl, iteN nmi ?_⟩
      have inner : ∀ (_ : z + 1 < n), True := fun _ => trivial
      by_cases hr2 : k = .ri
      · subst hr2
        refine ⟨_, rfl, tp, _, 0, _, rfl, rfl, hT, atI_nat (j := 0) rfl, rfl, _, rfl, iteP (by decide +kernel) ?_⟩
        refine ⟨_, rfl, _, rfl, _, _, rfl, rfl, rfl, _, rfl, ?_⟩
        by_cases e2 : z + 1 = n
        · refine iteP (decide_eq_true (congrArg V.int (by omega))) ?_
          rw [after_ril e2] at q
          refine ⟨_, rfl, _, rfl, o, _, _, _, rfl, rfl, h1.ord, atI_nat (map_getD (by omega)), _, rfl, _, _, rfl, rfl, _, rfl, o, _, _, _, rfl, rfl, h1.ord, atI_nat (j := 0) (map_getD (by omega)), _, rfl, _, _, rfl, rfl, (by show 2 ≤ sizeLine; decide), fun t nt => ?_⟩
          have hn2 := (of_decide_eq_true hh.ok : 2 ≤ n ∧ n ≤ 5).1
          have hm2 : m ≠ t := ne_of_none em nt
          have em2 := (upd_ne (o := .tup [.int (ws.getD z 0 - (n : Int)), .int (ws.getD 0 0 + (n : Int))]) hm2).trans em
          have u3 := u1.trans (Same.upd (o := .tup [.int (ws.getD z 0 - (n : Int)), .int (ws.getD 0 0 + (n : Int))]) nt)
          refine ⟨t, _, rfl, SqT.of upd_same, rfl, _, _, rfl, _, rfl, m, _, _, 0, rfl, rfl, em2, ixN_nat (i := 0) (by rw [hlm]; omega), ?_⟩
          refine ⟨_, _, rfl, _, rfl, _, rfl, m, _, _, z, rfl, rfl, upd_same, (by rw [List.length_set, hlm]; exact ixN_nat (by omega)), rfl, ?_⟩
          refine ⟨_, rfl, q m _ (fun b y e => ?_) nm ?_⟩
          · rw [upd_ne (ne_of_none e nm), upd_ne (ne_of_none e nm)]
            exact u3 _ _ e
          · rw [upd_same, set_map, set_map, List.set_comm _ _ (show (0 : Nat) ≠ z by omega)]
        · refine iteN (fun h => by have := V.int.inj (of_decide_eq_true h); omega) ?_
          rw [after_in hk (by omega)] at q
          refine ⟨_, rfl, _, rfl, tp, _, 0, _, rfl, rfl, hT, atI_nat (j := 0) rfl, rfl, .inr ⟨_, rfl, _, _, rfl, rfl, ?_⟩⟩
          have eo : (if decide (V.str (Nm.ri).s = V.str "mirror") = true then (1 : Int) else 0) = 0 := off_dec .ri
          refine ⟨_, rfl, _, rfl, _, _, rfl, rfl, o, _, _, _, rfl, rfl, h1.ord, at_of (j := z + 1) (by rw [eo]; omega) (map_getD (by omega)), _, rfl, _, rfl, o, _, _, _, rfl, rfl, h1.ord, at_of (j := z) (by rw [eo]; omega) (map_getD (by omega)), (by show 2 ≤ sizeLine; decide), fun t nt => ?_⟩
          have hm2 : m ≠ t := ne_of_none em nt
          have em2 := (upd_ne (o := .tup [.int (ws.getD (z + 1) 0), .int (ws.getD z 0)]) hm2).trans em
          have u3 := u1.trans (Same.upd (o := .tup [.int (ws.getD (z + 1) 0), .int (ws.getD z 0)]) nt)
          refine ⟨t, _, rfl, SqT.of upd_same, rfl, _, _, rfl, _, rfl, _, rfl, m, _, _, z, rfl, rfl, em2, (by rw [eo, Int.sub_zero]; exact ixN_nat (by rw [hlm]; omega)), ?_⟩
          refine ⟨_, _, rfl, _, rfl, _, rfl, _, _, rfl, rfl, m, _, _, z + 1, rfl, rfl, upd_same, (by rw [eo, Int.sub_zero, List.length_set, hlm]; exact ixN_nat (i := z + 1) (by omega)), rfl, ?_⟩
          refine ⟨_, rfl, q m _ (fun b y e => ?_) nm ?_⟩
          · rw [upd_ne (ne_of_none e nm), upd_ne (ne_of_none e nm)]
            exact u3 _ _ e
          · rw [upd_same, set_map, set_map]
      · have ep : k = .pl := by cases k <;> simp_all
        subst ep
        have h2 := st_pl hz
        refine ⟨_, rfl, tp, _, 0, _, rfl, rfl, hT, atI_nat (j := 0) rfl, rfl, _, rfl, iteN (fun h => hr2 (by rw [s_ri] at h; exact of_decide_eq_true h)) ?_⟩
        rw [after_in hk (by omega)] at q
        refine ⟨_, rfl, _, rfl, tp, _, 0, _, rfl, rfl, hT, atI_nat (j := 0) rfl, rfl, .inr ⟨_, rfl, _, _, rfl, rfl, ?_⟩⟩
        have eo : (if decide (V.str (Nm.pl).s = V.str "mirror") = true then (1 : Int) else 0) = 0 := off_dec .pl
        refine ⟨_, rfl, _, rfl, _, _, rfl, rfl, o, _, _, _, rfl, rfl, h1.ord, at_of (j := z + 1) (by rw [eo]; omega) (map_getD (by omega)), _, rfl, _, rfl, o, _, _, _, rfl, rfl, h1.ord, at_of (j := z) (by rw [eo]; omega) (map_getD (by omega)), (by show 2 ≤ sizeLine; decide), fun t nt => ?_⟩
        have hm2 : m ≠ t := ne_of_none em nt
        have em2 := (upd_ne (o := .tup [.int (ws.getD (z + 1) 0), .int (ws.getD z 0)]) hm2).trans em
        have u3 := u1.trans (Same.upd (o := .tup [.int (ws.getD (z + 1) 0), .int (ws.getD z 0)]) nt)
        refine ⟨t, _, rfl, SqT.of upd_same, rfl, _, _, rfl, _, rfl, _, rfl, m, _, _, z, rfl, rfl, em2, (by rw [eo, Int.sub_zero]; exact ixN_nat (by rw [hlm]; omega)), ?_⟩
        refine ⟨_, _, rfl, _, rfl, _, rfl, _, _, rfl, rfl, m, _, _, z + 1, rfl, rfl, upd_same, (by rw [eo, Int.sub_zero, List.length_set, hlm]; exact ixN_nat (i := z + 1) (by omega)), rfl, ?_⟩
        refine ⟨_, rfl, q m _ (fun b y e => ?_) nm ?_⟩
        · rw [upd_ne (ne_of_none e nm), upd_ne (ne_of_none e nm)]
          exact u3 _ _ e
        · rw [upd_same, set_map, set_map]
def spMadeT (K : PySem.W.Frag) (g : Nm → Nat → List Int → List Int → List Int) : Sp := fun vs H Q _ => ∃ (t r : Addr) (k : Nm) (n : Nat) (l : List Int), vs = [.ref t, .ref r] ∧ Told K H t k n ∧ okK k n = true ∧ SqL K H r (l.map V.int) ∧ (∀ s ∈ l, okS k n s) ∧
  ∀ q H', Same H H' → H q = none → H' q = some (.lst ((g k n (startL k n) l).map V.int)) → Q (.ref q) H'
theorem ok_madeT (T : Tx K mg) (F : FnP K "_law_made" "_law_made" s__law_made f fd) (c_law_start : Gd P w K mg base "_law_start" ["_law_pair"] 1 (spStart K)) (c_law_step : Gd P w K mg base "_law_step" ["_law_pair", "_law_order_here", "_law_step_here"] 1 (spStepT K)) : FnOk P w K mg base CX0 2 f fd ["_law_pair", "_law_row_here"] (spMadeT K run) := by
  refine okN F sc__law_made (fun vs H Q E h => ?_) (fun cdv A outer s H vs Q E hr h => ?_)
  · obtain ⟨t, r, k, n, l, rfl, _⟩ := h
    rfl
  · obtain ⟨t, r, k, n, l, rfl, hT, hK, hR, hl, q⟩ := h
    have hn := okK_le hK
    refine ⟨_, (pss_cons (ps_set (i := 2) sc__law_made.nd rfl (by first | exact Or.inl rfl | exact Or.inr rfl) (pe_callG c_law_start (hr.mono (by decide)) (by rfl) (pa_cons (pv 0) pa_nil)))
      (pss_cons (ps_for PassesOwn.never rfl (pi_list (pv 1)) (pg_name (i := 3) sc__law_made.nd rfl (Or.inl rfl)) (pss_one (ps_set (i := 2) sc__law_made.nd rfl (by first | exact Or.inl rfl | exact Or.inr rfl) (pe_callG c_law_step (hr.mono (by decide)) (by rfl) (pa_cons (pv 0) (pa_cons (pv 2) (pa_cons (pv 3) pa_nil)))))))
      (pss_one (ps_ret (pv 2))))), ?_⟩
    refine ⟨_, rfl, t, k, n, rfl, hT, by omega, fun a na => ?_⟩
    have s1 := Same.upd (o := .lst ((startL k n).map V.int)) na
    refine ⟨_, rfl, r, rfl, ⟨_, s1.seq hR⟩, ?_⟩
    refine for_list (K := K) (a := r) (xs := l.map V.int) (fun i σ H2 => ∃ (fo : Addr) (v : Option V), σ = [some (.ref t), some (.ref r), some (.ref fo), v] ∧ H fo = none ∧ H2 fo = some (.lst ((run k n (startL k n) (l.take i)).map V.int)) ∧ Same H H2)
      ⟨a, none, rfl, na, upd_same, s1⟩ (fun i σ H2 _ h2 => by obtain ⟨_, _, _, _, _, s2⟩ := h2; exact s2.seq hR) ?_ ?_
    · rintro i x σ H2 hi ⟨fo, v, rfl, nf, hF, s2⟩
      obtain ⟨hj, rfl⟩ := at_map hi
      refine ⟨_, rfl, _, rfl, _, rfl, t, fo, k, n, _, _, rfl, ⟨Same.tup s2 hT, SqL.of hF, run_len (startL_len _ _), hK⟩, hl _ (mem_getD hj), fun q2 H3 s3 nq hq3 => ?_⟩
      refine ⟨q2, _, rfl, s2.free nq, ?_, s2.trans s3⟩
      rw [run_takeN hj]
      exact hq3
    · rintro σ H2 ⟨fo, v, rfl, nf, hF, s2⟩
      rw [List.length_map, List.take_of_length_le (Nat.le_refl _)] at hF
      exact ⟨_, rfl, q fo H2 s2 nf hF⟩
theorem ok_greedyT (T : Tx K mg) (F : FnP K "_law_greedy" "_law_greedy" s__law_greedy f fd) (c_law_start : Gd P w K mg base "_law_start" ["_law_pair"] 1 (spStart K)) (c_law_crossed : Gd P w K mg base "_law_crossed" ["_law_pair", "_law_order_here", "_law_step_here"] 1 (spCrossT K)) (c_law_step : Gd P w K mg base "_law_step" ["_law_pair", "_law_order_here", "_law_step_here"] 1 (spStepT K)) : FnOk P w K mg base CX0 2 f fd ["_law_pair", "_law_row_here"] (spMadeT K gains) := by
  refine okN F sc__law_greedy (fun vs H Q E h => ?_) (fun cdv A outer s H vs Q E hr h => ?_)
  · obtain ⟨t, r, k, n, l, rfl, _⟩ := h
    rfl
  · obtain ⟨t, r, k, n, l, rfl, hT, hK, hR, hl, q⟩ := h
    have hn := okK_le hK
    refine ⟨_, (pss_cons (ps_set (i := 2) sc__law_greedy.nd rfl (by first | exact Or.inl rfl | exact Or.inr rfl) (pe_callG c_law_start (hr.mono (by decide)) (by rfl) (pa_cons (pv 0) pa_nil)))
      (pss_cons (ps_for PassesOwn.never rfl (pi_list (pv 1)) (pg_name (i := 3) sc__law_greedy.nd rfl (Or.inl rfl)) (pss_one (ps_set (i := 2) sc__law_greedy.nd rfl (by first | exact Or.inl rfl | exact Or.inr rfl) (pe_ifExp (pt_val (pe_callG c_law_crossed (hr.mono (by decide)) (by rfl) (pa_cons (pv 0) (pa_cons (pv 2) (pa_cons (pv 3) pa_nil))))) (pv 2) (pe_callG c_law_step (hr.mono (by decide)) (by rfl) (pa_cons (pv 0) (pa_cons (pv 2) (pa_cons (pv 3) pa_nil))))))))
      (pss_one (ps_ret (pv 2))))), ?_⟩
    refine ⟨_, rfl, t, k, n, rfl, hT, by omega, fun a na => ?_⟩
    have s1 := Same.upd (o := .lst ((startL k n).map V.int)) na
    refine ⟨_, rfl, r, rfl, ⟨_, s1.seq hR⟩, ?_⟩
    refine for_list (K := K) (a := r) (xs := l.map V.int) (fun i σ H2 => ∃ (fo : Addr) (v : Option V), σ = [some (.ref t), some (.ref r), some (.ref fo), v] ∧ H fo = none ∧ H2 fo = some (.lst ((gains k n (startL k n) (l.take i)).map V.int)) ∧ Same H H2)
      ⟨a, none, rfl, na, upd_same, s1⟩ (fun i σ H2 _ h2 => by obtain ⟨_, _, _, _, _, s2⟩ := h2; exact s2.seq hR) ?_ ?_
    · rintro i x σ H2 hi ⟨fo, v, rfl, nf, hF, s2⟩
      obtain ⟨hj, rfl⟩ := at_map hi
      have hz := hl _ (mem_getD hj)
      have o2 : TO K H2 t fo k n (gains k n (startL k n) (l.take i)) := ⟨Same.tup s2 hT, SqL.of hF, gains_len (startL_len _ _), hK⟩
      refine ⟨_, rfl, _, rfl, _, rfl, t, fo, k, n, _, _, rfl, o2, hz, _, rfl, ?_⟩
      rw [gains_take hj]
      refine ite2 (fun hc => ?_) (fun hc => ?_)
      · refine ⟨_, rfl, fo, _, rfl, nf, ?_, s2⟩
        unfold gained
        rw [if_pos hc]
        exact hF
      · refine ⟨_, rfl, _, rfl, _, rfl, t, fo, k, n, _, _, rfl, o2, hz, fun q2 H3 s3 nq hq3 => ?_⟩
        refine ⟨q2, _, rfl, s2.free nq, ?_, s2.trans s3⟩
        unfold gained
        rw [if_neg hc]
        exact hq3
    · rintro σ H2 ⟨fo, v, rfl, nf, hF, s2⟩
      rw [List.length_map, List.take_of_length_le (Nat.le_refl _)] at hF
      exact ⟨_, rfl, q fo H2 s2 nf hF⟩
def spOrderT (K : PySem.W.Frag) : Sp := fun vs H Q _ => ∃ (g t : Addr) (a b c : Int) (k : Nm) (n m : Nat), vs = [.ref g, .ref t, .int (m : Int)] ∧ GenAt H g a b c ∧ (0 ≤ c ∧ c ≤ 700000) ∧ Told K H t k n ∧ t ≠ g ∧ okK k n = true ∧ m ≤ 1000 ∧
  ∀ (q : Addr) (ws : List Int) (a' c' : Int) (H' : Hp), Form k n ws → crP k n ws ≤ (m : Int) → 0 ≤ c' → c' ≤ c + 2 + m → GenAt H' g a' b c' → SameX g H H' → H q = none → q ≠ g → H' q = some (.lst (ws.map V.int)) → Q (.ref q) H'
theorem ok_orderT (T : Tx K mg) (F : FnP K "_law_order" "_law_order" s__law_order f fd) (c_law_row : Gd P w K mg base "_law_row" ["_law_generator_here", "_law_pair", "_law_most"] 3 (spRow K)) (c_law_random : Gd P w K mg base "_law_random" ["_law_generator_here", "_law_bound"] 2 spRandom)
    (c_law_greedy : Gd P w K mg base "_law_greedy" ["_law_pair", "_law_row_here"] 2 (spMadeT K gains)) (c_law_made : Gd P w K mg base "_law_made" ["_law_pair", "_law_row_here"] 2 (spMadeT K run)) : FnOk P w K mg base CX0 4 f fd ["_law_generator_here", "_law_pair", "_law_most"] (spOrderT K) := by
  refine okN F sc__law_order (fun vs H Q E h => ?_) (fun cdv A outer s H vs Q E hr h => ?_)
  · obtain ⟨g, t, a, b, c, k, n, m, rfl, _⟩ := h
    rfl
  · obtain ⟨g, t, a, b, c, k, n, m, rfl, hg, ⟨c0, c1⟩, hT, htg, hK, hm, q⟩ := h
    refine ⟨_, (pss_cons (ps_set (i := 3) sc__law_order.nd rfl (by first | exact Or.inl rfl | exact Or.inr rfl) (pe_callG c_law_row (hr.mono (by decide)) (by rfl) (pa_cons (pv 0) (pa_cons (pv 1) (pa_cons (pv 2) pa_nil)))))
      (pss_one (ps_ret (pe_ifExp (pt_cmpR op_eq (pe_callG c_law_random (hr.mono (by decide)) (by rfl) (pa_cons (pv 0) (pa_cons pe_int pa_nil))) pe_int (nomark _)) (pe_callG c_law_greedy (hr.mono (by decide)) (by rfl) (pa_cons (pv 1) (pa_cons (pv 3) pa_nil))) (pe_callG c_law_made (hr.mono (by decide)) (by rfl) (pa_cons (pv 1) (pa_cons (pv 3) pa_nil))))))), ?_⟩
    refine ⟨_, rfl, _, rfl, _, rfl, g, t, a, b, c, k, n, m, rfl, hg, ⟨c0, by omega⟩, hT, htg, hK, hm, fun r l a1 c2 H1 hl hlen p2 p3 g1 x1 nr rg hr1 => ?_⟩
    refine ⟨_, rfl, g, a1, b, c2, 2, rfl, g1, ⟨by decide, by decide⟩, ⟨p2, by omega⟩, fun z a3 c4 H2 q0 q1 q2 q3 g2 x2 => ?_⟩
    have x02 := x1.trans x2
    have hT2 := x02.tup htg hT
    have hr2 := x2 _ _ hr1 rg
    have F0 := form_start hK
    have hcl : (l.length : Int) ≤ (m : Int) := by omega
    refine ⟨rfl, _, rfl, ite2 (fun hz => ?_) (fun hz => ?_)⟩
    · refine ⟨_, rfl, _, rfl, t, r, k, n, l, rfl, hT2, hK, SqL.of hr2, hl, fun o H3 s3 no ho => ?_⟩
      have hc := gains_crN hK hl F0
      rw [cr_start hK] at hc
      exact q o _ a3 c4 H3 (gains_form hK hl F0) (by omega) q2 (by omega) (s3 _ _ g2) (x02.trans (Same.x g s3)) (x02.free hg g2 no) (ne_of_none g2 no).symm ho
    · refine ⟨_, rfl, _, rfl, t, r, k, n, l, rfl, hT2, hK, SqL.of hr2, hl, fun o H3 s3 no ho => ?_⟩
      have hc := run_form hK hl F0
      rw [cr_start hK] at hc
      exact q o _ a3 c4 H3 hc.1 (by omega) q2 (by omega) (s3 _ _ g2) (x02.trans (Same.x g s3)) (x02.free hg g2 no) (ne_of_none g2 no).symm ho
end
end Sv

namespace Sv
open PySem PySem.Spec PyProof.Rows L2
section
variable {P : Program} {w : World} {K : PySem.W.Frag} {mg : Str → Option Value} {base : Heap} {f C D : Addr} {fd : FuncData}
/-- two orders of one kind, as the calls let them -/
structure TwoO (K : PySem.W.Frag) (C : Addr) (H : Hp) (p o u : Addr) (k : Nm) (n : Nat) (ws us : List Int) : Prop where
  ko : KO K C H p o k n ws
  ord2 : SqL K H u (us.map V.int)
  form1 : Form k n ws
  form2 : Form k n us
  cr1 : crP k n ws ≤ 60
  cr2 : crP k n us ≤ 60
theorem TwoO.keep {H H' : Hp} {p o u : Addr} {k : Nm} {n : Nat} {ws us : List Int} (h : TwoO K C H p o u k n ws us) (e : Same H H') : TwoO K C H' p o u k n ws us := ⟨h.ko.keep e, e.seq h.ord2, h.form1, h.form2, h.cr1, h.cr2⟩
theorem TwoO.all {H : Hp} {p o u : Addr} {k : Nm} {n : Nat} {ws us : List Int} (h : TwoO K C H p o u k n ws us) : OrdsAt K H [o, u] [ws, us] ∧ ∀ x ∈ [ws, us], Form k n x ∧ crP k n x ≤ 60 :=
  ⟨⟨h.ko.ord, h.ord2, trivial⟩, fun x hx => by
    rcases List.mem_cons.mp hx with rfl | hx
    · exact ⟨h.form1, h.cr1⟩
    · rw [List.mem_singleton.mp hx]
      exact ⟨h.form2, h.cr2⟩⟩
theorem TwoO.ko2 {H : Hp} {p o u : Addr} {k : Nm} {n : Nat} {ws us : List Int} (h : TwoO K C H p o u k n ws us) : KO K C H p u k n us := ⟨h.ko.kat, h.ord2, h.form2.1, h.ko.ok⟩
def spProduct (K : PySem.W.Frag) (C : Addr) : Sp := fun vs H Q _ => ∃ (p o u : Addr) (k : Nm) (n : Nat) (ws us : List Int), vs = [.ref p, .ref o, .ref u] ∧ TwoO K C H p o u k n ws us ∧ ∀ q H', Same H H' → H q = none → H' q = some (.lst ((prodP k n ws us).map V.int)) → Q (.ref q) H'
def spLost (K : PySem.W.Frag) (C : Addr) : Sp := fun vs H Q _ => ∃ (p o u : Addr) (k : Nm) (n : Nat) (ws us : List Int), vs = [.ref p, .ref o, .ref u] ∧ TwoO K C H p o u k n ws us ∧ ∀ H', Same H H' → Q (.int (crP k n ws + crP k n us - crP k n (dem k n ws us))) H'
def spHalves (K : PySem.W.Frag) (C : Addr) : Sp := fun vs H Q _ => ∃ (p o u : Addr) (k : Nm) (n : Nat) (ws us : List Int), vs = [.ref p, .ref o, .ref u] ∧ TwoO K C H p o u k n ws us ∧
  ∀ (q a b : Addr) (H' : Hp), Same H H' → H q = none → H a = none → H b = none → a ≠ b → H' q = some (.tup [.ref a, .ref b]) → H' a = some (.lst ((prodP k n (dem k n ws us) (invP k n us)).map V.int)) → H' b = some (.lst ((prodP k n (invP k n ws) (dem k n ws us)).map V.int)) → Q (.ref q) H'
end
end Sv

/-! Lists of whole numbers are told apart by their repr, by the verifier. -/
namespace Sv
open PySem
def cl (s : Str) : List Nat := s.cps.toList
theorem cl_app (a b : Str) : cl (a ++ b) = cl a ++ cl b := by
  show (a.cps ++ b.cps).toList = _
  rw [Array.toList_append]
  rfl
theorem cl_str (s : String) : cl (Str.ofString s) = s.toList.map Char.toNat := by
  rw [Str.ofString_eq_toList]
  rfl
def dig (x : Int) : List Nat := (Int.repr x).toList.map Char.toNat
theorem char_inj {a b : Char} (h : a.toNat = b.toNat) : a = b := Char.ext (UInt32.toNat_inj.mp h)
theorem dig_inj {x y : Int} (h : dig x = dig y) : x = y := by
  have h1 : (Int.repr x).toList = (Int.repr y).toList := (List.map_inj_right fun a b e => char_inj e).mp h
  exact Int.repr_inj.mp (String.toList_inj.mp h1)
theorem nat_dig {n : Nat} {c : Char} (h : c ∈ (Nat.repr n).toList) : c ≠ ',' := by
  have h2 : c ∈ Nat.toDigits 10 n := by simpa [Nat.repr] using h
  have := Nat.isDigit_of_mem_toDigits (by decide) (by decide) h2
  intro e
  subst e
  exact absurd this (by decide)
theorem dig_no {x : Int} : ∀ c ∈ dig x, c ≠ 44 := by
  intro c hc
  obtain ⟨d, hd, rfl⟩ := List.mem_map.mp hc
  have hne : d ≠ ',' := by
    cases x with
    | ofNat m => exact nat_dig hd
    | negSucc m =>
      have h2 : d ∈ ("-" ++ (m + 1).repr).toList := hd
      rw [String.toList_append] at h2
      rcases List.mem_append.mp h2 with h | h
      · have : d = '-' := by simpa using h
        rw [this]
        decide
      · exact nat_dig h
  exact fun e => hne (char_inj e)
def J : List (List Nat) → List Nat
  | [] => []
  | t :: ts => 44 :: 32 :: (t ++ J ts)
theorem cut44 {t r : List Nat} (ht : ∀ c ∈ t, c ≠ 44) (hr : r = [] ∨ ∃ r', r = 44 :: r') : (t ++ r).takeWhile (fun c => !decide (c = 44)) = t := by
  induction t with
  | nil =>
    rcases hr with rfl | ⟨r', rfl⟩
    · rfl
    · simp
  | cons c t ih =>
    have hc : c ≠ 44 := ht c (List.mem_cons_self ..)
    rw [List.cons_append, List.takeWhile_cons, if_pos (by simp [hc]), ih fun d hd => ht d (List.mem_cons_of_mem _ hd)]
theorem J_head : ∀ ts : List (List Nat), J ts = [] ∨ ∃ r', J ts = 44 :: r'
  | [] => .inl rfl
  | _ :: _ => .inr ⟨_, rfl⟩
theorem two_inj {t t' : List Nat} {ts ts' : List (List Nat)} (h1 : ∀ c ∈ t, c ≠ 44) (h2 : ∀ c ∈ t', c ≠ 44) (e : t ++ J ts = t' ++ J ts') : t = t' ∧ J ts = J ts' := by
  have a := cut44 h1 (J_head ts)
  have b := cut44 h2 (J_head ts')
  rw [e, b] at a
  subst a
  exact ⟨rfl, List.append_cancel_left e⟩
theorem J_inj : ∀ {ts ts' : List (List Nat)}, (∀ t ∈ ts, ∀ c ∈ t, c ≠ 44) → (∀ t ∈ ts', ∀ c ∈ t, c ≠ 44) → J ts = J ts' → ts = ts'
  | [], [], _, _, _ => rfl
  | [], _ :: _, _, _, e => by cases e
  | _ :: _, [], _, _, e => by cases e
  | t :: ts, t' :: ts', h1, h2, e => by
    have e2 : t ++ J ts = t' ++ J ts' := by
      simpa [J] using e
    obtain ⟨rfl, e3⟩ := two_inj (h1 t (List.mem_cons_self ..)) (h2 t' (List.mem_cons_self ..)) e2
    rw [J_inj (fun x hx => h1 x (List.mem_cons_of_mem _ hx)) (fun x hx => h2 x (List.mem_cons_of_mem _ hx)) e3]
theorem cl_from : ∀ (ts : List Str) (k : Nat) (acc : Str), cl (textFrom (k + 1) acc ts) = cl acc ++ J (ts.map cl)
  | [], k, acc => by simp [textFrom, J]
  | t :: ts, k, acc => by
    rw [textFrom, cl_from ts (k + 1), cl_app, cl_app, if_pos (Nat.succ_pos k), cl_str, List.map_cons, J]
    simp
theorem shownAll_ints : ∀ xs : List Int, (PyData.shownAll (xs.map PyData.int)).map cl = xs.map dig
  | [] => rfl
  | x :: xs => by
    rw [List.map_cons, PyData.shownAll, List.map_cons, List.map_cons, shownAll_ints xs]
    congr 1
    show cl (PyData.shown (.int x)) = _
    rw [PyData.shown, cl_str]
    rfl
theorem cl_list (x : Int) (xs : List Int) : cl (PyData.shown (.list ((x :: xs).map PyData.int))) = 91 :: (dig x ++ J (xs.map dig) ++ [93]) := by
  have h := shownAll_ints (x :: xs)
  rw [PyData.shown, listText, cl_app]
  rw [List.map_cons] at h ⊢
  rw [PyData.shownAll] at h ⊢
  rw [List.map_cons, List.map_cons] at h
  injection h with h1 h2
  rw [textFrom, cl_from, cl_app, cl_app, if_neg (Nat.lt_irrefl 0), cl_str, cl_str, cl_str, h1, h2]
  simp
theorem shown_inj : ∀ {u v : List Int}, u.length = v.length → PyData.shown (.list (u.map PyData.int)) = PyData.shown (.list (v.map PyData.int)) → u = v
  | [], [], _, _ => rfl
  | [], _ :: _, hl, _ => by cases hl
  | _ :: _, [], hl, _ => by cases hl
  | x :: xs, y :: ys, _, e => by
    have e2 := congrArg cl e
    rw [cl_list, cl_list] at e2
    injection e2 with _ e3
    have e4 := List.append_cancel_right e3
    obtain ⟨a, b⟩ := two_inj (fun c h => dig_no c h) (fun c h => dig_no c h) e4
    have c := J_inj (fun t ht => by obtain ⟨z, _, rfl⟩ := List.mem_map.mp ht; exact dig_no) (fun t ht => by obtain ⟨z, _, rfl⟩ := List.mem_map.mp ht; exact dig_no) b
    rw [dig_inj a, (List.map_inj_right fun a b e => dig_inj e).mp c]
end Sv

/-! sorted of a list of lists of whole numbers: by the verifier. -/
namespace Sv
open PySem PySem.Spec PyProof.Rows L2
theorem dpAllI {K : PySem.W.Frag} {H : Hp} : ∀ xs : List Int, DpAll K H (xs.map V.int) (xs.map PyData.int)
  | [] => .nil
  | x :: xs => .cons (.int x) (dpAllI xs)
def rowLe (p q : Addr × List Int) : Bool := decide (p.2 ≤ q.2)
def rSortedRows (K : PySem.W.Frag) : List V → Hp → VK → Prop := fun vs H Q => ∃ (a : Addr) (ps : List (Addr × List Int)), vs = [V.ref a] ∧ SqL K H a (ps.map fun p => V.ref p.1) ∧ (∀ p ∈ ps, SqL K H p.1 (p.2.map V.int)) ∧
  ∀ q : Addr, H q = none → Q (.ref q) (L2.upd H q (.lst ((ps.mergeSort rowLe).map fun p => V.ref p.1)))
theorem each_refs {ps : List (Addr × List Int)} : ∀ {its : List Value}, Vals (ps.map fun p => V.ref p.1) its → PySem.W.EachIs (fun v p => v = Value.ref p.1) its ps := by
  induction ps with
  | nil =>
    intro its r
    cases r
    exact .nil
  | cons p ps ih =>
    intro its r
    cases r with
    | cons r t => exact .cons r (ih t)
theorem refs_each {ps : List (Addr × List Int)} : ∀ {its : List Value}, PySem.W.EachIs (fun v p => v = Value.ref p.1) its ps → Vals (ps.map fun p => V.ref p.1) its := by
  induction ps with
  | nil =>
    intro its r
    cases r
    exact .nil
  | cons p ps ih =>
    intro its r
    cases r with
    | cons r t => exact .cons r (ih t)
section
variable {X : Cx}
theorem each_reads {pins : List (Addr × Obj)} {σ : L2.St} {H : Hp} {s : Shared} (I : Inv X pins σ H s) : ∀ {ps : List (Addr × List Int)} {its : List Value}, (∀ p ∈ ps, SqL X.K H p.1 (p.2.map V.int)) → PySem.W.EachIs (fun v p => v = Value.ref p.1) its ps →
    PySem.W.EachIs (fun v p => ∃ as, Reads s.heap v (PyData.list (p.2.map PyData.int)) as) its ps
  | [], _, _, .nil => .nil
  | p :: ps, v :: its, h, .cons r t => by
    refine .cons ?_ (each_reads I (fun q hq => h q (List.mem_cons_of_mem _ hq)) t)
    exact Dp.reads I _ (.ref p.1) v (Dp.lst (h p (List.mem_cons_self ..)) (dpAllI _)) r
theorem cr_sortedRows (hu : X.A.units + 64 < cLine) : CallR X (.builtin "sorted") (rSortedRows X.K) := by
  intro pins s σ H vs us Q I r h
  obtain ⟨a, ps, rfl, hs, hp, q⟩ := h
  obtain ⟨its, rv, hl, hz⟩ := I.list hs
  rw [Vals.ref1 r]
  have e := each_refs rv
  have hlen : ps.length ≤ sizeLine := by rw [List.length_map] at hz; exact hz
  refine PySem.W.sorted_data (enc := fun p : Addr × List Int => PyData.list (p.2.map PyData.int)) hl.isList e (each_reads I hp e) (PySem.W.AllAlike.of fun b b' => PySem.W.alike_ints _ _) (PySem.W.Sortable.others fun b => ⟨fun h => (by cases h), fun xs h => (by cases h)⟩) hlen (fun b _ => ?_) fun out h1 h2 => ?_
  · have e : PyData.depth (.list (b.2.map PyData.int)) = 1 := by simp [PyData.depth, PySem.W.ke_depthAll]
    rw [e]
    omega
  rw [PySem.W.dataLe_rows (fun p : Addr × List Int => p.2)] at h2
  obtain ⟨ep, he'⟩ := PyProof.Rows.sortedAll_at s.heap its out.toArray
  have hv := refs_each h2
  have hlen' : (((ps.mergeSort rowLe).map fun p => V.ref p.1)).length ≤ sizeLine := by
    rw [List.length_map, List.length_mergeSort]
    exact hlen
  exact ⟨.ref _, L2.upd H (s.heap.objs.size + 1) (.lst ((ps.mergeSort rowLe).map fun p => V.ref p.1)), I.laid (t' := s.toks) (fun _ _ => PyProof.Rows.sortedAll_old) (Nat.le_succ _) ⟨hlen', out, ep, hv, he'⟩, rfl, q _ (I.hok.fresh (Nat.le_succ _))⟩
end
theorem rowLe_trans (p q r : Addr × List Int) (h : rowLe p q = true) (g : rowLe q r = true) : rowLe p r = true := by
  unfold rowLe at *
  exact decide_eq_true (List.le_trans (of_decide_eq_true h) (of_decide_eq_true g))
theorem rowLe_total (p q : Addr × List Int) : (rowLe p q || rowLe q p) = true := by
  unfold rowLe
  rcases List.le_total p.2 q.2 with h | h
  · rw [decide_eq_true h]
    rfl
  · rw [decide_eq_true h, Bool.or_true]
theorem rows_sorted (ps : List (Addr × List Int)) : ((ps.mergeSort rowLe).map (·.2)).Pairwise (· ≤ ·) := by
  rw [List.pairwise_map]
  exact (List.pairwise_mergeSort (le := rowLe) rowLe_trans rowLe_total ps).imp fun {a b} h => of_decide_eq_true h
theorem rows_one {xs ys : List (List Int)} (h : xs.Perm ys) (hx : xs.Pairwise (· ≤ ·)) (hy : ys.Pairwise (· ≤ ·)) : xs = ys := h.eq_of_pairwise (fun a b _ _ h1 h2 => List.le_antisymm h1 h2) hx hy
theorem rows_sort_eq {ps : List (Addr × List Int)} {ys : List (List Int)} (h : (ps.map (·.2)).Perm ys) (hy : ys.Pairwise (· ≤ ·)) : (ps.mergeSort rowLe).map (·.2) = ys :=
  rows_one (((List.mergeSort_perm ps rowLe).map _).trans h) (rows_sorted ps) hy
end Sv

/-! repr of lists: defs that are called while no repr is under way, by the verifier. -/
namespace Sv
open PySem PySem.Spec PyProof.Rows L2
/-- a def's promise, for calls while no repr is under way -/
structure FnG (P : Program) (w : World) (K : PySem.W.Frag) (mg : Str → Option Value) (base : Heap) (k : Nat) (f : Addr) (fd : FuncData) (ps : List Str) (sp : Sp) : Prop where
  len : ∀ vs H Q E, sp vs H Q E → vs.length = ps.length
  go : ∀ (A : Around) (outer : List Env) (s : Shared) (H : Hp) (args : Args) (us : List Value) (vs : List V) (Q : VK) (E : XK), A.guards = some [] → Room k A → Env0 P w K mg base A outer s H → BindsTo s fd args (ps.zip us) → Vals vs us → sp vs H Q E → codeAny (model P w) A (.call (.ref f) args) (CR CX0 outer P w H s Q E) s
section
variable {P : Program} {w : World} {K : PySem.W.Frag} {mg : Str → Option Value} {base : Heap} {x qual : Str} {params : Arguments} {body : List Stmt} {scope : Scope} {dvs : List V} {kws : List (Str × V)} {f : Addr} {fd : FuncData} {N ps : List Str} {k : Nat} {sp : Sp}
theorem okG (F : FunD K x qual params body scope dvs kws f fd) (S : FnScope N ps scope) (len : ∀ vs H Q E, sp vs H Q E → vs.length = ps.length)
    (hb : ∀ (cdv : Value) (A : Around) (outer : List Env) (s : Shared) (H : Hp) (vs : List V) (Q : VK) (E : XK), (A.deeper (envOfC qual scope s.heap.objs.size f cdv)).guards = some [] → Room k (A.deeper (envOfC qual scope s.heap.objs.size f cdv)) → sp vs H Q E →
      ∃ t, PSs (cxOf CX0 P w K mg base N qual scope f cdv A outer s H E).nox body t ∧ t { nx := fun _ H' => Q .non H', rt := Q } (start N vs) H) : FnG P w K mg base (k + 1) f fd ps sp := by
  obtain ⟨oc, od, dV, kV, doc, pm, an, cdv, ct, osl, rfl, lk, hcd, _, _⟩ := F.ex
  refine ⟨len, fun A outer s H args us vs Q E hg hr e0 hbind rv hsp => ?_⟩
  have up : ∀ b o, base.get? b = some o → s.heap.get? b = some o := fun b o e => (e0.bs b o e).1
  have kin := e0.mod.kin.keeps up
  obtain ⟨t, pt, tt⟩ := hb cdv A outer s H vs Q E hg (hr.deeper _) hsp
  have par : ∀ y ∈ ps.zip us, scope.names.lookup y.1 = some .local ∨ (scope.names.lookup y.1 = some .cell ∧ ((cellsFrom (s.heap.objs.size + 1) scope.names []).lookup y.1).isSome = true) := fun y hy =>
    (S.par y.1 (List.of_mem_zip (show (y.1, y.2) ∈ _ from hy)).1).elim .inl fun q => .inr ⟨q, PySem.W.cellsFrom_some _ _ _ (.inl q)⟩
  refine codeAny_call_function hr.depth (kin _ _ lk) rfl S.co S.gen rfl (PySem.W.codeRec_of kin hcd) (hbind _ _ _ _ (wpAny_newFunctionEnv_cells S.kind par fun env he s1 hx => ?_))
  subst he
  refine ⟨(e0.mod.nolimit.keeps up).keeps hx.toInCall.keep, codeAny_func (wpAny_mono (pt.nox.run [] s1 (start N vs) H _ (L2.inv_start S hr.hd e0 (len _ _ _ _ hsp) rv hx) tt) ?_ fun _ _ z => z)⟩
  intro fl s' hs
  match fl, hs with
  | .ret _, ⟨v, _, H', J, rq, q⟩ => exact ⟨v, H', J.os, J.bare, J.base, J.hok, rq, q⟩
  | .next, ⟨_, H', J, q⟩ => exact ⟨.non, H', J.os, J.bare, J.base, J.hok, rfl, q⟩
  | .brk, ⟨_, _, _, q⟩ => exact q.elim
  | .cont, ⟨_, _, _, q⟩ => exact q.elim
end
/-- the module's name x is a def with such a promise -/
structure GdG (P : Program) (w : World) (K : PySem.W.Frag) (mg : Str → Option Value) (base : Heap) (x : Str) (ps : List Str) (k : Nat) (sp : Sp) : Prop where
  ex : ∃ (f : Addr) (fd : FuncData), FnG P w K mg base k f fd ps sp ∧ mg x = some (.ref f) ∧ PySem.W.keepIn K (.ref f) = true ∧ Binds K fd ps []
section
variable {X : Cx} {k : Nat} {ps : List Str} {sp : Sp} {x : Str} {p pos : Pos} {e : Expr} {es : List Expr} {t : TA}
theorem pe_callGG (G : GdG X.prog X.w X.K X.mg X.base x ps k sp) (gs : X.A.guards = some []) (hr : Room k X.A) (hg : Gl X x)
    (ha : PA X (e :: es) t) (hdb : (x == ("__debug__" : Str)) = false := by decide) (he : starEach (e :: es) X.env = (false, eval e X.env) :: starEach es X.env := by rfl) (hpl : (backTo pos (starEach es X.env)).any (·.1) = false := by rfl) :
    PE X (.Call (.Name x p) (e :: es) [] pos) (tCall sp [] E0 t) := by
  obtain ⟨f, fd, F, gm, kp, b⟩ := G.ex
  refine ⟨fun pins s σ H Q I h => wpAny_Call_Name_kw (ld_glob I hg gm (PySem.W.callWith_K (h₀ := X.base) I.ok.mod.kin kp (thn (ha.run pos pins s σ H _ I h) fun us s1 hq => ?_) he hpl) hdb)⟩
  obtain ⟨vs, H1, I1, r, q⟩ := hq
  have q2 : sp (vs ++ []) H1 Q E0 := q
  rw [List.append_nil] at q2
  have hl : (us ++ []).length = ps.length := by
    rw [List.append_nil, ← r.length]
    exact F.len _ _ _ _ q2
  refine ⟨I1.kIn, wpAny_call (codeAny_mono (F.go X.A X.stack s1 H1 ⟨us, []⟩ (us ++ []) vs Q E0 gs hr I1.env0 (b s1 us I1.kIn hl) (by rw [List.append_nil]; exact r) q2) fun res s' hq => ?_)⟩
  match res, hq with
  | .error z, hq => exact pass0 pins σ H1 s1 z s' I1 hq
  | .ok (.ret _), hq => exact I1.after hq
  | .ok .next, hq => exact hq.elim
  | .ok .brk, hq => exact hq.elim
  | .ok .cont, hq => exact hq.elim
/-- repr of a list that is known as a whole -/
theorem call_reprL (gs : X.A.guards = some []) (hr : Room k X.A) : CallR X (.builtin "repr") (fun xs H Q => ∃ a d, xs = [.ref a] ∧ Dp X.K H (.ref a) d ∧ d.showable = true ∧ d.hasDict = false ∧ d.depth ≤ 100 ∧ d.shown.length ≤ sizeLine ∧ Q (.str d.shown) H) := by
  intro pins s σ H xs us Q I r h
  obtain ⟨a, d, rfl, hd, hs, hn, hdp, hl, q⟩ := h
  obtain ⟨u, rfl, hu⟩ := vals1 r
  obtain rfl : u = Value.ref a := hu
  obtain ⟨as, hR⟩ := Dp.reads I d _ _ hd rfl
  refine PySem.repr_of_reads' hR hs (fun z => by rw [hn] at z; cases z) gs (by have := hr.un; omega) (fun b o e => e) (fun h' v tk keep => ⟨.str d.shown, H, I.kept (t' := tk) keep, ⟨v, rfl⟩, q⟩) hl
end
/-- the script's list, as the law's def finds it -/
theorem script_heap {P : Program} {w : World} {K : PySem.W.Frag} {s : Shared} {a : Addr} {vs : List Value} {ns : List Int} (KX : K.In s.heap) (ha : s.heap.get? a = some { cls := .type "list", data := .seq vs.toArray }) (hi : IntsAre vs ns) (hl : ns.length ≤ sizeLine) :
    ∃ H : Hp, (∀ b u, H b = some u → b = a ∧ u = .frz { cls := .type "list", data := .seq vs.toArray } (.lst (ns.map V.int)) ∧ K.lookup a = none) ∧ SqL K H a (ns.map V.int) ∧ HOk P w H s.heap := by
  have rv := vals_ints hi
  by_cases hk : K.lookup a = none
  · refine ⟨fun b => if b = a then some (.frz { cls := .type "list", data := .seq vs.toArray } (.lst (ns.map V.int))) else none, fun b u z => ?_, .inl (.inr ⟨_, if_pos rfl⟩), fun b u z => ?_⟩
    all_goals
      by_cases hb : b = a
      · have e := (if_pos hb).symm.trans z
        cases e
        subst hb
        first
          | exact ⟨rfl, rfl, hk⟩
          | exact ⟨ha, by rw [List.length_map]; exact hl, vs, _, rv, ha⟩
      · have e := (if_neg hb).symm.trans z
        cases e
  · obtain ⟨o, ho⟩ := Option.ne_none_iff_exists'.mp hk
    have e := KX a o ho
    rw [ha] at e
    cases e
    refine ⟨fun _ => none, fun b u z => (by cases (show (none : Option HO) = some u from z)), .inr ⟨_, vs.toArray, _, ho, rfl, rfl, rfl, by rw [List.size_toArray, hi.length]; exact hl, by simpa using rv⟩, fun b u z => (by cases (show (none : Option HO) = some u from z))⟩
theorem lawG {P : Program} {w : World} {K : PySem.W.Frag} {mg mb : Str → Option Value} {k : Nat} {fa a : Addr} {fd : FuncData} {x : Str} {sp : Sp} {s : Shared} {vs : List Value} {ns : List Int}
    (KX : K.In s.heap) (hns : s.heap.Ns mainGlobals mg) (hb : s.heap.Ns builtinsNs mb) (hbb : ∀ x : Str, x ≠ "__name__" → mb x = bootBuiltins x) (hlim : s.heap.NoLimit) (hgn : s.gens = #[]) (ha : s.heap.get? a = some { cls := .type "list", data := .seq vs.toArray })
    (hi : IntsAre vs ns) (hl : ns.length ≤ sizeLine) (hr : Room k callerA) (F : ∀ base : Heap, K.In base → base.Ns mainGlobals mg → FnG P w K mg base k fa fd [x] sp) (hbind : ∀ (s : Shared) (u : Value), BindsTo s fd ⟨[u], []⟩ [(x, u)])
    (hsp : ∀ H : Hp, SqL K H a (ns.map V.int) → sp [.ref a] H (fun v _ => v = .bl true) fun _ _ _ => False) :
    codeAny (model P w) callerA (.call (.ref fa) ⟨[.ref a], []⟩) (fun r s' => r = .ok (.ret (.bool true)) ∧ OldK s.heap s'.heap ∧ s'.os = s.os ∧ AllBare s'.gens) s := by
  obtain ⟨H, hH, hS, hok⟩ := script_heap (P := P) (w := w) KX ha hi hl
  have hid : ∀ {b : Addr} {o : Obj}, s.heap.get? b = some o → b ≠ a → (hidT s.heap H).get? b = some o := fun {b o} e n => hidT_get e (by
    cases q : H b with
    | none => rfl
    | some u => exact absurd (hH b u q).1 n)
  have nsH : ∀ {b : Addr} {m : Str → Option Value}, s.heap.Ns b m → (hidT s.heap H).Ns b m := fun {b m} ⟨o, es, ep, e, d, r⟩ => ⟨o, es, ep, hid e (fun z => by
    subst z
    rw [ha] at e
    cases e
    cases (show Data.seq vs.toArray _ = Data.dict es ep from d)), d, r⟩
  have kinH : K.In (hidT s.heap H) := fun b o e => by
    by_cases z : b = a
    · subst z
      exact hidT_get (KX b o e) (by
        cases q : H b with
        | none => rfl
        | some u => rw [(hH b u q).2.2] at e; cases e)
    · exact hid (KX b o e) z
  have md : Mod K mg (hidT s.heap H) := ⟨kinH, nsH hns, ⟨mb, nsH hb, hbb⟩, hlim.imp fun mc h => ⟨nsH h.1, h.2⟩⟩
  have env : Env0 P w K mg (hidT s.heap H) callerA [] s H := { frames := rfl, mod := md, bs := fun b o e => of_hidT e, bsz := Nat.le_of_eq (hidT_size _ _), funs := trivial, frf := fun b z => (by cases (show b ∈ ([] : List Addr) from z)), hok := hok, bare := .of_eq hgn }
  refine codeAny_mono ((F _ kinH (nsH hns)).go callerA [] s H ⟨[.ref a], []⟩ [.ref a] [.ref a] _ _ rfl hr env (hbind s (.ref a)) (.cons rfl .nil) (hsp H hS)) fun r s' h => ?_
  match r, h with
  | .error _, h => exact h.elim
  | .ok .next, h => exact h.elim
  | .ok .brk, h => exact h.elim
  | .ok .cont, h => exact h.elim
  | .ok (.ret u), ⟨v, H', os, bare, un, hok', rv, q⟩ =>
    have qv : v = .bl true := q
    subst qv
    obtain rfl : u = Value.bool true := rv
    refine ⟨rfl, OldK.of_keep fun b o e => ?_, os, bare⟩
    cases q2 : H b with
    | none => exact un.keep b o e q2 (fun z => by cases (show b ∈ ([] : List Addr) from z)) (by simp)
    | some u =>
      obtain ⟨rfl, rfl, _⟩ := hH b u q2
      have z1 := (hok b _ q2).1
      rw [e] at z1
      cases z1
      exact (hok' b _ (un.frzs b _ _ q2)).1
/-- the goal behind the head, for a law whose defs call repr -/
theorem walkG {l : PySem.W.OpenLaw} {n k : Nat} {q : Program} {loose : List Str} {XP : (Str → Option Value) → Heap → Prop} {YP : World → Heap → Prop} {d : DefRec} {K : Params → PySem.W.Frag} {sp : World → Sp} {x : Str}
    (hn : l.most = some n) (hn2 : n ≤ sizeLine) (hdf : d.params.defaults = []) (hr : Room k callerA) (hY : ∀ (w : World) (h : Heap), YP w h → (K w.params).In h)
    (F : ∀ (w : World) (mg : Str → Option Value) (fa : Addr) (h : Heap), (K w.params).In h → h.Ns mainGlobals mg → mg d.name = some (.ref fa) → ∃ fd : FuncData, (∀ (s : Shared) (u : Value), BindsTo s fd ⟨[u], []⟩ [(x, u)]) ∧ ∀ base : Heap, (K w.params).In base → base.Ns mainGlobals mg → FnG l.prog w (K w.params) mg base k fa fd [x] (sp w))
    (hsp : ∀ (w : World) (H : Hp) (a : Addr) (ns : List Int), ns.length ≤ n → SqL (K w.params) H a (ns.map V.int) → sp w [.ref a] H (fun v _ => v = .bl true) fun _ _ _ => False) :
    PySem.W.WalkO q loose XP YP l.row.toRowW d [] (fun f vs => PySem.call f vs) := by
  refine Att.attach_call hn hdf fun w s₀ s₁ mg mb fa o pm cd doc a vs ns G Y ho hd hcd hmg hobj hints hlen hg => ?_
  obtain ⟨fd, hbd, hF⟩ := F w mg fa _ (hY w _ Y) G.T.g hmg
  exact lawG (hY w _ Y) G.T.g G.T.b G.T.builtins G.T.nolimit hg hobj hints (Nat.le_trans hlen hn2) hr hF hbd fun H hS => hsp w H a ns hlen hS
end Sv

/-! Lists of orders as repr shows them: small enough, by the verifier. -/
namespace Sv
open PySem PySem.Spec PyProof.Rows L2
def dL (w : List Int) : PyData := .list (w.map .int)
theorem intsD : ∀ ns : List Int, (∀ n ∈ ns, n.natAbs < 10 ^ 12) → PyData.leavesShortAll 13 (ns.map .int) = true ∧ PyData.weightAll (ns.map .int) ≤ 41 * ns.length ∧ PyData.depthAll (ns.map .int) = 0 ∧ PyData.showableAll (ns.map .int) = true ∧ PyData.hasDictAll (ns.map .int) = false
  | [], _ => ⟨rfl, Nat.le_refl _, rfl, rfl, rfl⟩
  | n :: r, h => by
    obtain ⟨a, b, c, d, e⟩ := intsD r fun m hm => h m (List.mem_cons_of_mem _ hm)
    have hn := h n (List.mem_cons_self ..)
    have hlog : n.natAbs.log2 < 40 := by
      by_cases z : n.natAbs = 0
      · rw [z]; decide
      · exact (Nat.log2_lt z).mpr (by omega)
    refine ⟨?_, ?_, ?_, ?_, ?_⟩
    · simp only [List.map_cons, PyData.leavesShortAll, PyData.leavesShort, Bool.and_eq_true, decide_eq_true_eq]
      exact ⟨PyData.shown_int_le hn, a⟩
    · simp only [List.map_cons, PyData.weightAll, PyData.weight, List.length_cons]
      split <;> omega
    · simp only [List.map_cons, PyData.depthAll, PyData.depth, c]
      rfl
    · simp only [List.map_cons, PyData.showableAll, PyData.showable, Bool.and_eq_true, decide_eq_true_eq]
      exact ⟨by omega, d⟩
    · simp only [List.map_cons, PyData.hasDictAll, PyData.hasDict, e, Bool.or_false]
theorem listsD : ∀ wss : List (List Int), (∀ w ∈ wss, w.length ≤ 1000 ∧ ∀ n ∈ w, n.natAbs < 10 ^ 12) → PyData.leavesShortAll 13 (wss.map dL) = true ∧ PyData.weightAll (wss.map dL) ≤ 41001 * wss.length ∧ PyData.depthAll (wss.map dL) ≤ 1 ∧ PyData.showableAll (wss.map dL) = true ∧ PyData.hasDictAll (wss.map dL) = false
  | [], _ => ⟨rfl, Nat.le_refl _, Nat.zero_le _, rfl, rfl⟩
  | w :: r, h => by
    obtain ⟨a, b, c, d, e⟩ := listsD r fun m hm => h m (List.mem_cons_of_mem _ hm)
    obtain ⟨hl, hw⟩ := h w (List.mem_cons_self ..)
    obtain ⟨a1, b1, c1, d1, e1⟩ := intsD w hw
    refine ⟨?_, ?_, ?_, ?_, ?_⟩
    · simp only [List.map_cons, PyData.leavesShortAll, dL, PyData.leavesShort, Bool.and_eq_true]
      exact ⟨a1, a⟩
    · simp only [List.map_cons, PyData.weightAll, dL, PyData.weight, List.length_cons] at b ⊢
      omega
    · simp only [List.map_cons, PyData.depthAll, dL, PyData.depth, c1]
      omega
    · simp only [List.map_cons, PyData.showableAll, dL, PyData.showable, Bool.and_eq_true]
      exact ⟨d1, d⟩
    · simp only [List.map_cons, PyData.hasDictAll, dL, PyData.hasDict, e1, e, Bool.or_false]
/-- what the rule for repr asks of a list of orders -/
theorem showLs {wss : List (List Int)} (h : ∀ w ∈ wss, w.length ≤ 1000 ∧ ∀ n ∈ w, n.natAbs < 10 ^ 12) (hl : wss.length ≤ 20) : (PyData.list (wss.map dL)).showable = true ∧ (PyData.list (wss.map dL)).hasDict = false ∧ (PyData.list (wss.map dL)).depth ≤ 100 ∧ (PyData.list (wss.map dL)).shown.length ≤ sizeLine := by
  obtain ⟨a, b, c, d, e⟩ := listsD wss h
  refine ⟨by simpa only [PyData.showable] using d, by simpa only [PyData.hasDict] using e, ?_, PyData.shown_fits (B := 13) (by decide) (by decide) (by simpa only [PyData.leavesShort] using a) ?_⟩
  · simp only [PyData.depth]
    omega
  · simp only [PyData.weight]
    have : (2 : Nat) ^ 20 = 1048576 := by decide
    omega
theorem showL {w : List Int} (h : ∀ n ∈ w, n.natAbs < 10 ^ 12) (hl : w.length ≤ 1000) : (dL w).showable = true ∧ (dL w).hasDict = false ∧ (dL w).depth ≤ 100 ∧ (dL w).shown.length ≤ sizeLine := by
  obtain ⟨a, b, c, d, e⟩ := intsD w h
  refine ⟨by simpa only [dL, PyData.showable] using d, by simpa only [dL, PyData.hasDict] using e, ?_, PyData.shown_fits (B := 13) (by decide) (by decide) (by simpa only [dL, PyData.leavesShort] using a) ?_⟩
  · simp only [dL, PyData.depth, c]
    omega
  · simp only [dL, PyData.weight]
    have : (2 : Nat) ^ 20 = 1048576 := by decide
    omega
/-! how great items can be -/
theorem bnd_after {k : Nm} {n : Nat} {w : List Int} {s : Nat} {B : Nat} (hs : okS k n (s : Int)) (hl : w.length = n) (h : ∀ j, (w.getD j 0).natAbs ≤ B) (j : Nat) : ((after k n w s).getD j 0).natAbs ≤ B + n := by
  obtain ⟨_, h2⟩ := hs
  have hsn : s < n := by unfold many at h2; split at h2 <;> omega
  have h0 := h 0
  have hs0 := h s
  have hs1 := h (s + 1)
  have hsm := h (s - 1)
  have hj := h j
  unfold after exch
  cases k
  · have h1 : s + 1 < n := by unfold many at h2; rw [if_pos rfl] at h2; omega
    simp only [if_true]
    rw [getD_setS _ _ _ _ (by rw [List.length_set]; omega), getD_setS _ _ _ _ (by omega)]
    repeat' split
    all_goals omega
  · by_cases e0 : s = 0
    · subst e0
      simp only [reduceCtorEq, if_false, false_and, if_true]
      rw [getD_setS _ _ _ _ (by omega)]
      split <;> omega
    · simp only [reduceCtorEq, if_false, false_and, if_neg e0]
      rw [getD_setS _ _ _ _ (by rw [List.length_set]; omega), getD_setS _ _ _ _ (by omega)]
      repeat' split
      all_goals omega
  · by_cases e0 : s + 1 = n
    · simp only [reduceCtorEq, if_false, if_pos e0, if_true, true_and]
      rw [getD_setS _ _ _ _ (by rw [List.length_set]; omega), getD_setS _ _ _ _ (by omega)]
      repeat' split
      all_goals omega
    · simp only [reduceCtorEq, if_false, true_and, if_neg e0, if_true]
      rw [getD_setS _ _ _ _ (by rw [List.length_set]; omega), getD_setS _ _ _ _ (by omega)]
      repeat' split
      all_goals omega
theorem bnd_run {k : Nm} {n : Nat} (hK : okK k n = true) : ∀ {l w : List Int} {B : Nat}, (∀ s ∈ l, okS k n s) → w.length = n → (∀ j, (w.getD j 0).natAbs ≤ B) → ∀ j, ((run k n w l).getD j 0).natAbs ≤ B + n * l.length
  | [], w, B, _, _, h, j => Nat.le_trans (h j) (Nat.le_add_right _ _)
  | s :: l, w, B, hs, hl, h, j => by
    obtain ⟨t, rfl⟩ := step_of (hs s (List.mem_cons_self ..))
    have ht := hs (t : Int) (List.mem_cons_self ..)
    have h1 : ∀ j, ((stepped k n w (t : Int)).getD j 0).natAbs ≤ B + n := fun j => by
      rw [← after_eq hK ht hl]
      exact bnd_after ht hl h j
    have := bnd_run hK (l := l) (w := stepped k n w (t : Int)) (B := B + n) (fun s h => hs s (List.mem_cons_of_mem _ h)) (stepped_len _ _ _ _) h1 j
    show ((run k n (stepped k n w (t : Int)) l).getD j 0).natAbs ≤ B + n * (l.length + 1)
    rw [Nat.mul_add, Nat.mul_one]
    omega
theorem bnd_start (k : Nm) (n j : Nat) : ((startL k n).getD j 0).natAbs ≤ n := by
  by_cases h : j < n
  · rw [startL_getD k n j h]
    unfold off
    split <;> omega
  · rw [List.getD_eq_getElem?_getD, List.getElem?_eq_none (by rw [startL_len]; omega)]
    simp
/-- the items of an order made by a short row -/
theorem bnd_made {k : Nm} {n : Nat} {l : List Int} (hK : okK k n = true) (hl : ∀ s ∈ l, okS k n s) (hz : l.length ≤ 1000) : ∀ x ∈ run k n (startL k n) l, x.natAbs < 10 ^ 12 := fun x hx => by
  obtain ⟨j, hj, e⟩ := List.mem_iff_getElem.mp hx
  have h := bnd_run hK hl (startL_len k n) (bnd_start k n) j
  rw [List.getD_eq_getElem?_getD, List.getElem?_eq_getElem hj, Option.getD_some, e] at h
  have hn := okK_le hK
  have : n * l.length ≤ 7 * 1000 := Nat.mul_le_mul hn.2 hz
  omega
end Sv

namespace Sv
open PySem PySem.Spec PyProof.Rows L2
theorem room65 {k : Nat} {A : Around} (hr : Room k A) : A.units + 65 < cLine := by
  have := hr.un
  omega
theorem ne_self (xs : List Int) : ¬ ((!PyData.eqv (.list (xs.map PyData.int)) (.list (xs.map PyData.int))) = true) := by rw [eqv_l]; simp
theorem room64 {k : Nat} {A : Around} (hr : Room k A) : A.units + 64 < cLine := by
  have := hr.un
  omega
theorem putK_len {κ : Type} [DecidableEq κ] (kvs : List (κ × V)) (k : κ) (v : V) : (putK kvs k v).length ≤ kvs.length + 1 := by
  unfold putK
  split
  · rw [List.length_map]
    omega
  · rw [List.length_append]
    exact Nat.le_refl _
/-- how a row of numbers is shown, as a key -/
def kS (w : List Int) : L2.Key := .inr (PyData.shown (.list (w.map PyData.int)))
theorem kS_inj {u v : List Int} (hl : u.length = v.length) : kS u = kS v ↔ u = v := by
  refine ⟨fun h => ?_, fun h => by rw [h]⟩
  unfold kS at h
  injection h with h
  exact shown_inj hl h
/-- rows that stand at addresses -/
def RowsAt (H : Hp) (ps : List (Addr × List Int)) : Prop := ∀ p ∈ ps, H p.1 = some (.lst (p.2.map V.int))
theorem RowsAt.keep {H H' : Hp} {ps : List (Addr × List Int)} (e : L2.Same H H') (h : RowsAt H ps) : RowsAt H' ps := fun p hp => e _ _ (h p hp)
abbrev refsV (ps : List (Addr × List Int)) : List V := ps.map fun p => V.ref p.1
theorem sub_snoc {l m : List Int} {s : Int} : m.Sublist (l ++ [s]) ↔ m.Sublist l ∨ ∃ m', m'.Sublist l ∧ m = m' ++ [s] := by
  constructor
  · intro h
    obtain ⟨a, b, rfl, ha, hb⟩ := List.sublist_append_iff.mp h
    rcases List.sublist_cons_iff.mp hb with hc | ⟨r, er, hc⟩
    · have eb := List.sublist_nil.mp hc
      subst eb
      rw [List.append_nil]
      exact .inl ha
    · have e2 := List.sublist_nil.mp hc
      subst e2
      subst er
      exact .inr ⟨a, ha, rfl⟩
  · rintro (h | ⟨m', h, rfl⟩)
    · exact h.trans (List.sublist_append_left ..)
    · exact h.append (List.Sublist.refl _)
section
variable {P : Program} {w : World} {K : PySem.W.Frag} {mg : Str → Option Value} {base : Heap} {f C D : Addr} {fd : FuncData}
def spKindT : Sp := fun vs H Q _ => ∃ (g : Addr) (a b c : Int), vs = [.ref g] ∧ GenAt H g a b c ∧ (0 ≤ c ∧ c ≤ 900000) ∧
  ∀ (t : Addr) (k : Nm) (n : Nat) (a' c' : Int) (H' : Hp), okK k n = true → n ≤ 5 → 0 ≤ c' → c' ≤ c + 6 → GenAt H' g a' b c' → SameX g H H' → t ≠ g → H t = none → H' t = some (.tup [.str k.s, .int (n : Int)]) → Q (.ref t) H'
theorem ok_kindT (T : Tx K mg) (F : FnP K "_law_kind" "_law_kind" s__law_kind f fd) (c_law_random : Gd P w K mg base "_law_random" ["_law_generator_here", "_law_bound"] 2 spRandom) : FnOk P w K mg base CX0 3 f fd ["_law_generator_here"] spKindT := by
  refine okN F sc__law_kind (fun vs H Q E h => ?_) (fun cdv A outer s H vs Q E hr h => ?_)
  · obtain ⟨g, a, b, c, rfl, _⟩ := h
    rfl
  · obtain ⟨g, a, b, c, rfl, hg, ⟨c0, c1⟩, q⟩ := h
    refine ⟨_, (pss_cons (ps_set (i := 1) sc__law_kind.nd rfl (by first | exact Or.inl rfl | exact Or.inr rfl) (pe_lst (pa_cons (pe_tup (pa_cons pe_str (pa_cons pe_int pa_nil))) (pa_cons (pe_tup (pa_cons pe_str (pa_cons pe_int pa_nil))) (pa_cons (pe_tup (pa_cons pe_str (pa_cons pe_int pa_nil))) (pa_cons (pe_tup (pa_cons pe_str (pa_cons pe_int pa_nil))) (pa_cons (pe_tup (pa_cons pe_str (pa_cons pe_int pa_nil))) (pa_cons (pe_tup (pa_cons pe_str (pa_cons pe_int pa_nil))) (pa_cons (pe_tup (pa_cons pe_str (pa_cons pe_int pa_nil))) (pa_cons (pe_tup (pa_cons pe_str (pa_cons pe_int pa_nil))) (pa_cons (pe_tup (pa_cons pe_str (pa_cons pe_int pa_nil))) pa_nil)))))))))))
      (pss_cons (ps_set (i := 1) sc__law_kind.nd rfl (by first | exact Or.inl rfl | exact Or.inr rfl) (pe_op op_cat (pv 1) (pe_lst (pa_cons (pe_tup (pa_cons pe_str (pa_cons pe_int pa_nil))) (pa_cons (pe_tup (pa_cons pe_str (pa_cons pe_int pa_nil))) (pa_cons (pe_tup (pa_cons pe_str (pa_cons pe_int pa_nil))) pa_nil))))))
      (pss_one (ps_ret (pe_ix ix_list (pv 1) (pe_callG c_law_random (hr.mono (by decide)) (by rfl) (pa_cons (pv 0) (pa_cons (pe_ix ix_list (pe_lst (pa_cons pe_int (pa_cons pe_int pa_nil))) (pe_callG c_law_random (hr.mono (by decide)) (by rfl) (pa_cons (pv 0) (pa_cons pe_int pa_nil))) (fun _ _ => rfl)) pa_nil))) (fun _ _ => rfl)))))), ?_⟩
    refine ⟨(by show 2 ≤ sizeLine; decide), fun pa0 npa0 => ⟨(by show 2 ≤ sizeLine; decide), fun pa1 npa1 => ⟨(by show 2 ≤ sizeLine; decide), fun pa2 npa2 => ⟨(by show 2 ≤ sizeLine; decide), fun pa3 npa3 => ⟨(by show 2 ≤ sizeLine; decide), fun pa4 npa4 => ⟨(by show 2 ≤ sizeLine; decide), fun pa5 npa5 => ⟨(by show 2 ≤ sizeLine; decide), fun pa6 npa6 => ⟨(by show 2 ≤ sizeLine; decide), fun pa7 npa7 => ⟨(by show 2 ≤ sizeLine; decide), fun pa8 npa8 => ⟨(by show 9 ≤ sizeLine; decide), fun la nla => ?_⟩⟩⟩⟩⟩⟩⟩⟩⟩⟩
    refine ⟨_, rfl, (by show 2 ≤ sizeLine; decide), fun pb0 npb0 => ⟨(by show 2 ≤ sizeLine; decide), fun pb1 npb1 => ⟨(by show 2 ≤ sizeLine; decide), fun pb2 npb2 => ⟨(by show 3 ≤ sizeLine; decide), fun lb nlb => ?_⟩⟩⟩⟩
    have s_pa0 := Same.upd (o := .tup [.str "plain", .int 3]) npa0
    have s_pa1 := Same.upd (o := .tup [.str "plain", .int 4]) npa1
    have s_pa2 := Same.upd (o := .tup [.str "mirror", .int 2]) npa2
    have s_pa3 := Same.upd (o := .tup [.str "mirror", .int 3]) npa3
    have s_pa4 := Same.upd (o := .tup [.str "ring", .int 3]) npa4
    have s_pa5 := Same.upd (o := .tup [.str "ring", .int 4]) npa5
    have s_pa6 := Same.upd (o := .tup [.str "ring", .int 2]) npa6
    have s_pa7 := Same.upd (o := .tup [.str "plain", .int 5]) npa7
    have s_pa8 := Same.upd (o := .tup [.str "plain", .int 2]) npa8
    have s_la := Same.upd (o := .lst [.ref pa0, .ref pa1, .ref pa2, .ref pa3, .ref pa4, .ref pa5, .ref pa6, .ref pa7, .ref pa8]) nla
    have s_pb0 := Same.upd (o := .tup [.str "mirror", .int 1]) npb0
    have s_pb1 := Same.upd (o := .tup [.str "plain", .int 1]) npb1
    have s_pb2 := Same.upd (o := .tup [.str "mirror", .int 4]) npb2
    have s_lb := Same.upd (o := .lst [.ref pb0, .ref pb1, .ref pb2]) nlb
    have c_lb := s_lb
    have c_pb2 := s_pb2.trans c_lb
    have c_pb1 := s_pb1.trans c_pb2
    have c_pb0 := s_pb0.trans c_pb1
    have c_la := s_la.trans c_pb0
    have c_pa8 := s_pa8.trans c_la
    have c_pa7 := s_pa7.trans c_pa8
    have c_pa6 := s_pa6.trans c_pa7
    have c_pa5 := s_pa5.trans c_pa6
    have c_pa4 := s_pa4.trans c_pa5
    have c_pa3 := s_pa3.trans c_pa4
    have c_pa2 := s_pa2.trans c_pa3
    have c_pa1 := s_pa1.trans c_pa2
    have c_pa0 := s_pa0.trans c_pa1
    have d_pa0 := s_pa0
    have n_pa1 := d_pa0.free npa1
    have d_pa1 := d_pa0.trans s_pa1
    have n_pa2 := d_pa1.free npa2
    have d_pa2 := d_pa1.trans s_pa2
    have n_pa3 := d_pa2.free npa3
    have d_pa3 := d_pa2.trans s_pa3
    have n_pa4 := d_pa3.free npa4
    have d_pa4 := d_pa3.trans s_pa4
    have n_pa5 := d_pa4.free npa5
    have d_pa5 := d_pa4.trans s_pa5
    have n_pa6 := d_pa5.free npa6
    have d_pa6 := d_pa5.trans s_pa6
    have n_pa7 := d_pa6.free npa7
    have d_pa7 := d_pa6.trans s_pa7
    have n_pa8 := d_pa7.free npa8
    have d_pa8 := d_pa7.trans s_pa8
    have n_la := d_pa8.free nla
    have d_la := d_pa8.trans s_la
    have n_pb0 := d_la.free npb0
    have d_pb0 := d_la.trans s_pb0
    have n_pb1 := d_pb0.free npb1
    have d_pb1 := d_pb0.trans s_pb1
    have n_pb2 := d_pb1.free npb2
    have d_pb2 := d_pb1.trans s_pb2
    clear d_pb2 d_pb1 d_pb0 d_la d_pa8 d_pa7 d_pa6 d_pa5 d_pa4 d_pa3 d_pa2 d_pa1 d_pa0
    have f_pa0 := c_pa1 _ _ (upd_selfN (o := .tup [.str "plain", .int 3]) npa0)
    have f_pa1 := c_pa2 _ _ (upd_selfN (o := .tup [.str "plain", .int 4]) npa1)
    have f_pa2 := c_pa3 _ _ (upd_selfN (o := .tup [.str "mirror", .int 2]) npa2)
    have f_pa3 := c_pa4 _ _ (upd_selfN (o := .tup [.str "mirror", .int 3]) npa3)
    have f_pa4 := c_pa5 _ _ (upd_selfN (o := .tup [.str "ring", .int 3]) npa4)
    have f_pa5 := c_pa6 _ _ (upd_selfN (o := .tup [.str "ring", .int 4]) npa5)
    have f_pa6 := c_pa7 _ _ (upd_selfN (o := .tup [.str "ring", .int 2]) npa6)
    have f_pa7 := c_pa8 _ _ (upd_selfN (o := .tup [.str "plain", .int 5]) npa7)
    have f_pa8 := c_la _ _ (upd_selfN (o := .tup [.str "plain", .int 2]) npa8)
    have f_la := c_pb0 _ _ (upd_selfN (o := .lst [.ref pa0, .ref pa1, .ref pa2, .ref pa3, .ref pa4, .ref pa5, .ref pa6, .ref pa7, .ref pa8]) nla)
    have f_pb0 := c_pb1 _ _ (upd_selfN (o := .tup [.str "mirror", .int 1]) npb0)
    have f_pb1 := c_pb2 _ _ (upd_selfN (o := .tup [.str "plain", .int 1]) npb1)
    have f_pb2 := c_lb _ _ (upd_selfN (o := .tup [.str "mirror", .int 4]) npb2)
    have f_lb := upd_selfN (o := .lst [.ref pb0, .ref pb1, .ref pb2]) nlb
    generalize hh1 : L2.upd (L2.upd (L2.upd (L2.upd (L2.upd (L2.upd (L2.upd (L2.upd (L2.upd (L2.upd (L2.upd (L2.upd (L2.upd (L2.upd H pa0 (.tup [.str "plain", .int 3])) pa1 (.tup [.str "plain", .int 4])) pa2 (.tup [.str "mirror", .int 2])) pa3 (.tup [.str "mirror", .int 3])) pa4 (.tup [.str "ring", .int 3])) pa5 (.tup [.str "ring", .int 4])) pa6 (.tup [.str "ring", .int 2])) pa7 (.tup [.str "plain", .int 5])) pa8 (.tup [.str "plain", .int 2])) la (.lst [.ref pa0, .ref pa1, .ref pa2, .ref pa3, .ref pa4, .ref pa5, .ref pa6, .ref pa7, .ref pa8])) pb0 (.tup [.str "mirror", .int 1])) pb1 (.tup [.str "plain", .int 1])) pb2 (.tup [.str "mirror", .int 4])) lb (.lst [.ref pb0, .ref pb1, .ref pb2]) = H1 at *
    refine ⟨la, lb, _, _, rfl, rfl, f_la, f_lb, (by show 12 ≤ sizeLine; decide), fun lc nlc => ?_⟩
    have uc := Same.upd (o := .lst [V.ref pa0, V.ref pa1, V.ref pa2, V.ref pa3, V.ref pa4, V.ref pa5, V.ref pa6, V.ref pa7, V.ref pa8, V.ref pb0, V.ref pb1, V.ref pb2]) nlc
    have flc := upd_selfN (o := .lst [V.ref pa0, V.ref pa1, V.ref pa2, V.ref pa3, V.ref pa4, V.ref pa5, V.ref pa6, V.ref pa7, V.ref pa8, V.ref pb0, V.ref pb1, V.ref pb2]) nlc
    have u02 := c_pa0.trans uc
    have pick : ∀ (r : Int) (hr0 : 0 ≤ r) (hr1 : r < 12), ∃ (t : Addr) (k : Nm) (n : Nat), atI [V.ref pa0, V.ref pa1, V.ref pa2, V.ref pa3, V.ref pa4, V.ref pa5, V.ref pa6, V.ref pa7, V.ref pa8, V.ref pb0, V.ref pb1, V.ref pb2] r = some (.ref t) ∧ (L2.upd H1 lc (.lst [V.ref pa0, V.ref pa1, V.ref pa2, V.ref pa3, V.ref pa4, V.ref pa5, V.ref pa6, V.ref pa7, V.ref pa8, V.ref pb0, V.ref pb1, V.ref pb2])) t = some (.tup [.str k.s, .int (n : Int)]) ∧ okK k n = true ∧ n ≤ 5 ∧ H t = none := by
      intro r hr0 hr1
      have : r = 0 ∨ r = 1 ∨ r = 2 ∨ r = 3 ∨ r = 4 ∨ r = 5 ∨ r = 6 ∨ r = 7 ∨ r = 8 ∨ r = 9 ∨ r = 10 ∨ r = 11 := by omega
      rcases this with rfl | rfl | rfl | rfl | rfl | rfl | rfl | rfl | rfl | rfl | rfl | rfl
      · exact ⟨pa0, .pl, 3, rfl, uc _ _ f_pa0, by decide, by decide, npa0⟩
      · exact ⟨pa1, .pl, 4, rfl, uc _ _ f_pa1, by decide, by decide, n_pa1⟩
      · exact ⟨pa2, .mi, 2, rfl, uc _ _ f_pa2, by decide, by decide, n_pa2⟩
      · exact ⟨pa3, .mi, 3, rfl, uc _ _ f_pa3, by decide, by decide, n_pa3⟩
      · exact ⟨pa4, .ri, 3, rfl, uc _ _ f_pa4, by decide, by decide, n_pa4⟩
      · exact ⟨pa5, .ri, 4, rfl, uc _ _ f_pa5, by decide, by decide, n_pa5⟩
      · exact ⟨pa6, .ri, 2, rfl, uc _ _ f_pa6, by decide, by decide, n_pa6⟩
      · exact ⟨pa7, .pl, 5, rfl, uc _ _ f_pa7, by decide, by decide, n_pa7⟩
      · exact ⟨pa8, .pl, 2, rfl, uc _ _ f_pa8, by decide, by decide, n_pa8⟩
      · exact ⟨pb0, .mi, 1, rfl, uc _ _ f_pb0, by decide, by decide, n_pb0⟩
      · exact ⟨pb1, .pl, 1, rfl, uc _ _ f_pb1, by decide, by decide, n_pb1⟩
      · exact ⟨pb2, .mi, 4, rfl, uc _ _ f_pb2, by decide, by decide, n_pb2⟩
    have hg2 : GenAt (L2.upd H1 lc (.lst [V.ref pa0, V.ref pa1, V.ref pa2, V.ref pa3, V.ref pa4, V.ref pa5, V.ref pa6, V.ref pa7, V.ref pa8, V.ref pb0, V.ref pb1, V.ref pb2])) g a b c := u02 _ _ hg
    have hlo : ∀ {y : Addr} {z : HO}, z ≠ .lst [.int a, .int b, .int c] → (L2.upd H1 lc (.lst [V.ref pa0, V.ref pa1, V.ref pa2, V.ref pa3, V.ref pa4, V.ref pa5, V.ref pa6, V.ref pa7, V.ref pa8, V.ref pb0, V.ref pb1, V.ref pb2])) y = some z → y ≠ g := fun hz hy e => hz (by rw [e, hg2] at hy; exact (Option.some.inj hy).symm)
    have lcg : lc ≠ g := hlo (fun e => by injection e with e; injection e with e _; cases e) flc
    clear hh1
    change _ at q
    refine ⟨_, rfl, _, rfl, (by show 2 ≤ sizeLine; decide), fun l6 n6 => ?_⟩
    have u6 := Same.upd (o := .lst [.int 6, .int 12]) n6
    have f6 := upd_selfN (o := .lst [.int 6, .int 12]) n6
    have l6g : l6 ≠ g := (ne_of_none hg2 n6).symm
    refine ⟨_, rfl, g, a, b, c, 2, rfl, u6 _ _ hg2, ⟨by decide, by decide⟩, ⟨c0, by omega⟩, fun r a1 c2 H3 p0 p1 p2 p3 g3 x3 => ?_⟩
    obtain ⟨m, hm, m0, m1⟩ : ∃ m : Int, atI [V.int 6, V.int 12] r = some (.int m) ∧ 0 < m ∧ m ≤ 12 := by
      have : r = 0 ∨ r = 1 := by omega
      rcases this with rfl | rfl
      · exact ⟨6, rfl, by decide, by decide⟩
      · exact ⟨12, rfl, by decide, by decide⟩
    refine ⟨l6, _, _, _, rfl, rfl, SqL.of (x3 _ _ f6 l6g), hm, g, a1, b, c2, m, rfl, g3, ⟨m0, by omega⟩, ⟨p2, by omega⟩, fun r2 a3 c4 H4 q0 q1 q2 q3 g4 x4 => ?_⟩
    obtain ⟨t, k, n, hix, hT, hK, hn5, hnt⟩ := pick r2 q0 (by omega)
    have x24 := ((Same.x g u6).trans x3).trans x4
    have tg : t ≠ g := hlo (fun e => by cases e) hT
    exact ⟨lc, _, r2, _, rfl, rfl, SqL.of (x24 _ _ flc lcg), hix, q t k n a3 c4 H4 hK hn5 q2 (by omega) g4 ((Same.x g u02).trans x24) tg hnt (x24 _ _ hT tg)⟩
def spLeastW (K : PySem.W.Frag) : Sp := fun vs H Q _ => ∃ (t o : Addr) (k : Nm) (n : Nat) (ws : List Int), vs = [.ref t, .ref o] ∧ TO K H t o k n ws ∧ Form k n ws ∧ crP k n ws ≤ 200 ∧
  ∀ (q : Addr) (l : List Int) (H' : Hp), Least k n ws l → Same H H' → H q = none → H' q = some (.lst (l.map V.int)) → Q (.ref q) H'
theorem ok_leastW (T : Tx K mg) (F : FnP K "_law_least" "_law_least" s__law_least f fd) (c_law_many : Gd P w K mg base "_law_many" ["_law_pair"] 1 (spMany K)) (c_law_crossed : Gd P w K mg base "_law_crossed" ["_law_pair", "_law_order_here", "_law_step_here"] 1 (spCrossT K)) (c_law_step : Gd P w K mg base "_law_step" ["_law_pair", "_law_order_here", "_law_step_here"] 1 (spStepT K)) : FnOk P w K mg base CX0 4 f fd ["_law_pair", "_law_order_here"] (spLeastW K) := by
  refine okN F sc__law_least (fun vs H Q E h => ?_) (fun cdv A outer s H vs Q E hr h => ?_)
  · obtain ⟨t, o, k, n, ws, rfl, _⟩ := h
    rfl
  · obtain ⟨t, o, k, n, ws, rfl, hh, hF, h5, q⟩ := h
    have hn := okK_le hh.ok
    have hm := many_nn hh.ok
    refine ⟨_, (pss_cons (ps_asg (pe_tup (pa_cons (pe_lst pa_nil) (pa_cons (pe_callTy call_list_of (by rfl) T.m_list (by decide +kernel) (pa_cons (pv 1) pa_nil)) pa_nil))) (pg_tup rfl (pgs_cons (pg_name (i := 2) sc__law_least.nd rfl (Or.inl rfl)) (pgs_cons (pg_name (i := 3) sc__law_least.nd rfl (Or.inr rfl)) pgs_nil))))
      (pss_cons (ps_setLc (i := 4) (own := [(("_law_step_here" : Str), 5)]) (g := (gName 5)) rfl sc__law_least.nd rfl rfl (sw_true rfl rfl rfl (by decide +kernel)) (pi_range1 (by rfl) T.m_range (pa_cons (pe_callG c_law_many (hr.mono (by decide)) (by rfl) (pa_cons (pv 0) pa_nil)) pa_nil)) (blkOk_by (own := [(("_law_step_here" : Str), 5)]) (N := ["_law_pair", "_law_order_here", "_law_found", "_law_left", "_law_crossed_here", "_law_step_here"]) (sc := defScope s__law_least) (by decide +kernel)) (fun _ _ _ _ _ => (pg_name (i := 5) sc__law_least.nd rfl (Or.inl rfl))) (fun _ _ _ _ _ => pts_one (pt_val (pe_callG c_law_crossed (hr.mono (by decide)) (by rfl) (pa_cons (pv 0) (pa_cons (pv 3) (pa_cons (pv 5) pa_nil)))))) (fun _ _ _ _ _ => (pv 5)))
      (pss_cons (ps_while PassesOwn.never (pt_cmpR (op_neD hr.units) (pv 4) (pe_lst pa_nil) (nomark _)) (pss_cons (ps_set (i := 5) sc__law_least.nd rfl (by first | exact Or.inl rfl | exact Or.inr rfl) (pe_ix ix_list (pv 4) (pe_op op_sub (pe_callB call_len_seq (by rfl) T.m_len (by decide +kernel) (pa_cons (pv 4) pa_nil)) pe_int) (fun _ _ => rfl)))
      (pss_cons (ps_expr (pe_bm PySem.F.plainAttrs_list PySem.F.slot_list_append PySem.F.type_list_append mt_append (pv 2) (pa_cons (pv 5) pa_nil)))
      (pss_cons (ps_set (i := 3) sc__law_least.nd rfl (by first | exact Or.inl rfl | exact Or.inr rfl) (pe_callG c_law_step (hr.mono (by decide)) (by rfl) (pa_cons (pv 0) (pa_cons (pv 3) (pa_cons (pv 5) pa_nil)))))
      (pss_one (ps_setLc (i := 4) (own := [(("_law_step_here" : Str), 5)]) (g := (gName 5)) rfl sc__law_least.nd rfl rfl (sw_true rfl rfl rfl (by decide +kernel)) (pi_range1 (by rfl) T.m_range (pa_cons (pe_callG c_law_many (hr.mono (by decide)) (by rfl) (pa_cons (pv 0) pa_nil)) pa_nil)) (blkOk_by (own := [(("_law_step_here" : Str), 5)]) (N := ["_law_pair", "_law_order_here", "_law_found", "_law_left", "_law_crossed_here", "_law_step_here"]) (sc := defScope s__law_least) (by decide +kernel)) (fun _ _ _ _ _ => (pg_name (i := 5) sc__law_least.nd rfl (Or.inl rfl))) (fun _ _ _ _ _ => pts_one (pt_val (pe_callG c_law_crossed (hr.mono (by decide)) (by rfl) (pa_cons (pv 0) (pa_cons (pv 3) (pa_cons (pv 5) pa_nil)))))) (fun _ _ _ _ _ => (pv 5))))))))
      (pss_one (ps_ret (pe_revL (pv 2))))))), ?_⟩
    refine ⟨Nat.zero_le _, fun lf nf => ?_⟩
    have u1 := Same.upd (o := .lst []) nf
    refine ⟨_, rfl, o, _, rfl, .inl (u1.seq hh.ord), fun ll nl => ?_⟩
    have u2 := u1.trans (Same.upd (o := .lst (ws.map V.int)) nl)
    have hlf : (L2.upd (L2.upd H lf (.lst [])) ll (.lst (ws.map V.int))) lf = some (.lst []) := by
      rw [upd_ne (ne_of_none upd_same nl), upd_same]
    have hll0 : (L2.upd (L2.upd H lf (.lst [])) ll (.lst (ws.map V.int))) ll = some (.lst (ws.map V.int)) := upd_same
    have ell0 : ll ≠ lf := (ne_of_none upd_same nl).symm
    generalize L2.upd (L2.upd H lf (.lst [])) ll (.lst (ws.map V.int)) = H1 at *
    refine ⟨(by show 2 ≤ sizeLine; decide), fun tp ntp => ?_⟩
    have u3 := Same.upd (o := .tup [.ref lf, .ref ll]) ntp
    refine ⟨tp, _, rfl, SqT.of upd_same, rfl, _, _, rfl, _, _, rfl, rfl, ?_⟩
    have hlf := u3 _ _ hlf
    have hll0 := u3 _ _ hll0
    have u2 := u2.trans u3
    generalize L2.upd H1 tp (.tup [.ref lf, .ref ll]) = H1' at *
    -- the steps that are crossed, at first
    refine ⟨_, rfl, t, k, n, rfl, Same.tup u2 hh.told, (many k n).toNat, by rw [Int.toNat_of_nonneg hm.1], by omega, by omega, fun D nD => ?_⟩
    refine lc_range (lo := 0) (n := (many k n).toNat) (fun i H2 => H2 D = some (.lst ((((List.range i).filter (crossP k n ws)).map fun (s : Nat) => (s : Int)).map V.int)) ∧ Same H1' H2) ⟨upd_same, Same.upd nD⟩ ?_ ?_
    · rintro i H2 hi ⟨hD, s2⟩
      rw [Int.zero_add]
      have hs : okS k n (i : Int) := ⟨by omega, by omega⟩
      refine ⟨rfl, ?_⟩
      refine ⟨_, rfl, _, rfl, _, rfl, t, ll, k, n, ws, _, rfl, ⟨Same.tup (u2.trans s2) hh.told, SqL.of (s2 _ _ hll0), hh.len, hh.ok⟩, hs, _, rfl, ?_⟩
      rw [← cross_eq hh.ok hs hh.len]
      rw [List.range_succ, List.filter_append]
      by_cases hc : crossP k n ws i = true
      · refine iteP hc ?_
        refine ⟨_, rfl, _, hD, ?_, ?_, Same_updD s2 nD⟩
        · rw [List.length_map, List.length_map]
          exact small1000 (by have := List.length_filter_le (crossP k n ws) (List.range i); rw [List.length_range] at this; omega)
        · rw [push_int, List.map_append]
          simp [hc]
      · refine iteN hc ?_
        refine ⟨?_, s2⟩
        rw [hD]
        simp [hc]
    rintro H3 ⟨hD3, s3⟩
    refine ⟨fun m σ H4 => ∃ (ll ls : Addr) (fs u : List Int) (v5 : Option V), σ = [some (.ref t), some (.ref o), some (.ref lf), some (.ref ll), some (.ref ls), v5] ∧ m = (crP k n u).toNat ∧ Same H H4 ∧ H4 lf = some (.lst (fs.map V.int)) ∧ SqL K H4 ll (u.map V.int) ∧ ll ≠ lf ∧ H4 ls = some (.lst ((fallsP k n u).map V.int)) ∧ ls ≠ lf ∧
        (∀ s ∈ fs, okS k n s) ∧ run k n ws fs = u ∧ Form k n u ∧ crP k n u + (fs.length : Int) = crP k n ws,
      ⟨_, ll, D, [], ws, none, rfl, rfl, u2.trans s3, s3 _ _ hlf, SqL.of (s3 _ _ hll0), ell0, hD3, (ne_of_none hlf nD).symm, (fun s h => by cases h), rfl, hF, by show crP k n ws + 0 = _; omega⟩, ?_⟩
    clear hll0 u2 hlf hD3 s3
    rintro m σ H4 ⟨ll, ls, fs, u, v5, rfl, rfl, s4, hlf4, hll, ell, hls, els, hfs, hrun, hFu, hcr⟩
    have cu := cr_nn k n u
    refine ⟨_, rfl, Nat.zero_le _, fun e ne => ?_⟩
    have ue := Same.upd (o := .lst []) ne
    refine ⟨_, _, dp_list (SqL.of (ue _ _ hls)), Dp.lst (xs := []) (ds := []) (SqL.of upd_same) .nil, shaped_ints _, rfl, _, rfl, ?_⟩
    have ee : PyData.eqv (.list ((fallsP k n u).map PyData.int)) (.list []) = decide (fallsP k n u = []) := eqv_l (fallsP k n u) []
    rw [ee]
    refine ite2 (fun hc => ?_) (fun hc => ?_)
    · have hne : fallsP k n u ≠ [] := fun z => by rw [z] at hc; exact absurd hc (by decide)
      have hpos : 0 < (fallsP k n u).length := List.length_pos_iff.mpr hne
      obtain ⟨hsS, hsC⟩ := (mem_fallsP hh.ok hFu.1).mp (mem_getD (w := fallsP k n u) (i := (fallsP k n u).length - 1) (by omega))
      have hlg := last_get hpos
      generalize hz : (fallsP k n u).getD ((fallsP k n u).length - 1) 0 = z at hsS hsC hlg
      have hst := cr_stepI hh.ok hsS hFu
      rw [if_pos hsC] at hst
      have cs := cr_nn k n (stepped k n u z)
      refine ⟨fun σ' H' => ∃ m', m' < (crP k n u).toNat ∧ _, fun σ' H' h => h, ?_⟩
      have hlse := SqL.of (K := K) (ue _ _ hls)
      refine ⟨_, rfl, _, rfl, ls, _, rfl, .inl hlse, _, _, rfl, rfl, ls, _, _, _, rfl, rfl, hlse, hlg, ?_⟩
      refine ⟨_, rfl, .inl ⟨rfl, _, SqL.of (ue _ _ hlf4)⟩, _, rfl, lf, _, _, rfl, rfl, ue _ _ hlf4, ?_, ?_⟩
      · rw [List.length_map]
        exact small1000 (by omega)
      have xf : SameX lf (L2.upd H4 e (.lst [])) (L2.upd (L2.upd H4 e (.lst [])) lf (.lst (fs.map V.int ++ [.int z]))) := SameX.upd
      have s5 : Same H (L2.upd (L2.upd H4 e (.lst [])) lf (.lst (fs.map V.int ++ [.int z]))) := Same_updD (s4.trans ue) nf
      have hll5 := xf.seq ell (ue.seq hll)
      have hlf5 : (L2.upd (L2.upd H4 e (.lst [])) lf (.lst (fs.map V.int ++ [.int z]))) lf = some (.lst ((fs ++ [z]).map V.int)) := push_int _ _ _ _
      generalize L2.upd (L2.upd H4 e (.lst [])) lf (.lst (fs.map V.int ++ [.int z])) = H5 at *
      refine ⟨_, rfl, _, rfl, _, rfl, t, ll, k, n, u, z, rfl, ⟨Same.tup s5 hh.told, hll5, hFu.1, hh.ok⟩, hsS, fun l6 H6 s6 n6 h6 => ?_⟩
      have s56 := s5.trans s6
      have hlf6 := s6 _ _ hlf5
      refine ⟨_, rfl, t, k, n, rfl, Same.tup s56 hh.told, (many k n).toNat, by rw [Int.toNat_of_nonneg hm.1], by omega, by omega, fun D nD => ?_⟩
      refine lc_range (lo := 0) (n := (many k n).toNat) (fun i H2 => H2 D = some (.lst ((((List.range i).filter (crossP k n (stepped k n u z))).map fun (s : Nat) => (s : Int)).map V.int)) ∧ Same H6 H2) ⟨upd_same, Same.upd nD⟩ ?_ ?_
      · rintro i H2 hi ⟨hD, s2⟩
        rw [Int.zero_add]
        have hs : okS k n (i : Int) := ⟨by omega, by omega⟩
        refine ⟨rfl, ?_⟩
        refine ⟨_, rfl, _, rfl, _, rfl, t, l6, k, n, stepped k n u z, _, rfl, ⟨Same.tup (s56.trans s2) hh.told, SqL.of (s2 _ _ h6), hst.2.1, hh.ok⟩, hs, _, rfl, ?_⟩
        rw [← cross_eq hh.ok hs hst.2.1]
        rw [List.range_succ, List.filter_append]
        by_cases hc : crossP k n (stepped k n u z) i = true
        · refine iteP hc ?_
          refine ⟨_, rfl, _, hD, ?_, ?_, Same_updD s2 nD⟩
          · rw [List.length_map, List.length_map]
            exact small1000 (by have := List.length_filter_le (crossP k n (stepped k n u z)) (List.range i); rw [List.length_range] at this; omega)
          · rw [push_int, List.map_append]
            simp [hc]
        · refine iteN hc ?_
          refine ⟨?_, s2⟩
          rw [hD]
          simp [hc]
      rintro H7 ⟨hD7, s7⟩
      refine ⟨_, ?_, l6, D, fs ++ [z], stepped k n u z, _, rfl, rfl, s56.trans s7, s7 _ _ hlf6, SqL.of (s7 _ _ h6), (ne_of_none hlf5 n6).symm, hD7, (ne_of_none hlf6 nD).symm, ?_, ?_, hst.2, ?_⟩
      · omega
      · intro s hs
        rcases List.mem_append.mp hs with h | h
        · exact hfs s h
        · rw [List.mem_singleton.mp h]
          exact hsS
      · rw [run_snoc, hrun]
      · rw [List.length_append, List.length_singleton]
        omega
    · have hnil : fallsP k n u = [] := by
        cases z : fallsP k n u with
        | nil => rfl
        | cons a r => rw [z] at hc; exact absurd rfl hc
      have hu := falls_nil hh.ok hFu hnil
      refine ⟨_, rfl, lf, _, rfl, SqL.of (ue _ _ hlf4), fun p np => ?_⟩
      have s6 := (s4.trans ue).trans (Same.upd (o := .lst (fs.map V.int).reverse) np)
      refine q p fs.reverse _ ⟨rev_ok hfs, ?_, ?_⟩ s6 ((s4.trans ue).free np) ?_
      · have := run_rev hh.ok (l := fs) (w := ws) hfs hh.len
        rw [hrun, hu] at this
        exact this
      · rw [List.length_reverse]
        rw [hu, cr_start hh.ok] at hcr
        omega
      · rw [upd_same, List.map_reverse]
/-- rows that stand at addresses other than fo -/
def PA (H0 : Hp) (fo : Addr) (H : Hp) (ps : List (Addr × List Int)) : Prop := ∀ p ∈ ps, H p.1 = some (.lst (p.2.map V.int)) ∧ p.1 ≠ fo ∧ H0 p.1 = none
theorem PA.keep {fo : Addr} {H0 H H' : Hp} {ps : List (Addr × List Int)} (e : L2.Same H H') (h : PA H0 fo H ps) : PA H0 fo H' ps := fun p hp => ⟨e _ _ (h p hp).1, (h p hp).2⟩
theorem PA.updF {fo : Addr} {H0 H : Hp} {ps : List (Addr × List Int)} {x : HO} (h : PA H0 fo H ps) : PA H0 fo (L2.upd H fo x) ps := fun p hp => ⟨by rw [upd_ne (h p hp).2.1]; exact (h p hp).1, (h p hp).2⟩
theorem PA.updD {fo me : Addr} {H0 H : Hp} {ps : List (Addr × List Int)} {x : HO} {kvs : List (L2.Key × V)} (hm : H me = some (.dK kvs)) (h : PA H0 fo H ps) : PA H0 fo (L2.upd H me x) ps := fun p hp => by
  have hne : p.1 ≠ me := fun e => by
    have := (h p hp).1
    rw [e, hm] at this
    cases this
  exact ⟨by rw [upd_ne hne]; exact (h p hp).1, (h p hp).2⟩
def spParts (K : PySem.W.Frag) : Sp := fun vs H Q _ => ∃ (t r : Addr) (k : Nm) (n : Nat) (l : List Int), vs = [.ref t, .ref r] ∧ Told K H t k n ∧ okK k n = true ∧ SqL K H r (l.map V.int) ∧ (∀ s ∈ l, okS k n s) ∧ l.length ≤ 8 ∧
  ∀ (q : Addr) (ps : List (Addr × List Int)) (H' : Hp), Same H H' → H q = none → H' q = some (.lst (refsV ps)) → RowsAt H' ps → (∀ p ∈ ps, H p.1 = none) → (∀ w, (∃ p ∈ ps, p.2 = w) ↔ ∃ m, m.Sublist l ∧ run k n (startL k n) m = w) → ps.length ≤ 256 → Q (.ref q) H'
theorem ok_parts (T : Tx K mg) (F : FnP K "_law_parts" "_law_parts" s__law_parts f fd) (c_law_start : Gd P w K mg base "_law_start" ["_law_pair"] 1 (spStart K)) (c_law_step : Gd P w K mg base "_law_step" ["_law_pair", "_law_order_here", "_law_step_here"] 1 (spStepT K)) : FnG P w K mg base 5 f fd ["_law_pair", "_law_row_here"] (spParts K) := by
  refine okG F sc__law_parts (fun vs H Q E h => ?_) (fun cdv A outer s H vs Q E gs hr h => ?_)
  · obtain ⟨t, r, k, n, l, rfl, _⟩ := h
    rfl
  · obtain ⟨t, r, k, n, l, rfl, hT, hK, hR, hl, hl7, q⟩ := h
    have hn := okK_le hK
    refine ⟨_, (pss_cons (ps_set (i := 2) sc__law_parts.nd rfl (by first | exact Or.inl rfl | exact Or.inr rfl) (pe_lst (pa_cons (pe_callG c_law_start (hr.mono (by decide)) (by rfl) (pa_cons (pv 0) pa_nil)) pa_nil)))
      (pss_cons (ps_set (i := 3) sc__law_parts.nd rfl (by first | exact Or.inl rfl | exact Or.inr rfl) (pe_disp (pps_cons (pe_callB (call_reprL gs hr) (by rfl) T.m_repr (by decide +kernel) (pa_cons (pe_ix ix_list (pv 2) pe_int (fun _ _ => rfl)) pa_nil)) pe_bl pps_nil) (by rfl) (by rfl) (fun z => by cases z) (by decide)))
      (pss_cons (ps_for PassesOwn.never rfl (pi_list (pv 1)) (pg_name (i := 4) sc__law_parts.nd rfl (Or.inl rfl)) (pss_one (ps_for PassesOwn.never rfl (pi_list (pe_callTy call_list_of (by rfl) T.m_list (by decide +kernel) (pa_cons (pv 2) pa_nil))) (pg_name (i := 5) sc__law_parts.nd rfl (Or.inl rfl)) (pss_cons (ps_set (i := 6) sc__law_parts.nd rfl (by first | exact Or.inl rfl | exact Or.inr rfl) (pe_callG c_law_step (hr.mono (by decide)) (by rfl) (pa_cons (pv 0) (pa_cons (pv 5) (pa_cons (pv 4) pa_nil)))))
      (pss_one (ps_if (pt_cmp (pc_dnotin (hu_of hr) (pe_callB (call_reprL gs hr) (by rfl) T.m_repr (by decide +kernel) (pa_cons (pv 6) pa_nil)) (pv 3))) (pss_cons (ps_dput (hu_of hr) (pv 3) (pe_callB (call_reprL gs hr) (by rfl) T.m_repr (by decide +kernel) (pa_cons (pv 6) pa_nil)) pe_bl (by rfl))
      (pss_one (ps_expr (pe_bm PySem.F.plainAttrs_list PySem.F.slot_list_append PySem.F.type_list_append mt_append (pv 2) (pa_cons (pv 6) pa_nil))))) pss_nil))))))
      (pss_one (ps_ret (pe_callB (cr_sortedRows (room64 hr)) (by rfl) T.m_sorted (by decide +kernel) (pa_cons (pv 2) pa_nil))))))), ?_⟩
    refine ⟨_, rfl, t, k, n, rfl, hT, by omega, fun a0 n0 => ?_⟩
    have u1 := Same.upd (o := .lst ((startL k n).map V.int)) n0
    have ha0 : (L2.upd H a0 (.lst ((startL k n).map V.int))) a0 = some (.lst ((startL k n).map V.int)) := upd_same
    generalize L2.upd H a0 (.lst ((startL k n).map V.int)) = H1 at *
    refine ⟨(by show 1 ≤ sizeLine; decide), fun fo nfo => ?_⟩
    have u2 := Same.upd (o := .lst [.ref a0]) nfo
    have hfo : (L2.upd H1 fo (.lst [.ref a0])) fo = some (.lst [.ref a0]) := upd_same
    have afo : a0 ≠ fo := ne_of_none ha0 nfo
    have ha02 := u2 _ _ ha0
    have nfoH : H fo = none := u1.free nfo
    have s2 := u1.trans u2
    generalize L2.upd H1 fo (.lst [.ref a0]) = H2 at *
    have shw : ∀ {m : List Int}, m.Sublist l → PyData.showable (dL (run k n (startL k n) m)) = true ∧ PyData.hasDict (dL (run k n (startL k n) m)) = false ∧ PyData.depth (dL (run k n (startL k n) m)) ≤ 100 ∧ (PyData.shown (dL (run k n (startL k n) m))).length ≤ sizeLine := fun {m} hm => by
      have hok : ∀ s ∈ m, okS k n s := fun s hs => hl s (hm.subset hs)
      have hlen := hm.length_le
      exact showL (bnd_made hK hok (by omega)) (by rw [run_len (startL_len k n)]; omega)
    refine fun me nme => ?_
    have u3 := Same.upd (o := .dK []) nme
    have fome : fo ≠ me := ne_of_none hfo nme
    have hs0 := shw (List.nil_sublist l)
    refine ⟨_, rfl, fo, _, 0, _, rfl, rfl, SqL.of (u3 _ _ hfo), rfl, a0, dL (startL k n), rfl, dp_list (SqL.of (u3 _ _ ha02)), hs0.1, hs0.2.1, hs0.2.2.1, hs0.2.2.2, upd_same, [(kS (startL k n), .bl true)], rfl, (by show (1 : Nat) ≤ 15; decide), ?_⟩
    have hme : (L2.upd (L2.upd H2 me (.dK [])) me (.dK (mergeK [] [(kS (startL k n), .bl true)]))) me = some (.dK [(kS (startL k n), .bl true)]) := upd_same
    have s3 : Same H2 (L2.upd (L2.upd H2 me (.dK [])) me (.dK (mergeK [] [(kS (startL k n), .bl true)]))) := Same_updD u3 nme
    have nmeH : H me = none := s2.free nme
    generalize L2.upd (L2.upd H2 me (.dK [])) me (.dK (mergeK [] [(kS (startL k n), .bl true)])) = H3 at *
    refine ⟨_, rfl, r, rfl, ⟨_, (s2.trans s3).seq hR⟩, ?_⟩
    refine for_list (K := K) (a := r) (xs := l.map V.int) (fun i σ H4 => ∃ (ps : List (Addr × List Int)) (kvs : List (L2.Key × V)) (v4 v5 v6 : Option V), σ = [some (.ref t), some (.ref r), some (.ref fo), some (.ref me), v4, v5, v6] ∧ Same H H4 ∧ H4 fo = some (.lst (refsV ps)) ∧ H4 me = some (.dK kvs) ∧ PA H fo H4 ps ∧
        (∀ w, w.length = n → ((valV kvs (kS w)).isSome = true ↔ ∃ p ∈ ps, p.2 = w)) ∧ (∀ w, (∃ p ∈ ps, p.2 = w) ↔ ∃ m, m.Sublist (l.take i) ∧ run k n (startL k n) m = w) ∧ ps.length ≤ 2 ^ i ∧ kvs.length ≤ ps.length)
      ⟨[(a0, startL k n)], [(kS (startL k n), .bl true)], none, none, none, rfl, s2.trans s3, s3 _ _ hfo, hme, ?_, ?_, ?_, by simp, by simp⟩ (fun i σ H4 _ h4 => by obtain ⟨_, _, _, _, _, _, s4, _⟩ := h4; exact s4.seq hR) ?_ ?_
    · intro p hp
      rw [List.mem_singleton.mp hp]
      exact ⟨s3 _ _ ha02, afo, n0⟩
    · intro w hw
      by_cases e : w = startL k n
      · subst e
        rw [valV_pos rfl]
        exact ⟨fun _ => ⟨_, List.mem_singleton.mpr rfl, rfl⟩, fun _ => rfl⟩
      · have : ¬ kS (startL k n) = kS w := fun z => e ((kS_inj (by rw [startL_len, hw])).mp z).symm
        rw [valV_neg this, valV_nil]
        refine ⟨fun z => (by cases z), fun z => ?_⟩
        obtain ⟨p, hp, ep⟩ := z
        exact absurd (by rw [← ep, List.mem_singleton.mp hp]) e
    · intro w
      rw [List.take_zero]
      constructor
      · rintro ⟨p, hp, rfl⟩
        rw [List.mem_singleton.mp hp]
        exact ⟨[], List.Sublist.refl _, rfl⟩
      · rintro ⟨m, hm, rfl⟩
        rw [List.sublist_nil.mp hm]
        exact ⟨_, List.mem_singleton.mpr rfl, rfl⟩
    · rintro i x σ H4 hi ⟨ps, kvs, v4, v5, v6, rfl, s4, hfo4, hme4, hP, hk, hw, c1, c2⟩
      obtain ⟨hj, rfl⟩ := at_map hi
      have hz := hl _ (mem_getD hj)
      have c3 : ps.length ≤ 128 := by
        have : 2 ^ i ≤ 2 ^ 7 := Nat.pow_le_pow_right (by decide) (by omega)
        omega
      refine ⟨_, rfl, fo, _, rfl, .inl (SqL.of hfo4), fun cp ncp => ⟨cp, rfl, ⟨_, SqL.of upd_same⟩, ?_⟩⟩
      have u5 := Same.upd (o := .lst (refsV ps)) ncp
      have hcp : (L2.upd H4 cp (.lst (refsV ps))) cp = some (.lst (refsV ps)) := upd_same
      have cpfo : cp ≠ fo := (ne_of_none hfo4 ncp).symm
      have cpme : cp ≠ me := (ne_of_none hme4 ncp).symm
      have hfo5 := u5 _ _ hfo4
      have hme5 := u5 _ _ hme4
      have hP5 := hP.keep u5
      have s5 := s4.trans u5
      generalize L2.upd H4 cp (.lst (refsV ps)) = H5 at *
      refine for_list (K := K) (a := cp) (xs := refsV ps) (fun j σ H6 => ∃ (qs : List (Addr × List Int)) (kvs : List (L2.Key × V)) (v5 v6 : Option V), σ = [some (.ref t), some (.ref r), some (.ref fo), some (.ref me), some (.int (l.getD i 0)), v5, v6] ∧ Same H H6 ∧ H6 cp = some (.lst (refsV ps)) ∧ H6 fo = some (.lst (refsV (ps ++ qs))) ∧ H6 me = some (.dK kvs) ∧ PA H fo H6 (ps ++ qs) ∧
          (∀ w, w.length = n → ((valV kvs (kS w)).isSome = true ↔ ∃ p ∈ ps ++ qs, p.2 = w)) ∧ (∀ p ∈ qs, ∃ u ∈ ps, p.2 = stepped k n u.2 (l.getD i 0)) ∧ (∀ j' < j, ∀ u, ps[j']? = some u → ∃ p ∈ ps ++ qs, p.2 = stepped k n u.2 (l.getD i 0)) ∧ qs.length ≤ j ∧ kvs.length ≤ (ps ++ qs).length)
        ⟨[], kvs, v5, v6, rfl, s5, hcp, by rw [List.append_nil]; exact hfo5, hme5, by rw [List.append_nil]; exact hP5, by rw [List.append_nil]; exact hk, (fun p h => by cases h), (fun j' h => absurd h (Nat.not_lt_zero _)), Nat.le_refl _, by rw [List.append_nil]; exact c2⟩
        (fun j σ H6 _ h6 => by obtain ⟨_, _, _, _, _, _, h6, _⟩ := h6; exact SqL.of h6) ?_ ?_
      · rintro j x σ H6 hx ⟨qs, kvs, v5, v6, rfl, s6, hcp6, hfo6, hme6, hP6, hk6, hC, hD, e1, e2⟩
        obtain ⟨u, hu, rfl⟩ : ∃ u, ps[j]? = some u ∧ x = V.ref u.1 := by
          rw [List.getElem?_map] at hx
          obtain ⟨u, hu, rfl⟩ := Option.map_eq_some_iff.mp hx
          exact ⟨u, hu, rfl⟩
        have hup : u ∈ ps := List.mem_of_getElem? hu
        have hjl : j < ps.length := (List.getElem?_eq_some_iff.mp hu).1
        obtain ⟨m, hm, em⟩ := (hw u.2).mp ⟨u, hup, rfl⟩
        have hmo : ∀ s ∈ m, okS k n s := fun s hs => hl s (List.mem_of_mem_take (hm.subset hs))
        have hul : u.2.length = n := by rw [← em]; exact run_len (startL_len k n)
        have hu6 := hP6 u (List.mem_append_left _ hup)
        refine ⟨_, rfl, _, rfl, _, rfl, t, u.1, k, n, u.2, l.getD i 0, rfl, ⟨Same.tup s6 hT, SqL.of hu6.1, hul, hK⟩, hz, fun fu H7 s7 n7 h7 => ?_⟩
        have hsub : (m ++ [l.getD i 0]).Sublist l := by
          have h1 : l.take (i + 1) = l.take i ++ [l.getD i 0] := take_succ (by rw [List.getD_eq_getElem?_getD, List.getElem?_eq_getElem hj]; rfl)
          exact (sub_snoc.mpr (.inr ⟨m, hm, rfl⟩) : (m ++ [l.getD i 0]).Sublist (l.take i ++ [l.getD i 0])).trans (by rw [← h1]; exact List.take_sublist _ _)
        have er : stepped k n u.2 (l.getD i 0) = run k n (startL k n) (m ++ [l.getD i 0]) := by rw [run_snoc, em]
        have shs := shw hsub
        rw [← er] at shs
        generalize hw2 : stepped k n u.2 (l.getD i 0) = w2 at *
        have hw2l : w2.length = n := by rw [← hw2]; exact stepped_len _ _ _ _
        have hfo7 := s7 _ _ hfo6
        have hme7 := s7 _ _ hme6
        have hcp7 := s7 _ _ hcp6
        have hP7 := hP6.keep s7
        have fufo : fu ≠ fo := (ne_of_none hfo6 n7).symm
        refine ⟨_, rfl, fu, dL w2, rfl, dp_list (SqL.of h7), shs.1, shs.2.1, shs.2.2.1, shs.2.2.2, ?_⟩
        refine ⟨_, rfl, me, _, rfl, DGet.k (k := kS w2) hme7, _, rfl, ?_⟩
        by_cases hin : (valV kvs (kS w2)).isSome = true
        · refine iteN (by rw [hin]; decide) ?_
          refine ⟨qs, kvs, _, _, rfl, s6.trans s7, hcp7, hfo7, hme7, hP7, hk6, hC, fun j' hj' u' hu' => ?_, by omega, e2⟩
          by_cases ej : j' = j
          · subst ej
            rw [hu] at hu'
            cases hu'
            obtain ⟨p, hp, ep⟩ := (hk6 w2 hw2l).mp hin
            exact ⟨p, hp, by rw [ep, hw2]⟩
          · exact hD j' (by omega) u' hu'
        · refine iteP (by rw [Bool.eq_false_iff.mpr hin]; rfl) ?_
          have hlen : (ps ++ qs).length ≤ 256 := by rw [List.length_append]; omega
          refine ⟨_, rfl, _, rfl, fu, dL w2, rfl, dp_list (SqL.of h7), shs.1, shs.2.1, shs.2.2.1, shs.2.2.2, me, _, rfl, DPut.k (k := kS w2) hme7 (small1000 (by omega)), ?_⟩
          have fume : fu ≠ me := (ne_of_none hme6 n7).symm
          have hfo8 : (L2.upd H7 me (.dK (putK kvs (kS w2) (.bl true)))) fo = some (.lst (refsV (ps ++ qs))) := by rw [upd_ne fome]; exact hfo7
          have hcp8 : (L2.upd H7 me (.dK (putK kvs (kS w2) (.bl true)))) cp = some (.lst (refsV ps)) := by rw [upd_ne cpme]; exact hcp7
          have hfu8 : (L2.upd H7 me (.dK (putK kvs (kS w2) (.bl true)))) fu = some (.lst (w2.map V.int)) := by rw [upd_ne fume]; exact h7
          have hme8 : (L2.upd H7 me (.dK (putK kvs (kS w2) (.bl true)))) me = some (.dK (putK kvs (kS w2) (.bl true))) := upd_same
          have hP8 := hP7.updD (x := .dK (putK kvs (kS w2) (.bl true))) hme7
          have s8 := Same_updD (o := .dK (putK kvs (kS w2) (.bl true))) (s6.trans s7) nmeH
          generalize L2.upd H7 me (.dK (putK kvs (kS w2) (.bl true))) = H8 at *
          refine ⟨_, rfl, .inl ⟨rfl, _, SqL.of hfo8⟩, _, rfl, fo, _, _, rfl, rfl, hfo8, ?_, ?_⟩
          · rw [List.length_map]
            exact small1000 (by omega)
          have hpl := putK_len kvs (kS w2) (.bl true)
          have eapp : ps ++ (qs ++ [(fu, w2)]) = (ps ++ qs) ++ [(fu, w2)] := (List.append_assoc ..).symm
          refine ⟨qs ++ [(fu, w2)], putK kvs (kS w2) (.bl true), _, _, rfl, Same_updD s8 nfoH, by rw [upd_ne cpfo]; exact hcp8, by rw [upd_same, eapp]; simp [refsV], by rw [upd_ne fome.symm]; exact hme8, ?_, ?_, ?_, ?_, ?_, ?_⟩
          · rw [eapp]
            intro p hp
            rcases List.mem_append.mp hp with h | h
            · exact hP8.updF p h
            · rw [List.mem_singleton.mp h]
              exact ⟨by rw [upd_ne fufo]; exact hfu8, fufo, s6.free n7⟩
          · intro w' hw'
            rw [eapp, valV_put]
            by_cases ew : w' = w2
            · subst ew
              rw [if_pos rfl]
              exact ⟨fun _ => ⟨_, List.mem_append_right _ (List.mem_singleton.mpr rfl), rfl⟩, fun _ => rfl⟩
            · rw [if_neg (fun z => ew ((kS_inj (by rw [hw', hw2l])).mp z)), hk6 w' hw']
              constructor
              · rintro ⟨p, hp, ep⟩
                exact ⟨p, List.mem_append_left _ hp, ep⟩
              · rintro ⟨p, hp, ep⟩
                rcases List.mem_append.mp hp with h | h
                · exact ⟨p, h, ep⟩
                · rw [List.mem_singleton.mp h] at ep
                  exact absurd ep.symm ew
          · intro p hp
            rcases List.mem_append.mp hp with h | h
            · exact hC p h
            · rw [List.mem_singleton.mp h]
              exact ⟨u, hup, hw2.symm⟩
          · intro j' hj' u' hu'
            rw [eapp]
            by_cases ej : j' = j
            · subst ej
              rw [hu] at hu'
              cases hu'
              exact ⟨_, List.mem_append_right _ (List.mem_singleton.mpr rfl), hw2.symm⟩
            · obtain ⟨p, hp, ep⟩ := hD j' (by omega) u' hu'
              exact ⟨p, List.mem_append_left _ hp, ep⟩
          · rw [List.length_append, List.length_singleton]
            omega
          · rw [eapp, List.length_append, List.length_singleton]
            omega
      · rintro σ H6 ⟨qs, kvs, v5, v6, rfl, s6, hcp6, hfo6, hme6, hP6, hk6, hC, hD, e1, e2⟩
        rw [List.length_map] at hD e1
        have h1 : l.take (i + 1) = l.take i ++ [l.getD i 0] := take_succ (by rw [List.getD_eq_getElem?_getD, List.getElem?_eq_getElem hj]; rfl)
        refine ⟨ps ++ qs, kvs, _, _, _, rfl, s6, hfo6, hme6, hP6, hk6, fun w' => ?_, by rw [List.length_append, Nat.pow_succ]; omega, e2⟩
        rw [h1]
        constructor
        · rintro ⟨p, hp, rfl⟩
          rcases List.mem_append.mp hp with h | h
          · obtain ⟨m, hm, em⟩ := (hw p.2).mp ⟨p, h, rfl⟩
            exact ⟨m, sub_snoc.mpr (.inl hm), em⟩
          · obtain ⟨u, hu, eu⟩ := hC p h
            obtain ⟨m, hm, em⟩ := (hw u.2).mp ⟨u, hu, rfl⟩
            exact ⟨_, sub_snoc.mpr (.inr ⟨m, hm, rfl⟩), by rw [run_snoc, em, eu]⟩
        · rintro ⟨m, hm, rfl⟩
          rcases sub_snoc.mp hm with h | ⟨m', h, rfl⟩
          · obtain ⟨p, hp, ep⟩ := (hw _).mpr ⟨m, h, rfl⟩
            exact ⟨p, List.mem_append_left _ hp, ep⟩
          · obtain ⟨u, hu, eu⟩ := (hw _).mpr ⟨m', h, rfl⟩
            obtain ⟨j', hj', ej'⟩ := List.mem_iff_getElem.mp hu
            obtain ⟨p, hp, ep⟩ := hD j' hj' u (by rw [List.getElem?_eq_getElem hj', ej'])
            exact ⟨p, hp, by rw [ep, eu, run_snoc]⟩
    rintro σ H4 ⟨ps, kvs, v4, v5, v6, rfl, s4, hfo4, hme4, hP, hk, hw, c1, c2⟩
    rw [List.length_map, List.take_of_length_le (Nat.le_refl _)] at hw
    rw [List.length_map] at c1
    have c3 : ps.length ≤ 256 := by
      have : 2 ^ l.length ≤ 2 ^ 8 := Nat.pow_le_pow_right (by decide) hl7
      omega
    refine ⟨_, rfl, fo, ps, rfl, SqL.of hfo4, fun p hp => SqL.of (hP p hp).1, fun out nout => ?_⟩
    have u5 := Same.upd (o := .lst ((ps.mergeSort rowLe).map fun p => V.ref p.1)) nout
    refine q out (ps.mergeSort rowLe) _ (s4.trans u5) (s4.free nout) upd_same (fun p hp => u5 _ _ (hP p (List.mem_mergeSort.mp hp)).1) (fun p hp => (hP p (List.mem_mergeSort.mp hp)).2.2) (fun w' => ?_) (by rw [List.length_mergeSort]; exact c3)
    rw [← hw w']
    exact ⟨fun ⟨p, hp, ep⟩ => ⟨p, List.mem_mergeSort.mp hp, ep⟩, fun ⟨p, hp, ep⟩ => ⟨p, List.mem_mergeSort.mpr hp, ep⟩⟩
end
end Sv

namespace Sv
open PySem PySem.Spec PyProof.Rows L2
section
variable {P : Program} {w : World} {K : PySem.W.Frag} {mg : Str → Option Value} {base : Heap} {f C D : Addr} {fd : FuncData}
/-- numbers that rise -/
def risB (xs : List Int) : Bool := (List.range (xs.length - 1)).all fun i => decide (xs.getD i 0 < xs.getD (i + 1) 0)
def spMadeBy (K : PySem.W.Frag) (C : Addr) : Sp := fun vs H Q _ => ∃ (p r : Addr) (k : Nm) (n : Nat) (l : List Int), vs = [.ref p, .ref r] ∧ KAt C H p k n ∧ okK k n = true ∧ SqL K H r (l.map V.int) ∧ (∀ s ∈ l, okS k n s) ∧
  ∀ q H', Same H H' → H q = none → H' q = some (.lst ((run k n (startL k n) l).map V.int)) → Q (.ref q) H'
theorem ok_made_by (T : Tk K w mg C D) (F : FnP K "made_by" "made_by" s_made_by f fd) (c_m_name : Md P w K mg base C "name" ["self"] 1 (spName C)) (c_m_start : Md P w K mg base C "start" ["self"] 1 (spStartM C)) (c_spread_of : Gd P w K mg base "spread_of" ["kind", "order"] 2 (spSpread K C)) (c_exchange_in : Gd P w K mg base "exchange_in" ["name", "spread", "step"] 1 (spExIn K)) (c_order_in : Gd P w K mg base "order_in" ["kind", "spread"] 2 (spOrdIn K C)) : FnOk P w K mg base CX0 5 f fd ["kind", "row"] (spMadeBy K C) := by
  refine okN F sc_made_by (fun vs H Q E h => ?_) (fun cdv A outer s H vs Q E hr h => ?_)
  · obtain ⟨p, r, k, n, l, rfl, _⟩ := h
    rfl
  · obtain ⟨p, r, k, n, l, rfl, hk, hK, hR, hl, q⟩ := h
    obtain ⟨dx, hp⟩ := id hk
    have hn := okK_le hK
    refine ⟨_, (pss_cons (ps_par (i := 2) (j := 3) (by rfl) sc_made_by.nd rfl rfl (by decide) rfl rfl (pa_cons (pe_methG0 T.cl c_m_name (hr.mono (by decide)) (pv 0)) (pa_cons (pe_callG c_spread_of (hr.mono (by decide)) (by rfl) (pa_cons (pv 0) (pa_cons (pe_methG0 T.cl c_m_start (hr.mono (by decide)) (pv 0)) pa_nil))) pa_nil)) (by rfl))
      (pss_cons (ps_for PassesOwn.never rfl (pi_list (pv 1)) (pg_name (i := 4) sc_made_by.nd rfl (Or.inl rfl)) (pss_one (ps_expr (pe_callG c_exchange_in (hr.mono (by decide)) (by rfl) (pa_cons (pv 2) (pa_cons (pv 3) (pa_cons (pv 4) pa_nil)))))))
      (pss_one (ps_ret (pe_callG c_order_in (hr.mono (by decide)) (by rfl) (pa_cons (pv 0) (pa_cons (pv 3) pa_nil))))))), ?_⟩
    refine ⟨_, rfl, p, dx, _, rfl, hp, noM, p, k, n, rfl, hk, ?_⟩
    refine ⟨_, rfl, _, rfl, p, dx, _, rfl, hp, noM, p, k, n, rfl, hk, by omega, fun st nst => ?_⟩
    have u1 := Same.upd (o := .lst ((startL k n).map V.int)) nst
    refine ⟨p, st, k, n, startL k n, rfl, ⟨hk.keep u1, SqL.of upd_same, startL_len _ _, hK⟩, fun a H1 s1' na hA => ⟨_, _, rfl, ?_⟩⟩
    have s1 := u1.trans s1'
    have na := u1.free na
    refine ⟨_, rfl, r, rfl, ⟨_, s1.seq hR⟩, ?_⟩
    refine for_list (K := K) (a := r) (xs := l.map V.int) (fun i σ H2 => ∃ (v : Option V), σ = [some (.ref p), some (.ref r), some (.str k.s), some (.ref a), v] ∧ H2 a = some (.lst ((sprd k n (run k n (startL k n) (l.take i))).map V.int)) ∧ Same H H2)
      ⟨none, rfl, hA, s1⟩ (fun i σ H2 _ h2 => by obtain ⟨_, _, _, s2⟩ := h2; exact s2.seq hR) ?_ ?_
    · rintro i x σ H2 hi ⟨v, rfl, hL, s2⟩
      obtain ⟨hj, rfl⟩ := at_map hi
      have hz := hl _ (mem_getD hj)
      obtain ⟨z, ez⟩ := step_of hz
      have hlr : (run k n (startL k n) (l.take i)).length = n := run_len (startL_len k n)
      have ht : run k n (startL k n) (l.take (i + 1)) = stepped k n (run k n (startL k n) (l.take i)) (l.getD i 0) := by
        have e : l[i]? = some (l.getD i 0) := by rw [List.getD_eq_getElem?_getD, List.getElem?_eq_getElem hj]; rfl
        rw [take_succ e, run_snoc]
      rw [ez] at hz ht ⊢
      refine ⟨_, rfl, _, rfl, _, rfl, a, k, n, _, z, rfl, hL, hlr, hK, hz, fun H3 x3 h3 => ⟨_, rfl, ?_, SameX.to s2 na x3⟩⟩
      rw [h3, ht, after_eq hK hz hlr]
    · rintro σ H2 ⟨v, rfl, hL, s2⟩
      rw [List.length_map, List.take_of_length_le (Nat.le_refl _)] at hL
      exact ⟨_, rfl, _, rfl, p, a, k, n, _, rfl, hk.keep s2, hL, run_len (startL_len k n), hK, fun b H3 s3 nb hb => q b H3 (s2.trans s3) (s2.free nb) hb⟩
end
end Sv

namespace Sv
open PySem PySem.Spec PyProof.Rows L2
/-- the places of the steps that are undone, from the end of a row, after i of them -/
def plcD (k : Nm) (n : Nat) (ws l : List Int) : Nat → List Int
  | 0 => []
  | i + 1 => plcD k n ws l i ++ (if crossed k n (downs k n ws (l.reverse.take i)) (l.reverse.getD i 0) = true then [(l.length : Int) - 1 - (i : Int)] else [])
theorem plcD_succ (k : Nm) (n : Nat) (ws l : List Int) (i : Nat) : plcD k n ws l (i + 1) = plcD k n ws l i ++ (if crossed k n (downs k n ws (l.reverse.take i)) (l.reverse.getD i 0) = true then [(l.length : Int) - 1 - (i : Int)] else []) := rfl
theorem plcD_len (k : Nm) (n : Nat) (ws l : List Int) : ∀ i, (plcD k n ws l i).length ≤ i
  | 0 => Nat.le_refl _
  | i + 1 => by
    have := plcD_len k n ws l i
    rw [plcD_succ, List.length_append]
    split
    · rw [List.length_singleton]
      omega
    · rw [List.length_nil]
      omega
section
variable {P : Program} {w : World} {K : PySem.W.Frag} {mg : Str → Option Value} {base : Heap} {f C D : Addr} {fd : FuncData}
def spPlaces2 (K : PySem.W.Frag) (C : Addr) : Sp := fun vs H Q _ => ∃ (p o r : Addr) (k : Nm) (n : Nat) (ws l : List Int), vs = [.ref p, .ref o, .ref r] ∧ KO K C H p o k n ws ∧ H o = some (.lst (ws.map V.int)) ∧ Form k n ws ∧ SqL K H r (l.map V.int) ∧ (∀ s ∈ l, okS k n s) ∧ l.length ≤ 500 ∧
  ∀ v H', Same H H' → (downs k n ws l.reverse = startL k n → ∃ q, v = .ref q ∧ H q = none ∧ H' q = some (.lst ((plcD k n ws l l.length).reverse.map V.int))) → (¬ downs k n ws l.reverse = startL k n → v = .non) → Q v H'
theorem ok_places_of2 (T : Tk K w mg C D) (F : FnP K "places_of" "places_of" s_places_of f fd) (c_is_crossed : Gd P w K mg base "is_crossed" ["kind", "order", "step"] 3 (spCrossP K C)) (c_after_step : Gd P w K mg base "after_step" ["kind", "order", "step"] 3 (spAfter K C)) (c_m_start : Md P w K mg base C "start" ["self"] 1 (spStartM C)) :
    FnOk P w K mg base CX0 4 f fd ["kind", "order", "row"] (spPlaces2 K C) := by
  refine okN F sc_places_of (fun vs H Q E h => ?_) (fun cdv A outer s H vs Q E hr h => ?_)
  · obtain ⟨p, o, r, k, n, ws, l, rfl, _⟩ := h
    rfl
  · obtain ⟨p, o, r, k, n, ws, l, rfl, hh, hoe, hF, hR, hl, h5, q⟩ := h
    have hn := okK_le hh.ok
    refine ⟨_, (pss_cons (ps_set (i := 3) sc_places_of.nd rfl (by first | exact Or.inl rfl | exact Or.inr rfl) (pe_lst pa_nil))
      (pss_cons (ps_for PassesOwn.never rfl (pi_range3 (by rfl) T.m_range (pa_cons (pe_op op_sub (pe_callB call_len_seq (by rfl) T.m_len (by decide +kernel) (pa_cons (pv 2) pa_nil)) pe_int) (pa_cons (pe_un un_neg pe_int) (pa_cons (pe_un un_neg pe_int) pa_nil)))) (pg_name (i := 4) sc_places_of.nd rfl (Or.inl rfl)) (pss_one (ps_if (pt_val (pe_callG c_is_crossed (hr.mono (by decide)) (by rfl) (pa_cons (pv 0) (pa_cons (pv 1) (pa_cons (pe_ix ix_list (pv 2) (pv 4) (fun _ _ => rfl)) pa_nil))))) (pss_cons (ps_expr (pe_bm PySem.F.plainAttrs_list PySem.F.slot_list_append PySem.F.type_list_append mt_append (pv 3) (pa_cons (pv 4) pa_nil)))
      (pss_one (ps_set (i := 1) sc_places_of.nd rfl (by first | exact Or.inl rfl | exact Or.inr rfl) (pe_callG c_after_step (hr.mono (by decide)) (by rfl) (pa_cons (pv 0) (pa_cons (pv 1) (pa_cons (pe_ix ix_list (pv 2) (pv 4) (fun _ _ => rfl)) pa_nil))))))) pss_nil)))
      (pss_one (ps_ret (pe_ifExp (pt_cmpR (op_eqD hr.units) (pv 1) (pe_methG0 T.cl c_m_start (hr.mono (by decide)) (pv 0)) (nomark _)) (pe_revL (pv 3)) pe_non))))), ?_⟩
    refine ⟨Nat.zero_le _, fun lf nf => ?_⟩
    have u1 := Same.upd (o := .lst []) nf
    have hlf1 : (L2.upd H lf (.lst [])) lf = some (.lst []) := upd_same
    refine ⟨_, rfl, r, _, rfl, .inl (u1.seq hR), _, _, rfl, rfl, _, rfl, _, rfl, _, _, _, l.length, rfl, ?_, ?_⟩
    · have := RgC.neg (i := ((l.map V.int).length : Int) - 1) (j := -1) (by omega) (by rw [List.length_map]; omega) (by omega) (by omega)
      rw [show (((l.map V.int).length : Int) - 1 - -1).toNat = l.length by rw [List.length_map]; omega] at this
      exact this
    rw [List.length_map]
    refine for_rangeC (lo := (l.length : Int) - 1) (c := -1) (n := l.length) (fun i σ H2 => ∃ (fo : Addr) (v : Option V), σ = [some (.ref p), some (.ref fo), some (.ref r), some (.ref lf), v] ∧ SqL K H2 fo ((downs k n ws (l.reverse.take i)).map V.int) ∧ fo ≠ lf ∧ H2 lf = some (.lst ((plcD k n ws l i).map V.int)) ∧ Same H H2)
      ⟨o, none, rfl, u1.seq hh.ord, ?_, hlf1, u1⟩ ?_ ?_
    · exact ne_of_none hoe nf
    · rintro i σ H2 hi ⟨fo, v, rfl, hF2, efo, hlf, s2⟩
      have hj : i < l.reverse.length := by rw [List.length_reverse]; exact hi
      have hz := rev_ok hl _ (mem_getD hj)
      rw [downs_take hj]
      have eg := rev_getD7 hi
      have hql := plcD_len k n ws l i
      have epl := plcD_succ k n ws l i
      have hat : atI (l.map V.int) ((l.length : Int) - 1 + (i : Int) * -1) = some (.int (l.getD (l.length - 1 - i) 0)) := at_of (j := l.length - 1 - i) (by omega) (map_getD (by omega))
      rw [← eg] at hat
      have eD : ((l.length : Int) - 1 + (i : Int) * -1) = (l.length : Int) - 1 - (i : Int) := by omega
      generalize l.reverse.getD i 0 = z at hz hat epl
      obtain ⟨t, rfl⟩ := step_of hz
      have hlen : (downs k n ws (l.reverse.take i)).length = n := downs_len hh.len
      have k2 : KO K C H2 p fo k n (downs k n ws (l.reverse.take i)) := ⟨hh.kat.keep s2, hF2, hlen, hh.ok⟩
      refine ⟨_, rfl, _, rfl, _, rfl, _, rfl, r, _, _, _, rfl, rfl, s2.seq hR, hat, p, fo, k, n, _, t, rfl, k2.st hz, fun H3 s3 => ⟨_, rfl, ?_⟩⟩
      rw [cross_eq hh.ok hz hlen]
      have hlf3 := s3 _ _ hlf
      refine ite2 (fun hc => ?_) (fun hc => ?_)
      · refine ⟨_, rfl, .inl ⟨rfl, _, SqL.of hlf3⟩, _, rfl, lf, _, _, rfl, rfl, hlf3, (by rw [List.length_map]; exact small1000 (by omega)), ?_⟩
        have xf : SameX lf H3 (L2.upd H3 lf (.lst ((plcD k n ws l i).map V.int ++ [.int ((l.length : Int) - 1 + (i : Int) * -1)]))) := SameX.upd
        have s4 := Same_updD (o := .lst ((plcD k n ws l i).map V.int ++ [.int ((l.length : Int) - 1 + (i : Int) * -1)])) (s2.trans s3) nf
        have hlf4 : (L2.upd H3 lf (.lst ((plcD k n ws l i).map V.int ++ [.int ((l.length : Int) - 1 + (i : Int) * -1)]))) lf = some (.lst ((plcD k n ws l i).map V.int ++ [.int ((l.length : Int) - 1 + (i : Int) * -1)])) := upd_same
        have k4 : KO K C _ p fo k n (downs k n ws (l.reverse.take i)) := ⟨hh.kat.keep s4, xf.seq efo (s3.seq hF2), hlen, hh.ok⟩
        refine ⟨_, rfl, _, rfl, _, rfl, _, rfl, r, _, _, _, rfl, rfl, s4.seq hR, hat, p, fo, k, n, _, t, rfl, k4.st hz, fun b H5 s5 nb hb => ?_⟩
        rw [after_eq hh.ok hz hlen] at hb
        refine ⟨b, _, rfl, ?_, (ne_of_none hlf4 nb).symm, by rw [epl, if_pos hc, List.map_append, s5 _ _ hlf4, eD]; rfl, s4.trans s5⟩
        unfold downed
        rw [if_pos hc]
        exact SqL.of hb
      · refine ⟨fo, _, rfl, ?_, efo, by rw [epl, if_neg hc, List.append_nil]; exact hlf3, s2.trans s3⟩
        unfold downed
        rw [if_neg hc]
        exact s3.seq hF2
    · rintro σ H2 ⟨fo, v, rfl, hF2, efo, hlf, s2⟩
      rw [show l.reverse.take l.length = l.reverse by rw [← List.length_reverse, List.take_length]] at hF2
      obtain ⟨dx, hp2⟩ := hh.kat.keep s2
      refine ⟨_, rfl, _, rfl, p, dx, _, rfl, hp2, noM, p, k, n, rfl, ⟨dx, hp2⟩, by omega, fun ls ns => ?_⟩
      have us := Same.upd (o := .lst ((startL k n).map V.int)) ns
      refine ⟨_, _, dp_list (us.seq hF2), dp_list (SqL.of upd_same), shaped_ints _, shaped_ints _, _, rfl, ?_⟩
      rw [eqv_l]
      refine ite2 (fun hc => ?_) (fun hc => ?_)
      · have e := of_decide_eq_true hc
        refine ⟨_, rfl, lf, _, rfl, SqL.of (us _ _ hlf), fun b nb => q _ _ ((s2.trans us).trans (Same.upd nb)) (fun _ => ⟨b, rfl, (s2.trans us).free nb, by rw [upd_same, List.map_reverse]⟩) fun h => absurd e h⟩
      · have e : ¬ downs k n ws l.reverse = startL k n := fun z => hc (decide_eq_true z)
        exact q _ _ (s2.trans us) (fun h => absurd h e) fun _ => rfl
end
end Sv

/-! Rows and the places that are kept: by the verifier, plain mathematics. -/
namespace Sv
open PySem L2
theorem cut_beneath {k : Nm} {n : Nat} {m l : List Int} (hK : okK k n = true) (h : m.Sublist l) (hl : ∀ s ∈ l, okS k n s) : Beneath k n (gains k n (startL k n) m) (gains k n (startL k n) l) := by
  have hm := sub_ok h hl
  rw [← (gsub_run hK hm (form_start hK)).1]
  exact part_beneath hK ((gsub_sub m _).trans h) hl (form_start hK) (form_start hK) (Beneath.refl _)
theorem gains_rev {k : Nm} {n : Nat} {l : List Int} (hK : okK k n = true) (hl : ∀ s ∈ l, okS k n s) : gains k n (startL k n) l.reverse = invP k n (gains k n (startL k n) l) := by
  have hr : ∀ s ∈ l.reverse, okS k n s := fun s hs => hl s (List.mem_reverse.mp hs)
  have fa := gains_form hK hl (form_start hK)
  have fb := gains_form hK hr (form_start hK)
  have h1 := beneath_inv_row hK hl fa (Beneath.refl _)
  have h2 := beneath_inv_row hK hr fb (Beneath.refl _)
  rw [List.reverse_reverse] at h2
  have h3 := beneath_inv1 hK (inv_form hK fb) fa h2
  rw [inv_inv hK fb] at h3
  exact beneath_eq hK fb (inv_form hK fa) h3 h1
theorem dem_gains {k : Nm} {n : Nat} {l m : List Int} (hK : okK k n = true) (hl : ∀ s ∈ l, okS k n s) (hm : ∀ s ∈ m, okS k n s) : gains k n (startL k n) (l ++ m) = dem k n (gains k n (startL k n) l) (gains k n (startL k n) m) := by
  have fa := gains_form hK hl (form_start hK)
  have fb := gains_form hK hm (form_start hK)
  obtain ⟨lm, hlm⟩ := least_of hK fb
  rw [gains_append, greedy_row hK fa hlm hm rfl, dem_eq hK fa hlm]
/-- is the step at a place not gained -/
def lostAt (k : Nm) (n : Nat) (l : List Int) (i : Nat) : Bool := crossed k n (gains k n (startL k n) (l.take i)) (l.getD i 0)
/-- the kept places below m -/
def keptN (k : Nm) (n : Nat) (l : List Int) (m : Nat) : List Nat := (List.range m).filter fun i => !lostAt k n l i
def cI (i : Nat) : Int := (i : Int)
def keptP (k : Nm) (n : Nat) (l : List Int) : List Int := (keptN k n l l.length).map cI
theorem keptN_lost {k : Nm} {n : Nat} {l : List Int} {m : Nat} (h : lostAt k n l m = true) : keptN k n l (m + 1) = keptN k n l m := by
  unfold keptN
  rw [List.range_succ, List.filter_append]
  simp [h]
theorem keptN_kept {k : Nm} {n : Nat} {l : List Int} {m : Nat} (h : ¬ lostAt k n l m = true) : keptN k n l (m + 1) = keptN k n l m ++ [m] := by
  unfold keptN
  rw [List.range_succ, List.filter_append]
  simp [h]
theorem keptN_lt {k : Nm} {n : Nat} {l : List Int} {m i : Nat} (h : i ∈ keptN k n l m) : i < m := List.mem_range.mp (List.mem_filter.mp h).1
theorem keptN_len (k : Nm) (n : Nat) (l : List Int) (m : Nat) : (keptN k n l m).length ≤ m := by
  have := List.length_filter_le (fun i => !lostAt k n l i) (List.range m)
  rw [List.length_range] at this
  exact this
theorem gsub_snoc {k : Nm} {n : Nat} : ∀ (l w : List Int) (s : Int), gsub k n w (l ++ [s]) = gsub k n w l ++ (if crossed k n (gains k n w l) s = true then [] else [s])
  | [], w, s => by
    show gsub k n w [s] = [] ++ (if crossed k n w s = true then [] else [s])
    unfold gsub
    by_cases h : crossed k n w s = true
    · rw [if_pos h, if_pos h]
      rfl
    · rw [if_neg h, if_neg h]
      rfl
  | t :: l, w, s => by
    show gsub k n w (t :: (l ++ [s])) = _
    have e : gains k n w (t :: l) = gains k n (gained k n w t) l := rfl
    rw [e]
    unfold gsub gained
    by_cases h : crossed k n w t = true
    · rw [if_pos h, if_pos h, if_pos h]
      exact gsub_snoc l w s
    · rw [if_neg h, if_neg h, if_neg h, gsub_snoc l (stepped k n w t) s]
      rfl
theorem take_getD {l : List Int} {m : Nat} (h : m < l.length) : l.take (m + 1) = l.take m ++ [l.getD m 0] := by
  rw [List.take_add_one, List.getD_eq_getElem?_getD, List.getElem?_eq_getElem h]
  rfl
theorem kept_steps {k : Nm} {n : Nat} {l : List Int} : ∀ m, m ≤ l.length → (keptN k n l m).map (fun i => l.getD i 0) = gsub k n (startL k n) (l.take m)
  | 0, _ => by
    rw [List.take_zero]
    rfl
  | m + 1, h => by
    rw [take_getD h, gsub_snoc, ← kept_steps m (Nat.le_of_lt h)]
    by_cases c : lostAt k n l m = true
    · rw [keptN_lost c, if_pos (show crossed k n (gains k n (startL k n) (l.take m)) (l.getD m 0) = true from c), List.append_nil]
    · rw [keptN_kept c, if_neg (show ¬ crossed k n (gains k n (startL k n) (l.take m)) (l.getD m 0) = true from c), List.map_append]
      rfl
theorem kept_all {k : Nm} {n : Nat} (l : List Int) : (keptN k n l l.length).map (fun i => l.getD i 0) = gsub k n (startL k n) l := by
  have := kept_steps (k := k) (n := n) (l := l) l.length (Nat.le_refl _)
  rw [List.take_length] at this
  exact this
theorem kept_count {k : Nm} {n : Nat} {l : List Int} (hK : okK k n = true) (hl : ∀ s ∈ l, okS k n s) : ((keptN k n l l.length).length : Int) = crP k n (gains k n (startL k n) l) := by
  have h := (gsub_run hK hl (form_start hK)).2
  rw [cr_start hK, ← kept_all l, List.length_map] at h
  omega
theorem kept_run {k : Nm} {n : Nat} {l : List Int} (hK : okK k n = true) (hl : ∀ s ∈ l, okS k n s) : run k n (startL k n) ((keptN k n l l.length).map fun i => l.getD i 0) = gains k n (startL k n) l := by
  rw [kept_all]
  exact (gsub_run hK hl (form_start hK)).1
/-- the places kept from behind -/
def behN (k : Nm) (n : Nat) (l : List Int) : List Nat := (keptN k n l.reverse l.length).reverse.map fun i => l.length - 1 - i
def behP (k : Nm) (n : Nat) (l : List Int) : List Int := (behN k n l).map cI
theorem behN_len {k : Nm} {n : Nat} (l : List Int) : (behN k n l).length = (keptN k n l.reverse l.length).length := by
  unfold behN
  rw [List.length_map, List.length_reverse]
theorem behN_lt {k : Nm} {n : Nat} {l : List Int} {i : Nat} (h : i ∈ behN k n l) : i < l.length := by
  obtain ⟨j, hj, rfl⟩ := List.mem_map.mp h
  have := keptN_lt (List.mem_reverse.mp hj)
  omega
theorem rev_getD {l : List Int} {i : Nat} (h : i < l.length) : l.reverse.getD i 0 = l.getD (l.length - 1 - i) 0 := by
  rw [List.getD_eq_getElem?_getD, List.getD_eq_getElem?_getD, List.getElem?_reverse h]
theorem rev_ok' {k : Nm} {n : Nat} {l : List Int} (hl : ∀ s ∈ l, okS k n s) : ∀ s ∈ l.reverse, okS k n s := fun s hs => hl s (List.mem_reverse.mp hs)
theorem beh_run {k : Nm} {n : Nat} {l : List Int} (hK : okK k n = true) (hl : ∀ s ∈ l, okS k n s) : run k n (startL k n) ((behN k n l).map fun i => l.getD i 0) = gains k n (startL k n) l := by
  have hr := rev_ok' hl
  have e : ((behN k n l).map fun i => l.getD i 0) = (gsub k n (startL k n) l.reverse).reverse := by
    rw [← kept_all l.reverse, List.length_reverse, ← List.map_reverse]
    unfold behN
    rw [List.map_map]
    refine List.map_congr_left fun i hi => ?_
    have := keptN_lt (List.mem_reverse.mp hi)
    exact (rev_getD this).symm
  rw [e, ← inv_run hK (sub_ok (gsub_sub _ _) hr), (gsub_run hK hr (form_start hK)).1, gains_rev hK hl, inv_inv hK (gains_form hK hl (form_start hK))]
theorem beh_count {k : Nm} {n : Nat} {l : List Int} (hK : okK k n = true) (hl : ∀ s ∈ l, okS k n s) : (behN k n l).length = (keptN k n l l.length).length := by
  have h1 := kept_count hK hl
  have h2 := kept_count hK (rev_ok' hl)
  rw [List.length_reverse, gains_rev hK hl, cr_inv hK (form_ord hK (gains_form hK hl (form_start hK)))] at h2
  rw [behN_len]
  omega
theorem least_kept {k : Nm} {n : Nat} {w l : List Int} (hK : okK k n = true) (h : Least k n w l) : keptN k n l l.length = List.range l.length := by
  have c := kept_count hK h.1
  rw [h.gains hK, ← h.2.2] at c
  refine List.Sublist.eq_of_length (List.filter_sublist) ?_
  rw [List.length_range]
  exact Int.ofNat.inj c
theorem least_beh {k : Nm} {n : Nat} {w l : List Int} (hK : okK k n = true) (h : Least k n w l) : behN k n l = List.range l.length := by
  have e := least_kept hK (h.rev hK)
  rw [List.length_reverse] at e
  unfold behN
  rw [e]
  refine List.ext_getElem (by simp) fun i h1 h2 => ?_
  simp only [List.getElem_map, List.getElem_reverse, List.getElem_range, List.length_range]
  rw [List.length_range] at h2
  omega
theorem range_up (m : Nat) : (List.range m).Pairwise (· < ·) := List.pairwise_lt_range
theorem keptN_up {k : Nm} {n : Nat} {l : List Int} {m : Nat} : (keptN k n l m).Pairwise (· < ·) := (range_up m).sublist List.filter_sublist
theorem beh_up {k : Nm} {n : Nat} {l : List Int} : (behP k n l).Pairwise (· ≤ ·) := by
  unfold behP behN
  rw [List.pairwise_map, List.pairwise_map, List.pairwise_reverse]
  refine (keptN_up (k := k) (n := n) (l := l.reverse) (m := l.length)).imp_of_mem fun {a b} ha hb h => ?_
  have h1 := keptN_lt ha
  have h2 := keptN_lt hb
  show ((l.length - 1 - b : Nat) : Int) ≤ ((l.length - 1 - a : Nat) : Int)
  omega
/-- what sorting leaves is the one rising list of these numbers -/
theorem sorted_one {a b : List Int} (h : a.Perm b) (ha : a.Pairwise (· ≤ ·)) (hb : b.Pairwise (· ≤ ·)) : a = b := h.eq_of_pairwise (fun x y _ _ h1 h2 => Int.le_antisymm h1 h2) ha hb
end Sv

namespace Sv
open PySem PySem.Spec PyProof.Rows L2
theorem upd_selfK {H : Hp} {a : Addr} {o : HO} (na : H a = none) : (L2.upd H a o) a = some o := upd_same
theorem rev_get {α} {xs : List α} {i : Nat} {x : α} (h : xs[xs.length - 1 - i]? = some x) (hi : i < xs.length) : xs.reverse[i]? = some x := by
  rw [List.getElem?_reverse hi]
  exact h
section
variable {P : Program} {w : World} {K : PySem.W.Frag} {mg : Str → Option Value} {base : Heap} {f C D : Addr} {fd : FuncData}
/-- a row of steps of a kind -/
structure RowAt (K : PySem.W.Frag) (C : Addr) (H : Hp) (p r : Addr) (k : Nm) (n : Nat) (l : List Int) : Prop where
  kat : KAt C H p k n
  ok : okK k n = true
  row : SqL K H r (l.map V.int)
  len : l.length ≤ 100
  st : ∀ s ∈ l, okS k n s
theorem RowAt.keep {H H' : Hp} {p r : Addr} {k : Nm} {n : Nat} {l : List Int} (h : RowAt K C H p r k n l) (e : Same H H') : RowAt K C H' p r k n l := ⟨h.kat.keep e, h.ok, e.seq h.row, h.len, h.st⟩
def spToldRow (K : PySem.W.Frag) (C : Addr) : Sp := fun vs H Q _ => ∃ (p r : Addr) (k : Nm) (n : Nat) (l : List Int), vs = [.ref p, .ref r] ∧ RowAt K C H p r k n l ∧ ∀ H', Same H H' → Q (.bl true) H'
theorem ok_is_told_row (T : Tk K w mg C D) (F : FnP K "is_told_row" "is_told_row" s_is_told_row f fd) (gS : ∃ t, mg "MOST_STEPS" = some (.int 100 t)) (c_is_step : Gd P w K mg base "is_step" ["kind", "value"] 2 (spIsStep C)) : FnOk P w K mg base CX0 3 f fd ["kind", "value"] (spToldRow K C) := by
  obtain ⟨tS, gS⟩ := gS
  refine okN F sc_is_told_row (fun vs H Q E h => ?_) (fun cdv A outer s H vs Q E hr h => ?_)
  · obtain ⟨p, r, k, n, l, rfl, _⟩ := h
    rfl
  · obtain ⟨p, r, k, n, l, rfl, hh, q⟩ := h
    refine ⟨_, (pss_cons (ps_if (pt_not (PW.pt (pw_and (pt_val (pe_callB call_isi (by rfl) T.m_isinstance (by decide +kernel) (pa_cons (pv 1) (pa_cons (pe_bltn (v := .ty "list") (by rfl) T.m_list (by decide +kernel) rfl) pa_nil)))) (pw_and1 (pt_cmpR op_le (pe_callB call_len_seq (by rfl) T.m_len (by decide +kernel) (pa_cons (pv 1) pa_nil)) (pe_glob (v := .int 100) (by rfl) gS ⟨_, rfl⟩) (nomark _)))))) (pss_one (ps_ret pe_bl)) pss_nil)
      (pss_one (ps_ret (pe_callB (cr_all rfl) (by rfl) T.m_all (by decide +kernel) (pa_cons (pe_lc (own := [(("step" : Str), 2)]) (g := (gName 2)) (tt := tYes) rfl sc_is_told_row.nd (pi_list (pv 1)) (blkOk_by (own := [(("step" : Str), 2)]) (N := ["kind", "value", "step"]) (sc := defScope s_is_told_row) (by decide +kernel)) (fun _ _ _ _ _ => (pg_name (i := 2) sc_is_told_row.nd rfl (Or.inl rfl))) (fun _ _ _ _ _ => pts_nil) (fun _ _ _ _ _ => (pe_callG c_is_step (hr.mono (by decide)) (by rfl) (pa_cons (pv 0) (pa_cons (pv 2) pa_nil))))) pa_nil))))), ?_⟩
    refine ⟨_, rfl, .ref r, .ty "list", .type "list", .type "list", true, rfl, .ty _, sqL_ty hh.row, kit_ty (by decide +kernel), true, rfl, ?_⟩
    refine ⟨_, rfl, r, _, rfl, .inl hh.row, _, _, rfl, rfl, _, rfl, iteN (by rw [decide_eq_true (show ((l.map V.int).length : Int) ≤ 100 by rw [List.length_map]; have := hh.len; omega)]; decide) ?_⟩
    refine ⟨_, rfl, r, rfl, ⟨_, hh.row⟩, fun L nL => ?_⟩
    refine lc_list (K := K) (a := r) (xs := l.map V.int) (fun i H2 => H2 L = some (.lst ((List.replicate i true).map V.bl)) ∧ Same H H2) ⟨upd_same, Same.upd nL⟩ (fun i H2 _ h2 => h2.2.seq hh.row) ?_ ?_
    · rintro i x H2 hi ⟨hD, s2⟩
      obtain ⟨hj, rfl⟩ := at_map hi
      refine ⟨rfl, ?_⟩
      refine ⟨_, rfl, _, rfl, p, k, n, _, rfl, hh.kat.keep s2, hh.st _ (mem_getD hj), ?_⟩
      refine ⟨_, hD, ?_, ?_, Same_updD s2 nL⟩
      · rw [List.length_map, List.length_replicate]
        exact small1000 (by have := hh.len; omega)
      · rw [upd_same, List.replicate_succ', List.map_append]
        rfl
    · rintro H2 ⟨hD, s2⟩
      refine ⟨L, _, rfl, SqL.of hD, qB (q H2 s2) ?_⟩
      simp
def spCkRB (K : PySem.W.Frag) (C : Addr) : Sp := fun vs H Q _ => ∃ (p t r : Addr) (k : Nm) (n : Nat) (l : List Int), vs = [.ref p, .ref t] ∧ SqT K H t [.ref r] ∧ RowAt K C H p r k n l ∧ ∀ H', Same H H' → Q .non H'
theorem body_check_rows {cdv : Value} {A : Around} {outer : List Env} {s : Shared} {H : Hp} {vs : List V} {Q : VK} {E : XK} (T : Tk K w mg C D) (F : FnP K "check_rows" "check_rows" s_check_rows f fd) (c_check_kind : Gd P w K mg base "check_kind" ["kind"] 1 (spCk C)) (c_is_told_row : Gd P w K mg base "is_told_row" ["kind", "value"] 3 (spToldRow K C))
    (hr : Room 3 (A.deeper (envOfC "check_rows" (defScope s_check_rows) s.heap.objs.size f cdv))) (h : spCkRB K C vs H Q E) :
    ∃ t, PSs (cxOf CX0 P w K mg base ["kind", "rows", "row"] "check_rows" (defScope s_check_rows) f cdv A outer s H E).nox (defBody s_check_rows) t ∧ t { nx := fun _ H' => Q .non H', rt := Q } (start ["kind", "rows", "row"] vs) H := by
  obtain ⟨p, t, r, k, n, l, rfl, hT, hh, q⟩ := h
  refine ⟨_, (pss_cons (ps_expr (pe_callG c_check_kind (hr.mono (by decide)) (by rfl) (pa_cons (pv 0) pa_nil)))
      (pss_one (ps_for PassesOwn.never rfl (pi_tup (pv 1)) (pg_name (i := 2) sc_check_rows.nd rfl (Or.inl rfl)) (pss_one (ps_if (pt_not (pt_val (pe_callG c_is_told_row (hr.mono (by decide)) (by rfl) (pa_cons (pv 0) (pa_cons (pv 2) pa_nil))))) (pss_one ps_never) pss_nil))))), ?_⟩
  refine ⟨_, rfl, p, k, n, rfl, hh.kat, ?_⟩
  refine ⟨_, rfl, t, rfl, ⟨_, hT⟩, ?_⟩
  refine for_tup (K := K) (a := t) (xs := [.ref r]) (fun i σ H2 => ∃ v, σ = [some (.ref p), some (.ref t), v] ∧ Same H H2) ⟨none, rfl, Same.refl H⟩ (fun i σ H2 _ h2 => by obtain ⟨_, _, s2⟩ := h2; exact Same.tup s2 hT) ?_ ?_
  · rintro i x σ H2 hi ⟨v, rfl, s2⟩
    have e : x = .ref r := by
      cases i with
      | zero => exact (Option.some.inj hi).symm
      | succ i => exact absurd hi (by simp)
    subst e
    refine ⟨_, rfl, _, rfl, p, r, k, n, l, rfl, hh.keep s2, fun H3 s3 => ⟨true, rfl, ?_⟩⟩
    exact ⟨_, rfl, s2.trans s3⟩
  · rintro σ H2 ⟨v, rfl, s2⟩
    exact q H2 s2
def spCkRw (K : PySem.W.Frag) (C : Addr) : Sp := fun vs H Q _ => ∃ (p r : Addr) (k : Nm) (n : Nat) (l : List Int), vs = [.ref p, .ref r] ∧ RowAt K C H p r k n l ∧ ∀ H', Same H H' → Q .non H'
theorem ok_check_rows (T : Tk K w mg C D) (F : FnP K "check_rows" "check_rows" s_check_rows f fd) (c_check_kind : Gd P w K mg base "check_kind" ["kind"] 1 (spCk C)) (c_is_told_row : Gd P w K mg base "is_told_row" ["kind", "value"] 3 (spToldRow K C)) : FnR P w K mg base CX0 4 f (spCkRw K C) := by
  obtain ⟨oc, od, dV, kV, doc, pm, an, cdv, ct, osl, rfl, lk, hcd, hD, hK⟩ := id F.ex
  rcases hD with ⟨_, rfl⟩ | ⟨e, _⟩
  · have R := StX.fn_star (P := P) (w := w) (mg := mg) (base := base) (CX := CX0) (ps := ["kind"]) (pv := "rows") (N := ["kind", "rows", "row"]) (sp := spCkRB K C) (k := 3) lk hcd sc_check_rows StX.cxUp_none
      (StX.bind_star1 (B := fun us => bindArgs _ ⟨us, []⟩) (fun a => rfl) (fun a r rs => rfl)) (fun A outer s H vs Q E hr h => let ⟨t, p, q⟩ := body_check_rows T F c_check_kind c_is_told_row hr h; ⟨t, p.nox, q⟩)
    intro A outer s H us vs Q E hr e0 r h
    refine R A outer s H us vs Q E hr e0 r ?_
    obtain ⟨p, o, k, n, l, rfl, hh, q⟩ := h
    refine ⟨[.ref p], [.ref o], rfl, rfl, (by show 1 ≤ sizeLine; decide), fun t nt => ?_⟩
    have u1 := Same.upd (o := .tup [V.ref o]) nt
    exact ⟨p, t, o, k, n, l, rfl, SqT.of upd_same, hh.keep u1, fun H' s' => q H' (u1.trans s')⟩
  · exact absurd rfl e
def spKeptOf (K : PySem.W.Frag) (C : Addr) : Sp := fun vs H Q _ => ∃ (p r : Addr) (k : Nm) (n : Nat) (l : List Int), vs = [.ref p, .ref r] ∧ RowAt K C H p r k n l ∧
  ∀ q H', Same H H' → H q = none → H' q = some (.lst ((keptP k n l).map V.int)) → Q (.ref q) H'
theorem push_kept (H : Hp) (a : Addr) (xs : List Nat) (i : Nat) : (L2.upd H a (.lst (((xs.map cI).map V.int) ++ [.int (i : Int)]))) a = some (.lst (((xs ++ [i]).map cI).map V.int)) := by
  rw [upd_same, List.map_append, List.map_append]
  rfl
def spGreedyRow (K : PySem.W.Frag) (C : Addr) : Sp := fun vs H Q _ => ∃ (p r : Addr) (k : Nm) (n : Nat) (l : List Int), vs = [.ref p, .ref r] ∧ RowAt K C H p r k n l ∧
  ∀ q H', Same H H' → H q = none → H' q = some (.lst ((gains k n (startL k n) l).map V.int)) → Q (.ref q) H'
def spKept2 (K : PySem.W.Frag) (C : Addr) : Sp := spKeptOf K C
def spKeptBehind (K : PySem.W.Frag) (C : Addr) : Sp := fun vs H Q _ => ∃ (p r : Addr) (k : Nm) (n : Nat) (l : List Int), vs = [.ref p, .ref r] ∧ RowAt K C H p r k n l ∧
  ∀ q H', Same H H' → H q = none → H' q = some (.lst ((behP k n l).map V.int)) → Q (.ref q) H'
end
end Sv

namespace Sv
open PySem PySem.Spec PyProof.Rows L2
section
variable {P : Program} {w : World} {K : PySem.W.Frag} {mg : Str → Option Value} {base : Heap} {f C D : Addr} {fd : FuncData}
def spPart (K : PySem.W.Frag) (C : Addr) : Sp := fun vs H Q _ => ∃ (p o r : Addr) (k : Nm) (n : Nat) (ws l : List Int), vs = [.ref p, .ref o, .ref r] ∧ KO K C H p o k n ws ∧ H o = some (.lst (ws.map V.int)) ∧ Form k n ws ∧ crP k n ws ≤ 60 ∧ RowAt K C H p r k n l ∧
  ∀ v H', Same H H' → (downs k n ws l.reverse = startL k n → ∃ q, v = .ref q ∧ H q = none ∧ H' q = some (.lst ((plcD k n ws l l.length).reverse.map V.int))) → (¬ downs k n ws l.reverse = startL k n → v = .non) → Q v H'
theorem ok_part (T : Tk K w mg C D) (F : FnP K "part" "part" s_part f fd) (c_check_orders : Rd P w K mg base "check_orders" 5 (spCkOn K C)) (c_check_rows : Rd P w K mg base "check_rows" 4 (spCkRw K C)) (c_places_of : Gd P w K mg base "places_of" ["kind", "order", "row"] 4 (spPlaces2 K C)) : FnOk P w K mg base CX0 6 f fd ["kind", "order", "row"] (spPart K C) := by
  refine okN F sc_part (fun vs H Q E h => ?_) (fun cdv A outer s H vs Q E hr h => ?_)
  · obtain ⟨p, o, r, k, n, ws, l, rfl, _⟩ := h
    rfl
  · obtain ⟨p, o, r, k, n, ws, l, rfl, hh, ho, hF, h6, hrow, q⟩ := h
    refine ⟨_, (pss_cons (ps_expr (pe_callRG c_check_orders (hr.mono (by decide)) (by rfl) (pa_cons (pv 0) (pa_cons (pv 1) pa_nil))))
      (pss_cons (ps_expr (pe_callRG c_check_rows (hr.mono (by decide)) (by rfl) (pa_cons (pv 0) (pa_cons (pv 2) pa_nil))))
      (pss_one (ps_ret (pe_callG c_places_of (hr.mono (by decide)) (by rfl) (pa_cons (pv 0) (pa_cons (pv 1) (pa_cons (pv 2) pa_nil)))))))), ?_⟩
    refine ⟨_, rfl, _, rfl, p, [o], k, n, [ws], rfl, (by simp), hh.kat, hh.ok, ⟨hh.ord, trivial⟩, fun x hx => ?_, fun H1 s1 => ?_⟩
    · rw [List.mem_singleton.mp hx]
      exact ⟨hF, h6⟩
    refine ⟨_, rfl, _, rfl, p, r, k, n, l, rfl, hrow.keep s1, fun H2 s2 => ?_⟩
    have s12 := s1.trans s2
    refine ⟨_, rfl, _, rfl, _, rfl, p, o, r, k, n, ws, l, rfl, hh.keep s12, s12 _ _ ho, hF, s12.seq hrow.row, hrow.st, by have := hrow.len; omega, fun v H3 s3 e1 e2 => q v H3 (s12.trans s3) (fun h => ?_) e2⟩
    obtain ⟨b, eb, nb, hb⟩ := e1 h
    exact ⟨b, eb, s12.free nb, hb⟩
end
end Sv

/-! What a reading gives, as data: facts live in a part G of the heap that no owned list stands in. By the verifier. -/
namespace Sv
open PySem PySem.Spec PyProof.Rows L2 Evl
instance : Inhabited PyData := ⟨.none⟩
mutual
/-- data that stand in a heap -/
inductive Dq (H : Hp) : V → PyData → Prop
  | non : Dq H .non .none
  | bl (b : Bool) : Dq H (.bl b) (.bool b)
  | int (i : Int) : Dq H (.int i) (.int i)
  | str (x : Str) : Dq H (.str x) (.str x)
  | lst {a : Addr} {xs : List V} {ds : List PyData} : H a = some (.lst xs) → DqAll H xs ds → Dq H (.ref a) (.list ds)
  | tup {a : Addr} {xs : List V} {ds : List PyData} : H a = some (.tup xs) → DqAll H xs ds → Dq H (.ref a) (.tuple ds)
  | dct {a : Addr} : H a = some (.dT []) → Dq H (.ref a) (.dict [])
inductive DqAll (H : Hp) : List V → List PyData → Prop
  | nil : DqAll H [] []
  | cons {v : V} {vs : List V} {d : PyData} {ds : List PyData} : Dq H v d → DqAll H vs ds → DqAll H (v :: vs) (d :: ds)
end
mutual
theorem Dq.dp {K : PySem.W.Frag} {H : Hp} : ∀ {v : V} {d : PyData}, Dq H v d → PyData.hasDict d = false → Dp K H v d
  | _, _, .non, _ => .non
  | _, _, .bl b, _ => .bl b
  | _, _, .int i, _ => .int i
  | _, _, .str x, _ => .str x
  | _, .list ds, .lst h a, e => .lst (.inl (.inl h)) (DqAll.dp a (by simpa only [PyData.hasDict] using e))
  | _, .tuple ds, .tup h a, e => .tup (.inl (.inl h)) (DqAll.dp a (by simpa only [PyData.hasDict] using e))
  | _, _, .dct _, e => by simp [PyData.hasDict] at e
theorem DqAll.dp {K : PySem.W.Frag} {H : Hp} : ∀ {vs : List V} {ds : List PyData}, DqAll H vs ds → PyData.hasDictAll ds = false → DpAll K H vs ds
  | _, _, .nil, _ => .nil
  | _, d :: ds, .cons a b, e => by
    simp only [PyData.hasDictAll, Bool.or_eq_false_iff] at e
    exact .cons (Dq.dp a e.1) (DqAll.dp b e.2)
end
mutual
theorem lay_nodict : ∀ d : PyData, PyData.canLay0 d = true → PyData.hasDict d = false
  | .none, _ => rfl
  | .bool _, _ => rfl
  | .int _, _ => rfl
  | .str _, _ => rfl
  | .list ds, h => by
    have := lay_nodictAll ds h
    simpa only [PyData.hasDict] using this
  | .tuple ds, h => by
    have := lay_nodictAll ds h
    simpa only [PyData.hasDict] using this
  | .dict _, h => by cases h
theorem lay_nodictAll : ∀ ds : List PyData, PyData.canLayAll0 ds = true → PyData.hasDictAll ds = false
  | [], _ => rfl
  | d :: ds, h => by
    have h2 : (PyData.canLay0 d && PyData.canLayAll0 ds) = true := h
    rw [Bool.and_eq_true] at h2
    simp only [PyData.hasDictAll, lay_nodict d h2.1, lay_nodictAll ds h2.2, Bool.or_false]
end
mutual
theorem dpEx {H H' : Hp} (e : Ex H H') : ∀ (d : PyData) (v : V), Dq H v d → Dq H' v d
  | .none, v, h => by cases h; exact .non
  | .bool b, v, h => by cases h; exact .bl b
  | .int i, v, h => by cases h; exact .int i
  | .str x, v, h => by cases h; exact .str x
  | .list ds, v, h => by
    cases h with
    | lst hs ha => exact .lst (e _ _ hs) (dpExAll e ds _ ha)
  | .tuple ds, v, h => by
    cases h with
    | tup hs ha => exact .tup (e _ _ hs) (dpExAll e ds _ ha)
  | .dict _, v, h => by
    cases h with
    | dct h => exact .dct (e _ _ h)
theorem dpExAll {H H' : Hp} (e : Ex H H') : ∀ (ds : List PyData) (vs : List V), DqAll H vs ds → DqAll H' vs ds
  | [], vs, h => by cases h; exact .nil
  | d :: ds, vs, h => by
    cases h with
    | cons h1 h2 => exact .cons (dpEx e d _ h1) (dpExAll e ds _ h2)
end
/-- data, or an object of the class Kind -/
inductive Da where
  | py (d : PyData)
  | kd (k : Nm) (n : Nat)
def KAt0 (C : Addr) (H : Hp) (p : Addr) (k : Nm) (n : Nat) : Prop := ∃ dx, H p = some (.ins C dx (putF "_size" (.int (n : Int)) (putF "_name" (.str k.s) [])))
def At (C : Addr) (G : Hp) (v : V) : Da → Prop
  | .py d => Dq G v d
  | .kd k n => ∃ p, v = .ref p ∧ KAt0 C G p k n
theorem At.mono {C : Addr} {G G' : Hp} {v : V} (e : Ex G G') : ∀ {x : Da}, At C G v x → At C G' v x
  | .py d, h => dpEx e d v h
  | .kd k n, ⟨p, e1, dx, h⟩ => ⟨p, e1, dx, e _ _ h⟩
inductive AtAll (C : Addr) (G : Hp) : List V → List Da → Prop where
  | nil : AtAll C G [] []
  | cons {v : V} {vs : List V} {x : Da} {xs : List Da} : At C G v x → AtAll C G vs xs → AtAll C G (v :: vs) (x :: xs)
theorem AtAll.mono {C : Addr} {G G' : Hp} (e : Ex G G') : ∀ {vs : List V} {xs : List Da}, AtAll C G vs xs → AtAll C G' vs xs
  | _, _, .nil => .nil
  | _, _, .cons a b => .cons (a.mono e) (AtAll.mono e b)
theorem AtAll.len {C : Addr} {G : Hp} : ∀ {vs : List V} {xs : List Da}, AtAll C G vs xs → vs.length = xs.length
  | _, _, .nil => rfl
  | _, _, .cons _ b => by rw [List.length_cons, List.length_cons, AtAll.len b]
theorem AtAll.dp {C : Addr} {G : Hp} : ∀ {ds : List PyData} {vs : List V}, AtAll C G vs (ds.map Da.py) → DqAll G vs ds
  | [], vs, h => by cases h; exact .nil
  | d :: ds, vs, h => by
    cases h with
    | cons a b => exact .cons a (AtAll.dp b)
theorem dpa_at {C : Addr} {G : Hp} : ∀ {ds : List PyData} {vs : List V}, DqAll G vs ds → AtAll C G vs (ds.map Da.py)
  | _, _, .nil => .nil
  | _, _, .cons a b => .cons a (dpa_at b)
theorem dpa_len {G : Hp} : ∀ {vs : List V} {ds : List PyData}, DqAll G vs ds → vs.length = ds.length
  | _, _, .nil => rfl
  | _, _, .cons _ b => by rw [List.length_cons, List.length_cons, dpa_len b]
theorem dpa_get {G : Hp} : ∀ {vs : List V} {ds : List PyData} {i : Nat} {v : V}, DqAll G vs ds → vs[i]? = some v → ∃ d, ds[i]? = some d ∧ Dq G v d
  | _, _, i, v, .nil, h => by cases h
  | _, _, 0, v, .cons a b, h => by cases h; exact ⟨_, rfl, a⟩
  | _, _, i + 1, v, .cons (vs := vs) (ds := ds) a b, h => dpa_get (vs := vs) (ds := ds) (i := i) b (by simpa using h)
theorem dpa_get' {G : Hp} : ∀ {vs : List V} {ds : List PyData} {i : Nat} {d : PyData}, DqAll G vs ds → ds[i]? = some d → ∃ v, vs[i]? = some v ∧ Dq G v d
  | _, _, i, v, .nil, h => by cases h
  | _, _, 0, v, .cons a b, h => by cases h; exact ⟨_, rfl, a⟩
  | _, _, i + 1, d, .cons (vs := vs) (ds := ds) a b, h => dpa_get' (vs := vs) (ds := ds) (i := i) b (by simpa using h)
theorem dpa_append {G : Hp} : ∀ {vs us : List V} {ds es : List PyData}, DqAll G vs ds → DqAll G us es → DqAll G (vs ++ us) (ds ++ es)
  | _, _, _, _, .nil, h => h
  | _, _, _, _, .cons a b, h => .cons a (dpa_append b h)
theorem dpa_drop {G : Hp} : ∀ {vs : List V} {ds : List PyData} (i : Nat), DqAll G vs ds → DqAll G (vs.drop i) (ds.drop i)
  | _, _, 0, h => h
  | _, _, i + 1, .nil => .nil
  | _, _, i + 1, .cons a b => dpa_drop i b
theorem dpa_take {G : Hp} : ∀ {vs : List V} {ds : List PyData} (i : Nat), DqAll G vs ds → DqAll G (vs.take i) (ds.take i)
  | _, _, 0, h => .nil
  | _, _, i + 1, .nil => .nil
  | _, _, i + 1, .cons a b => .cons a (dpa_take i b)
theorem dpa_reverse {G : Hp} : ∀ {vs : List V} {ds : List PyData}, DqAll G vs ds → DqAll G vs.reverse ds.reverse
  | _, _, .nil => .nil
  | _, _, .cons a b => by
    rw [List.reverse_cons, List.reverse_cons]
    exact dpa_append (dpa_reverse b) (.cons a .nil)
/-- owned ahead stays owned: what is new in G2 is new in the heap -/
def Nw (H G G2 : Hp) : Prop := ∀ a, H a ≠ none → G a = none → G2 a = none
/-- from the heap H1 with the facts G to the heap H2 with the facts G2 -/
structure Gs (H1 G H2 G2 : Hp) : Prop where
  h : Ex H1 H2
  g : Ex G G2
  gh : Ex G2 H2
  nw : Nw H1 G G2
theorem Gs.refl {H G : Hp} (e : Ex G H) : Gs H G H G := ⟨Ex.refl _, Ex.refl _, e, fun _ _ h => h⟩
theorem Ex.ne {H H' : Hp} {a : Addr} (e : Ex H H') (h : H a ≠ none) : H' a ≠ none := by
  obtain ⟨o, ho⟩ := Option.ne_none_iff_exists'.mp h
  rw [e a o ho]
  exact fun z => by cases z
theorem Gs.trans {H1 G1 H2 G2 H3 G3 : Hp} (a : Gs H1 G1 H2 G2) (b : Gs H2 G2 H3 G3) : Gs H1 G1 H3 G3 :=
  ⟨a.h.trans b.h, a.g.trans b.g, b.gh, fun x h1 h2 => b.nw x (Ex.ne a.h h1) (a.nw x h1 h2)⟩
theorem Gs.same {H1 G H2 : Hp} (e : Ex G H1) (a : Ex H1 H2) : Gs H1 G H2 G := ⟨a, Ex.refl _, e.trans a, fun _ _ h => h⟩
/-- a new object joins the facts -/
theorem Gs.new {H G : Hp} {p : Addr} {o : HO} (e : Ex G H) (h : H p = none) : Gs H G (L2.upd H p o) (L2.upd G p o) := by
  have hg : G p = none := fresh_back e h
  refine ⟨Ex.new h, Ex.new hg, fun a u z => ?_, fun a h1 h2 => ?_⟩
  · by_cases q : a = p
    · subst q
      rw [upd_same] at z ⊢
      exact z
    · rw [upd_ne q] at z ⊢
      exact e a u z
  · by_cases q : a = p
    · subst q
      exact absurd h h1
    · rw [upd_ne q]
      exact h2
/-- a new object that another heap tells, joins the facts -/
theorem Gs.newAt {H1 G H2 : Hp} {p : Addr} {o : HO} (e : Ex G H1) (h : H1 p = none) (e2 : Ex H1 H2) (h2 : H2 p = some o) : Gs H1 G H2 (L2.upd G p o) := by
  have hg : G p = none := fresh_back e h
  refine ⟨e2, Ex.new hg, fun a u z => ?_, fun a z1 z2 => ?_⟩
  · by_cases q : a = p
    · subst q
      rw [upd_same] at z
      rw [← z]
      exact h2
    · rw [upd_ne q] at z
      exact e2 _ _ (e a u z)
  · by_cases q : a = p
    · subst q
      exact absurd h z1
    · rw [upd_ne q]
      exact z2
/-- both parts of a heap -/
def both (G G' : Hp) : Hp := fun a => match G a with | some o => some o | none => G' a
theorem both_l (G G' : Hp) : Ex G (both G G') := fun a o h => by unfold both; rw [h]
theorem both_r {G G' H : Hp} (e : Ex G H) (e' : Ex G' H) : Ex G' (both G G') := fun a o h => by
  unfold both
  cases q : G a with
  | none => exact h
  | some u =>
    have := e a u q
    rw [e' a o h] at this
    exact this.symm
theorem both_in {G G' H : Hp} (e : Ex G H) (e' : Ex G' H) : Ex (both G G') H := fun a o h => by
  unfold both at h
  cases q : G a with
  | none => rw [q] at h; exact e' a o h
  | some u => rw [q] at h; exact e a o (by rw [q]; exact h)
theorem Gs.widen {H1 G G' H2 G2 : Hp} (e : Ex G G') (e1 : Ex G' H1) (s : Gs H1 G H2 G2) : Gs H1 G' H2 (both G' G2) :=
  ⟨s.h, both_l _ _, both_in (e1.trans s.h) s.gh, fun a h1 h2 => by
    have h3 : G a = none := fresh_back e h2
    unfold both
    rw [h2]
    exact s.nw a h1 h3⟩
section
variable {K : PySem.W.Frag} {C : Addr} {σ : L2.St} {H H' G G' : Hp} {ta tb tc te tx : TE} {t u : TT} {x y z : Da} {v : V} {r : R2}
def EvD (C : Addr) (te : TE) (σ : L2.St) (G : Hp) (x : Da) : Prop := ∀ H1, Ex G H1 → ∀ Q : VK, (∀ v H2 G2, Gs H1 G H2 G2 → At C G2 v x → Q v H2) → te σ H1 Q
def EvAs (C : Addr) (ta : TA) (σ : L2.St) (G : Hp) (xs : List Da) : Prop := ∀ H1, Ex G H1 → ∀ Q : List V → Hp → Prop, (∀ vs H2 G2, Gs H1 G H2 G2 → AtAll C G2 vs xs → Q vs H2) → ta σ H1 Q
theorem EvD.mono (e : Ex G G') (h : EvD C te σ G x) : EvD C te σ G' x := fun H1 e1 Q q => h H1 (e.trans e1) Q fun v H2 G2 s a =>
  q v H2 _ (s.widen e e1) (a.mono (both_r (e1.trans s.h) s.gh))
theorem EvAs.mono {ta : TA} {xs : List Da} (e : Ex G G') (h : EvAs C ta σ G xs) : EvAs C ta σ G' xs := fun H1 e1 Q q => h H1 (e.trans e1) Q fun v H2 G2 s a =>
  q v H2 _ (s.widen e e1) (a.mono (both_r (e1.trans s.h) s.gh))
theorem EvD.is (h : EvD C te σ G x) (e : x = y) : EvD C te σ G y := e ▸ h
/-- a flat value -/
def Flat : V → Da → Prop := fun v x => ∀ (C : Addr) (G : Hp), At C G v x
theorem ed_of (h : Ev te σ G v) (f : Flat v x) : EvD C te σ G x := fun H1 e Q q => h H1 e Q fun H2 e2 => q v H2 G (Gs.same e e2) (f C G)
theorem fI {i : Int} : Flat (.int i) (.py (.int i)) := fun _ _ => .int i
theorem fB {b : Bool} : Flat (.bl b) (.py (.bool b)) := fun _ _ => .bl b
theorem fS {z : Str} : Flat (.str z) (.py (.str z)) := fun _ _ => .str z
theorem fN : Flat .non (.py .none) := fun _ _ => .non
theorem at_int {i : Int} (h : At C G v (.py (.int i))) : v = .int i := by cases (show Dq G v (.int i) from h); rfl
theorem at_bool {b : Bool} (h : At C G v (.py (.bool b))) : v = .bl b := by cases (show Dq G v (.bool b) from h); rfl
theorem at_str {s : Str} (h : At C G v (.py (.str s))) : v = .str s := by cases (show Dq G v (.str s) from h); rfl
theorem at_none (h : At C G v (.py .none)) : v = .non := by cases (show Dq G v .none from h); rfl
theorem at_list {ds : List PyData} (h : At C G v (.py (.list ds))) : ∃ a vs, v = .ref a ∧ G a = some (.lst vs) ∧ DqAll G vs ds := by
  cases (show Dq G v (.list ds) from h) with
  | lst hs ha => exact ⟨_, _, rfl, hs, ha⟩
theorem at_tup {ds : List PyData} (h : At C G v (.py (.tuple ds))) : ∃ a vs, v = .ref a ∧ G a = some (.tup vs) ∧ DqAll G vs ds := by
  cases (show Dq G v (.tuple ds) from h) with
  | tup hs ha => exact ⟨_, _, rfl, hs, ha⟩
theorem EvD.ev {i : Int} (h : EvD C te σ G (.py (.int i))) : Ev te σ G (.int i) := fun H1 e Q q => h H1 e Q fun v H2 G2 s a => by
  rw [at_int a]
  exact q H2 s.h
theorem EvD.evB {b : Bool} (h : EvD C te σ G (.py (.bool b))) : Ev te σ G (.bl b) := fun H1 e Q q => h H1 e Q fun v H2 G2 s a => by
  rw [at_bool a]
  exact q H2 s.h
theorem EvD.evS {s : Str} (h : EvD C te σ G (.py (.str s))) : Ev te σ G (.str s) := fun H1 e Q q => h H1 e Q fun v H2 G2 s a => by
  rw [at_str a]
  exact q H2 s.h
theorem EvD.evN (h : EvD C te σ G (.py .none)) : Ev te σ G .non := fun H1 e Q q => h H1 e Q fun v H2 G2 s a => by
  rw [at_none a]
  exact q H2 s.h
/-! names, written values -/
theorem ed_var {i : Nat} (h : σ[i]? = some (some v)) (a : At C G v x) : EvD C (tVar i) σ G x := fun H1 e Q q => ⟨v, h, q v H1 G (Gs.refl e) a⟩
theorem ed_c (f : Flat v x) : EvD C (tC v) σ G x := fun H1 e Q q => q v H1 G (Gs.refl e) (f C G)
theorem ed_i {i : Int} : EvD C (tC (.int i)) σ G (.py (.int i)) := ed_c fI
theorem ed_b {b : Bool} : EvD C (tC (.bl b)) σ G (.py (.bool b)) := ed_c fB
theorem ed_s {s : Str} : EvD C (tC (.str s)) σ G (.py (.str s)) := ed_c fS
theorem ed_n : EvD C (tC .non) σ G (.py .none) := ed_c fN
/-! numbers -/
theorem ed_op2 {i j : Int} {w : V} (ha : EvD C ta σ G (.py (.int i))) (hb : EvD C tb σ G (.py (.int j))) (hr : RV r (.int i) (.int j) G w) (f : Flat w x) : EvD C (tOp r ta tb) σ G x := ed_of (ev_op ha.ev hb.ev hr) f
theorem ed_add {i j : Int} (ha : EvD C ta σ G (.py (.int i))) (hb : EvD C tb σ G (.py (.int j))) : EvD C (tOp (rI0 fun i j => .int (i + j)) ta tb) σ G (.py (.int (i + j))) := ed_op2 ha hb rv_I0 fI
theorem ed_sub {i j : Int} (ha : EvD C ta σ G (.py (.int i))) (hb : EvD C tb σ G (.py (.int j))) : EvD C (tOp (rI0 fun i j => .int (i - j)) ta tb) σ G (.py (.int (i - j))) := ed_op2 ha hb rv_I0 fI
theorem ed_mul {i j : Int} (ha : EvD C ta σ G (.py (.int i))) (hb : EvD C tb σ G (.py (.int j))) (h : CMul i j) : EvD C (tOp (rI CMul fun i j => .int (i * j)) ta tb) σ G (.py (.int (i * j))) := ed_op2 ha hb (rv_I h) fI
theorem ed_mod {i j : Int} (ha : EvD C ta σ G (.py (.int i))) (hb : EvD C tb σ G (.py (.int j))) (h : 0 < j) : EvD C (tOp (rI (fun _ j => 0 < j) fun i j => .int (i % j)) ta tb) σ G (.py (.int (i % j))) := ed_op2 ha hb (rv_I h) fI
theorem ed_fdiv {i j : Int} (ha : EvD C ta σ G (.py (.int i))) (hb : EvD C tb σ G (.py (.int j))) (h : CDiv i j) : EvD C (tOp (rI CDiv fun i j => .int (i / j)) ta tb) σ G (.py (.int (i / j))) := ed_op2 ha hb (rv_I h) fI
theorem ed_neg {i : Int} (ha : EvD C ta σ G (.py (.int i))) : EvD C (tUn (rU fun i => .int (-i)) ta) σ G (.py (.int (-i))) := ed_of (ev_un ha.ev ru_neg) fI
/-! comparisons -/
theorem ed_lt {i j : Int} (ha : EvD C ta σ G (.py (.int i))) (hb : EvD C tb σ G (.py (.int j))) : EvD C (tOp (rI0 fun i j => .bl (decide (i < j))) ta tb) σ G (.py (.bool (decide (i < j)))) := ed_op2 ha hb rv_I0 fB
theorem ed_le {i j : Int} (ha : EvD C ta σ G (.py (.int i))) (hb : EvD C tb σ G (.py (.int j))) : EvD C (tOp (rI0 fun i j => .bl (decide (i ≤ j))) ta tb) σ G (.py (.bool (decide (i ≤ j)))) := ed_op2 ha hb rv_I0 fB
theorem ed_gt {i j : Int} (ha : EvD C ta σ G (.py (.int i))) (hb : EvD C tb σ G (.py (.int j))) : EvD C (tOp (rI0 fun i j => .bl (decide (j < i))) ta tb) σ G (.py (.bool (decide (j < i)))) := ed_op2 ha hb rv_I0 fB
theorem ed_ge {i j : Int} (ha : EvD C ta σ G (.py (.int i))) (hb : EvD C tb σ G (.py (.int j))) : EvD C (tOp (rI0 fun i j => .bl (decide (j ≤ i))) ta tb) σ G (.py (.bool (decide (j ≤ i)))) := ed_op2 ha hb rv_I0 fB
theorem dI {i j : Int} : decide (V.int i = V.int j) = decide (i = j) := by rw [Bool.eq_iff_iff]; simp
theorem dB {i j : Bool} : decide (V.bl i = V.bl j) = decide (i = j) := by rw [Bool.eq_iff_iff]; simp
theorem dS {i j : Str} : decide (V.str i = V.str j) = decide (i = j) := by rw [Bool.eq_iff_iff]; simp
theorem ed_eq {i j : Int} (ha : EvD C ta σ G (.py (.int i))) (hb : EvD C tb σ G (.py (.int j))) : EvD C (tOp rEq ta tb) σ G (.py (.bool (decide (i = j)))) := dI ▸ ed_op2 ha hb (rv_eq rfl) fB
theorem ed_ne {i j : Int} (ha : EvD C ta σ G (.py (.int i))) (hb : EvD C tb σ G (.py (.int j))) : EvD C (tOp rNe ta tb) σ G (.py (.bool (!decide (i = j)))) := dI ▸ ed_op2 ha hb (rv_ne rfl) fB
theorem ed_eqB {i j : Bool} (ha : EvD C ta σ G (.py (.bool i))) (hb : EvD C tb σ G (.py (.bool j))) : EvD C (tOp rEq ta tb) σ G (.py (.bool (decide (i = j)))) := dB ▸ ed_of (ev_op ha.evB hb.evB (rv_eq rfl)) fB
theorem ed_neB {i j : Bool} (ha : EvD C ta σ G (.py (.bool i))) (hb : EvD C tb σ G (.py (.bool j))) : EvD C (tOp rNe ta tb) σ G (.py (.bool (!decide (i = j)))) := dB ▸ ed_of (ev_op ha.evB hb.evB (rv_ne rfl)) fB
theorem ed_eqS {i j : Str} (ha : EvD C ta σ G (.py (.str i))) (hb : EvD C tb σ G (.py (.str j))) : EvD C (tOp rEq ta tb) σ G (.py (.bool (decide (i = j)))) := dS ▸ ed_of (ev_op ha.evS hb.evS (rv_eq rfl)) fB
theorem ed_neS {i j : Str} (ha : EvD C ta σ G (.py (.str i))) (hb : EvD C tb σ G (.py (.str j))) : EvD C (tOp rNe ta tb) σ G (.py (.bool (!decide (i = j)))) := dS ▸ ed_of (ev_op ha.evS hb.evS (rv_ne rfl)) fB
/-- a kind's name compared with a written one -/
theorem ed_eqM {k j : Nm} (ha : EvD C ta σ G (.py (.str k.s))) (hb : EvD C tb σ G (.py (.str j.s))) : EvD C (tOp rEq ta tb) σ G (.py (.bool (decide (k = j)))) := (ed_eqS ha hb).is (by rw [show decide (k.s = j.s) = decide (k = j) from by rw [Bool.eq_iff_iff, decide_eq_true_iff, decide_eq_true_iff]; exact s_inj])
theorem ed_neM {k j : Nm} (ha : EvD C ta σ G (.py (.str k.s))) (hb : EvD C tb σ G (.py (.str j.s))) : EvD C (tOp rNe ta tb) σ G (.py (.bool (!decide (k = j)))) := (ed_neS ha hb).is (by rw [show decide (k.s = j.s) = decide (k = j) from by rw [Bool.eq_iff_iff, decide_eq_true_iff, decide_eq_true_iff]; exact s_inj])
theorem ed_isNt : EvD C (tC (.str "plain")) σ G (.py (.str Nm.pl.s)) := ed_c fS
theorem ed_m (k : Nm) : EvD C (tC (.str k.s)) σ G (.py (.str k.s)) := ed_c fS
/-! and, or, not, if -/
theorem ed_and {a b : Bool} (h1 : EvD C ta σ G (.py (.bool a))) (h2 : a = true → EvD C tb σ G (.py (.bool b))) : EvD C (tAndV ta tb) σ G (.py (.bool (a && b))) := ed_of (ev_andV h1.evB fun e => (h2 e).evB) fB
theorem ed_or {a b : Bool} (h1 : EvD C ta σ G (.py (.bool a))) (h2 : a = false → EvD C tb σ G (.py (.bool b))) : EvD C (tOrV ta tb) σ G (.py (.bool (a || b))) := ed_of (ev_orV h1.evB fun e => (h2 e).evB) fB
theorem ed_not {a : Bool} (h1 : EvD C ta σ G (.py (.bool a))) : EvD C (tNotV ta) σ G (.py (.bool (!a))) := ed_of (ev_notV h1.evB) fB
theorem et_of {b : Bool} (h : EvD C te σ G (.py (.bool b))) : EvT (tTest te) σ G b := et_test h.evB
theorem et_ofB {b : Bool} (h : EvD C te σ G (.py (.bool b))) : EvT (tB te) σ G b := et_B h.evB
theorem ed_if {b : Bool} (h : EvT t σ G b) (h1 : b = true → EvD C ta σ G x) (h2 : b = false → EvD C tb σ G x) : EvD C (tIf t ta tb) σ G x := fun H1 e Q q => h H1 e _ fun H2 e2 => by
  have s2 : Gs H1 G H2 G := Gs.same e e2
  cases b with
  | true =>
    show ta σ H2 Q
    exact h1 rfl H2 s2.gh Q fun v H3 G3 s a => q v H3 G3 (s2.trans s) a
  | false =>
    show tb σ H2 Q
    exact h2 rfl H2 s2.gh Q fun v H3 G3 s a => q v H3 G3 (s2.trans s) a
theorem ite_da {α : Type} {e : α → Da} {b : Bool} {p q : α} : (if b = true then e p else e q) = e (if b = true then p else q) := by cases b <;> rfl
/-- if, with a value of a type on either side -/
theorem ed_ifE {α : Type} {e : α → PyData} {b : Bool} {p q : α} (h : EvT t σ G b) (h1 : b = true → EvD C ta σ G (.py (e p))) (h2 : b = false → EvD C tb σ G (.py (e q))) : EvD C (tIf t ta tb) σ G (.py (e (if b = true then p else q))) :=
  ed_if h (fun z => by subst z; exact h1 rfl) fun z => by subst z; exact h2 rfl
/-! arguments, tuples, lists -/
theorem as_nil : EvAs C tNil σ G [] := fun H1 e Q q => q [] H1 G (Gs.refl e) .nil
theorem as_cons {tr : TA} {xs : List Da} (h : EvD C ta σ G x) (hr : EvAs C tr σ G xs) : EvAs C (tCons ta tr) σ G (x :: xs) := fun H1 e Q q =>
  h H1 e _ fun v H2 G2 s a => (hr.mono s.g) H2 s.gh _ fun vs H3 G3 s3 as => q _ H3 G3 (s.trans s3) (.cons (a.mono s3.g) as)
abbrev eL {α : Type} (e : α → PyData) (ws : List α) : PyData := .list (ws.map e)
abbrev eP {α β : Type} (e : α → PyData) (e' : β → PyData) (p : α × β) : PyData := .tuple [e p.1, e' p.2]
abbrev eM (k : Nm) : PyData := .str k.s
abbrev eId (d : PyData) : PyData := d
abbrev toldD (k : Nm) (n : Nat) : PyData := .tuple [.str k.s, .int (n : Int)]
theorem ed_tup {ta : TA} {ds : List PyData} (h : EvAs C ta σ G (ds.map Da.py)) (hl : ds.length ≤ 100000) : EvD C (tTup ta) σ G (.py (.tuple ds)) := fun H1 e Q q =>
  h H1 e _ fun vs H2 G2 s a => ⟨sz_of (by rw [a.len, List.length_map]; exact hl), fun p hp => q _ _ _ (s.trans (Gs.new s.gh hp)) (.tup upd_same (dpExAll (Ex.new (fresh_back s.gh hp)) _ _ a.dp))⟩
theorem ed_lst {ta : TA} {ds : List PyData} (h : EvAs C ta σ G (ds.map Da.py)) (hl : ds.length ≤ 100000) : EvD C (tLst ta) σ G (.py (.list ds)) := fun H1 e Q q =>
  h H1 e _ fun vs H2 G2 s a => ⟨sz_of (by rw [a.len, List.length_map]; exact hl), fun p hp => q _ _ _ (s.trans (Gs.new s.gh hp)) (.lst upd_same (dpExAll (Ex.new (fresh_back s.gh hp)) _ _ a.dp))⟩
/-- an index -/
def getI {α : Type} [Inhabited α] (ws : List α) (i : Int) : α := ws.getD (if 0 ≤ i then i.toNat else (ws.length + i).toNat) default
theorem atI_getI {α β : Type} [Inhabited α] {f : α → β} {ws : List α} {i : Int} (h : -(ws.length : Int) ≤ i ∧ i < ws.length) : atI (ws.map f) i = some (f (getI ws i)) := by
  unfold atI ixN getI
  rw [List.length_map]
  by_cases h0 : 0 ≤ i
  · rw [if_pos h0, if_pos h.2, if_pos h0]
    have hl : i.toNat < ws.length := by omega
    show (ws.map f)[i.toNat]? = _
    rw [List.getElem?_map, List.getD_eq_getElem?_getD, List.getElem?_eq_getElem hl]
    rfl
  · rw [if_neg h0, if_pos h.1, if_neg h0]
    have hl : ((ws.length : Int) + i).toNat < ws.length := by omega
    show (ws.map f)[_]? = _
    have e : (i + (ws.length : Int)).toNat = ((ws.length : Int) + i).toNat := by omega
    first
      | rw [List.getElem?_map, List.getD_eq_getElem?_getD, List.getElem?_eq_getElem hl]; rfl
      | rw [e, List.getElem?_map, List.getD_eq_getElem?_getD, List.getElem?_eq_getElem hl]; rfl
theorem atI_dp {ds : List PyData} {vs : List V} {i : Int} {d : PyData} (h : DqAll G vs ds) (ha : atI ds i = some d) : ∃ v, atI vs i = some v ∧ Dq G v d := by
  unfold atI at ha ⊢
  rw [dpa_len h]
  cases q : ixN ds.length i with
  | none => rw [q] at ha; cases ha
  | some j =>
    rw [q] at ha
    exact dpa_get' h ha
theorem ed_ixD {ds : List PyData} {i : Int} {d : PyData} (ha : EvD C ta σ G (.py (.list ds))) (hb : EvD C tb σ G (.py (.int i))) (h : atI ds i = some d) : EvD C (tOp (rIxL K) ta tb) σ G (.py d) := fun H1 e Q q =>
  ha H1 e _ fun v H2 G2 s a => (hb.mono s.g) H2 s.gh _ fun v2 H3 G3 s3 a3 => by
    obtain ⟨p, vs, rfl, hs, hd⟩ := at_list a
    rw [at_int a3]
    obtain ⟨w, hw, hdw⟩ := atI_dp hd h
    exact ⟨p, vs, i, w, rfl, rfl, ex_l (s3.g.trans s3.gh) (sq_of hs), hw, q w H3 G3 (s.trans s3) (dpEx s3.g _ _ hdw)⟩
theorem ed_ixTD {ds : List PyData} {i : Int} {d : PyData} (ha : EvD C ta σ G (.py (.tuple ds))) (hb : EvD C tb σ G (.py (.int i))) (h : atI ds i = some d) : EvD C (tOp (rIxT K) ta tb) σ G (.py d) := fun H1 e Q q =>
  ha H1 e _ fun v H2 G2 s a => (hb.mono s.g) H2 s.gh _ fun v2 H3 G3 s3 a3 => by
    obtain ⟨p, vs, rfl, hs, hd⟩ := at_tup a
    rw [at_int a3]
    obtain ⟨w, hw, hdw⟩ := atI_dp hd h
    exact ⟨p, vs, i, w, rfl, rfl, ex_t (s3.g.trans s3.gh) (st_of hs), hw, q w H3 G3 (s.trans s3) (dpEx s3.g _ _ hdw)⟩
theorem ed_ix {α : Type} [Inhabited α] {f : α → PyData} {ws : List α} {i : Int} (ha : EvD C ta σ G (.py (eL f ws))) (hb : EvD C tb σ G (.py (.int i))) (h : -(ws.length : Int) ≤ i ∧ i < ws.length) : EvD C (tOp (rIxL K) ta tb) σ G (.py (f (getI ws i))) := ed_ixD ha hb (atI_getI h)
theorem ed_ix0 {d : PyData} {ds : List PyData} (ha : EvD C ta σ G (.py (.tuple (d :: ds)))) (hb : EvD C tb σ G (.py (.int 0))) : EvD C (tOp (rIxT K) ta tb) σ G (.py d) := ed_ixTD ha hb (by
  show (ixN (d :: ds).length 0).bind _ = _
  rw [show ixN (d :: ds).length 0 = some 0 from by unfold ixN; rw [if_pos (by decide), if_pos (by rw [List.length_cons]; omega)]; rfl]
  rfl)
theorem ed_ix1 {d d' : PyData} {ds : List PyData} (ha : EvD C ta σ G (.py (.tuple (d :: d' :: ds)))) (hb : EvD C tb σ G (.py (.int 1))) : EvD C (tOp (rIxT K) ta tb) σ G (.py d') := ed_ixTD ha hb (by
  show (ixN (d :: d' :: ds).length 1).bind _ = _
  rw [show ixN (d :: d' :: ds).length 1 = some 1 from by unfold ixN; rw [if_pos (by decide), if_pos (by rw [List.length_cons, List.length_cons]; omega)]; rfl]
  rfl)
end
end Sv

/-! New lists, walks, comprehensions, calls and statements over the facts. By the verifier. -/
namespace Sv
open PySem PySem.Spec PyProof.Rows L2 Evl
section
variable {K : PySem.W.Frag} {C : Addr} {σ : L2.St} {H H' G G' : Hp} {ta tb tc te tx tl : TE} {t u : TT} {x y z : Da} {v : V} {r : R2}
/-- a new list, not yet among the facts -/
def EvN (C : Addr) (te : TE) (σ : L2.St) (G : Hp) (ds : List PyData) : Prop := ∀ H1, Ex G H1 → ∀ Q : VK, (∀ p vs H2 G2, Gs H1 G H2 G2 → H1 p = none → G2 p = none → H2 p = some (.lst vs) → DqAll G2 vs ds → Q (.ref p) H2) → te σ H1 Q
theorem Gs.join {H1 G H2 G2 : Hp} {p : Addr} {o : HO} (s : Gs H1 G H2 G2) (h : H1 p = none) (h2 : H2 p = some o) (hg : G2 p = none) : Gs H1 G H2 (L2.upd G2 p o) := by
  refine ⟨s.h, s.g.trans (Ex.new hg), fun a u z => ?_, fun a z1 z2 => ?_⟩
  · by_cases q : a = p
    · subst q
      rw [upd_same] at z
      rw [← z]
      exact h2
    · rw [upd_ne q] at z
      exact s.gh a u z
  · by_cases q : a = p
    · subst q
      exact absurd h z1
    · rw [upd_ne q]
      exact s.nw a z1 z2
theorem EvN.d {ds : List PyData} (h : EvN C te σ G ds) : EvD C te σ G (.py (.list ds)) := fun H1 e Q q => h H1 e Q fun p vs H2 G2 s h1 hg h2 a =>
  q _ H2 _ (s.join h1 h2 hg) (.lst upd_same (dpExAll (Ex.new hg) _ _ a))
theorem EvN.mono {ds : List PyData} (e : Ex G G') (h : EvN C te σ G ds) : EvN C te σ G' ds := fun H1 e1 Q q => h H1 (e.trans e1) Q fun p vs H2 G2 s h1 hg h2 a =>
  q p vs H2 _ (s.widen e e1) h1 (by unfold both; rw [fresh_back e1 h1]; exact hg) h2 (dpExAll (both_r (e1.trans s.h) s.gh) _ _ a)
theorem EvN.is {ds es : List PyData} (h : EvN C te σ G ds) (e : ds = es) : EvN C te σ G es := e ▸ h
theorem en_lst {ta : TA} {ds : List PyData} (h : EvAs C ta σ G (ds.map Da.py)) (hl : ds.length ≤ 100000) : EvN C (tLst ta) σ G ds := fun H1 e Q q =>
  h H1 e _ fun vs H2 G2 s a => ⟨sz_of (by rw [a.len, List.length_map]; exact hl), fun p hp => q p vs _ G2 (s.trans (Gs.same s.gh (Ex.new hp))) (fresh_back s.h hp) (fresh_back s.gh hp) upd_same a.dp⟩
theorem en_list {ds : List PyData} (ha : EvD C ta σ G (.py (.list ds))) : EvN C (tCB (fun xs H Q => ∃ p ys, xs = [.ref p] ∧ (SqL K H p ys ∨ SqT K H p ys) ∧ ∀ l, H l = none → Q (.ref l) (L2.upd H l (.lst ys))) (tCons ta tNil)) σ G ds := fun H1 e Q q =>
  ha H1 e _ fun v H2 G2 s a => by
    obtain ⟨p, vs, rfl, hs, hd⟩ := at_list a
    exact ⟨p, vs, rfl, .inl (ex_l s.gh (sq_of hs)), fun l hl => q l vs _ G2 (s.trans (Gs.same s.gh (Ex.new hl))) (fresh_back s.h hl) (fresh_back s.gh hl) upd_same hd⟩
theorem en_listT {ds : List PyData} (ha : EvD C ta σ G (.py (.tuple ds))) : EvN C (tCB (fun xs H Q => ∃ p ys, xs = [.ref p] ∧ (SqL K H p ys ∨ SqT K H p ys) ∧ ∀ l, H l = none → Q (.ref l) (L2.upd H l (.lst ys))) (tCons ta tNil)) σ G ds := fun H1 e Q q =>
  ha H1 e _ fun v H2 G2 s a => by
    obtain ⟨p, vs, rfl, hs, hd⟩ := at_tup a
    exact ⟨p, vs, rfl, .inr (ex_t s.gh (st_of hs)), fun l hl => q l vs _ G2 (s.trans (Gs.same s.gh (Ex.new hl))) (fresh_back s.h hl) (fresh_back s.gh hl) upd_same hd⟩
theorem ed_tupOf {ds : List PyData} (ha : EvD C ta σ G (.py (.list ds))) : EvD C (tCB (fun xs H Q => ∃ p ys, xs = [.ref p] ∧ ((SqL K H p ys ∧ ∀ l, H l = none → Q (.ref l) (L2.upd H l (.tup ys))) ∨ (SqT K H p ys ∧ Q (.ref p) H))) (tCons ta tNil)) σ G (.py (.tuple ds)) := fun H1 e Q q =>
  ha H1 e _ fun v H2 G2 s a => by
    obtain ⟨p, vs, rfl, hs, hd⟩ := at_list a
    exact ⟨p, vs, rfl, .inl ⟨ex_l s.gh (sq_of hs), fun l hl => q _ _ _ (s.trans (Gs.new s.gh hl)) (.tup upd_same (dpExAll (Ex.new (fresh_back s.gh hl)) _ _ hd))⟩⟩
theorem ed_len {ds : List PyData} (ha : EvD C ta σ G (.py (.list ds))) : EvD C (tCB (fun xs H Q => ∃ p ys, xs = [.ref p] ∧ (SqL K H p ys ∨ SqT K H p ys) ∧ Q (.int ys.length) H) (tCons ta tNil)) σ G (.py (.int (ds.length : Int))) := fun H1 e Q q =>
  ha H1 e _ fun v H2 G2 s a => by
    obtain ⟨p, vs, rfl, hs, hd⟩ := at_list a
    refine ⟨p, vs, rfl, .inl (ex_l s.gh (sq_of hs)), ?_⟩
    rw [dpa_len hd]
    exact q _ H2 G2 s (.int _)
theorem ed_lenT {ds : List PyData} (ha : EvD C ta σ G (.py (.tuple ds))) : EvD C (tCB (fun xs H Q => ∃ p ys, xs = [.ref p] ∧ (SqL K H p ys ∨ SqT K H p ys) ∧ Q (.int ys.length) H) (tCons ta tNil)) σ G (.py (.int (ds.length : Int))) := fun H1 e Q q =>
  ha H1 e _ fun v H2 G2 s a => by
    obtain ⟨p, vs, rfl, hs, hd⟩ := at_tup a
    refine ⟨p, vs, rfl, .inr (ex_t s.gh (st_of hs)), ?_⟩
    rw [dpa_len hd]
    exact q _ H2 G2 s (.int _)
theorem ed_lenL {α : Type} {f : α → PyData} {ws : List α} (ha : EvD C ta σ G (.py (eL f ws))) : EvD C (tCB (fun xs H Q => ∃ p ys, xs = [.ref p] ∧ (SqL K H p ys ∨ SqT K H p ys) ∧ Q (.int ys.length) H) (tCons ta tNil)) σ G (.py (.int (ws.length : Int))) := (ed_len ha).is (by rw [List.length_map])
/-- slices -/
theorem dpa_cut {vs : List V} {ds : List PyData} {lo hi : Option Int} (h : DqAll G vs ds) : DqAll G (cutV vs lo hi) ((ds.drop (HT.sIx ds.length 0 lo)).take (HT.sIx ds.length ds.length hi - HT.sIx ds.length 0 lo)) := by
  unfold cutV
  rw [dpa_len h]
  exact dpa_take _ (dpa_drop _ h)
def cutL {α : Type} (ws : List α) (lo hi : Option Int) : List α := (ws.drop (HT.sIx ws.length 0 lo)).take (HT.sIx ws.length ws.length hi - HT.sIx ws.length 0 lo)
theorem en_sl {tlo thi : L2.TO} {lo hi : Option Int} {ds : List PyData} (ha : EvD C ta σ G (.py (.list ds))) (h1 : EvO tlo σ G lo) (h2 : EvO thi σ G hi) : EvN C (tSl (rSlL K) ta tlo thi) σ G (cutL ds lo hi) := fun H1 e Q q =>
  ha H1 e _ fun v H2 G2 s a => h1 H2 (s.g.trans s.gh) _ fun H3 e3 => h2 H3 ((s.g.trans s.gh).trans e3) _ fun H4 e4 => by
    obtain ⟨p, vs, rfl, hs, hd⟩ := at_list a
    have e34 := e3.trans e4
    exact ⟨p, vs, rfl, ex_l (s.gh.trans e34) (sq_of hs), fun l hl => q l _ _ G2 (s.trans (Gs.same s.gh (e34.trans (Ex.new hl)))) (fresh_back (s.h.trans e34) hl) (fresh_back (s.gh.trans e34) hl) upd_same (dpa_cut hd)⟩
theorem cutL_map {α β : Type} (f : α → β) (ws : List α) (lo hi : Option Int) : cutL (ws.map f) lo hi = (cutL ws lo hi).map f := by
  unfold cutL
  rw [List.length_map, List.map_take, List.map_drop]
theorem en_slL {α : Type} {f : α → PyData} {ws : List α} {tlo thi : L2.TO} {lo hi : Option Int} (ha : EvD C ta σ G (.py (eL f ws))) (h1 : EvO tlo σ G lo) (h2 : EvO thi σ G hi) : EvN C (tSl (rSlL K) ta tlo thi) σ G ((cutL ws lo hi).map f) := (en_sl ha h1 h2).is (cutL_map f ws lo hi)
theorem eo_int {i : Int} (h : EvD C te σ G (.py (.int i))) : EvO (tPart te) σ G (some i) := eo_some h.ev
/-- two lists in one -/
def rCatS : R2 := fun x y H Q => ∃ l b xs zs, x = .ref l ∧ y = .ref b ∧ L2.Rd H l (.lst xs) ∧ L2.Rd H b (.lst zs) ∧ xs.length + zs.length ≤ sizeLine ∧ ∀ p, H p = none → Q (.ref p) (L2.upd H p (.lst (xs ++ zs)))
theorem op_catS {X : Cx} : OpR X (binaryOp .Add) rCatS := by
  intro pins s σ H x y v u Q I rx ry h
  obtain ⟨l, b, xs, zs, rfl, rfl, hH, hB, hz, q⟩ := h
  cases rx
  cases ry
  obtain ⟨z, its, n, r, e⟩ := hH.ok I.hok
  obtain ⟨z2, its2, n2, r2, e2⟩ := hB.ok I.hok
  have n1 := r.length
  have m1 := r2.length
  refine PySem.P.add_list e e2 ?_ (by rw [List.size_toArray, List.size_toArray]; omega)
  have ea : its.toArray ++ its2.toArray = (its ++ its2).toArray := by simp
  rw [ea]
  exact ⟨.ref _, _, I.lnew (t' := s.toks) (r.append r2) (by rw [List.length_append]; omega), rfl, q _ I.fresh⟩
def rRepS : R2 := fun x y H Q => ∃ l k xs, x = .ref l ∧ y = .int k ∧ L2.Rd H l (.lst xs) ∧ -(2 ^ 63) ≤ k ∧ k < 2 ^ 63 ∧ xs.length * k.toNat ≤ sizeLine ∧
  ∀ p, H p = none → Q (.ref p) (L2.upd H p (.lst (List.replicate k.toNat xs).flatten))
theorem op_repS {X : Cx} : OpR X (binaryOp .Mult) rRepS := by
  intro pins s σ H x y v u Q I rx ry h
  obtain ⟨l, k, xs, rfl, rfl, hH, h1, h2, hz, q⟩ := h
  cases rx
  obtain ⟨t, rfl⟩ := ry
  obtain ⟨z, its, n, r, e⟩ := hH.ok I.hok
  have hl := r.length
  have hlen : its.toArray.size * k.toNat ≤ sizeLine := by rw [List.size_toArray, ← hl]; exact hz
  have hcap : ¬ its.toArray.size * k.toNat > (2 ^ 63 - 1) / 8 := by
    have : (sizeLine : Nat) ≤ (2 ^ 63 - 1) / 8 := by decide
    omega
  have hfit : ¬ (!Builtin.List.listFitsIndex k) = true := by
    rw [fitsIndex_both h1 h2]
    exact Bool.false_ne_true
  have hlong : ¬ Builtin.List.listTooLong (its.toArray.size * k.toNat) = true := by
    rw [notLongL hlen]
    exact Bool.false_ne_true
  have hnew : List.foldl (fun x1 x2 => x1 ++ x2) #[] (List.replicate (if its.toArray.isEmpty = true then 0 else k.toNat) its.toArray) = (List.replicate k.toNat its).flatten.toArray := by
    have f0 : ∀ m : Nat, List.foldl (fun x1 x2 => x1 ++ x2) #[] (List.replicate m its.toArray) = (List.replicate m its).flatten.toArray := fun m => by
      have := foldl_rep its m []
      rw [List.nil_append] at this
      exact this
    rw [f0]
    cases its with
    | nil => simp
    | cons a r' => rw [if_neg (by simp)]
  refine wpAny_binaryOp_repeat_ref (T := "list") (U := "int") (by decide) ⟨_, e, rfl⟩ (fun s' => typeIs_int s' k t) noFill_list_mul F.fills_int_mul F.slot_int_rmul repeat_list F.slot_int_index.lookup
    (call_meets F.slot_int_rmul (typeIs_int s k t) F.entry_int_rmul (F.args_int_rmul_2 _ _) (int___rmul___int_list k t l its.toArray n)
      ⟨e, rfl, ⟨_, e, rfl⟩, call_meets F.slot_list_mul ⟨_, e, rfl⟩ F.entry_list_mul (F.args_list_mul_2 _ _) (AutoListH.list___mul___list_int_3 l its.toArray n k t hfit hcap hlong) ⟨e, ?_⟩⟩)
  rw [hnew]
  exact ⟨.ref _, _, I.lnew (t' := s.toks) (r.rep k.toNat) (by rw [PyProof.Rows.lm_len_rep_flat, Nat.mul_comm]; exact hz), rfl, q _ I.fresh⟩
theorem en_cat {ds es : List PyData} (ha : EvD C ta σ G (.py (.list ds))) (hb : EvD C tb σ G (.py (.list es))) (hz : ds.length + es.length ≤ 100000) : EvN C (tOp rCatS ta tb) σ G (ds ++ es) := fun H1 e Q q =>
  ha H1 e _ fun v H2 G2 s a => (hb.mono s.g) H2 s.gh _ fun v2 H3 G3 s3 a3 => by
    obtain ⟨p, vs, rfl, hs, hd⟩ := at_list a
    obtain ⟨p2, us, rfl, hs2, hd2⟩ := at_list a3
    exact ⟨p, p2, vs, us, rfl, rfl, ex_rd (s3.g.trans s3.gh) (.inl hs), ex_rd s3.gh (.inl hs2), sz_of (by rw [dpa_len hd, dpa_len hd2]; exact hz), fun l hl => q l _ _ G3 ((s.trans s3).trans (Gs.same s3.gh (Ex.new hl))) (fresh_back (s.h.trans s3.h) hl) (fresh_back s3.gh hl) upd_same (dpa_append (dpExAll s3.g _ _ hd) hd2)⟩
theorem en_catL {α : Type} {f : α → PyData} {ws us : List α} (ha : EvD C ta σ G (.py (eL f ws))) (hb : EvD C tb σ G (.py (eL f us))) (hz : ws.length + us.length ≤ 100000) : EvN C (tOp rCatS ta tb) σ G ((ws ++ us).map f) := (en_cat ha hb (by rw [List.length_map, List.length_map]; exact hz)).is (List.map_append).symm
/-- a list so many times -/
theorem dpa_rep {vs : List V} {ds : List PyData} (h : DqAll G vs ds) : ∀ n : Nat, DqAll G (List.replicate n vs).flatten (List.replicate n ds).flatten
  | 0 => .nil
  | n + 1 => by
    rw [List.replicate_succ, List.replicate_succ, List.flatten_cons, List.flatten_cons]
    exact dpa_append h (dpa_rep h n)
theorem en_rep {ds : List PyData} {i : Int} (ha : EvD C ta σ G (.py (.list ds))) (hb : EvD C tb σ G (.py (.int i))) (hz : -(2 ^ 62) ≤ i ∧ i < 2 ^ 62 ∧ ds.length * i.toNat ≤ 100000) : EvN C (tOp rRepS ta tb) σ G (List.replicate i.toNat ds).flatten := fun H1 e Q q =>
  ha H1 e _ fun v H2 G2 s a => (hb.mono s.g) H2 s.gh _ fun v2 H3 G3 s3 a3 => by
    obtain ⟨p, vs, rfl, hs, hd⟩ := at_list a
    rw [at_int a3]
    exact ⟨p, i, vs, rfl, rfl, ex_rd (s3.g.trans s3.gh) (.inl hs), by omega, by omega, sz_of (by rw [dpa_len hd]; exact hz.2.2), fun l hl => q l _ _ G3 ((s.trans s3).trans (Gs.same s3.gh (Ex.new hl))) (fresh_back (s.h.trans s3.h) hl) (fresh_back s3.gh hl) upd_same (dpa_rep (dpExAll s3.g _ _ hd) _)⟩
theorem en_repL {α : Type} {f : α → PyData} {ws : List α} {i : Int} (ha : EvD C ta σ G (.py (eL f ws))) (hb : EvD C tb σ G (.py (.int i))) (hz : -(2 ^ 62) ≤ i ∧ i < 2 ^ 62 ∧ ws.length * i.toNat ≤ 100000) : EvN C (tOp rRepS ta tb) σ G ((List.replicate i.toNat ws).flatten.map f) := (en_rep ha hb (by rw [List.length_map]; exact hz)).is (by rw [List.map_flatten, List.map_replicate])
/-! a list and the numbers of a range -/
def rngI (lo hi : Int) : List Int := (List.range (hi - lo).toNat).map fun (i : Nat) => lo + (i : Int)
theorem rng_get {lo hi : Int} {i : Nat} (h : i < (hi - lo).toNat) : (rngI lo hi)[i]? = some (lo + (i : Int)) := by
  unfold rngI
  rw [List.getElem?_map, List.getElem?_range h]
  rfl
theorem rng_len (lo hi : Int) : (rngI lo hi).length = (hi - lo).toNat := by unfold rngI; rw [List.length_map, List.length_range]
theorem dpa_ints : ∀ ws : List Int, DqAll G (ws.map V.int) (ws.map PyData.int)
  | [] => .nil
  | w :: ws => .cons (.int w) (dpa_ints ws)
theorem dpa_int_eq : ∀ {ws : List Int} {vs : List V}, DqAll G vs (ws.map PyData.int) → vs = ws.map V.int
  | [], vs, h => by cases h; rfl
  | w :: ws, vs, h => by
    cases h with
    | cons a b =>
      cases a
      rw [dpa_int_eq b]
      rfl
theorem rgV_rng (a b : Int) : rgV a b = (rngI a b).map V.int := by
  unfold rgV rngI
  rw [List.map_map]
  rfl
theorem en_rg1 {n : Int} (ha : EvD C ta σ G (.py (.int n))) (hz : n ≤ 100000 ∧ -100000 ≤ n) : EvN C (tLstRg (tRg1 ta)) σ G ((rngI 0 n).map PyData.int) := fun H1 e Q q =>
  ha H1 e _ fun v H2 G2 s a => by
    rw [at_int a]
    refine ⟨n, rfl, ⟨by omega, by omega, by omega, by omega, by omega⟩, fun l hl => q l _ _ G2 (s.trans (Gs.same s.gh (Ex.new hl))) (fresh_back s.h hl) (fresh_back s.gh hl) upd_same ?_⟩
    rw [rgV_rng]
    exact dpa_ints _
theorem en_rg2 {m n : Int} (ha : EvD C ta σ G (.py (.int m))) (hb : EvD C tb σ G (.py (.int n))) (hz : (n ≤ 100000 ∧ -100000 ≤ n) ∧ m ≤ 100000 ∧ -100000 ≤ m) : EvN C (tLstRg (tRg2 ta tb)) σ G ((rngI m n).map PyData.int) := fun H1 e Q q =>
  ha H1 e _ fun v H2 G2 s a => (hb.mono s.g) H2 s.gh _ fun v2 H3 G3 s3 a3 => by
    rw [at_int a, at_int a3]
    refine ⟨m, n, rfl, rfl, ⟨by omega, by omega, by omega, by omega, by omega⟩, fun l hl => q l _ _ G3 ((s.trans s3).trans (Gs.same s3.gh (Ex.new hl))) (fresh_back (s.h.trans s3.h) hl) (fresh_back s3.gh hl) upd_same ?_⟩
    rw [rgV_rng]
    exact dpa_ints _
/-! walks -/
def WkD (G : Hp) (J : It) (ds : List PyData) : Prop := ∃ (Gp : Hp → Prop) (Y : Nat → Hp → V → Hp → Prop), Walk J ds.length Gp Y ∧ (∀ H, Ex G H → Gp H) ∧ ∀ i H x H' Gi, i < ds.length → Ex G Gi → Ex Gi H → Y i H x H' → ∃ G' d, ds[i]? = some d ∧ Gs H Gi H' G' ∧ Dq G' x d
def EvI (wi : TI) (σ : L2.St) (G : Hp) (ds : List PyData) : Prop := ∀ H1, Ex G H1 → ∀ R : It → Hp → Prop, (∀ J H2 G2, Gs H1 G H2 G2 → WkD G2 J ds → R J H2) → wi σ H1 R
theorem ei_list {ds : List PyData} (h : EvD C tl σ G (.py (.list ds))) : EvI (iList K tl) σ G ds := fun H1 e R k =>
  h H1 e _ fun v H2 G2 s a => by
    obtain ⟨p, vs, rfl, hs, hd⟩ := at_list a
    refine ⟨p, rfl, ⟨vs, ex_l s.gh (sq_of hs)⟩, k _ H2 G2 s ⟨_, _, by rw [← dpa_len hd]; exact walk_list, fun H e => ex_l e (sq_of hs), fun i H x H' Gi hi e1 e2 y => ?_⟩⟩
    obtain ⟨rfl, hx⟩ := y
    obtain ⟨d, h1, h2⟩ := dpa_get hd hx
    exact ⟨Gi, d, h1, Gs.refl e2, dpEx e1 _ _ h2⟩
theorem ei_tup {ds : List PyData} (h : EvD C tl σ G (.py (.tuple ds))) : EvI (iTup K tl) σ G ds := fun H1 e R k =>
  h H1 e _ fun v H2 G2 s a => by
    obtain ⟨p, vs, rfl, hs, hd⟩ := at_tup a
    refine ⟨p, rfl, ⟨vs, ex_t s.gh (st_of hs)⟩, k _ H2 G2 s ⟨_, _, by rw [← dpa_len hd]; exact walk_tup, fun H e => ex_t e (st_of hs), fun i H x H' Gi hi e1 e2 y => ?_⟩⟩
    obtain ⟨rfl, hx⟩ := y
    obtain ⟨d, h1, h2⟩ := dpa_get hd hx
    exact ⟨Gi, d, h1, Gs.refl e2, dpEx e1 _ _ h2⟩
theorem ei_rg1 {n : Int} (h : EvD C ta σ G (.py (.int n))) (hz : -100000 ≤ n ∧ n ≤ 100000) : EvI (iRng1 (tCons ta tNil)) σ G ((rngI 0 n).map PyData.int) := fun H1 e R k =>
  h H1 e _ fun v H2 G2 s a => by
    rw [at_int a]
    refine ⟨n, rfl, by omega, by omega, k _ H2 G2 s ⟨_, _, by rw [List.length_map, rng_len, Int.sub_zero]; exact walk_range, fun _ _ => trivial, fun i H x H' Gi hi e1 e2 y => ?_⟩⟩
    obtain ⟨rfl, rfl⟩ := y
    rw [List.length_map, rng_len] at hi
    exact ⟨Gi, _, by rw [List.getElem?_map, rng_get hi]; rfl, Gs.refl e2, .int _⟩
theorem ei_rg2 {m n : Int} (h : EvD C ta σ G (.py (.int m))) (h' : EvD C tb σ G (.py (.int n))) (hz : (-100000 ≤ n ∧ n ≤ 100000) ∧ -100000 ≤ m ∧ m ≤ 100000) : EvI (iRng2 (tCons ta (tCons tb tNil))) σ G ((rngI m n).map PyData.int) := fun H1 e R k =>
  h H1 e _ fun v H2 G2 s a => (h'.mono s.g) H2 s.gh _ fun v2 H3 G3 s3 a3 => by
    rw [at_int a, at_int a3]
    refine ⟨m, n, rfl, ⟨by omega, by omega, by omega, by omega⟩, k _ H3 G3 (s.trans s3) ⟨_, _, by rw [List.length_map, rng_len]; exact walk_range, fun _ _ => trivial, fun i H x H' Gi hi e1 e2 y => ?_⟩⟩
    obtain ⟨rfl, rfl⟩ := y
    rw [List.length_map, rng_len] at hi
    exact ⟨Gi, _, by rw [List.getElem?_map, rng_get hi]; rfl, Gs.refl e2, .int _⟩
def enumL {α : Type} (ws : List α) : List (Int × α) := (List.range ws.length).zipWith (fun (i : Nat) x => ((i : Int), x)) ws
theorem enumL_get {α : Type} {ws : List α} {i : Nat} {x : α} (h : ws[i]? = some x) : (enumL ws)[i]? = some ((i : Int), x) := by
  have hi := (List.getElem?_eq_some_iff.mp h).1
  unfold enumL
  rw [List.getElem?_zipWith, List.getElem?_range hi, h]
theorem enumL_len {α : Type} (ws : List α) : (enumL ws).length = ws.length := by unfold enumL; simp
theorem ei_enum {α : Type} {f : α → PyData} {ws : List α} (h : EvD C ta σ G (.py (eL f ws))) : EvI (iEnum K (tCons ta tNil)) σ G ((enumL ws).map (eP PyData.int f)) := fun H1 e R k =>
  h H1 e _ fun v H2 G2 s a => by
    obtain ⟨p, vs, rfl, hs, hd⟩ := at_list a
    have hl := dpa_len hd
    rw [List.length_map] at hl
    refine ⟨p, vs, rfl, ex_l s.gh (sq_of hs), k _ H2 G2 s ⟨_, _, by rw [List.length_map, enumL_len, ← hl]; exact walk_enum, fun H e => ex_l e (sq_of hs), fun i H x H' Gi hi e1 e2 y => ?_⟩⟩
    obtain ⟨T, a, b, rfl, hT, rfl, ea, eb⟩ := y
    cases ea
    obtain ⟨d, h1, h2⟩ := dpa_get hd eb
    rw [List.getElem?_map] at h1
    cases hw : ws[i]? with
    | none => rw [hw] at h1; cases h1
    | some w =>
      rw [hw] at h1
      cases h1
      have ng := fresh_back e2 hT
      exact ⟨_, _, by rw [List.getElem?_map, enumL_get hw]; rfl, Gs.new e2 hT, .tup upd_same (.cons (.int _) (.cons (dpEx (e1.trans (Ex.new ng)) _ _ h2) .nil))⟩
theorem ei_rev {α : Type} {f : α → PyData} {ws : List α} (h : EvD C ta σ G (.py (eL f ws))) : EvI (iRev K (tCons ta tNil)) σ G (ws.reverse.map f) := fun H1 e R k =>
  h H1 e _ fun v H2 G2 s a => by
    obtain ⟨p, vs, rfl, hs, hd⟩ := at_list a
    have hl := dpa_len hd
    rw [List.length_map] at hl
    refine ⟨p, vs, rfl, ex_l s.gh (sq_of hs), k _ H2 G2 s ⟨_, _, by rw [List.length_map, List.length_reverse, ← hl]; exact walk_rev, fun H e => ex_l e (sq_of hs), fun i H x H' Gi hi e1 e2 y => ?_⟩⟩
    obtain ⟨rfl, hx⟩ := y
    obtain ⟨d, h1, h2⟩ := dpa_get hd hx
    rw [List.length_map, List.length_reverse] at hi
    refine ⟨Gi, d, ?_, Gs.refl e2, dpEx e1 _ _ h2⟩
    rw [List.getElem?_map] at h1 ⊢
    rw [List.getElem?_reverse hi, ← hl]
    exact h1
/-! what a target binds -/
def TgOk (K : PySem.W.Frag) (g : TG) (d : PyData) (Bd : Hp → L2.St → L2.St → Prop) : Prop := ∀ v σ H G (Q : L2.St → Hp → Prop), Ex G H → Dq G v d → (∀ σ', Bd G σ σ' → Q σ' H) → g v σ H Q
def BdN (j : Nat) (d : PyData) : Hp → L2.St → L2.St → Prop := fun G σ σ' => ∃ v, Dq G v d ∧ σ' = σ.set j (some v)
def BdP (i j : Nat) (d d' : PyData) : Hp → L2.St → L2.St → Prop := fun G σ σ' => ∃ v v', Dq G v d ∧ Dq G v' d' ∧ σ' = (σ.set i (some v)).set j (some v')
theorem tg_name {j : Nat} {d : PyData} : TgOk K (gName j) d (BdN j d) := fun v σ H G Q e h q => q _ ⟨v, h, rfl⟩
theorem tg_pair {i j : Nat} {d d' : PyData} : TgOk K (gTup K 2 (gCons (gName i) (gCons (gName j) gNil))) (.tuple [d, d']) (BdP i j d d') := fun v σ H G Q e h q => by
  cases h with
  | tup hs ha =>
    cases ha with
    | cons a b =>
      cases b with
      | cons b c =>
        cases c
        exact ⟨_, _, rfl, ex_t e (st_of hs), rfl, _, _, rfl, _, _, rfl, rfl, q _ ⟨_, _, a, b, rfl⟩⟩
/-! comprehensions -/
theorem en_lcG {wi : TI} {g : TG} {vs : List Nat} {α β : Type} {e : α → PyData} {e' : β → PyData} {ws : List α} {Bd : α → Hp → L2.St → L2.St → Prop} (p : α → Bool) (f : α → β)
    (hI : EvI wi σ G (ws.map e)) (hz : ws.length ≤ 100000) (hg : ∀ x ∈ ws, TgOk K g (e x) (Bd x)) (hw : ∀ x G1 σ', Bd x G1 (wipe σ vs) σ' → wipe σ' vs = wipe σ vs)
    (ht : ∀ x ∈ ws, ∀ σ' G1, Ex G G1 → Bd x G1 (wipe σ vs) σ' → EvT t σ' G1 (p x))
    (he : ∀ x ∈ ws, ∀ σ' G1, Ex G G1 → Bd x G1 (wipe σ vs) σ' → p x = true → EvD C te σ' G1 (.py (e' (f x)))) :
    EvN C (tLc wi g t te vs) σ G (((ws.filter p).map f).map e') := by
  intro H0 e0 Q q
  refine hI H0 e0 _ fun J H1 G1 s1 ⟨Gp, Y, W, hGp, hY⟩ => ?_
  rw [List.length_map] at W
  intro D hD
  have nD := fresh_back s1.gh hD
  refine lc_it W (fun i H2 => ∃ Gi acc, Ex H1 H2 ∧ Ex G1 Gi ∧ Ex Gi H2 ∧ Nw H1 G1 Gi ∧ Gi D = none ∧ H2 D = some (.lst acc) ∧ DqAll Gi acc ((((ws.take i).filter p).map f).map e') ∧ acc.length ≤ i) ?_ (fun i H2 _ ⟨Gi, acc, h1, h2, h3, _⟩ => hGp H2 (h2.trans h3)) ?_ ?_
  · exact ⟨G1, [], Ex.new hD, Ex.refl _, s1.gh.trans (Ex.new hD), fun _ _ h => h, nD, upd_same, .nil, Nat.le_refl _⟩
  · rintro i x H2 H3 hi ⟨Gi, acc, h1, h2, h3, h4, h5, h6, h7, h8⟩ hy
    obtain ⟨G3, d, hd, s3, hdx⟩ := hY i H2 x H3 Gi (by rw [List.length_map]; exact hi) h2 h3 hy
    have hwi : ws[i]? = some ws[i] := List.getElem?_eq_getElem hi
    rw [List.getElem?_map, hwi] at hd
    cases hd
    have mem : ws[i] ∈ ws := List.getElem_mem hi
    have etk : ws.take (i + 1) = ws.take i ++ [ws[i]] := by rw [List.take_add_one, hwi]; rfl
    have hD2 : H2 D ≠ none := by rw [h6]; exact fun z => by cases z
    have h5' := s3.nw D hD2 h5
    refine hg _ mem x _ H3 G3 _ s3.gh hdx fun σ2 hb => ⟨hw _ _ _ hb, ?_⟩
    have e3 : Ex G G3 := (s1.g.trans h2).trans s3.g
    refine ht _ mem σ2 G3 e3 hb H3 s3.gh _ fun H4 e4 => ?_
    have hD4 : H4 D = some (.lst acc) := e4 _ _ (s3.h _ _ h6)
    cases hp : p ws[i] with
    | true =>
      refine he _ mem σ2 G3 e3 hb hp H4 (s3.gh.trans e4) _ fun w H5 G5 s5 a5 => ⟨acc, s5.h _ _ hD4, sz_lt (by omega), ?_⟩
      have h55 : G5 D = none := s5.nw D (by rw [hD4]; exact fun z => by cases z) h5'
      refine ⟨G5, acc ++ [w], ?_, (h2.trans s3.g).trans s5.g, Ex.mut s5.gh h55, fun a z1 z2 => ?_, h55, upd_same, ?_, by rw [List.length_append, List.length_singleton]; omega⟩
      · exact Ex.mut (((h1.trans s3.h).trans e4).trans s5.h) hD
      · have z3 := h4 a z1 z2
        have z4 := s3.nw a (Ex.ne h1 z1) z3
        exact s5.nw a (Ex.ne ((h1.trans s3.h).trans e4) z1) z4
      · rw [etk, List.filter_append, List.map_append, List.map_append, List.filter_cons, if_pos hp]
        exact dpa_append (dpExAll (s3.g.trans s5.g) _ _ h7) (.cons a5 .nil)
    | false =>
      refine ⟨G3, acc, (h1.trans s3.h).trans e4, h2.trans s3.g, s3.gh.trans e4, fun a z1 z2 => s3.nw a (Ex.ne h1 z1) (h4 a z1 z2), h5', hD4, ?_, by omega⟩
      rw [etk, List.filter_append, List.filter_cons, if_neg (by rw [hp]; decide)]
      show DqAll G3 acc (((_ ++ []).map f).map e')
      rw [List.append_nil]
      exact dpExAll s3.g _ _ h7
  · rintro H2 ⟨Gi, acc, h1, h2, h3, h4, h5, h6, h7, h8⟩
    rw [List.take_length] at h7
    exact q D acc H2 Gi (s1.trans ⟨h1, h2, h3, h4⟩) (fresh_back s1.h hD) h5 h6 h7
theorem et_yes : EvT tYes σ G true := fun H1 e Q q => q H1 (Ex.refl _)
/-- [f(x) for x in ws if p(x)] -/
theorem en_lc (K : PySem.W.Frag) {wi : TI} {j : Nat} {vs : List Nat} {α β : Type} {e : α → PyData} {e' : β → PyData} {ws : List α} (p : α → Bool) (f : α → β)
    (hI : EvI wi σ G (ws.map e)) (hz : ws.length ≤ 100000) (hw : ∀ x, wipe ((wipe σ vs).set j (some x)) vs = wipe σ vs)
    (ht : ∀ x ∈ ws, ∀ v G1, Ex G G1 → At C G1 v (.py (e x)) → EvT t ((wipe σ vs).set j (some v)) G1 (p x))
    (he : ∀ x ∈ ws, ∀ v G1, Ex G G1 → At C G1 v (.py (e x)) → p x = true → EvD C te ((wipe σ vs).set j (some v)) G1 (.py (e' (f x)))) :
    EvN C (tLc wi (gName j) t te vs) σ G (((ws.filter p).map f).map e') :=
  en_lcG (K := K) (Bd := fun x => BdN j (e x)) p f hI hz (fun x _ => tg_name) (fun x G1 σ' ⟨v, _, h⟩ => by rw [h]; exact hw v) (fun x hx σ' G1 e1 ⟨v, h, h'⟩ => by subst h'; exact ht x hx v G1 e1 h) (fun x hx σ' G1 e1 ⟨v, h, h'⟩ hp => by subst h'; exact he x hx v G1 e1 h hp)
theorem en_lcA (K : PySem.W.Frag) {wi : TI} {j : Nat} {vs : List Nat} {α β : Type} {e : α → PyData} {e' : β → PyData} {ws : List α} (f : α → β)
    (hI : EvI wi σ G (ws.map e)) (hz : ws.length ≤ 100000) (hw : ∀ x, wipe ((wipe σ vs).set j (some x)) vs = wipe σ vs)
    (he : ∀ x ∈ ws, ∀ v G1, Ex G G1 → At C G1 v (.py (e x)) → EvD C te ((wipe σ vs).set j (some v)) G1 (.py (e' (f x)))) :
    EvN C (tLc wi (gName j) tYes te vs) σ G ((ws.map f).map e') :=
  (en_lc K (fun _ => true) f hI hz hw (fun _ _ _ _ _ _ => et_yes) (fun x hx v G1 e1 h _ => he x hx v G1 e1 h)).is (by rw [List.filter_eq_self.mpr fun _ _ => rfl])
/-- [f(a, b) for a, b in ws if p(a, b)] -/
theorem en_lcP {wi : TI} {i j : Nat} {vs : List Nat} {α β γ : Type} {e1 : α → PyData} {e2 : β → PyData} {e' : γ → PyData} {ws : List (α × β)} (p : α × β → Bool) (f : α × β → γ)
    (hI : EvI wi σ G (ws.map (eP e1 e2))) (hz : ws.length ≤ 100000) (hw : ∀ x y, wipe (((wipe σ vs).set i (some x)).set j (some y)) vs = wipe σ vs)
    (ht : ∀ x ∈ ws, ∀ v v' G1, Ex G G1 → At C G1 v (.py (e1 x.1)) → At C G1 v' (.py (e2 x.2)) → EvT t (((wipe σ vs).set i (some v)).set j (some v')) G1 (p x))
    (he : ∀ x ∈ ws, ∀ v v' G1, Ex G G1 → At C G1 v (.py (e1 x.1)) → At C G1 v' (.py (e2 x.2)) → p x = true → EvD C te (((wipe σ vs).set i (some v)).set j (some v')) G1 (.py (e' (f x)))) :
    EvN C (tLc wi (gTup K 2 (gCons (gName i) (gCons (gName j) gNil))) t te vs) σ G (((ws.filter p).map f).map e') :=
  en_lcG (K := K) (Bd := fun x => BdP i j (e1 x.1) (e2 x.2)) p f hI hz (fun x _ => tg_pair) (fun x G1 σ' ⟨v, v', _, _, h⟩ => by rw [h]; exact hw v v') (fun x hx σ' G1 e1 ⟨v, v', h, h', h''⟩ => by subst h''; exact ht x hx v v' G1 e1 h h') (fun x hx σ' G1 e1 ⟨v, v', h, h', h''⟩ hp => by subst h''; exact he x hx v v' G1 e1 h h' hp)
theorem en_lcPA {wi : TI} {i j : Nat} {vs : List Nat} {α β γ : Type} {e1 : α → PyData} {e2 : β → PyData} {e' : γ → PyData} {ws : List (α × β)} (f : α × β → γ)
    (hI : EvI wi σ G (ws.map (eP e1 e2))) (hz : ws.length ≤ 100000) (hw : ∀ x y, wipe (((wipe σ vs).set i (some x)).set j (some y)) vs = wipe σ vs)
    (he : ∀ x ∈ ws, ∀ v v' G1, Ex G G1 → At C G1 v (.py (e1 x.1)) → At C G1 v' (.py (e2 x.2)) → EvD C te (((wipe σ vs).set i (some v)).set j (some v')) G1 (.py (e' (f x)))) :
    EvN C (tLc wi (gTup K 2 (gCons (gName i) (gCons (gName j) gNil))) tYes te vs) σ G ((ws.map f).map e') :=
  (en_lcP (fun _ => true) f hI hz hw (fun _ _ _ _ _ _ _ _ => et_yes) (fun x hx v v' G1 e1 h h' _ => he x hx v v' G1 e1 h h')).is (by rw [List.filter_eq_self.mpr fun _ _ => rfl])
end
end Sv

/-! repr of any value that is told: numbers, strs, None, bools, nested lists and tuples, an empty dict. By the verifier. -/
namespace Sv
open PySem PySem.Spec PyProof.Rows L2
/-- what repr says of a value -/
inductive ReprAt (K : PySem.W.Frag) (H : Hp) : V → Str → Prop where
  | non : ReprAt K H .non "None"
  | bl (b : Bool) : ReprAt K H (.bl b) (if b then "True" else "False")
  | int (i : Int) (h : i.natAbs.log2 < 1920) : ReprAt K H (.int i) (Str.ofString (toString i))
  | str (x : Str) (h : (reprText x).length ≤ sizeLine) : ReprAt K H (.str x) (reprText x)
  | dat {a : Addr} {d : PyData} (h : Dp K H (.ref a) d) (hs : d.showable = true) (hn : d.hasDict = false) (hd : d.depth ≤ 100) (hl : d.shown.length ≤ sizeLine) : ReprAt K H (.ref a) d.shown
  | dict {a : Addr} (h : H a = some (.dT [])) : ReprAt K H (.ref a) "{}"
theorem call_reprV {X : Cx} {k : Nat} (gs : X.A.guards = some []) (hr : Room k X.A) : CallR X (.builtin "repr") (fun xs H Q => ∃ v t, xs = [v] ∧ ReprAt X.K H v t ∧ Q (.str t) H) := by
  intro pins s σ H xs us Q I r h
  obtain ⟨v, t, rfl, ht, q⟩ := h
  obtain ⟨u, rfl, hu⟩ := vals1 r
  cases ht with
  | non =>
    cases (show u = Value.none from hu)
    exact PySem.P.repr_of_none ⟨.str _, H, I.tok _, ⟨_, rfl⟩, q⟩
  | bl b =>
    cases (show u = Value.bool b from hu)
    exact PySem.P.repr_of_bool ⟨.str _, H, I.tok _, ⟨s.toks, by cases b <;> rfl⟩, q⟩
  | int i h =>
    obtain ⟨t, rfl⟩ := (show ∃ t, u = Value.int i t from hu)
    exact PySem.P.repr_of_int h ⟨.str _, H, I.tok _, ⟨_, rfl⟩, q⟩
  | str x h =>
    obtain ⟨t, rfl⟩ := (show ∃ t, u = Value.str x t from hu)
    exact PySem.P.repr_of_str ⟨.str _, H, I.tok _, ⟨_, rfl⟩, q⟩ h
  | dat hd hs hn hdp hl =>
    obtain rfl : u = Value.ref _ := hu
    obtain ⟨as, hR⟩ := Dp.reads I _ _ _ hd rfl
    exact PySem.repr_of_reads' hR hs (fun z => by rw [hn] at z; cases z) gs (by have := hr.un; omega) (fun b o e => e) (fun h' v tk keep => ⟨.str _, H, I.kept (t' := tk) keep, ⟨v, rfl⟩, q⟩) hl
  | @dict a h =>
    obtain rfl : u = Value.ref a := hu
    obtain ⟨_, hm, z⟩ := dt_of I.hok h
    obtain ⟨xs, hk, hx⟩ := z
    obtain ⟨o, es, ep, ho, hc, hdat, he, _, _⟩ := id hx
    have hx0 : xs = [] := by cases xs with | nil => rfl | cons _ _ => cases hk
    subst hx0
    have he0 : es.toList = [] := he
    have hR : Reads s.heap (.ref a) (.dict []) [a] := Reads.dict (as := []) (bs := []) ho hc.1 hdat (by rw [he0]; exact .nil) (by rw [he0]; exact .nil)
    refine PySem.repr_of_reads' hR rfl (fun _ z => ?_) gs (by have := hr.un; show X.A.units + (1 + 1) < cLine; omega) (fun b o e => e) (fun h' v tk keep => ⟨.str _, H, I.kept (t' := tk) keep, ⟨v, rfl⟩, q⟩) (by decide)
    rw [List.mem_singleton.mp z] at hm
    exact absurd hm (by simp)
end Sv

/-! max and min of a list of whole numbers, however long, by the verifier. -/
namespace Sv
open PySem PySem.Spec PyProof.Rows L2
section
variable {X : Cx}
def rMaxL (K : PySem.W.Frag) : List V → Hp → VK → Prop := fun vs H Q => ∃ (p : Addr) (ns : List Int), vs = [.ref p] ∧ SqL K H p (ns.map V.int) ∧ 0 < ns.length ∧ ∀ M, M ∈ ns → (∀ a ∈ ns, a ≤ M) → Q (.int M) H
def rMinL (K : PySem.W.Frag) : List V → Hp → VK → Prop := fun vs H Q => ∃ (p : Addr) (ns : List Int), vs = [.ref p] ∧ SqL K H p (ns.map V.int) ∧ 0 < ns.length ∧ ∀ M, M ∈ ns → (∀ a ∈ ns, M ≤ a) → Q (.int M) H
theorem call_maxL (hc : X.calm = true) : CallR X (.builtin "max") (rMaxL X.K) := by
  intro pins s σ H vs us Q I r h
  obtain ⟨p, ns, rfl, hs, hn, q⟩ := h
  obtain ⟨its, rv, hl, _⟩ := I.list hs
  rw [Vals.ref1 r]
  have hi := intsAre_of rv
  obtain ⟨xs, hx⟩ := hi.allInts.items
  have hnum := hi.numsOf
  rw [show its = its.toArray.toList from rfl, hx, nums_intItems] at hnum
  have hl2 := hl.isList
  rw [hx] at hl2
  have hsz : 0 < xs.size := by
    have := congrArg List.length hnum
    rw [List.length_map, Array.length_toList] at this
    omega
  refine max_intList (I.ok.hd hc) hl2 hsz fun v h' tk hv hk => ?_
  obtain ⟨t, rfl⟩ := intItems_at hv
  obtain ⟨h1, h2⟩ := argBest_gt (numAt xs) (xs.size - 1)
  refine ⟨.int (numAt xs (argBest (fun i j => decide (numAt xs i > numAt xs j)) (xs.size - 1))), H, I.kept hk, ⟨t, rfl⟩, q _ ?_ fun a ha => ?_⟩
  · rw [← hnum, numAt_eq]
    exact getD_mem (by rw [List.length_map, Array.length_toList]; omega)
  · rw [← hnum] at ha
    obtain ⟨j, hj, rfl⟩ := PySem.mem_getD ha
    rw [List.length_map, Array.length_toList] at hj
    rw [← numAt_eq]
    exact h2 j (by omega)
theorem call_minL (hc : X.calm = true) : CallR X (.builtin "min") (rMinL X.K) := by
  intro pins s σ H vs us Q I r h
  obtain ⟨p, ns, rfl, hs, hn, q⟩ := h
  obtain ⟨its, rv, hl, _⟩ := I.list hs
  rw [Vals.ref1 r]
  have hi := intsAre_of rv
  obtain ⟨xs, hx⟩ := hi.allInts.items
  have hnum := hi.numsOf
  rw [show its = its.toArray.toList from rfl, hx, nums_intItems] at hnum
  have hl2 := hl.isList
  rw [hx] at hl2
  have hsz : 0 < xs.size := by
    have := congrArg List.length hnum
    rw [List.length_map, Array.length_toList] at this
    omega
  refine min_intList (I.ok.hd hc) hl2 hsz fun v h' tk hv hk => ?_
  obtain ⟨t, rfl⟩ := intItems_at hv
  obtain ⟨h1, h2⟩ := argBest_lt (numAt xs) (xs.size - 1)
  refine ⟨.int (numAt xs (argBest (fun i j => decide (numAt xs i < numAt xs j)) (xs.size - 1))), H, I.kept hk, ⟨t, rfl⟩, q _ ?_ fun a ha => ?_⟩
  · rw [← hnum, numAt_eq]
    exact getD_mem (by rw [List.length_map, Array.length_toList]; omega)
  · rw [← hnum] at ha
    obtain ⟨j, hj, rfl⟩ := PySem.mem_getD ha
    rw [List.length_map, Array.length_toList] at hj
    rw [← numAt_eq]
    exact h2 j (by omega)
end
end Sv

/-! Comparisons of data, repr, built-ins, calls, statements over the facts. By the verifier. -/
namespace Sv
open PySem PySem.Spec PyProof.Rows L2 Evl
/-- how a type's values stand as data: equal just if they are -/
structure Enc {α : Type} [DecidableEq α] (e : α → PyData) (n : Nat) : Prop where
  eq : ∀ a b, PyData.eqv (e a) (e b) = decide (a = b)
  lay : ∀ a, PyData.canLay0 (e a) = true
  dep : ∀ a, PyData.depth (e a) ≤ n
theorem enc_int : Enc PyData.int 0 := ⟨fun a b => by
  rw [PyData.eqv, Bool.eq_iff_iff]
  simp, fun _ => rfl, fun _ => by simp [PyData.depth]⟩
theorem enc_bool : Enc PyData.bool 0 := ⟨fun a b => by
  rw [PyData.eqv, Bool.eq_iff_iff]
  simp, fun _ => rfl, fun _ => by simp [PyData.depth]⟩
theorem nm_lay (k : Nm) : PyData.canLay0 (.str k.s) = true := by cases k <;> decide +kernel
theorem enc_nm : Enc eM 0 := ⟨fun a b => by
  show PyData.eqv (.str a.s) (.str b.s) = _
  rw [PyData.eqv, Bool.eq_iff_iff, beq_iff_eq, decide_eq_true_iff]
  exact s_inj, nm_lay, fun _ => by simp [PyData.depth]⟩
section
variable {α β : Type} [DecidableEq α] [DecidableEq β] {e : α → PyData} {e' : β → PyData} {n m : Nat}
theorem Enc.all (E : Enc e n) : ∀ xs ys : List α, PyData.eqvAll (xs.map e) (ys.map e) = decide (xs = ys)
  | [], [] => rfl
  | [], _ :: _ => rfl
  | _ :: _, [] => rfl
  | x :: xs, y :: ys => by
    rw [List.map_cons, List.map_cons, PyData.eqvAll, E.eq, Enc.all E xs ys, Bool.eq_iff_iff]
    simp
theorem Enc.layAll (E : Enc e n) : ∀ xs : List α, PyData.canLayAll0 (xs.map e) = true
  | [] => rfl
  | x :: xs => by
    show (PyData.canLay0 (e x) && PyData.canLayAll0 (xs.map e)) = true
    rw [E.lay, Enc.layAll E xs]
    rfl
theorem Enc.depAll (E : Enc e n) : ∀ xs : List α, PyData.depthAll (xs.map e) ≤ n
  | [] => by simp [PyData.depthAll]
  | x :: xs => by
    have h1 := E.dep x
    have h2 := Enc.depAll E xs
    show max (PyData.depth (e x)) (PyData.depthAll (xs.map e)) ≤ n
    omega
theorem Enc.list (E : Enc e n) : Enc (eL e) (n + 1) := ⟨fun a b => by
  show PyData.eqv (.list (a.map e)) (.list (b.map e)) = _
  rw [PyData.eqv]
  exact E.all a b, fun a => E.layAll a, fun a => by
    have := E.depAll a
    show PyData.depth (.list (a.map e)) ≤ n + 1
    simp only [PyData.depth]
    omega⟩
theorem Enc.pair (E : Enc e n) (E' : Enc e' m) : Enc (eP e e') (max n m + 1) := ⟨fun a b => by
  show PyData.eqv (.tuple [e a.1, e' a.2]) (.tuple [e b.1, e' b.2]) = _
  rw [PyData.eqv, PyData.eqvAll, PyData.eqvAll, PyData.eqvAll, E.eq, E'.eq, Bool.eq_iff_iff]
  cases a
  cases b
  simp, fun a => by
    show (PyData.canLay0 (e a.1) && (PyData.canLay0 (e' a.2) && true)) = true
    rw [E.lay, E'.lay]
    rfl, fun a => by
    have h1 := E.dep a.1
    have h2 := E'.dep a.2
    show PyData.depth (.tuple [e a.1, e' a.2]) ≤ max n m + 1
    simp only [PyData.depth, PyData.depthAll]
    omega⟩
theorem Enc.shaped (E : Enc e n) (h : n ≤ 64) (a : α) : SeqAt.shaped (e a) = true := by
  unfold SeqAt.shaped
  rw [E.lay, decide_eq_true (Nat.le_trans (E.dep a) h)]
  rfl
theorem Enc.any (E : Enc e n) (x : α) (xs : List α) : ((xs.map e).any fun z => PyData.eqv z (e x)) = decide (x ∈ xs) := by
  rw [List.any_map, Bool.eq_iff_iff, List.any_eq_true, decide_eq_true_iff]
  constructor
  · rintro ⟨y, hy, h⟩
    have h2 : PyData.eqv (e y) (e x) = true := h
    rw [E.eq, decide_eq_true_iff] at h2
    rw [← h2]
    exact hy
  · intro h
    refine ⟨x, h, ?_⟩
    show PyData.eqv (e x) (e x) = true
    rw [E.eq]
    exact decide_eq_true rfl
end
section
variable {K : PySem.W.Frag} {C : Addr} {σ : L2.St} {H H' G G' : Hp} {ta tb tc te tx tl : TE} {t u : TT} {x y z : Da} {v : V} {r : R2}
theorem ed_eqD {d e : PyData} (ha : EvD C ta σ G (.py d)) (hb : EvD C tb σ G (.py e)) (sd : SeqAt.shaped d = true) (se : SeqAt.shaped e = true) : EvD C (tOp (rEqD K) ta tb) σ G (.py (.bool (PyData.eqv d e))) := fun H1 e0 Q q =>
  ha H1 e0 _ fun v H2 G2 s a => (hb.mono s.g) H2 s.gh _ fun w H3 G3 s3 b => ⟨d, e, Dq.dp (dpEx (s3.g.trans s3.gh) _ _ a) (lay_nodict _ (SeqAt.canLay_of_shaped sd)), Dq.dp (dpEx s3.gh _ _ b) (lay_nodict _ (SeqAt.canLay_of_shaped se)), sd, se, q _ H3 G3 (s.trans s3) (.bl _)⟩
theorem ed_neD {d e : PyData} (ha : EvD C ta σ G (.py d)) (hb : EvD C tb σ G (.py e)) (sd : SeqAt.shaped d = true) (se : SeqAt.shaped e = true) : EvD C (tOp (rNeD K) ta tb) σ G (.py (.bool (!PyData.eqv d e))) := fun H1 e0 Q q =>
  ha H1 e0 _ fun v H2 G2 s a => (hb.mono s.g) H2 s.gh _ fun w H3 G3 s3 b => ⟨d, e, Dq.dp (dpEx (s3.g.trans s3.gh) _ _ a) (lay_nodict _ (SeqAt.canLay_of_shaped sd)), Dq.dp (dpEx s3.gh _ _ b) (lay_nodict _ (SeqAt.canLay_of_shaped se)), sd, se, q _ H3 G3 (s.trans s3) (.bl _)⟩
theorem ed_inD {d : PyData} {ds : List PyData} (ha : EvD C ta σ G (.py d)) (hb : EvD C tb σ G (.py (.list ds))) (sd : SeqAt.shaped d = true) (se : SeqAt.shaped (.list ds) = true) : EvD C (tOp (rInD K) ta tb) σ G (.py (.bool (ds.any fun z => PyData.eqv z d))) := fun H1 e0 Q q =>
  ha H1 e0 _ fun v H2 G2 s a => (hb.mono s.g) H2 s.gh _ fun w H3 G3 s3 b => ⟨d, ds, Dq.dp (dpEx (s3.g.trans s3.gh) _ _ a) (lay_nodict _ (SeqAt.canLay_of_shaped sd)), Dq.dp (dpEx s3.gh _ _ b) (lay_nodict _ (SeqAt.canLay_of_shaped se)), sd, se, q _ H3 G3 (s.trans s3) (.bl _)⟩
theorem ed_ninD {d : PyData} {ds : List PyData} (ha : EvD C ta σ G (.py d)) (hb : EvD C tb σ G (.py (.list ds))) (sd : SeqAt.shaped d = true) (se : SeqAt.shaped (.list ds) = true) : EvD C (tOp (rNotInD K) ta tb) σ G (.py (.bool (!ds.any fun z => PyData.eqv z d))) := fun H1 e0 Q q =>
  ha H1 e0 _ fun v H2 G2 s a => (hb.mono s.g) H2 s.gh _ fun w H3 G3 s3 b => ⟨d, ds, Dq.dp (dpEx (s3.g.trans s3.gh) _ _ a) (lay_nodict _ (SeqAt.canLay_of_shaped sd)), Dq.dp (dpEx s3.gh _ _ b) (lay_nodict _ (SeqAt.canLay_of_shaped se)), sd, se, q _ H3 G3 (s.trans s3) (.bl _)⟩
section
variable {α : Type} [DecidableEq α] {e : α → PyData} {n : Nat} {a b : α} {ws : List α}
theorem ed_eqE (E : Enc e n) (hn : n ≤ 64) (ha : EvD C ta σ G (.py (e a))) (hb : EvD C tb σ G (.py (e b))) : EvD C (tOp (rEqD K) ta tb) σ G (.py (.bool (decide (a = b)))) := (ed_eqD ha hb (E.shaped hn a) (E.shaped hn b)).is (by rw [E.eq])
theorem ed_neE (E : Enc e n) (hn : n ≤ 64) (ha : EvD C ta σ G (.py (e a))) (hb : EvD C tb σ G (.py (e b))) : EvD C (tOp (rNeD K) ta tb) σ G (.py (.bool (!decide (a = b)))) := (ed_neD ha hb (E.shaped hn a) (E.shaped hn b)).is (by rw [E.eq])
theorem ed_inE (E : Enc e n) (hn : n + 1 ≤ 64) (ha : EvD C ta σ G (.py (e a))) (hb : EvD C tb σ G (.py (eL e ws))) : EvD C (tOp (rInD K) ta tb) σ G (.py (.bool (decide (a ∈ ws)))) := (ed_inD ha hb (E.shaped (by omega) a) (E.list.shaped hn ws)).is (by rw [E.any])
theorem ed_ninE (E : Enc e n) (hn : n + 1 ≤ 64) (ha : EvD C ta σ G (.py (e a))) (hb : EvD C tb σ G (.py (eL e ws))) : EvD C (tOp (rNotInD K) ta tb) σ G (.py (.bool (!decide (a ∈ ws)))) := (ed_ninD ha hb (E.shaped (by omega) a) (E.list.shaped hn ws)).is (by rw [E.any])
end
/-- x in a list of whole numbers, by the rule for flat items -/
theorem ed_inI {i : Int} {ws : List Int} (ha : EvD C ta σ G (.py (.int i))) (hb : EvD C tb σ G (.py (eL PyData.int ws))) : EvD C (tOp (rIn K false) ta tb) σ G (.py (.bool (decide (i ∈ ws)))) := fun H1 e0 Q q =>
  ha H1 e0 _ fun v H2 G2 s a => (hb.mono s.g) H2 s.gh _ fun w H3 G3 s3 b => by
    obtain ⟨p, vs, rfl, hs, hd⟩ := at_list b
    rw [at_int a]
    have hv := dpa_int_eq hd
    subst hv
    refine ⟨p, _, rfl, .inl (ex_l s3.gh (sq_of hs)), rfl, ?_, ?_⟩
    · rw [List.all_map, List.all_eq_true]
      exact fun _ _ => rfl
    · have e : inV (.int i) (ws.map V.int) = decide (i ∈ ws) := by
        unfold inV
        rw [List.any_map, Bool.eq_iff_iff, List.any_eq_true, decide_eq_true_iff]
        constructor
        · rintro ⟨y, hy, h⟩
          have h2 : (y == i) = true := h
          rw [← eq_of_beq h2]
          exact hy
        · intro h
          exact ⟨i, h, (show (i == i) = true from beq_self_eq_true i)⟩
      show Q (.bl (inV (.int i) (ws.map V.int))) H3
      rw [e]
      exact q _ H3 G3 (s.trans s3) (.bl _)
theorem ed_isB {a b : Bool} (ha : EvD C ta σ G (.py (.bool a))) (hb : EvD C tb σ G (.py (.bool b))) : EvD C (tOp rIsB ta tb) σ G (.py (.bool (decide (a = b)))) := fun H1 e0 Q q =>
  ha H1 e0 _ fun v H2 G2 s a1 => (hb.mono s.g) H2 s.gh _ fun w H3 G3 s3 b1 => by
    rw [at_bool a1, at_bool b1]
    exact ⟨a, b, rfl, rfl, q _ H3 G3 (s.trans s3) (.bl _)⟩
theorem ed_notB {a b : Bool} (ha : EvD C ta σ G (.py (.bool a))) (hb : EvD C tb σ G (.py (.bool b))) : EvD C (tOp rNotB ta tb) σ G (.py (.bool (!decide (a = b)))) := fun H1 e0 Q q =>
  ha H1 e0 _ fun v H2 G2 s a1 => (hb.mono s.g) H2 s.gh _ fun w H3 G3 s3 b1 => by
    rw [at_bool a1, at_bool b1]
    exact ⟨a, b, rfl, rfl, q _ H3 G3 (s.trans s3) (.bl _)⟩
def isNoneD : PyData → Bool
  | .none => true
  | _ => false
theorem dq_non {d : PyData} (h : Dq G v d) : decide (v = .non) = isNoneD d := by
  cases h with
  | non => rfl
  | bl b => rfl
  | int i => rfl
  | str s => rfl
  | lst _ _ => rfl
  | tup _ _ => rfl
  | dct _ => rfl
theorem ed_isN {d : PyData} (ha : EvD C ta σ G (.py d)) : EvD C (tOp (fun x y H Q => y = .non ∧ Q (.bl (decide (x = .non))) H) ta (tC .non)) σ G (.py (.bool (isNoneD d))) := fun H1 e0 Q q =>
  ha H1 e0 _ fun v H2 G2 s a => ⟨rfl, by
    rw [dq_non a]
    exact q _ H2 G2 s (.bl _)⟩
theorem ed_notN {d : PyData} (ha : EvD C ta σ G (.py d)) : EvD C (tOp (fun x y H Q => y = .non ∧ Q (.bl (!decide (x = .non))) H) ta (tC .non)) σ G (.py (.bool (!isNoneD d))) := fun H1 e0 Q q =>
  ha H1 e0 _ fun v H2 G2 s a => ⟨rfl, by
    rw [dq_non a]
    exact q _ H2 G2 s (.bl _)⟩
/-! repr -/
structure Showy (d : PyData) : Prop where
  hs : d.showable = true
  hn : d.hasDict = false ∨ d = .dict []
  hd : d.depth ≤ 100
  hl : d.shown.length ≤ sizeLine
theorem Dq.repr {d : PyData} (h : Dq H v d) (w : Showy d) : ReprAt K H v d.shown := by
  cases h with
  | non => exact .non
  | bl b =>
    have := ReprAt.bl (K := K) (H := H) b
    simpa [PyData.shown] using this
  | int i =>
    have h1 := w.hs
    simp only [PyData.showable, decide_eq_true_eq] at h1
    have := ReprAt.int (K := K) (H := H) i h1
    simpa [PyData.shown] using this
  | str s =>
    have h1 := w.hl
    simp only [PyData.shown] at h1
    have := ReprAt.str (K := K) (H := H) s h1
    simpa [PyData.shown] using this
  | lst a b =>
    have h := w.hn.resolve_right (fun z => by cases z)
    exact .dat (Dq.dp (.lst a b) h) w.hs h w.hd w.hl
  | tup a b =>
    have h := w.hn.resolve_right (fun z => by cases z)
    exact .dat (Dq.dp (.tup a b) h) w.hs h w.hd w.hl
  | dct h =>
    have e : (PyData.dict []).shown = "{}" := by decide +kernel
    rw [e]
    exact .dict h
theorem ed_repr {d : PyData} (ha : EvD C ta σ G (.py d)) (w : Showy d) : EvD C (tCB (fun xs H Q => ∃ v t, xs = [v] ∧ ReprAt K H v t ∧ Q (.str t) H) (tCons ta tNil)) σ G (.py (.str d.shown)) := fun H1 e0 Q q =>
  ha H1 e0 _ fun v H2 G2 s a => ⟨v, _, rfl, Dq.repr (dpEx s.gh _ _ a) w, q _ H2 G2 s (.str _)⟩
/-! isinstance -/
def tyD : PyData → String
  | .none => "NoneType"
  | .bool _ => "bool"
  | .int _ => "int"
  | .str _ => "str"
  | .list _ => "list"
  | .tuple _ => "tuple"
  | .dict _ => "dict"
def isaD (c : String) (d : PyData) : Bool := decide (tyD d = c) || (decide (tyD d = "bool") && decide (c = "int"))
theorem rd_seq {a : Addr} {u : HO} (h : L2.Rd H a u) : L2.Rd H a u := h
theorem dq_ty {d : PyData} (h : Dq H v d) : TyX K H v (.type (tyD d)) := by
  cases h with
  | non => exact .base .non
  | bl z => exact .base (.bl z)
  | int z => exact .base (.int z)
  | str z => exact .base (.str z)
  | lst h _ => exact .base (.lst h)
  | tup h _ => exact .base (.tup h)
  | dct h => exact .base (.dT h)
def tys : List String := ["NoneType", "bool", "int", "str", "list", "tuple"]
def clss : List String := ["int", "bool", "list", "tuple", "str"]
theorem kit_str (t c : String) (ht : t = "NoneType" ∨ t = "bool" ∨ t = "int" ∨ t = "str" ∨ t = "list" ∨ t = "tuple" ∨ t = "dict") (hc : c = "int" ∨ c = "bool" ∨ c = "list" ∨ c = "tuple" ∨ c = "str") : PySem.W.kitOne K (.type t) (.type c) = some (decide (t = c) || (decide (t = "bool") && decide (c = "int"))) := by
  rcases hc with h | h | h | h | h <;> rcases ht with g | g | g | g | g | g | g <;> subst h <;> subst g <;> exact kit_ty (by decide +kernel)
theorem kit_is (c : String) (hc : c = "int" ∨ c = "bool" ∨ c = "list" ∨ c = "tuple" ∨ c = "str") (d : PyData) : PySem.W.kitOne K (.type (tyD d)) (.type c) = some (isaD c d) := by
  refine kit_str (tyD d) c ?_ hc
  cases d with
  | none => exact .inl rfl
  | bool _ => exact .inr (.inl rfl)
  | int _ => exact .inr (.inr (.inl rfl))
  | str _ => exact .inr (.inr (.inr (.inl rfl)))
  | list _ => exact .inr (.inr (.inr (.inr (.inl rfl))))
  | tuple _ => exact .inr (.inr (.inr (.inr (.inr (.inl rfl)))))
  | dict kvs => exact .inr (.inr (.inr (.inr (.inr (.inr rfl)))))
theorem ed_isi {d : PyData} (c : String) (hc : c = "int" ∨ c = "bool" ∨ c = "list" ∨ c = "tuple" ∨ c = "str") (ha : EvD C ta σ G (.py d)) : EvD C (tCB (rIsi K) (tCons ta (tCons (tC (.ty c)) tNil))) σ G (.py (.bool (isaD c d))) := fun H1 e0 Q q =>
  ha H1 e0 _ fun v H2 G2 s a => ⟨v, .ty c, .type (tyD d), .type c, _, rfl, .ty _, dq_ty (dpEx s.gh _ _ a), kit_is c hc d, q _ H2 G2 s (.bl _)⟩
/-! built-ins of numbers -/
theorem ed_abs {i : Int} (ha : EvD C ta σ G (.py (.int i))) : EvD C (tCB (fun xs H Q => ∃ i, xs = [.int i] ∧ Q (.int (if i < 0 then -i else i)) H) (tCons ta tNil)) σ G (.py (.int (if i < 0 then -i else i))) := fun H1 e0 Q q =>
  ha H1 e0 _ fun v H2 G2 s a => ⟨i, by rw [at_int a], q _ H2 G2 s (.int _)⟩
def b2i (b : Bool) : Int := if b then 1 else 0
theorem ed_intB {b : Bool} (ha : EvD C ta σ G (.py (.bool b))) : EvD C (tCB (fun xs H Q => (∃ i, xs = [.int i] ∧ Q (.int i) H) ∨ ∃ k, xs = [.bl k] ∧ Q (.int (if k then 1 else 0)) H) (tCons ta tNil)) σ G (.py (.int (b2i b))) := fun H1 e0 Q q =>
  ha H1 e0 _ fun v H2 G2 s a => .inr ⟨b, by rw [at_bool a], q _ H2 G2 s (.int _)⟩
theorem ed_intI {i : Int} (ha : EvD C ta σ G (.py (.int i))) : EvD C (tCB (fun xs H Q => (∃ i, xs = [.int i] ∧ Q (.int i) H) ∨ ∃ k, xs = [.bl k] ∧ Q (.int (if k then 1 else 0)) H) (tCons ta tNil)) σ G (.py (.int i)) := fun H1 e0 Q q =>
  ha H1 e0 _ fun v H2 G2 s a => .inl ⟨i, by rw [at_int a], q _ H2 G2 s (.int _)⟩
theorem ed_strI {i : Int} (ha : EvD C ta σ G (.py (.int i))) (h : i.natAbs.log2 < 1920) : EvD C (tCB (fun xs H Q => ∃ i, xs = [.int i] ∧ i.natAbs.log2 < 1920 ∧ Q (.str (toString i)) H) (tCons ta tNil)) σ G (.py (.str (Str.ofString (toString i)))) := fun H1 e0 Q q =>
  ha H1 e0 _ fun v H2 G2 s a => ⟨i, by rw [at_int a], h, q _ H2 G2 s (.str _)⟩
theorem ed_sum {ws : List Int} (ha : EvD C ta σ G (.py (eL PyData.int ws))) : EvD C (tCB (rSum K) (tCons ta tNil)) σ G (.py (.int ws.sum)) := fun H1 e0 Q q =>
  ha H1 e0 _ fun v H2 G2 s a => by
    obtain ⟨p, vs, rfl, hs, hd⟩ := at_list a
    have hv := dpa_int_eq hd
    subst hv
    exact ⟨p, ws, rfl, ex_l s.gh (sq_of hs), q _ H2 G2 s (.int _)⟩
def maxL (ws : List Int) : Int := ws.foldl max (ws.getD 0 0)
def minL (ws : List Int) : Int := ws.foldl min (ws.getD 0 0)
theorem foldl_max : ∀ (ws : List Int) (m : Int), (m ≤ ws.foldl max m ∧ ∀ a ∈ ws, a ≤ ws.foldl max m) ∧ (ws.foldl max m = m ∨ ws.foldl max m ∈ ws)
  | [], m => ⟨⟨Int.le_refl _, fun _ h => by cases h⟩, .inl rfl⟩
  | w :: ws, m => by
    obtain ⟨⟨h1, h2⟩, h3⟩ := foldl_max ws (max m w)
    have e : List.foldl max m (w :: ws) = List.foldl max (max m w) ws := rfl
    rw [e]
    refine ⟨⟨by omega, fun a h => ?_⟩, ?_⟩
    · rcases List.mem_cons.mp h with h | h
      · subst h; omega
      · exact h2 a h
    · rcases h3 with h3 | h3
      · by_cases h : m ≤ w
        · right; rw [h3, show max m w = w by omega]; exact List.mem_cons_self
        · left; rw [h3]; omega
      · right; exact List.mem_cons_of_mem _ h3
theorem foldl_min : ∀ (ws : List Int) (m : Int), (ws.foldl min m ≤ m ∧ ∀ a ∈ ws, ws.foldl min m ≤ a) ∧ (ws.foldl min m = m ∨ ws.foldl min m ∈ ws)
  | [], m => ⟨⟨Int.le_refl _, fun _ h => by cases h⟩, .inl rfl⟩
  | w :: ws, m => by
    obtain ⟨⟨h1, h2⟩, h3⟩ := foldl_min ws (min m w)
    have e : List.foldl min m (w :: ws) = List.foldl min (min m w) ws := rfl
    rw [e]
    refine ⟨⟨by omega, fun a h => ?_⟩, ?_⟩
    · rcases List.mem_cons.mp h with h | h
      · subst h; omega
      · exact h2 a h
    · rcases h3 with h3 | h3
      · by_cases h : w ≤ m
        · right; rw [h3, show min m w = w by omega]; exact List.mem_cons_self
        · left; rw [h3]; omega
      · right; exact List.mem_cons_of_mem _ h3
theorem maxL_spec {ws : List Int} (h : 0 < ws.length) : maxL ws ∈ ws ∧ ∀ a ∈ ws, a ≤ maxL ws := by
  obtain ⟨⟨_, h2⟩, h3⟩ := foldl_max ws (ws.getD 0 0)
  refine ⟨?_, h2⟩
  rcases h3 with h3 | h3
  · unfold maxL
    rw [h3, List.getD_eq_getElem?_getD, List.getElem?_eq_getElem h]
    exact List.getElem_mem h
  · exact h3
theorem minL_spec {ws : List Int} (h : 0 < ws.length) : minL ws ∈ ws ∧ ∀ a ∈ ws, minL ws ≤ a := by
  obtain ⟨⟨_, h2⟩, h3⟩ := foldl_min ws (ws.getD 0 0)
  refine ⟨?_, h2⟩
  rcases h3 with h3 | h3
  · unfold minL
    rw [h3, List.getD_eq_getElem?_getD, List.getElem?_eq_getElem h]
    exact List.getElem_mem h
  · exact h3
theorem ed_maxL {ws : List Int} (ha : EvD C ta σ G (.py (eL PyData.int ws))) (h : 0 < ws.length) : EvD C (tCB (rMaxL K) (tCons ta tNil)) σ G (.py (.int (maxL ws))) := fun H1 e0 Q q =>
  ha H1 e0 _ fun v H2 G2 s a => by
    obtain ⟨p, vs, rfl, hs, hd⟩ := at_list a
    have hv := dpa_int_eq hd
    subst hv
    refine ⟨p, ws, rfl, ex_l s.gh (sq_of hs), h, fun M h1 h2 => ?_⟩
    have h3 := maxL_spec h
    have : M = maxL ws := Int.le_antisymm (h3.2 M h1) (h2 _ h3.1)
    subst this
    exact q _ H2 G2 s (.int _)
theorem ed_minL {ws : List Int} (ha : EvD C ta σ G (.py (eL PyData.int ws))) (h : 0 < ws.length) : EvD C (tCB (rMinL K) (tCons ta tNil)) σ G (.py (.int (minL ws))) := fun H1 e0 Q q =>
  ha H1 e0 _ fun v H2 G2 s a => by
    obtain ⟨p, vs, rfl, hs, hd⟩ := at_list a
    have hv := dpa_int_eq hd
    subst hv
    refine ⟨p, ws, rfl, ex_l s.gh (sq_of hs), h, fun M h1 h2 => ?_⟩
    have h3 := minL_spec h
    have : M = minL ws := Int.le_antisymm (h2 _ h3.1) (h3.2 M h1)
    subst this
    exact q _ H2 G2 s (.int _)
/-- sorted numbers -/
def srt (ws : List Int) : List Int := ws.mergeSort
theorem srt_perm (ws : List Int) : (srt ws).Perm ws := List.mergeSort_perm _ _
theorem srt_le (ws : List Int) : (srt ws).Pairwise (· ≤ ·) := by
  have := List.pairwise_mergeSort (le := fun a b : Int => decide (a ≤ b)) (fun a b c h1 h2 => by simp only [decide_eq_true_eq] at *; omega) (fun a b => by simp only [Bool.or_eq_true, decide_eq_true_eq]; omega) ws
  exact this.imp fun h => by simpa using h
end
end Sv

/-! Calls and statements over the facts. By the verifier. -/
namespace Sv
open PySem PySem.Spec PyProof.Rows L2 Evl
/-- a def gives data x for arguments xs; .. a new list -/
def Ct (C : Addr) (sp : Sp) (xs : List Da) (x : Da) : Prop := ∀ vs G, AtAll C G vs xs → ∀ H1, Ex G H1 → ∀ Q : VK, (∀ v H2 G2, Gs H1 G H2 G2 → At C G2 v x → Q v H2) → ∀ E, sp vs H1 Q E
def CtN (C : Addr) (sp : Sp) (xs : List Da) (ds : List PyData) : Prop := ∀ vs G, AtAll C G vs xs → ∀ H1, Ex G H1 → ∀ Q : VK, (∀ p vs H2 G2, Gs H1 G H2 G2 → H1 p = none → G2 p = none → H2 p = some (.lst vs) → DqAll G2 vs ds → Q (.ref p) H2) → ∀ E, sp vs H1 Q E
/-- promises by data -/
def spPure (C : Addr) (R : List Da → Da → Prop) : Sp := fun vs H Q _ => ∃ G xs x, Ex G H ∧ AtAll C G vs xs ∧ R xs x ∧ ∀ v H2 G2, Gs H G H2 G2 → At C G2 v x → Q v H2
def spPureN (C : Addr) (R : List Da → List PyData → Prop) : Sp := fun vs H Q _ => ∃ G xs ds, Ex G H ∧ AtAll C G vs xs ∧ R xs ds ∧ ∀ p vs H2 G2, Gs H G H2 G2 → H p = none → G2 p = none → H2 p = some (.lst vs) → DqAll G2 vs ds → Q (.ref p) H2
theorem ct_pure {C : Addr} {R : List Da → Da → Prop} {xs : List Da} {x : Da} (h : R xs x) : Ct C (spPure C R) xs x := fun vs G a H1 e Q q E => ⟨G, xs, x, e, a, h, q⟩
theorem ct_pureN {C : Addr} {R : List Da → List PyData → Prop} {xs : List Da} {ds : List PyData} (h : R xs ds) : CtN C (spPureN C R) xs ds := fun vs G a H1 e Q q E => ⟨G, xs, ds, e, a, h, q⟩
theorem at_all1 {C : Addr} {G : Hp} {vs : List V} {x : Da} (h : AtAll C G vs [x]) : ∃ v, vs = [v] ∧ At C G v x := by
  cases h with
  | cons a b => cases b; exact ⟨_, rfl, a⟩
theorem at_all2 {C : Addr} {G : Hp} {vs : List V} {x y : Da} (h : AtAll C G vs [x, y]) : ∃ v w, vs = [v, w] ∧ At C G v x ∧ At C G w y := by
  cases h with
  | cons a b =>
    obtain ⟨w, rfl, c⟩ := at_all1 b
    exact ⟨_, _, rfl, a, c⟩
theorem at_all3 {C : Addr} {G : Hp} {vs : List V} {x y z : Da} (h : AtAll C G vs [x, y, z]) : ∃ u v w, vs = [u, v, w] ∧ At C G u x ∧ At C G v y ∧ At C G w z := by
  cases h with
  | cons a b =>
    obtain ⟨v, w, rfl, c, d⟩ := at_all2 b
    exact ⟨_, _, _, rfl, a, c, d⟩
theorem at_all4 {C : Addr} {G : Hp} {vs : List V} {x y z t : Da} (h : AtAll C G vs [x, y, z, t]) : ∃ u v w s, vs = [u, v, w, s] ∧ At C G u x ∧ At C G v y ∧ At C G w z ∧ At C G s t := by
  cases h with
  | cons a b =>
    obtain ⟨v, w, s, rfl, c, d, e⟩ := at_all3 b
    exact ⟨_, _, _, _, rfl, a, c, d, e⟩
theorem at_all5 {C : Addr} {G : Hp} {vs : List V} {x y z t r : Da} (h : AtAll C G vs [x, y, z, t, r]) : ∃ u v w s q, vs = [u, v, w, s, q] ∧ At C G u x ∧ At C G v y ∧ At C G w z ∧ At C G s t ∧ At C G q r := by
  cases h with
  | cons a b =>
    obtain ⟨v, w, s, q, rfl, c, d, e, f⟩ := at_all4 b
    exact ⟨_, _, _, _, _, rfl, a, c, d, e, f⟩
theorem Ex.upd_both {G H : Hp} (e : Ex G H) (p : Addr) (o : HO) : Ex (L2.upd G p o) (L2.upd H p o) := fun a u h => by
  by_cases q : a = p
  · subst q
    rw [upd_same] at h ⊢
    exact h
  · rw [upd_ne q] at h ⊢
    exact e a u h
section
variable {K : PySem.W.Frag} {C : Addr} {σ : L2.St} {H H' G G' : Hp} {ta tb tc te tx tl : TE} {t u : TT} {x y z : Da} {v : V} {r : R2} {xs : List Da} {as : TA} {sp : Sp} {E : XK}
theorem ed_call (h : EvAs C as σ G xs) (c : Ct C sp xs x) : EvD C (tCall sp [] E as) σ G x := fun H1 e Q q => h H1 e _ fun vs H2 G2 s a => by
  show sp (vs ++ []) H2 Q E
  rw [List.append_nil]
  exact c vs G2 a H2 s.gh Q (fun v H3 G3 s3 a3 => q v H3 G3 (s.trans s3) a3) E
theorem en_call {ds : List PyData} (h : EvAs C as σ G xs) (c : CtN C sp xs ds) : EvN C (tCall sp [] E as) σ G ds := fun H1 e Q q => h H1 e _ fun vs H2 G2 s a => by
  show sp (vs ++ []) H2 Q E
  rw [List.append_nil]
  exact c vs G2 a H2 s.gh Q (fun p vs H3 G3 s3 h1 h2 h3 h4 => q p vs H3 G3 (s.trans s3) (fresh_back s.h h1) h2 h3 h4) E
theorem ata_append {G : Hp} : ∀ {vs us : List V} {xs ys : List Da}, AtAll C G vs xs → AtAll C G us ys → AtAll C G (vs ++ us) (xs ++ ys)
  | _, _, _, _, .nil, h => h
  | _, _, _, _, .cons a b, h => .cons a (ata_append b h)
theorem ata_rev {G : Hp} : ∀ {vs : List V} {xs : List Da}, AtAll C G vs xs → AtAll C G vs.reverse xs.reverse
  | _, _, .nil => .nil
  | _, _, .cons a b => by
    rw [List.reverse_cons, List.reverse_cons]
    exact ata_append (ata_rev b) (.cons a .nil)
def gRv (us ws : List V) : List V := us ++ ws.reverse
/-- keywords, the parameters' order turned about -/
theorem ed_callK {ks : TA} {n : Nat} {ys : List Da} (h : EvAs C ks σ G ys) (hn : ys.length = n) (c : Ct C sp ys.reverse x) : EvD C (tCallN 0 n sp gRv E tNil ks) σ G x := fun H1 e Q q => h H1 e _ fun vs H2 G2 s a =>
  ⟨rfl, a.len.trans hn, c _ G2 (ata_rev a) H2 s.gh Q (fun v H3 G3 s3 a3 => q v H3 G3 (s.trans s3) a3) E⟩
theorem en_callK {ks : TA} {n : Nat} {ys : List Da} {ds : List PyData} (h : EvAs C ks σ G ys) (hn : ys.length = n) (c : CtN C sp ys.reverse ds) : EvN C (tCallN 0 n sp gRv E tNil ks) σ G ds := fun H1 e Q q => h H1 e _ fun vs H2 G2 s a =>
  ⟨rfl, a.len.trans hn, c _ G2 (ata_rev a) H2 s.gh Q (fun p vs H3 G3 s3 h1 h2 h3 h4 => q p vs H3 G3 (s.trans s3) (fresh_back s.h h1) h2 h3 h4) E⟩
/-- a method of a kind without arguments -/
theorem ed_meth {m : Str} {k : Nm} {n : Nat} (ha : EvD C ta σ G (.kd k n)) (hm : (putF "_size" (.int (n : Int)) (putF "_name" (.str k.s) [])).lookup m = none) (c : Ct C sp [.kd k n] x) : EvD C (tMeth C m sp [] E ta tNil) σ G x := fun H1 e Q q => ha H1 e _ fun v H2 G2 s a => by
  obtain ⟨p, rfl, dx, hp⟩ := id a
  exact ⟨p, dx, _, rfl, s.gh _ _ hp, hm, c [.ref p] G2 (.cons a .nil) H2 s.gh Q (fun v H3 G3 s3 a3 => q v H3 G3 (s.trans s3) a3) E⟩
theorem en_meth {m : Str} {k : Nm} {n : Nat} {ds : List PyData} (ha : EvD C ta σ G (.kd k n)) (hm : (putF "_size" (.int (n : Int)) (putF "_name" (.str k.s) [])).lookup m = none) (c : CtN C sp [.kd k n] ds) : EvN C (tMeth C m sp [] E ta tNil) σ G ds := fun H1 e Q q => ha H1 e _ fun v H2 G2 s a => by
  obtain ⟨p, rfl, dx, hp⟩ := id a
  exact ⟨p, dx, _, rfl, s.gh _ _ hp, hm, c [.ref p] G2 (.cons a .nil) H2 s.gh Q (fun p vs H3 G3 s3 h1 h2 h3 h4 => q p vs H3 G3 (s.trans s3) (fresh_back s.h h1) h2 h3 h4) E⟩
/-! statements -/
variable {D : Ends} {tu tw tz : TS} {g : TG}
theorem st_eq {t : TS} {σ' : L2.St} (h : t D σ' H) (e : σ = σ') : t D σ H := e ▸ h
theorem s_asgD {i : Nat} (h : EvD C te σ G x) (eG : Ex G H) (k : ∀ v H1 G1, Gs H G H1 G1 → At C G1 v x → D.nx (σ.set i (some v)) H1) : tAsg te (gName i) D σ H := h H eG _ fun v H1 G1 s a => k v H1 G1 s a
theorem q_asgD {i : Nat} (h : EvD C te σ G x) (eG : Ex G H) (k : ∀ v H1 G1, Gs H G H1 G1 → At C G1 v x → tz D (σ.set i (some v)) H1) : tSeq (tAsg te (gName i)) tz D σ H := h H eG _ fun v H1 G1 s a => k v H1 G1 s a
theorem q_asgN {i : Nat} {ds : List PyData} (h : EvN C te σ G ds) (eG : Ex G H) (k : ∀ p vs H1 G1, Gs H G H1 G1 → H p = none → G1 p = none → H1 p = some (.lst vs) → DqAll G1 vs ds → tz D (σ.set i (some (.ref p))) H1) : tSeq (tAsg te (gName i)) tz D σ H := h H eG _ fun p vs H1 G1 s h1 h2 h3 a => k p vs H1 G1 s h1 h2 h3 a
theorem s_asgN {i : Nat} {ds : List PyData} (h : EvN C te σ G ds) (eG : Ex G H) (k : ∀ p vs H1 G1, Gs H G H1 G1 → H p = none → G1 p = none → H1 p = some (.lst vs) → DqAll G1 vs ds → D.nx (σ.set i (some (.ref p))) H1) : tAsg te (gName i) D σ H := h H eG _ fun p vs H1 G1 s h1 h2 h3 a => k p vs H1 G1 s h1 h2 h3 a
theorem s_retD (h : EvD C te σ G x) (eG : Ex G H) (k : ∀ v H1 G1, Gs H G H1 G1 → At C G1 v x → D.rt v H1) : tRet te D σ H := h H eG _ fun v H1 G1 s a => k v H1 G1 s a
theorem s_retN {ds : List PyData} (h : EvN C te σ G ds) (eG : Ex G H) (k : ∀ p vs H1 G1, Gs H G H1 G1 → H p = none → G1 p = none → H1 p = some (.lst vs) → DqAll G1 vs ds → D.rt (.ref p) H1) : tRet te D σ H := h H eG _ fun p vs H1 G1 s h1 h2 h3 a => k p vs H1 G1 s h1 h2 h3 a
theorem q_parD {i j : Nat} (h : EvAs C as σ G [x, y]) (eG : Ex G H) (k : ∀ v w H1 G1, Gs H G H1 G1 → At C G1 v x → At C G1 w y → tz D ((σ.set i (some v)).set j (some w)) H1) : tSeq (tPar i j as) tz D σ H := h H eG _ fun vs H1 G1 s a => by
  obtain ⟨v, w, rfl, a1, a2⟩ := at_all2 a
  exact ⟨v, w, rfl, k v w H1 G1 s a1 a2⟩
theorem q_par3D {i j l : Nat} (h : EvAs C as σ G [x, y, z]) (eG : Ex G H) (k : ∀ u v w H1 G1, Gs H G H1 G1 → At C G1 u x → At C G1 v y → At C G1 w z → tz D (((σ.set i (some u)).set j (some v)).set l (some w)) H1) : tSeq (tPar3 i j l as) tz D σ H := h H eG _ fun vs H1 G1 s a => by
  obtain ⟨u, v, w, rfl, a1, a2, a3⟩ := at_all3 a
  exact ⟨u, v, w, rfl, k u v w H1 G1 s a1 a2 a3⟩
/-- x, y = (..): a tuple taken apart -/
theorem q_tup2 {i j : Nat} {d e : PyData} (h : EvD C te σ G (.py (.tuple [d, e]))) (eG : Ex G H) (k : ∀ v w H1 G1, Gs H G H1 G1 → At C G1 v (.py d) → At C G1 w (.py e) → tz D ((σ.set i (some v)).set j (some w)) H1) : tSeq (tAsg te (gTup K 2 (gCons (gName i) (gCons (gName j) gNil)))) tz D σ H := h H eG _ fun v H1 G1 s a => by
  obtain ⟨p, vs, rfl, hs, hd⟩ := at_tup a
  cases hd with
  | cons a b =>
    cases b with
    | cons b c =>
      cases c
      exact ⟨_, _, rfl, ex_t s.gh (st_of hs), rfl, _, _, rfl, _, _, rfl, rfl, k _ _ H1 G1 s a b⟩
theorem q_tup3 {i j l : Nat} {d e f : PyData} (h : EvD C te σ G (.py (.tuple [d, e, f]))) (eG : Ex G H) (k : ∀ u v w H1 G1, Gs H G H1 G1 → At C G1 u (.py d) → At C G1 v (.py e) → At C G1 w (.py f) → tz D (((σ.set i (some u)).set j (some v)).set l (some w)) H1) : tSeq (tAsg te (gTup K 3 (gCons (gName i) (gCons (gName j) (gCons (gName l) gNil))))) tz D σ H := h H eG _ fun v H1 G1 s a => by
  obtain ⟨p, vs, rfl, hs, hd⟩ := at_tup a
  cases hd with
  | cons a b =>
    cases b with
    | cons b c =>
      cases c with
      | cons c d =>
        cases d
        exact ⟨_, _, rfl, ex_t s.gh (st_of hs), rfl, _, _, rfl, _, _, rfl, _, _, rfl, rfl, k _ _ _ H1 G1 s a b c⟩
theorem q_ifD {b : Bool} (h : EvT t σ G b) (eG : Ex G H) (h1 : b = true → ∀ H1, Gs H G H1 G → tu { D with nx := tz D } σ H1) (h2 : b = false → ∀ H1, Gs H G H1 G → tw { D with nx := tz D } σ H1) : tSeq (tIfS t tu tw) tz D σ H := h H eG _ fun H1 e => by
  cases b with
  | true => exact h1 rfl H1 (Gs.same eG e)
  | false => exact h2 rfl H1 (Gs.same eG e)
theorem s_ifD {b : Bool} (h : EvT t σ G b) (eG : Ex G H) (h1 : b = true → ∀ H1, Gs H G H1 G → tu D σ H1) (h2 : b = false → ∀ H1, Gs H G H1 G → tw D σ H1) : tIfS t tu tw D σ H := h H eG _ fun H1 e => by
  cases b with
  | true => exact h1 rfl H1 (Gs.same eG e)
  | false => exact h2 rfl H1 (Gs.same eG e)
/-- if c: return .. (c is false) -/
theorem q_noD {b : Bool} (h : EvT t σ G b) (eG : Ex G H) (hb : b = false) (k : ∀ H1, Gs H G H1 G → tz D σ H1) : tSeq (tIfS t tu tNext) tz D σ H := h H eG _ fun H1 e => by
  subst hb
  exact k H1 (Gs.same eG e)
/-- x.append(e): x is owned -/
theorem q_appD {l : Addr} {vs : List V} {d : PyData} (h : EvD C te σ G (.py d)) (eG : Ex G H) (ha : Ev ta σ G (.ref l)) (hl : H l = some (.lst vs)) (hg : G l = none) (hz : vs.length < 100000) (k : ∀ v H1 G1, Gs H G H1 G1 → Dq G1 v d → G1 l = none → Ex G1 (L2.upd H1 l (.lst (vs ++ [v]))) → tz D σ (L2.upd H1 l (.lst (vs ++ [v])))) :
    tSeq (tDrop (tBM K "list" rAppend ta (tCons te tNil))) tz D σ H := ha H eG _ fun H1 e1 => by
  have s1 : Gs H G H1 G := Gs.same eG e1
  refine ⟨Or.inl ⟨rfl, vs, sq_of (e1 l _ hl)⟩, h H1 s1.gh _ fun v H2 G2 s2 a => ?_⟩
  have h2 : H2 l = some (.lst vs) := s2.h _ _ (e1 l _ hl)
  have g2 : G2 l = none := s2.nw l (by rw [e1 l _ hl]; exact fun z => by cases z) hg
  exact ⟨l, vs, v, rfl, rfl, h2, sz_lt hz, k v H2 G2 (s1.trans s2) a g2 (Ex.mut s2.gh g2)⟩
theorem s_appD {l : Addr} {vs : List V} {d : PyData} (h : EvD C te σ G (.py d)) (eG : Ex G H) (ha : Ev ta σ G (.ref l)) (hl : H l = some (.lst vs)) (hg : G l = none) (hz : vs.length < 100000) (k : ∀ v H1 G1, Gs H G H1 G1 → Dq G1 v d → G1 l = none → Ex G1 (L2.upd H1 l (.lst (vs ++ [v]))) → D.nx σ (L2.upd H1 l (.lst (vs ++ [v])))) :
    tDrop (tBM K "list" rAppend ta (tCons te tNil)) D σ H := ha H eG _ fun H1 e1 => by
  have s1 : Gs H G H1 G := Gs.same eG e1
  refine ⟨Or.inl ⟨rfl, vs, sq_of (e1 l _ hl)⟩, h H1 s1.gh _ fun v H2 G2 s2 a => ?_⟩
  have h2 : H2 l = some (.lst vs) := s2.h _ _ (e1 l _ hl)
  have g2 : G2 l = none := s2.nw l (by rw [e1 l _ hl]; exact fun z => by cases z) hg
  exact ⟨l, vs, v, rfl, rfl, h2, sz_lt hz, k v H2 G2 (s1.trans s2) a g2 (Ex.mut s2.gh g2)⟩
inductive Lk (Gb : Hp) (Pv : Nat → L2.St → Hp → Hp → Prop) (i : Nat) (σ : L2.St) (H : Hp) : Prop where
  | mk {G : Hp} (e1 : Ex Gb G) (e2 : Ex G H) (h : Pv i σ G H)
/-- for: the word Pv of the turn, the slots, the facts and the heap; Gb: the facts that stand through all turns -/
theorem s_forG {wi : TI} {α : Type} {e : α → PyData} {ws : List α} {g : TG} {Bd : α → Hp → L2.St → L2.St → Prop} (hI : EvI wi σ G (ws.map e)) (eG : Ex G H) (hg : ∀ x ∈ ws, TgOk K g (e x) (Bd x)) (Pv : Nat → L2.St → Hp → Hp → Prop)
    (h0 : ∀ H1 G1, Gs H G H1 G1 → Pv 0 σ G1 H1)
    (hs : ∀ (i : Nat) (x : α) σ' G' H' G2 H2 Gb σ2, ws[i]? = some x → Pv i σ' G' H' → Ex G Gb → Ex Gb G' → Gs H' G' H2 G2 → Bd x G2 σ' σ2 →
      tu { D with nx := Lk Gb Pv (i + 1), ct := Lk Gb Pv (i + 1), bk := D.nx } σ2 H2)
    (hd : ∀ σ' G' H', Pv ws.length σ' G' H' → Ex G G' → Ex G' H' → D.nx σ' H') : tFor wi g tu D σ H := by
  refine hI H eG _ fun J H1 G1 s1 ⟨Gp, Y, W, hGp, hY⟩ => ?_
  rw [List.length_map] at W
  refine for_it W (fun i σ' H' => Lk G1 Pv i σ' H') (.mk (Ex.refl _) s1.gh (h0 H1 G1 s1)) (fun i σ' H' _ h => by obtain ⟨e1, e2, _⟩ := h; exact hGp H' (e1.trans e2)) ?_ ?_
  · rintro i v σ' H' H2 hi ⟨e1, e2, hp⟩ hy
    rename_i G'
    obtain ⟨G2, d, hd2, s2, a2⟩ := hY i H' v H2 G' (by rw [List.length_map]; exact hi) e1 e2 hy
    have hwi : ws[i]? = some ws[i] := List.getElem?_eq_getElem hi
    rw [List.getElem?_map, hwi] at hd2
    cases hd2
    exact hg _ (List.getElem_mem hi) v σ' H2 G2 _ s2.gh a2 fun σ2 hb => hs i ws[i] σ' G' H' G2 H2 G1 σ2 hwi hp s1.g e1 s2 hb
  · rintro σ' H' ⟨e1, e2, hp⟩
    exact hd σ' _ H' hp (s1.g.trans e1) e2
theorem s_forD {wi : TI} {α : Type} {e : α → PyData} {ws : List α} {j : Nat} (K : PySem.W.Frag) (hI : EvI wi σ G (ws.map e)) (eG : Ex G H) (Pv : Nat → L2.St → Hp → Hp → Prop)
    (h0 : ∀ H1 G1, Gs H G H1 G1 → Pv 0 σ G1 H1)
    (hs : ∀ (i : Nat) (x : α) v σ' G' H' G2 H2 Gb, ws[i]? = some x → Pv i σ' G' H' → Ex G Gb → Ex Gb G' → Gs H' G' H2 G2 → At C G2 v (.py (e x)) →
      tu { D with nx := Lk Gb Pv (i + 1), ct := Lk Gb Pv (i + 1), bk := D.nx } (σ'.set j (some v)) H2)
    (hd : ∀ σ' G' H', Pv ws.length σ' G' H' → Ex G G' → Ex G' H' → D.nx σ' H') : tFor wi (gName j) tu D σ H :=
  s_forG (K := K) (Bd := fun x => BdN j (e x)) hI eG (fun _ _ => tg_name) Pv h0 (fun i x σ' G' H' G2 H2 Gb σ2 h1 h2 h3 h4 h5 ⟨v, a, h⟩ => by subst h; exact hs i x v σ' G' H' G2 H2 Gb h1 h2 h3 h4 h5 a) hd
theorem q_forD {wi : TI} {α : Type} {e : α → PyData} {ws : List α} {j : Nat} (K : PySem.W.Frag) (hI : EvI wi σ G (ws.map e)) (eG : Ex G H) (Pv : Nat → L2.St → Hp → Hp → Prop)
    (h0 : ∀ H1 G1, Gs H G H1 G1 → Pv 0 σ G1 H1)
    (hs : ∀ (i : Nat) (x : α) v σ' G' H' G2 H2 Gb, ws[i]? = some x → Pv i σ' G' H' → Ex G Gb → Ex Gb G' → Gs H' G' H2 G2 → At C G2 v (.py (e x)) →
      tu { D with nx := Lk Gb Pv (i + 1), ct := Lk Gb Pv (i + 1), bk := tz D } (σ'.set j (some v)) H2)
    (hd : ∀ σ' G' H', Pv ws.length σ' G' H' → Ex G G' → Ex G' H' → tz D σ' H') : tSeq (tFor wi (gName j) tu) tz D σ H := s_forD (D := { D with nx := tz D }) K hI eG Pv h0 hs hd
theorem q_forP {wi : TI} {α β : Type} {e : α → PyData} {e' : β → PyData} {ws : List (α × β)} {j l : Nat} (hI : EvI wi σ G (ws.map (eP e e'))) (eG : Ex G H) (Pv : Nat → L2.St → Hp → Hp → Prop)
    (h0 : ∀ H1 G1, Gs H G H1 G1 → Pv 0 σ G1 H1)
    (hs : ∀ (i : Nat) (x : α) (y : β) v w σ' G' H' G2 H2 Gb, ws[i]? = some (x, y) → Pv i σ' G' H' → Ex G Gb → Ex Gb G' → Gs H' G' H2 G2 → At C G2 v (.py (e x)) → At C G2 w (.py (e' y)) →
      tu { D with nx := Lk Gb Pv (i + 1), ct := Lk Gb Pv (i + 1), bk := tz D } ((σ'.set j (some v)).set l (some w)) H2)
    (hd : ∀ σ' G' H', Pv ws.length σ' G' H' → Ex G G' → Ex G' H' → tz D σ' H') : tSeq (tFor wi (gTup K 2 (gCons (gName j) (gCons (gName l) gNil))) tu) tz D σ H :=
  s_forG (K := K) (D := { D with nx := tz D }) (Bd := fun x => BdP j l (e x.1) (e' x.2)) hI eG (fun _ _ => tg_pair) Pv h0 (fun i x σ' G' H' G2 H2 Gb σ2 h1 h2 h3 h4 h5 ⟨v, w, a, b, h⟩ => by subst h; exact hs i x.1 x.2 v w σ' G' H' G2 H2 Gb h1 h2 h3 h4 h5 a b) hd
theorem s_forP {wi : TI} {α β : Type} {e : α → PyData} {e' : β → PyData} {ws : List (α × β)} {j l : Nat} (hI : EvI wi σ G (ws.map (eP e e'))) (eG : Ex G H) (Pv : Nat → L2.St → Hp → Hp → Prop)
    (h0 : ∀ H1 G1, Gs H G H1 G1 → Pv 0 σ G1 H1)
    (hs : ∀ (i : Nat) (x : α) (y : β) v w σ' G' H' G2 H2 Gb, ws[i]? = some (x, y) → Pv i σ' G' H' → Ex G Gb → Ex Gb G' → Gs H' G' H2 G2 → At C G2 v (.py (e x)) → At C G2 w (.py (e' y)) →
      tu { D with nx := Lk Gb Pv (i + 1), ct := Lk Gb Pv (i + 1), bk := D.nx } ((σ'.set j (some v)).set l (some w)) H2)
    (hd : ∀ σ' G' H', Pv ws.length σ' G' H' → Ex G G' → Ex G' H' → D.nx σ' H') : tFor wi (gTup K 2 (gCons (gName j) (gCons (gName l) gNil))) tu D σ H :=
  s_forG (K := K) (Bd := fun x => BdP j l (e x.1) (e' x.2)) hI eG (fun _ _ => tg_pair) Pv h0 (fun i x σ' G' H' G2 H2 Gb σ2 h1 h2 h3 h4 h5 ⟨v, w, a, b, h⟩ => by subst h; exact hs i x.1 x.2 v w σ' G' H' G2 H2 Gb h1 h2 h3 h4 h5 a b) hd
end
end Sv

/-! Loops as functions; owned lists. By the verifier. -/
namespace Sv
open PySem PySem.Spec PyProof.Rows L2 Evl
def loopE {ρ σ α : Type} (f : σ → α → Sum ρ σ) : List α → σ → Sum ρ σ
  | [], s => .inr s
  | x :: xs, s => match f s x with
    | .inl r => .inl r
    | .inr s' => loopE f xs s'
theorem loopE_app {ρ σ α : Type} (f : σ → α → Sum ρ σ) : ∀ (xs ys : List α) (s : σ), loopE f (xs ++ ys) s = match loopE f xs s with
    | .inl r => .inl r
    | .inr s' => loopE f ys s'
  | [], ys, s => rfl
  | x :: xs, ys, s => by
    rw [List.cons_append, loopE, loopE]
    cases f s x with
    | inl r => rfl
    | inr s' => exact loopE_app f xs ys s'
theorem loopE_step {ρ σ α : Type} {f : σ → α → Sum ρ σ} {ws : List α} {i : Nat} {s st st' : σ} {x : α} (h : loopE f (ws.take i) s = .inr st) (hx : ws[i]? = some x) (hf : f st x = .inr st') : loopE f (ws.take (i + 1)) s = .inr st' := by
  have e : ws.take (i + 1) = ws.take i ++ [x] := by rw [List.take_add_one, hx]; rfl
  rw [e, loopE_app, h]
  show (match f st x with | Sum.inl r => Sum.inl r | Sum.inr s' => loopE f [] s') = _
  rw [hf]
  rfl
theorem loopE_ret {ρ σ α : Type} {f : σ → α → Sum ρ σ} {ws : List α} {i : Nat} {s st : σ} {x : α} {r : ρ} (h : loopE f (ws.take i) s = .inr st) (hx : ws[i]? = some x) (hf : f st x = .inl r) : loopE f ws s = .inl r := by
  have hi := (List.getElem?_eq_some_iff.mp hx).1
  have e : ws = ws.take i ++ (x :: ws.drop (i + 1)) := by
    have h1 := List.take_append_drop i ws
    rw [List.drop_eq_getElem_cons hi] at h1
    rw [← (List.getElem?_eq_some_iff.mp hx).2]
    exact h1.symm
  rw [e, loopE_app, h]
  show (match f st x with | Sum.inl r => Sum.inl r | Sum.inr s' => loopE f (ws.drop (i + 1)) s') = _
  rw [hf]
theorem loopE_end {ρ σ α : Type} {f : σ → α → Sum ρ σ} {ws : List α} {s st : σ} (h : loopE f (ws.take ws.length) s = .inr st) : loopE f ws s = .inr st := by rwa [List.take_length] at h
theorem rm65 {k : Nat} {A : Around} (hr : Room k A) : A.units + 65 < cLine := by
  have := hr.un
  omega
/-- what data hold -/
def intD : PyData → Int
  | .int i => i
  | _ => 0
def itemsD : PyData → List PyData
  | .list ds => ds
  | _ => []
def nsD (d : PyData) : List Int := (itemsD d).map intD
theorem eId_map (ds : List PyData) : (PyData.list (ds.map eId)) = .list ds := by
  have : ds.map eId = ds := by
    have h : (eId : PyData → PyData) = id := rfl
    rw [h, List.map_id]
  rw [this]
section
variable {K : PySem.W.Frag} {C : Addr} {σ : L2.St} {H H' H0 G G' G0 : Hp} {ta tb tc te tx tl : TE} {t u : TT} {x y z : Da} {v : V}
theorem et_truL {α : Type} {e : α → PyData} {ws : List α} (ha : EvD C ta σ G (.py (eL e ws))) : EvT (fun σ H Q => ta σ H fun x H' => ∃ k, TruV K x H' k ∧ Q k H') σ G (!ws.isEmpty) := fun H1 e0 Q q =>
  ha H1 e0 _ fun v H2 G2 s a => by
    obtain ⟨p, vs, rfl, hs, hd⟩ := at_list a
    refine ⟨!ws.isEmpty, .inl ⟨vs, ex_l s.gh (sq_of hs), ?_⟩, q H2 s.h⟩
    have hl := dpa_len hd
    rw [List.length_map] at hl
    cases vs <;> cases ws <;> first | rfl | (cases hl)
theorem ed_notL {α : Type} {e : α → PyData} {ws : List α} (ha : EvD C ta σ G (.py (eL e ws))) : EvD C (tNotT K ta) σ G (.py (.bool ws.isEmpty)) := fun H1 e0 Q q =>
  et_truL ha H1 e0 (fun k H2 => Q (.bl (!k)) H2) fun H2 e2 => by
    show Q (.bl (!!ws.isEmpty)) H2
    rw [Bool.not_not]
    exact q _ H2 G (Gs.same e0 e2) (.bl _)
theorem en_rev {α : Type} {e : α → PyData} {ws : List α} (ha : EvD C ta σ G (.py (eL e ws))) : EvN C (tRevL K ta) σ G (ws.reverse.map e) := fun H1 e0 Q q =>
  ha H1 e0 _ fun v H2 G2 s a => by
    obtain ⟨p, vs, rfl, hs, hd⟩ := at_list a
    refine ⟨p, vs, rfl, ex_l s.gh (sq_of hs), fun l hl => q l _ _ G2 (s.trans (Gs.same s.gh (Ex.new hl))) (fresh_back s.h hl) (fresh_back s.gh hl) upd_same ?_⟩
    rw [List.map_reverse]
    exact dpa_reverse hd
theorem ed_dnew : EvD C tDNewT σ G (.py (.dict [])) := fun H1 e0 Q q => fun d hd => q _ _ _ (Gs.new e0 hd) (.dct upd_same)
theorem ed_pow {i j : Int} (ha : EvD C ta σ G (.py (.int i))) (hb : EvD C tb σ G (.py (.int j))) (h : 0 ≤ j ∧ (Builtin.Int.intBits i : Int) * j ≤ 2 ^ 27) : EvD C (tOp (rI (fun i j => 0 ≤ j ∧ (Builtin.Int.intBits i : Int) * j ≤ 2 ^ 27) fun i j => .int (i ^ j.toNat)) ta tb) σ G (.py (.int (i ^ j.toNat))) := ed_op2 ha hb (rv_I h) fI
theorem ed_max2 {i j : Int} (ha : EvD C ta σ G (.py (.int i))) (hb : EvD C tb σ G (.py (.int j))) : EvD C (tCB (fun xs H Q => ∃ i j, xs = [.int i, .int j] ∧ Q (.int (if j > i then j else i)) H) (tCons ta (tCons tb tNil))) σ G (.py (.int (if j > i then j else i))) := fun H1 e0 Q q =>
  ha H1 e0 _ fun v H2 G2 s a => (hb.mono s.g) H2 s.gh _ fun w H3 G3 s3 b => ⟨i, j, by rw [at_int a, at_int b], q _ H3 G3 (s.trans s3) (.int _)⟩
theorem ed_min2 {i j : Int} (ha : EvD C ta σ G (.py (.int i))) (hb : EvD C tb σ G (.py (.int j))) : EvD C (tCB (fun xs H Q => ∃ i j, xs = [.int i, .int j] ∧ Q (.int (if j < i then j else i)) H) (tCons ta (tCons tb tNil))) σ G (.py (.int (if j < i then j else i))) := fun H1 e0 Q q =>
  ha H1 e0 _ fun v H2 G2 s a => (hb.mono s.g) H2 s.gh _ fun w H3 G3 s3 b => ⟨i, j, by rw [at_int a, at_int b], q _ H3 G3 (s.trans s3) (.int _)⟩
theorem srt_eq {ws ys : List Int} (h : ys.Perm ws) (hs : ys.Pairwise (· ≤ ·)) : ys = srt ws := List.Perm.eq_of_pairwise (fun a b _ _ h1 h2 => Int.le_antisymm h1 h2) hs (srt_le ws) (h.trans (srt_perm ws).symm)
theorem en_sorted {ws : List Int} (ha : EvD C ta σ G (.py (eL PyData.int ws))) : EvN C (tCB (rSortedI K) (tCons ta tNil)) σ G ((srt ws).map PyData.int) := fun H1 e0 Q q =>
  ha H1 e0 _ fun v H2 G2 s a => by
    obtain ⟨p, vs, rfl, hs, hd⟩ := at_list a
    have hv := dpa_int_eq hd
    subst hv
    refine ⟨p, ws, rfl, ex_l s.gh (sq_of hs), fun ys l hp hs2 hl => ?_⟩
    have := srt_eq hp hs2
    subst this
    exact q l _ _ G2 (s.trans (Gs.same s.gh (Ex.new hl))) (fresh_back s.h hl) (fresh_back s.gh hl) upd_same (dpa_ints _)
theorem dpa_bool_eq : ∀ {ws : List Bool} {vs : List V}, DqAll G vs (ws.map PyData.bool) → vs = ws.map V.bl
  | [], vs, h => by cases h; rfl
  | w :: ws, vs, h => by
    cases h with
    | cons a b =>
      cases a
      rw [dpa_bool_eq b]
      rfl
theorem ed_all {bs : List Bool} (ha : EvD C ta σ G (.py (eL PyData.bool bs))) : EvD C (tCB (rAll K) (tCons ta tNil)) σ G (.py (.bool (bs.all id))) := fun H1 e0 Q q =>
  ha H1 e0 _ fun v H2 G2 s a => by
    obtain ⟨p, vs, rfl, hs, hd⟩ := at_list a
    have hv := dpa_bool_eq hd
    subst hv
    exact ⟨p, bs, rfl, ex_l s.gh (sq_of hs), q _ H2 G2 s (.bl _)⟩
theorem ed_any {bs : List Bool} (ha : EvD C ta σ G (.py (eL PyData.bool bs))) : EvD C (tCB (rAny K) (tCons ta tNil)) σ G (.py (.bool (bs.any id))) := fun H1 e0 Q q =>
  ha H1 e0 _ fun v H2 G2 s a => by
    obtain ⟨p, vs, rfl, hs, hd⟩ := at_list a
    have hv := dpa_bool_eq hd
    subst hv
    exact ⟨p, bs, rfl, ex_l s.gh (sq_of hs), q _ H2 G2 s (.bl _)⟩
/-- a < b < c of numbers -/
theorem ed_chain {p p' : Int → Int → Bool} {i j k : Int} (ha : EvD C ta σ G (.py (.int i))) (hb : EvD C tb σ G (.py (.int j))) (hc : p i j = true → EvD C tc σ G (.py (.int k))) : EvD C (tChain (rI0 fun i j => .bl (p i j)) (rI0 fun i j => .bl (p' i j)) ta tb tc) σ G (.py (.bool (p i j && p' j k))) := fun H1 e0 Q q =>
  ha H1 e0 _ fun v H2 G2 s a => (hb.mono s.g) H2 s.gh _ fun w H3 G3 s3 b => by
    rw [at_int a, at_int b]
    refine ⟨i, j, rfl, rfl, p i j, rfl, ?_⟩
    cases hp : p i j with
    | true =>
      show tc σ H3 _
      refine ((hc hp).mono (s.g.trans s3.g)) H3 s3.gh _ fun u H4 G4 s4 c => ?_
      rw [at_int c]
      have q2 := q (.bl (p i j && p' j k)) H4 G4 ((s.trans s3).trans s4) (.bl _)
      rw [hp] at q2
      exact ⟨j, k, rfl, rfl, q2⟩
    | false =>
      have q2 := q (.bl (p i j && p' j k)) H3 G3 (s.trans s3) (.bl _)
      rw [hp] at q2
      exact q2
/-- an owned list is told as it stands -/
structure Own (C : Addr) (H0 G H : Hp) (a : Addr) (vs : List V) (ds : List PyData) : Prop where
  o : H a = some (.lst vs)
  n : G a = none
  f : H0 a = none
  d : DqAll G vs ds
theorem Own.step {a : Addr} {vs : List V} {ds : List PyData} (w : Own C H0 G H a vs ds) (s : Gs H G H' G') : Own C H0 G' H' a vs ds :=
  ⟨s.h _ _ w.o, s.nw a (by rw [w.o]; exact fun z => by cases z) w.n, w.f, dpExAll s.g _ _ w.d⟩
/-- another list was changed -/
theorem Own.other {a b : Addr} {vs : List V} {ds : List PyData} {o : HO} (w : Own C H0 G H a vs ds) (h : a ≠ b) : Own C H0 G (L2.upd H b o) a vs ds :=
  ⟨by rw [upd_ne h]; exact w.o, w.n, w.f, w.d⟩
theorem Own.app {a : Addr} {vs : List V} {ds : List PyData} {d : PyData} (w : Own C H0 G H a vs ds) (h : Dq G v d) : Own C H0 G (L2.upd H a (.lst (vs ++ [v]))) a (vs ++ [v]) (ds ++ [d]) :=
  ⟨upd_same, w.n, w.f, dpa_append w.d (.cons h .nil)⟩
theorem Own.appE {α : Type} {e : α → PyData} {ws : List α} {x : α} {a : Addr} {vs : List V} (w : Own C H0 G H a vs (ws.map e)) (h : Dq G v (e x)) : Own C H0 G (L2.upd H a (.lst (vs ++ [v]))) a (vs ++ [v]) ((ws ++ [x]).map e) := by
  rw [List.map_append]
  exact w.app h
theorem Own.len {α : Type} {e : α → PyData} {ws : List α} {a : Addr} {vs : List V} (w : Own C H0 G H a vs (ws.map e)) : vs.length = ws.length := by
  rw [dpa_len w.d, List.length_map]
/-- it joins the facts -/
theorem Own.join {a : Addr} {vs : List V} {ds : List PyData} (w : Own C H0 G H a vs ds) (s : Gs H0 G0 H G) : Gs H0 G0 H (L2.upd G a (.lst vs)) := s.join w.f w.o w.n
theorem Own.at {a : Addr} {vs : List V} {ds : List PyData} (w : Own C H0 G H a vs ds) : At C (L2.upd G a (.lst vs)) (.ref a) (.py (.list ds)) := .lst upd_same (dpExAll (Ex.new w.n) _ _ w.d)
theorem Own.ex {a : Addr} {vs : List V} {ds : List PyData} (w : Own C H0 G H a vs ds) (e : Ex G H) : Ex (L2.upd G a (.lst vs)) H := fun b u z => by
  by_cases q : b = a
  · subst q
    rw [upd_same] at z
    rw [← z]
    exact w.o
  · rw [upd_ne q] at z
    exact e b u z
theorem Own.new {p : Addr} {vs : List V} {ds : List PyData} {H1 G1 : Hp} (s0 : Gs H0 G0 H G) (h1 : H p = none) (h2 : G1 p = none) (h3 : H1 p = some (.lst vs)) (h4 : DqAll G1 vs ds) : Own C H0 G1 H1 p vs ds := ⟨h3, h2, fresh_back s0.h h1, h4⟩
/-- an owned list was changed in its place: what else is told stays -/
theorem Gs.chg {a : Addr} {o : HO} (s : Gs H0 G0 H G) (hf : H0 a = none) (hn : G a = none) : Gs H0 G0 (L2.upd H a o) G := ⟨Ex.mut s.h hf, s.g, Ex.mut s.gh hn, s.nw⟩
end
end Sv
namespace Sv
open PySem PySem.Spec PyProof.Rows L2 Evl
theorem at_ints {C : Addr} {G : Hp} {v : V} {ws : List Int} (h : At C G v (.py (eL PyData.int ws))) : ∃ o, v = .ref o ∧ G o = some (.lst (ws.map V.int)) := by
  obtain ⟨o, vs, rfl, h1, h2⟩ := at_list h
  rw [dpa_int_eq h2] at h1
  exact ⟨o, rfl, h1⟩
theorem at_told {C : Addr} {G : Hp} {v : V} {k : Nm} {n : Nat} (h : At C G v (.py (toldD k n))) : ∃ o, v = .ref o ∧ G o = some (.tup [.str k.s, .int (n : Int)]) := by
  obtain ⟨o, vs, rfl, h1, h2⟩ := at_tup h
  cases h2 with
  | cons a b =>
    cases b with
    | cons b c =>
      cases c
      cases a
      cases b
      exact ⟨o, rfl, h1⟩
end Sv
namespace Sv
open PySem PySem.Spec PyProof.Rows L2 Evl
def whileE {ρ σ : Type} (c : σ → Bool) (f : σ → Sum ρ σ) : Nat → σ → Option (Sum ρ σ)
  | 0, s => if c s = true then none else some (.inr s)
  | m + 1, s => if c s = true then (match f s with
    | .inl r => some (.inl r)
    | .inr s' => whileE c f m s') else some (.inr s)
def whileAt {ρ σ : Type} (c : σ → Bool) (f : σ → Sum ρ σ) (s : σ) : Nat → Option σ
  | 0 => some s
  | j + 1 => match whileAt c f s j with
    | some s' => if c s' = true then (match f s' with
      | .inl _ => none
      | .inr s'' => some s'') else none
    | none => none
section
variable {ρ σ : Type} {c : σ → Bool} {f : σ → Sum ρ σ} {m : Nat} {s st st' : σ} {X : Option (Sum ρ σ)} {r : ρ}
theorem whileE_go (h : whileE c f m st = X) (hX : X ≠ none) (hc : c st = true) : ∃ m1, m = m1 + 1 := by
  cases m with
  | zero =>
    unfold whileE at h
    rw [if_pos hc] at h
    exact absurd h.symm hX
  | succ m1 => exact ⟨m1, rfl⟩
theorem whileE_in (h : whileE c f (m + 1) st = X) (hc : c st = true) (hf : f st = .inr st') : whileE c f m st' = X := by
  unfold whileE at h
  rw [if_pos hc, hf] at h
  exact h
theorem whileE_ret (h : whileE c f (m + 1) st = X) (hc : c st = true) (hf : f st = .inl r) : X = some (.inl r) := by
  unfold whileE at h
  rw [if_pos hc, hf] at h
  exact h.symm
theorem whileE_end (h : whileE c f m st = X) (hc : c st = false) : X = some (.inr st) := by
  rw [← h]
  cases m <;> (unfold whileE; rw [if_neg (by rw [hc]; decide)])
theorem whileAt_step {j : Nat} (h : whileAt c f s j = some st) (hc : c st = true) (hf : f st = .inr st') : whileAt c f s (j + 1) = some st' := by
  unfold whileAt
  rw [h]
  show (if c st = true then _ else _) = _
  rw [if_pos hc, hf]
end
section
variable {K : PySem.W.Frag} {C : Addr} {σ : L2.St} {H G : Hp} {t : TT} {D : Ends} {tu tz : TS}
theorem s_whileD (eG : Ex G H) (Pv : Nat → L2.St → Hp → Hp → Prop) (m0 : Nat) (h0 : Pv m0 σ G H)
    (hs : ∀ m σ' G' H', Ex G G' → Ex G' H' → Pv m σ' G' H' → ∃ b, EvT t σ' H' b ∧ (b = true → ∀ H1, Gs H' G' H1 G' → ∃ m', m' < m ∧ tu { D with nx := Lk G Pv m', ct := Lk G Pv m', bk := D.nx } σ' H1) ∧ (b = false → ∀ H1, Gs H' G' H1 G' → D.nx σ' H1)) : tWhile t tu D σ H := by
  refine s_while (Lk G Pv) m0 (.mk (Ex.refl _) eG h0) ?_
  rintro m σ' H' ⟨e1, e2, h⟩
  obtain ⟨b, hb, h1, h2⟩ := hs m σ' _ H' e1 e2 h
  refine ⟨b, hb, fun z H1 e => ?_, fun z H1 e => h2 z H1 (Gs.same e2 e)⟩
  obtain ⟨m', hm, hu⟩ := h1 z H1 (Gs.same e2 e)
  exact ⟨Lk G Pv m', fun σ2 H2 hL => ⟨m', hm, hL⟩, hu⟩
theorem q_whileD (eG : Ex G H) (Pv : Nat → L2.St → Hp → Hp → Prop) (m0 : Nat) (h0 : Pv m0 σ G H)
    (hs : ∀ m σ' G' H', Ex G G' → Ex G' H' → Pv m σ' G' H' → ∃ b, EvT t σ' H' b ∧ (b = true → ∀ H1, Gs H' G' H1 G' → ∃ m', m' < m ∧ tu { D with nx := Lk G Pv m', ct := Lk G Pv m', bk := tz D } σ' H1) ∧ (b = false → ∀ H1, Gs H' G' H1 G' → tz D σ' H1)) : tSeq (tWhile t tu) tz D σ H :=
  s_whileD (D := { D with nx := tz D }) eG Pv m0 h0 hs
end
end Sv

/-! Expressions as statements; lists changed in their place; tests that are known. By the verifier. -/
namespace Sv
open PySem PySem.Spec PyProof.Rows L2 Evl
section
variable {K : PySem.W.Frag} {C : Addr} {H G : Hp} {σ : L2.St} {D : Ends} {te to : TE} {t : TT} {tz tu tw : TS} {x : Da} {l : Addr} {vs : List V} {ds : List PyData}
theorem q_dropD (h : EvD C te σ G x) (eG : Ex G H) (k : ∀ H1 G1, Gs H G H1 G1 → tz D σ H1) : tSeq (tDrop te) tz D σ H := h H eG _ fun v H1 G1 s a => k H1 G1 s
theorem s_dropD (h : EvD C te σ G x) (eG : Ex G H) (k : ∀ H1 G1, Gs H G H1 G1 → D.nx σ H1) : tDrop te D σ H := h H eG _ fun v H1 G1 s a => k H1 G1 s
theorem q_dropN (h : EvN C te σ G ds) (eG : Ex G H) (k : ∀ H1 G1, Gs H G H1 G1 → tz D σ H1) : tSeq (tDrop te) tz D σ H := h H eG _ fun p vs H1 G1 s _ _ _ _ => k H1 G1 s
/-- a test that is known to hold, or not to -/
theorem q_ifT {b : Bool} (h : EvT t σ G b) (eG : Ex G H) (hb : b = true) (k : ∀ H1, Gs H G H1 G → tu { D with nx := tz D } σ H1) : tSeq (tIfS t tu tw) tz D σ H := h H eG _ fun H1 e => by
  subst hb
  exact k H1 (Gs.same eG e)
theorem q_ifF {b : Bool} (h : EvT t σ G b) (eG : Ex G H) (hb : b = false) (k : ∀ H1, Gs H G H1 G → tw { D with nx := tz D } σ H1) : tSeq (tIfS t tu tw) tz D σ H := h H eG _ fun H1 e => by
  subst hb
  exact k H1 (Gs.same eG e)
theorem s_ifT {b : Bool} (h : EvT t σ G b) (eG : Ex G H) (hb : b = true) (k : ∀ H1, Gs H G H1 G → tu D σ H1) : tIfS t tu tw D σ H := h H eG _ fun H1 e => by
  subst hb
  exact k H1 (Gs.same eG e)
theorem s_ifF {b : Bool} (h : EvT t σ G b) (eG : Ex G H) (hb : b = false) (k : ∀ H1, Gs H G H1 G → tw D σ H1) : tIfS t tu tw D σ H := h H eG _ fun H1 e => by
  subst hb
  exact k H1 (Gs.same eG e)
/-- x[:] = e: x is owned, e a list among the facts -/
theorem q_allD (h : EvD C te σ G (.py (.list ds))) (eG : Ex G H) (ho : Ev to σ G (.ref l)) (hl : H l = some (.lst vs)) (hg : G l = none) (hz : vs.length + ds.length < 100000) (k : ∀ us H1 G1, Gs H G H1 G1 → DqAll G1 us ds → G1 l = none → Ex G1 (L2.upd H1 l (.lst us)) → tz D σ (L2.upd H1 l (.lst us))) :
    tSeq (tAsg te (gAll to)) tz D σ H := h H eG _ fun v H1 G1 s1 a => by
  obtain ⟨o, us, rfl, ho1, hd⟩ := at_list a
  refine (ho.mono s1.g) H1 s1.gh _ fun H2 e2 => ?_
  have g1 : G1 l = none := s1.nw l (by rw [hl]; exact fun z => by cases z) hg
  have s2 : Gs H G H2 G1 := s1.trans (Gs.same s1.gh e2)
  have hlen : us.length = ds.length := dpa_len hd
  refine ⟨l, o, vs, us, rfl, rfl, s2.h _ _ hl, e2 _ _ (s1.gh _ _ ho1), (fun z => by rw [z, ho1] at g1; cases g1), by rw [hlen]; exact Nat.le_of_lt (sz_lt hz), k us H2 G1 s2 hd g1 (Ex.mut s2.gh g1)⟩
theorem q_rev (eG : Ex G H) (ho : Ev to σ G (.ref l)) (hl : H l = some (.lst vs)) (hg : G l = none) (hd : DqAll G vs ds) (k : ∀ us H1 G1, Gs H G H1 G1 → DqAll G1 us ds.reverse → G1 l = none → Ex G1 (L2.upd H1 l (.lst us)) → tz D σ (L2.upd H1 l (.lst us))) :
    tSeq (tDrop (tBM0 K "list" rReverse to)) tz D σ H := ho H eG _ fun H1 e1 => by
  have s1 : Gs H G H1 G := Gs.same eG e1
  exact ⟨Or.inl ⟨rfl, vs, sq_of (e1 l _ hl)⟩, l, vs, rfl, rfl, e1 _ _ hl, k vs.reverse H1 G s1 (dpa_reverse hd) hg (Ex.mut s1.gh hg)⟩
theorem q_clear (eG : Ex G H) (ho : Ev to σ G (.ref l)) (hl : H l = some (.lst vs)) (hg : G l = none) (k : ∀ us H1 G1, Gs H G H1 G1 → DqAll G1 us [] → G1 l = none → Ex G1 (L2.upd H1 l (.lst us)) → tz D σ (L2.upd H1 l (.lst us))) :
    tSeq (tDrop (tBM0 K "list" rClear to)) tz D σ H := ho H eG _ fun H1 e1 => by
  have s1 : Gs H G H1 G := Gs.same eG e1
  exact ⟨Or.inl ⟨rfl, vs, sq_of (e1 l _ hl)⟩, l, vs, rfl, rfl, e1 _ _ hl, k [] H1 G s1 .nil hg (Ex.mut s1.gh hg)⟩
theorem q_extD {es : List PyData} (h : EvD C te σ G (.py (.list es))) (eG : Ex G H) (ho : Ev to σ G (.ref l)) (hl : H l = some (.lst vs)) (hg : G l = none) (hd : DqAll G vs ds) (hz : ds.length + es.length < 100000) (k : ∀ us H1 G1, Gs H G H1 G1 → DqAll G1 us (ds ++ es) → G1 l = none → Ex G1 (L2.upd H1 l (.lst us)) → tz D σ (L2.upd H1 l (.lst us))) :
    tSeq (tDrop (tBM K "list" rExtend to (tCons te tNil))) tz D σ H := ho H eG _ fun H1 e1 => by
  have s1 : Gs H G H1 G := Gs.same eG e1
  refine ⟨Or.inl ⟨rfl, vs, sq_of (e1 l _ hl)⟩, h H1 s1.gh _ fun v H2 G2 s2 a => ?_⟩
  obtain ⟨o, us, rfl, ho1, hu⟩ := at_list a
  have h2 : H2 l = some (.lst vs) := s2.h _ _ (e1 l _ hl)
  have g2 : G2 l = none := s2.nw l (by rw [e1 l _ hl]; exact fun z => by cases z) hg
  exact ⟨l, o, vs, us, rfl, rfl, h2, s2.gh _ _ ho1, by rw [dpa_len hd, dpa_len hu]; exact Nat.le_of_lt (sz_lt hz), k (vs ++ us) H2 G2 (s1.trans s2) (dpa_append (dpExAll s2.g _ _ hd) hu) g2 (Ex.mut s2.gh g2)⟩
theorem ed_ifT {ta tb : TE} {b : Bool} (h : EvT t σ G b) (hb : b = true) (ha : EvD C ta σ G x) : EvD C (tIf t ta tb) σ G x := fun H1 e Q q => h H1 e _ fun H2 e2 => by
  subst hb
  exact ha H2 (e.trans e2) Q fun v H3 G3 s a => q v H3 G3 ((Gs.same e e2).trans s) a
theorem ed_ifF {ta tb : TE} {b : Bool} (h : EvT t σ G b) (hb : b = false) (ha : EvD C tb σ G x) : EvD C (tIf t ta tb) σ G x := fun H1 e Q q => h H1 e _ fun H2 e2 => by
  subst hb
  exact ha H2 (e.trans e2) Q fun v H3 G3 s a => q v H3 G3 ((Gs.same e e2).trans s) a
def inL {α : Type} [DecidableEq α] (x : α) (xs : List α) : Bool := decide (x ∈ xs)
theorem inL_iff {α : Type} [DecidableEq α] {x : α} {xs : List α} : inL x xs = true ↔ x ∈ xs := decide_eq_true_iff
theorem ed_inL {α : Type} [DecidableEq α] {e : α → PyData} {n : Nat} {a : α} {ws : List α} {ta tb : TE} (E : Enc e n) (hn : n + 1 ≤ 64) (ha : EvD C ta σ G (.py (e a))) (hb : EvD C tb σ G (.py (eL e ws))) : EvD C (tOp (rInD K) ta tb) σ G (.py (.bool (inL a ws))) := ed_inE E hn ha hb
theorem ed_ninL {α : Type} [DecidableEq α] {e : α → PyData} {n : Nat} {a : α} {ws : List α} {ta tb : TE} (E : Enc e n) (hn : n + 1 ≤ 64) (ha : EvD C ta σ G (.py (e a))) (hb : EvD C tb σ G (.py (eL e ws))) : EvD C (tOp (rNotInD K) ta tb) σ G (.py (.bool (!inL a ws))) := ed_ninE E hn ha hb
theorem map_eId (ds : List PyData) : ds.map eId = ds := List.map_id' ds
end
end Sv

/-! Readings that draw: the generator moves, facts stay. By the verifier. -/
namespace Sv
open PySem PySem.Spec PyProof.Rows L2 Evl
def GenC (H : Hp) (g : Addr) (c : Int) : Prop := ∃ a b c', GenAt H g a b c' ∧ 0 ≤ c' ∧ c' ≤ c
theorem GenC.ne {H : Hp} {g : Addr} {c : Int} (h : GenC H g c) : H g ≠ none := by
  obtain ⟨a, b, c', h, _⟩ := h
  rw [show H g = _ from h]
  exact fun z => by cases z
theorem GenC.ex {H H' : Hp} {g : Addr} {c : Int} (e : Ex H H') (h : GenC H g c) : GenC H' g c := by
  obtain ⟨a, b, c', h, h1, h2⟩ := h
  exact ⟨a, b, c', e _ _ h, h1, h2⟩
theorem GenC.le {H : Hp} {g : Addr} {c d : Int} (h : GenC H g c) (e : c ≤ d) : GenC H g d := by
  obtain ⟨a, b, c', h, h1, h2⟩ := h
  exact ⟨a, b, c', h, h1, Int.le_trans h2 e⟩
theorem GenC.upd {H : Hp} {g p : Addr} {c : Int} {o : HO} (h : GenC H g c) (n : g ≠ p) : GenC (L2.upd H p o) g c := by
  obtain ⟨a, b, c', h, h1, h2⟩ := h
  exact ⟨a, b, c', by show L2.upd H p o g = _; rw [upd_ne n]; exact h, h1, h2⟩
/-- all but g stays, the facts grow -/
structure Gx (g : Addr) (H1 G H2 G2 : Hp) : Prop where
  x : SameX g H1 H2
  g : Ex G G2
  gh : Ex G2 H2
  nw : Nw H1 G G2
theorem Gx.of {g : Addr} {H1 G H2 G2 : Hp} (s : Gs H1 G H2 G2) : Gx g H1 G H2 G2 := ⟨fun b o h _ => s.h b o h, s.g, s.gh, s.nw⟩
theorem SameX.ne {g a : Addr} {H H' : Hp} (e : SameX g H H') (h : H a ≠ none) (hg : H' g ≠ none) : H' a ≠ none := by
  by_cases q : a = g
  · rw [q]; exact hg
  · obtain ⟨o, ho⟩ := Option.ne_none_iff_exists'.mp h
    rw [e a o ho q]
    exact fun z => by cases z
theorem Gx.trans {g : Addr} {H1 G1 H2 G2 H3 G3 : Hp} (a : Gx g H1 G1 H2 G2) (hg : H2 g ≠ none) (b : Gx g H2 G2 H3 G3) : Gx g H1 G1 H3 G3 :=
  ⟨a.x.trans b.x, a.g.trans b.g, b.gh, fun x h1 h2 => b.nw x (SameX.ne a.x h1 hg) (a.nw x h1 h2)⟩
theorem Gx.same {g : Addr} {H1 G H2 : Hp} (e : Ex G H1) (n : G g = none) (a : SameX g H1 H2) : Gx g H1 G H2 G := ⟨a, Ex.refl _, fun b o h => a b o (e b o h) (fun z => by rw [z, n] at h; cases h), fun _ _ h => h⟩
/-- what may be given while the generator draws at most m times -/
def EvR (C : Addr) (g : Addr) (m : Int) (te : TE) (σ : L2.St) (G : Hp) (Φ : Da → Prop) : Prop := ∀ H1 c, Ex G H1 → G g = none → GenC H1 g c → c + m ≤ 600000 → ∀ Q : VK, (∀ x v H2 G2, Φ x → Gx g H1 G H2 G2 → GenC H2 g (c + m) → At C G2 v x → Q v H2) → te σ H1 Q
def EvRs (C : Addr) (g : Addr) (m : Int) (ta : TA) (σ : L2.St) (G : Hp) (Φ : List Da → Prop) : Prop := ∀ H1 c, Ex G H1 → G g = none → GenC H1 g c → c + m ≤ 600000 → ∀ Q : List V → Hp → Prop, (∀ xs vs H2 G2, Φ xs → Gx g H1 G H2 G2 → GenC H2 g (c + m) → AtAll C G2 vs xs → Q vs H2) → ta σ H1 Q
section
variable {K : PySem.W.Frag} {C g : Addr} {σ : L2.St} {H H' G G' : Hp} {ta tb tc te tx tl : TE} {t u : TT} {x y z : Da} {v : V} {r : R2} {m m' : Int} {Φ Ψ : Da → Prop} {sp : Sp} {E : XK} {as : TA}
theorem er_pure (h : EvD C te σ G x) : EvR C g 0 te σ G (fun z => z = x) := fun H1 c e n gc _ Q q => h H1 e Q fun v H2 G2 s a => q x v H2 G2 rfl (Gx.of s) (by rw [Int.add_zero]; exact gc.ex s.h) a
theorem EvR.mono (e : Ex G G') (h : EvR C g m te σ G Φ) : EvR C g m te σ G' Φ := fun H1 c e1 n gc hc Q q => h H1 c (e.trans e1) (fresh_back e n) gc hc Q fun x v H2 G2 hx s g2 a => by
  have eg : Ex G' H2 := fun b o h => s.x b o (e1 b o h) fun z => by rw [z, n] at h; cases h
  refine q x v H2 (both G' G2) hx ⟨s.x, both_l _ _, both_in eg s.gh, fun b h1 h2 => ?_⟩ g2 (a.mono (both_r eg s.gh))
  unfold both
  rw [h2]
  exact s.nw b h1 (fresh_back e h2)
theorem EvRs.mono {Φ : List Da → Prop} (e : Ex G G') (h : EvRs C g m as σ G Φ) : EvRs C g m as σ G' Φ := fun H1 c e1 n gc hc Q q => h H1 c (e.trans e1) (fresh_back e n) gc hc Q fun x v H2 G2 hx s g2 a => by
  have eg : Ex G' H2 := fun b o h => s.x b o (e1 b o h) fun z => by rw [z, n] at h; cases h
  refine q x v H2 (both G' G2) hx ⟨s.x, both_l _ _, both_in eg s.gh, fun b h1 h2 => ?_⟩ g2 (a.mono (both_r eg s.gh))
  unfold both
  rw [h2]
  exact s.nw b h1 (fresh_back e h2)
theorem rs_nil : EvRs C g 0 tNil σ G (fun xs => xs = []) := fun H1 c e n gc _ Q q => q [] [] H1 G rfl (Gx.of (Gs.refl e)) (by rw [Int.add_zero]; exact gc) .nil
theorem Gx.keepNone {H1 H2 G2 : Hp} {c : Int} (s : Gx g H1 G H2 G2) (gc : GenC H1 g c) (n : G g = none) : G2 g = none := s.nw g gc.ne n
theorem rs_cons {tr : TA} {Ψ : List Da → Prop} (h : EvR C g m ta σ G Φ) (hr : EvRs C g m' tr σ G Ψ) (m0 : 0 ≤ m') : EvRs C g (m + m') (tCons ta tr) σ G (fun zs => ∃ z, Φ z ∧ ∃ ys, Ψ ys ∧ zs = z :: ys) := fun H1 c e n gc hc Q q =>
  h H1 c e n gc (by omega) _ fun x v H2 G2 hx s g2 a => (hr.mono s.g) H2 (c + m) s.gh (s.keepNone gc n) g2 (by omega) _ fun ys vs H3 G3 hy s3 g3 as =>
    q (x :: ys) (v :: vs) H3 G3 ⟨x, hx, ys, hy, rfl⟩ (s.trans g2.ne s3) (by rw [← Int.add_assoc]; exact g3) (.cons (a.mono s3.g) as)
/-- a def that draws: what it may give for arguments behind the generator -/
def CtR (C : Addr) (sp : Sp) (m : Int) (xs : List Da) (Φ : Da → Prop) : Prop := ∀ g vs G, G g = none → AtAll C G vs xs → ∀ H1 c, Ex G H1 → GenC H1 g c → c + m ≤ 600000 → ∀ Q : VK, (∀ x v H2 G2, Φ x → Gx g H1 G H2 G2 → GenC H2 g (c + m) → At C G2 v x → Q v H2) → ∀ E, sp (.ref g :: vs) H1 Q E
theorem er_call {xs : List Da} (hv : Ev tb σ G (.ref g)) (h : EvAs C as σ G xs) (c : CtR C sp m xs Φ) : EvR C g m (tCall sp [] E (tCons tb as)) σ G Φ := fun H1 cc e n gc hc Q q =>
  hv H1 e _ fun H2 e2 => h H2 (e.trans e2) _ fun vs H3 G3 s3 a3 => by
    show sp (.ref g :: vs ++ []) H3 Q E
    rw [List.append_nil]
    have s13 : Gs H1 G H3 G3 := (Gs.same e e2).trans s3
    have nn : G3 g = none := s13.nw g gc.ne n
    exact c g vs G3 nn a3 H3 cc s13.gh (gc.ex s13.h) hc Q (fun x v H4 G4 hx s4 g4 a4 => q x v H4 G4 hx ((Gx.of s13).trans (gc.ex s13.h).ne s4) g4 a4) E
theorem ct_random {n : Int} (h : 0 < n ∧ n < 2 ^ 29) : CtR C spRandom 1 [.py (.int n)] (fun z => ∃ r : Int, (0 ≤ r ∧ r < n) ∧ z = .py (.int r)) := fun g vs G hn a H1 c e gc hc Q q E => by
  obtain ⟨v, rfl, av⟩ := at_all1 a
  rw [at_int av]
  obtain ⟨x, b, c', hg, h1, h2⟩ := gc
  refine ⟨g, x, b, c', n, rfl, hg, h, ⟨h1, by omega⟩, fun r a' c2 H2 r0 r1 d0 d1 g2 x2 => ?_⟩
  exact q _ _ H2 G ⟨r, ⟨r0, r1⟩, rfl⟩ (Gx.same e hn x2) ⟨a', b, c2, g2, d0, by omega⟩ (.int r)
/-- what is drawn, put into a pure context: an index -/
theorem er_ix {α : Type} [Inhabited α] {f : α → PyData} {ws : List α} {P : Int → Prop} (ha : EvD C ta σ G (.py (eL f ws))) (hb : EvR C g m tb σ G (fun z => ∃ i, P i ∧ z = .py (.int i))) (h : ∀ i, P i → -(ws.length : Int) ≤ i ∧ i < ws.length) :
    EvR C g m (tOp (rIxL K) ta tb) σ G (fun z => ∃ i, P i ∧ z = .py (f (getI ws i))) := fun H1 c e n gc hc Q q =>
  ha H1 e _ fun v H2 G2 s a => (hb.mono s.g) H2 c s.gh (s.nw g gc.ne n) (gc.ex s.h) hc _ fun x w H3 G3 hx s3 g3 a3 => by
    obtain ⟨i, hi, rfl⟩ := hx
    obtain ⟨p, vs, rfl, hs, hd⟩ := at_list a
    rw [at_int a3]
    obtain ⟨w, hw, hdw⟩ := atI_dp hd (atI_getI (f := f) (h i hi))
    have hs3 : SqL K H3 p vs := sq_of (s3.gh _ _ (s3.g _ _ hs))
    exact ⟨p, vs, i, w, rfl, rfl, hs3, hw, q _ w H3 G3 ⟨i, hi, rfl⟩ ((Gx.of s).trans (gc.ex s.h).ne s3) g3 (dpEx s3.g _ _ hdw)⟩
theorem er_opL {r : R2} {j : Int} {P : Int → Prop} {F : Int → PyData} (ha : EvR C g m ta σ G (fun z => ∃ i, P i ∧ z = .py (.int i))) (hb : EvD C tb σ G (.py (.int j))) (hr : ∀ i, P i → ∃ w, (∀ H (Q : VK), Q w H → r (.int i) (.int j) H Q) ∧ Flat w (.py (F i))) :
    EvR C g m (tOp r ta tb) σ G (fun z => ∃ i, P i ∧ z = .py (F i)) := fun H1 c e n gc hc Q q =>
  ha H1 c e n gc hc _ fun x v H2 G2 hx s g2 a => by
    obtain ⟨i, hi, rfl⟩ := hx
    refine (hb.mono s.g) H2 s.gh _ fun w H3 G3 s3 b => ?_
    rw [at_int a, at_int b]
    obtain ⟨z, hz, fz⟩ := hr i hi
    exact hz H3 Q (q _ z H3 G3 ⟨i, hi, rfl⟩ (s.trans g2.ne (Gx.of s3)) (g2.ex s3.h) (fz C G3))
theorem er_opR {r : R2} {j : Int} {P : Int → Prop} {F : Int → PyData} (ha : EvD C ta σ G (.py (.int j))) (hb : EvR C g m tb σ G (fun z => ∃ i, P i ∧ z = .py (.int i))) (hr : ∀ i, P i → ∃ w, (∀ H (Q : VK), Q w H → r (.int j) (.int i) H Q) ∧ Flat w (.py (F i))) :
    EvR C g m (tOp r ta tb) σ G (fun z => ∃ i, P i ∧ z = .py (F i)) := fun H1 c e n gc hc Q q =>
  ha H1 e _ fun v H2 G2 s a => (hb.mono s.g) H2 c s.gh (s.nw g gc.ne n) (gc.ex s.h) hc _ fun x w H3 G3 hx s3 g3 b => by
    obtain ⟨i, hi, rfl⟩ := hx
    rw [at_int a, at_int b]
    obtain ⟨z, hz, fz⟩ := hr i hi
    exact hz H3 Q (q _ z H3 G3 ⟨i, hi, rfl⟩ ((Gx.of s).trans (gc.ex s.h).ne s3) g3 (fz C G3))
theorem er_if {b : Bool} (h : EvT t σ G b) (h1 : b = true → EvR C g m ta σ G Φ) (h2 : b = false → EvR C g m' tb σ G Ψ) (hm : 0 ≤ m) (hm' : 0 ≤ m') : EvR C g (m + m') (tIf t ta tb) σ G (fun z => if b = true then Φ z else Ψ z) := fun H1 c e n gc hc Q q => h H1 e _ fun H2 e2 => by
  have s2 : Gs H1 G H2 G := Gs.same e e2
  cases b with
  | true =>
    show ta σ H2 Q
    exact h1 rfl H2 c s2.gh n (gc.ex e2) (by omega) Q fun x v H3 G3 hx s g3 a => q x v H3 G3 hx ((Gx.of s2).trans (gc.ex e2).ne s) (g3.le (by omega)) a
  | false =>
    show tb σ H2 Q
    exact h2 rfl H2 c s2.gh n (gc.ex e2) (by omega) Q fun x v H3 G3 hx s g3 a => q x v H3 G3 hx ((Gx.of s2).trans (gc.ex e2).ne s) (g3.le (by omega)) a
theorem ctN_ct {xs : List Da} {ds : List PyData} (c : CtN C sp xs ds) : Ct C sp xs (.py (.list ds)) := fun vs G a H1 e Q q E => c vs G a H1 e Q (fun p us H2 G2 s h1 h2 h3 h4 => q _ H2 _ (s.join h1 h3 h2) (.lst upd_same (dpExAll (Ex.new h2) _ _ h4))) E
theorem er_callA {Ψ : List Da → Prop} (h : EvRs C g m as σ G Ψ) (c : ∀ xs, Ψ xs → ∃ x, Φ x ∧ Ct C sp xs x) : EvR C g m (tCall sp [] E as) σ G Φ := fun H1 cc e n gc hc Q q => h H1 cc e n gc hc _ fun xs vs H2 G2 hx s g2 a => by
  obtain ⟨x, hx2, cx⟩ := c xs hx
  show sp (vs ++ []) H2 Q E
  rw [List.append_nil]
  exact cx vs G2 a H2 s.gh Q (fun v H3 G3 s3 a3 => q x v H3 G3 hx2 (s.trans g2.ne (Gx.of s3)) (g2.ex s3.h) a3) E
theorem ed_cv (a : At C G v x) : EvD C (tC v) σ G x := fun H1 e Q q => q v H1 G (Gs.refl e) a
/-- a new Kind -/
theorem ed_make {k : Nm} {n : Nat} (h : EvAs C as σ G [.py (.str k.s), .py (.int (n : Int))]) (hK : okK k n = true) : EvD C (tMake C (spInit C) [] E as) σ G (.kd k n) := fun H1 e Q q => h H1 e _ fun vs H2 G2 s a => by
  obtain ⟨v, w, rfl, a1, a2⟩ := at_all2 a
  rw [at_str a1, at_int a2]
  intro p dx np ndx ne
  refine ⟨p, dx, k, n, rfl, hK, upd_same, fun H3 h3 h4 => ⟨rfl, ?_⟩⟩
  have e23 : Ex H2 H3 := fun b o hb => h4 b o (by
    have b1 : b ≠ p := fun z => by rw [z, np] at hb; cases hb
    have b2 : b ≠ dx := fun z => by rw [z, ndx] at hb; cases hb
    rw [upd_ne b1, upd_ne b2]
    exact hb) (fun z => by rw [z, np] at hb; cases hb)
  exact q _ H3 _ (s.trans (Gs.newAt s.gh np e23 h3)) ⟨p, rfl, dx, upd_same⟩
variable {D : Ends} {tu tw tz : TS}
theorem q_asgR {i : Nat} {c : Int} (h : EvR C g m te σ G Φ) (eG : Ex G H) (n : G g = none) (gc : GenC H g c) (hc : c + m ≤ 600000) (k : ∀ x v H1 G1, Φ x → Gx g H G H1 G1 → GenC H1 g (c + m) → At C G1 v x → tz D (σ.set i (some v)) H1) : tSeq (tAsg te (gName i)) tz D σ H := h H c eG n gc hc _ fun x v H1 G1 hx s g2 a => k x v H1 G1 hx s g2 a
theorem q_parR {i j : Nat} {c : Int} {Φ : List Da → Prop} (h : EvRs C g m as σ G Φ) (hl : ∀ xs, Φ xs → xs.length = 2) (eG : Ex G H) (n : G g = none) (gc : GenC H g c) (hc : c + m ≤ 600000) (k : ∀ x y v w H1 G1, Φ [x, y] → Gx g H G H1 G1 → GenC H1 g (c + m) → At C G1 v x → At C G1 w y → tz D ((σ.set i (some v)).set j (some w)) H1) : tSeq (tPar i j as) tz D σ H := h H c eG n gc hc _ fun xs vs H1 G1 hx s g2 a => by
  cases a with
  | nil => exact absurd (hl _ hx) (by simp)
  | cons a b =>
    cases b with
    | nil => exact absurd (hl _ hx) (by simp)
    | cons b c =>
      cases c with
      | nil => exact ⟨_, _, rfl, k _ _ _ _ H1 G1 hx s g2 a b⟩
      | cons c d => exact absurd (hl _ hx) (by simp)
theorem q_par3R {i j l : Nat} {c : Int} {Φ : List Da → Prop} (h : EvRs C g m as σ G Φ) (hl : ∀ xs, Φ xs → xs.length = 3) (eG : Ex G H) (n : G g = none) (gc : GenC H g c) (hc : c + m ≤ 600000) (k : ∀ x y z v w u H1 G1, Φ [x, y, z] → Gx g H G H1 G1 → GenC H1 g (c + m) → At C G1 v x → At C G1 w y → At C G1 u z → tz D (((σ.set i (some v)).set j (some w)).set l (some u)) H1) : tSeq (tPar3 i j l as) tz D σ H := h H c eG n gc hc _ fun xs vs H1 G1 hx s g2 a => by
  cases a with
  | nil => exact absurd (hl _ hx) (by simp)
  | cons a b =>
    cases b with
    | nil => exact absurd (hl _ hx) (by simp)
    | cons b c =>
      cases c with
      | nil => exact absurd (hl _ hx) (by simp)
      | cons c d =>
        cases d with
        | nil => exact ⟨_, _, _, rfl, k _ _ _ _ _ _ H1 G1 hx s g2 a b c⟩
        | cons _ _ => exact absurd (hl _ hx) (by simp)
theorem ev_two {c : Int} (h1 : EvR C g m ta σ G Φ) (h2 : EvR C g m' tb σ G Ψ) (eG : Ex G H) (n : G g = none) (gc : GenC H g c) (hm : 0 ≤ m') (hc : c + m + m' ≤ 600000) {Q : List V → Hp → Prop} (k : ∀ x y v w H1 G1, Φ x → Ψ y → Gx g H G H1 G1 → GenC H1 g (c + m + m') → At C G1 v x → At C G1 w y → Q [v, w] H1) : tCons ta (tCons tb tNil) σ H Q :=
  h1 H c eG n gc (by omega) _ fun x v H1 G1 hx s1 g1 a1 => (h2.mono s1.g) H1 (c + m) s1.gh (s1.keepNone gc n) g1 hc _ fun y w H2 G2 hy s2 g2 a2 => k x y v w H2 G2 hx hy (s1.trans g1.ne s2) g2 (a1.mono s2.g) a2
theorem ev_three {c m'' : Int} {X : Da → Prop} (h1 : EvR C g m ta σ G Φ) (h2 : EvR C g m' tb σ G Ψ) (h3 : EvR C g m'' tc σ G X) (eG : Ex G H) (n : G g = none) (gc : GenC H g c) (hm : 0 ≤ m') (hm2 : 0 ≤ m'') (hc : c + m + m' + m'' ≤ 600000) {Q : List V → Hp → Prop} (k : ∀ x y z v w u H1 G1, Φ x → Ψ y → X z → Gx g H G H1 G1 → GenC H1 g (c + m + m' + m'') → At C G1 v x → At C G1 w y → At C G1 u z → Q [v, w, u] H1) : tCons ta (tCons tb (tCons tc tNil)) σ H Q :=
  h1 H c eG n gc (by omega) _ fun x v H1 G1 hx s1 g1 a1 => (h2.mono s1.g) H1 (c + m) s1.gh (s1.keepNone gc n) g1 (by omega) _ fun y w H2 G2 hy s2 g2 a2 =>
    (h3.mono (s1.g.trans s2.g)) H2 (c + m + m') s2.gh (s2.keepNone g1 (s1.keepNone gc n)) g2 hc _ fun z u H3 G3 hz s3 g3 a3 => k x y z v w u H3 G3 hx hy hz ((s1.trans g1.ne s2).trans g2.ne s3) g3 ((a1.mono s2.g).mono s3.g) (a2.mono s3.g) a3
theorem q_par2 {i j : Nat} {c : Int} (h1 : EvR C g m ta σ G Φ) (h2 : EvR C g m' tb σ G Ψ) (eG : Ex G H) (n : G g = none) (gc : GenC H g c) (hm : 0 ≤ m') (hc : c + m + m' ≤ 600000) (k : ∀ x y v w H1 G1, Φ x → Ψ y → Gx g H G H1 G1 → GenC H1 g (c + m + m') → At C G1 v x → At C G1 w y → tz D ((σ.set i (some v)).set j (some w)) H1) : tSeq (tPar i j (tCons ta (tCons tb tNil))) tz D σ H := by
  show tCons ta (tCons tb tNil) σ H fun vs H1 => ∃ v w, vs = [v, w] ∧ tz D ((σ.set i (some v)).set j (some w)) H1
  exact ev_two h1 h2 eG n gc hm hc fun x y v w H1 G1 hx hy s g1 a b => ⟨v, w, rfl, k x y v w H1 G1 hx hy s g1 a b⟩
theorem q_par3 {i j l : Nat} {c m'' : Int} {X : Da → Prop} (h1 : EvR C g m ta σ G Φ) (h2 : EvR C g m' tb σ G Ψ) (h3 : EvR C g m'' tc σ G X) (eG : Ex G H) (n : G g = none) (gc : GenC H g c) (hm : 0 ≤ m') (hm2 : 0 ≤ m'') (hc : c + m + m' + m'' ≤ 600000) (k : ∀ x y z v w u H1 G1, Φ x → Ψ y → X z → Gx g H G H1 G1 → GenC H1 g (c + m + m' + m'') → At C G1 v x → At C G1 w y → At C G1 u z → tz D (((σ.set i (some v)).set j (some w)).set l (some u)) H1) : tSeq (tPar3 i j l (tCons ta (tCons tb (tCons tc tNil)))) tz D σ H := by
  show tCons ta (tCons tb (tCons tc tNil)) σ H fun vs H1 => ∃ u v w, vs = [u, v, w] ∧ tz D (((σ.set i (some u)).set j (some v)).set l (some w)) H1
  exact ev_three h1 h2 h3 eG n gc hm hm2 hc fun x y z v w u H1 G1 hx hy hz s g1 a b c => ⟨v, w, u, rfl, k x y z v w u H1 G1 hx hy hz s g1 a b c⟩
theorem q_tupR2 {i j : Nat} {c : Int} (h1 : EvR C g m ta σ G Φ) (h2 : EvR C g m' tb σ G Ψ) (eG : Ex G H) (n : G g = none) (gc : GenC H g c) (hm : 0 ≤ m') (hc : c + m + m' ≤ 600000) (k : ∀ x y v w H1 G1, Φ x → Ψ y → Gx g H G H1 G1 → GenC H1 g (c + m + m') → At C G1 v x → At C G1 w y → tz D ((σ.set i (some v)).set j (some w)) H1) : tSeq (tAsg (tTup (tCons ta (tCons tb tNil))) (gTup K 2 (gCons (gName i) (gCons (gName j) gNil)))) tz D σ H := by
  show tCons ta (tCons tb tNil) σ H fun xs H1 => xs.length ≤ sizeLine ∧ ∀ p, H1 p = none → gTup K 2 (gCons (gName i) (gCons (gName j) gNil)) (.ref p) σ (L2.upd H1 p (.tup xs)) (tz D)
  exact ev_two h1 h2 eG n gc hm hc fun x y v w H1 G1 hx hy s g1 a b => ⟨by show 2 ≤ sizeLine; decide, fun p np => ⟨p, _, rfl, st_of upd_same, rfl, _, _, rfl, _, _, rfl, rfl, by
    have s' := (Gx.of (g := g) (Gs.same s.gh (Ex.new (o := .tup [v, w]) np)))
    exact k x y v w _ G1 hx hy (s.trans g1.ne s') (g1.ex (Ex.new np)) a b⟩⟩
theorem q_tupR3 {i j l : Nat} {c m'' : Int} {X : Da → Prop} (h1 : EvR C g m ta σ G Φ) (h2 : EvR C g m' tb σ G Ψ) (h3 : EvR C g m'' tc σ G X) (eG : Ex G H) (n : G g = none) (gc : GenC H g c) (hm : 0 ≤ m') (hm2 : 0 ≤ m'') (hc : c + m + m' + m'' ≤ 600000) (k : ∀ x y z v w u H1 G1, Φ x → Ψ y → X z → Gx g H G H1 G1 → GenC H1 g (c + m + m' + m'') → At C G1 v x → At C G1 w y → At C G1 u z → tz D (((σ.set i (some v)).set j (some w)).set l (some u)) H1) : tSeq (tAsg (tTup (tCons ta (tCons tb (tCons tc tNil)))) (gTup K 3 (gCons (gName i) (gCons (gName j) (gCons (gName l) gNil))))) tz D σ H := by
  show tCons ta (tCons tb (tCons tc tNil)) σ H fun xs H1 => xs.length ≤ sizeLine ∧ ∀ p, H1 p = none → gTup K 3 (gCons (gName i) (gCons (gName j) (gCons (gName l) gNil))) (.ref p) σ (L2.upd H1 p (.tup xs)) (tz D)
  exact ev_three h1 h2 h3 eG n gc hm hm2 hc fun x y z v w u H1 G1 hx hy hz s g1 a b c => ⟨by show 3 ≤ sizeLine; decide, fun p np => ⟨p, _, rfl, st_of upd_same, rfl, _, _, rfl, _, _, rfl, _, _, rfl, rfl, by
    have s' := (Gx.of (g := g) (Gs.same s.gh (Ex.new (o := .tup [v, w, u]) np)))
    exact k x y z v w u _ G1 hx hy hz (s.trans g1.ne s') (g1.ex (Ex.new np)) a b c⟩⟩
/-- an owned list beside a generator -/
structure OwnR (C : Addr) (G H : Hp) (a : Addr) (vs : List V) (ds : List PyData) : Prop where
  o : H a = some (.lst vs)
  n : G a = none
  d : DqAll G vs ds
theorem OwnR.stepG {a : Addr} {vs : List V} {ds : List PyData} (w : OwnR C G H a vs ds) (ng : a ≠ g) (s : Gx g H G H' G') : OwnR C G' H' a vs ds :=
  ⟨s.x _ _ w.o ng, s.nw a (by rw [w.o]; exact fun z => by cases z) w.n, dpExAll s.g _ _ w.d⟩
theorem OwnR.step {a : Addr} {vs : List V} {ds : List PyData} (w : OwnR C G H a vs ds) (s : Gs H G H' G') : OwnR C G' H' a vs ds :=
  ⟨s.h _ _ w.o, s.nw a (by rw [w.o]; exact fun z => by cases z) w.n, dpExAll s.g _ _ w.d⟩
theorem OwnR.set {a : Addr} {vs us : List V} {ds es : List PyData} (w : OwnR C G H a vs ds) (d : DqAll G us es) : OwnR C G (L2.upd H a (.lst us)) a us es := ⟨upd_same, w.n, d⟩
theorem OwnR.other {a b : Addr} {vs : List V} {ds : List PyData} {o : HO} (w : OwnR C G H a vs ds) (h : a ≠ b) : OwnR C G (L2.upd H b o) a vs ds :=
  ⟨by rw [upd_ne h]; exact w.o, w.n, w.d⟩
theorem OwnR.at {a : Addr} {vs : List V} {ds : List PyData} (w : OwnR C G H a vs ds) : At C (L2.upd G a (.lst vs)) (.ref a) (.py (.list ds)) := .lst upd_same (dpExAll (Ex.new w.n) _ _ w.d)
theorem OwnR.ex {a : Addr} {vs : List V} {ds : List PyData} (w : OwnR C G H a vs ds) (e : Ex G H) : Ex (L2.upd G a (.lst vs)) H := fun b u z => by
  by_cases q : b = a
  · subst q
    rw [upd_same] at z
    rw [← z]
    exact w.o
  · rw [upd_ne q] at z
    exact e b u z
theorem q_forR {gt : TG} {c : Int} (h : EvR C g m tl σ G Φ) (eG : Ex G H) (n : G g = none) (gc : GenC H g c) (hc : c + m ≤ 600000) (k : ∀ x v H1 G1, Φ x → Gx g H G H1 G1 → GenC H1 g (c + m) → At C G1 v x → tSeq (tFor (iList K (tC v)) gt tu) tz D σ H1) : tSeq (tFor (iList K tl) gt tu) tz D σ H :=
  h H c eG n gc hc _ fun x v H1 G1 hx s g2 a => k x v H1 G1 hx s g2 a
theorem OwnR.snocE {α : Type} {e : α → PyData} {ws : List α} {x : α} {a : Addr} {vs : List V} (w : OwnR C G H a vs (ws.map e ++ [e x])) : OwnR C G H a vs ((ws ++ [x]).map e) := by
  rw [List.map_append]
  exact w
theorem upd_upd {H : Hp} {p : Addr} {o u : HO} : L2.upd (L2.upd H p o) p u = L2.upd H p u := by
  funext a
  by_cases q : a = p
  · subst q
    rw [upd_same, upd_same]
  · rw [upd_ne q, upd_ne q, upd_ne q]
theorem dqa_set {vs : List V} {ds : List PyData} {v : V} {d : PyData} : ∀ {vs : List V} {ds : List PyData} (j : Nat), DqAll G vs ds → Dq G v d → DqAll G (vs.set j v) (ds.set j d)
  | _, _, _, .nil, _ => .nil
  | _, _, 0, .cons a b, h => .cons h b
  | _, _, j + 1, .cons a b, h => .cons a (dqa_set (vs := vs) (ds := ds) j b h)
/-- x[i], x[j] = a, b: an owned list of whole numbers -/
theorem q_store2 {l : Addr} {vs : List V} {ws : List Int} {i j : Int} {a b : Int} {to ti to' ti' te' : TE} (w : OwnR C G H l vs (ws.map PyData.int)) (eG : Ex G H) (h1 : EvD C te σ (L2.upd G l (.lst vs)) (.py (.int a))) (h2 : EvD C te' σ (L2.upd G l (.lst vs)) (.py (.int b)))
    (ho : ∀ H Q, Q (.ref l) H → to σ H Q) (hi : EvD C ti σ G (.py (.int i))) (ho' : ∀ H Q, Q (.ref l) H → to' σ H Q) (hj : EvD C ti' σ G (.py (.int j))) (hij : (0 ≤ i ∧ i < ws.length) ∧ 0 ≤ j ∧ j < ws.length)
    (k : ∀ H1 us, Gs H G H1 G → OwnR C G (L2.upd H1 l (.lst us)) l us (((ws.set i.toNat a).set j.toNat b).map PyData.int) → Ex G (L2.upd H1 l (.lst us)) → tz D σ (L2.upd H1 l (.lst us))) :
    tSeq (tAsg (tTup (tCons te (tCons te' tNil))) (gTup K 2 (gCons (gSub to ti rSetL) (gCons (gSub to' ti' rSetL) gNil)))) tz D σ H := by
  have hl : vs.length = ws.length := by rw [dpa_len w.d, List.length_map]
  refine h1 H (w.ex eG) _ fun v1 H1 G1 s1 a1 => (h2.mono s1.g) H1 s1.gh _ fun v2 H2 G2 s2 a2 => ⟨by show 2 ≤ sizeLine; decide, fun p np => ?_⟩
  rw [at_int a1, at_int a2]
  have e02 : Ex H H2 := s1.h.trans s2.h
  have e03 : Ex H (L2.upd H2 p (.tup [.int a, .int b])) := e02.trans (Ex.new np)
  have eG3 : Ex G (L2.upd H2 p (.tup [.int a, .int b])) := eG.trans e03
  have hpl : p ≠ l := fun z => by
    have := e02 _ _ w.o
    rw [← z, np] at this
    cases this
  refine ⟨p, _, rfl, st_of upd_same, rfl, _, _, rfl, ho _ _ (hi _ eG3 _ fun x1 H4 G4 s4 b4 => ?_)⟩
  rw [at_int b4]
  have hl4 : H4 l = some (.lst vs) := s4.h _ _ (e03 _ _ w.o)
  obtain ⟨ni, hni⟩ : ∃ n : Nat, i = (n : Int) := ⟨i.toNat, by omega⟩
  obtain ⟨nj, hnj⟩ : ∃ n : Nat, j = (n : Int) := ⟨j.toNat, by omega⟩
  subst hni hnj
  refine ⟨l, vs, (ni : Int), ni, rfl, rfl, hl4, Evl.ixN_nat (by omega), ?_⟩
  have e4 : Ex G H4 := eG3.trans s4.h
  have eG5 : Ex G (L2.upd H4 l (.lst (vs.set ni (.int a)))) := Ex.mut e4 w.n
  refine ⟨_, _, rfl, ho' _ _ (hj _ eG5 _ fun x2 H6 G6 s6 b6 => ?_)⟩
  rw [at_int b6]
  have hl6 : H6 l = some (.lst (vs.set ni (.int a))) := s6.h _ _ upd_same
  refine ⟨l, vs.set ni (.int a), (nj : Int), nj, rfl, rfl, hl6, Evl.ixN_nat (by rw [List.length_set]; omega), rfl, ?_⟩
  have eGe : Ex G (L2.upd H6 l (.lst ((vs.set ni (.int a)).set nj (.int b)))) := Ex.mut (eG5.trans s6.h) w.n
  have d2 : DqAll G ((vs.set ni (.int a)).set nj (.int b)) (((ws.set (ni : Int).toNat a).set (nj : Int).toNat b).map PyData.int) := by
    rw [List.map_set, List.map_set]
    exact dqa_set (vs := vs) (ds := []) _ (dqa_set (vs := vs) (ds := []) _ w.d (.int a)) (.int b)
  -- all that the heap told ahead, but for the list, it tells now
  have key := k (fun x => if x = l then some (.lst vs) else H6 x) ((vs.set ni (.int a)).set nj (.int b)) ⟨fun x o hx => ?_, Ex.refl _, fun x o hx => ?_, fun _ _ h => h⟩
  · have eu : L2.upd (fun x => if x = l then some (HO.lst vs) else H6 x) l (.lst ((vs.set ni (.int a)).set nj (.int b))) = L2.upd H6 l (.lst ((vs.set ni (.int a)).set nj (.int b))) := by
      funext x
      by_cases q : x = l
      · subst q; rw [upd_same, upd_same]
      · rw [upd_ne q, upd_ne q]
        exact if_neg q
    rw [eu] at key
    exact key ⟨upd_same, w.n, d2⟩ eGe
  · show (if x = l then some (HO.lst vs) else H6 x) = some o
    by_cases q : x = l
    · subst q
      rw [if_pos rfl]
      rw [w.o] at hx
      exact hx
    · rw [if_neg q]
      refine s6.h _ _ ?_
      rw [upd_ne q]
      exact s4.h _ _ (e03 _ _ hx)
  · show (if x = l then some (HO.lst vs) else H6 x) = some o
    by_cases q : x = l
    · subst q
      rw [w.n] at hx
      cases hx
    · rw [if_neg q]
      exact (eG5.trans s6.h) _ _ hx
theorem s_noD {b : Bool} (h : EvT t σ G b) (eG : Ex G H) (hb : b = false) (k : ∀ H1, Gs H G H1 G → D.nx σ H1) : tIfS t tu tNext D σ H := h H eG _ fun H1 e => by
  subst hb
  exact k H1 (Gs.same eG e)
/-- what draws and gives data of a kind -/
def spDr (C : Addr) (m : Int) (Dm : List Da → Prop) (R : List Da → Da → Prop) : Sp := fun vs H Q _ => ∃ g vs' G xs c, vs = .ref g :: vs' ∧ Ex G H ∧ G g = none ∧ AtAll C G vs' xs ∧ GenC H g c ∧ c + m ≤ 600000 ∧ Dm xs ∧ ∀ x v H2 G2, R xs x → Gx g H G H2 G2 → GenC H2 g (c + m) → At C G2 v x → Q v H2
theorem ct_dr {Dm : List Da → Prop} {R : List Da → Da → Prop} {xs : List Da} (h : Dm xs) : CtR C (spDr C m Dm R) m xs (R xs) := fun g vs G n a H1 c e gc hc Q q E => ⟨g, vs, G, xs, c, rfl, e, n, a, gc, hc, h, q⟩
/-- flat data stand in every heap -/
theorem dqa_flat : ∀ {vs : List V} {ws : List Int}, DqAll G vs (ws.map PyData.int) → ∀ {G2 : Hp}, DqAll G2 vs (ws.map PyData.int)
  | _, [], .nil, _ => .nil
  | _, _ :: _, .cons a b, _ => .cons (by cases a; exact .int _) (dqa_flat b)
theorem nw_upd {H0 G0 : Hp} {p : Addr} {o : HO} (h : ∀ a, H0 a ≠ none → G0 a = none → G a = none) (f : H0 p = none) : ∀ a, H0 a ≠ none → G0 a = none → L2.upd G p o a = none := fun a h1 h2 => by
  by_cases q : a = p
  · subst q
    exact absurd f h1
  · rw [upd_ne q]
    exact h a h1 h2
theorem al_upd {p a : Addr} {o : HO} (h : H a ≠ none) : L2.upd H p o a ≠ none := by
  by_cases q : a = p
  · subst q
    rw [upd_same]
    exact fun z => by cases z
  · rw [upd_ne q]
    exact h
theorem sx_upd {H0 : Hp} {p : Addr} {o : HO} (s : SameX g H0 H) (f : H0 p = none) : SameX g H0 (L2.upd H p o) := fun b u h n => by
  have hb : b ≠ p := fun z => by rw [z, f] at h; cases h
  rw [upd_ne hb]
  exact s b u h n
/-- the heap without the generator -/
def rmv (H : Hp) (g : Addr) : Hp := fun a => if a = g then none else H a
theorem rmv_ex (H : Hp) (g : Addr) : Ex (rmv H g) H := fun a o h => by
  unfold rmv at h
  by_cases q : a = g
  · rw [if_pos q] at h; cases h
  · rw [if_neg q] at h; exact h
theorem rmv_none (H : Hp) (g : Addr) : rmv H g g = none := if_pos rfl
theorem rmv_same {H H' : Hp} {g : Addr} (e : Ex (rmv H g) H') : SameX g H H' := fun b o h n => e b o (by unfold rmv; rw [if_neg n]; exact h)
end
end Sv

namespace Sv
open PySem PySem.Spec PyProof.Rows L2 Evl
def p_are_whole_3 (x_value1 : PyData) : (Sum Bool (Unit)) := (Sum.inl false)
def p_are_whole_4 (x_value1 : PyData) : (Sum Bool (Unit)) := (Sum.inr ())
def p_are_whole_2body  : (Unit) → PyData → (Sum Bool (Unit)) := fun _ x_value1 => (if ((!(isaD "int" x_value1)) || (isaD "bool" x_value1)) = true then (p_are_whole_3 x_value1) else (p_are_whole_4 x_value1))
def p_are_whole_5  : Bool := true
def p_are_whole_1 (x0 : PyData) : Bool := (match loopE p_are_whole_2body (itemsD x0) () with | Sum.inl r => r | Sum.inr _ => (p_are_whole_5 ))
def q_are_whole_1 (x0 : PyData) : Prop := ((x0 = PyData.list (itemsD x0)))
def p_are_whole (x0 : PyData) : Bool := (p_are_whole_1 x0)
def q_are_whole (x0 : PyData) : Prop := (q_are_whole_1 x0)
def R_are_whole (xs : List Da) (x : Da) : Prop := ∃ (x0 : PyData), xs = [.py (x0)] ∧ q_are_whole x0 ∧ x = .py ((PyData.bool (p_are_whole x0)))
section
variable {P : Program} {w : World} {K : PySem.W.Frag} {mg : Str → Option Value} {base : Heap} {f C D : Addr} {fd : FuncData}
theorem oka_are_whole (T : Tk K w mg C D) (F : FnP K "are_whole" "are_whole" s_are_whole f fd)  : FnOk P w K mg base CX0 1 f fd ["values"] (spPure C R_are_whole) := by
  refine okN F sc_are_whole (fun vs H Q E h => ?_) (fun cdv A outer s H0 vs Q E hr h => ?_)
  · obtain ⟨G, xs, x, _, a, ⟨x0, rfl, _⟩, _⟩ := h
    exact a.len
  · obtain ⟨G0, xs, x, eG, a, ⟨x0, rfl, hq, rfl⟩, q⟩ := h
    obtain ⟨u0, rfl, f0⟩ := at_all1 a
    refine ⟨_, (pss_cons (ps_for PassesOwn.never rfl (pi_list (pv 0)) (pg_name (i := 1) sc_are_whole.nd rfl (Or.inl rfl)) (pss_one (ps_if (PW.pt (pw_or (pt_not (pt_val (pe_callB call_isi (by rfl) T.m_isinstance (by decide +kernel) (pa_cons (pv 1) (pa_cons (pe_bltn (v := .ty "int") (by rfl) T.m_int (by decide +kernel) rfl) pa_nil))))) (pw_or1 (pt_val (pe_callB call_isi (by rfl) T.m_isinstance (by decide +kernel) (pa_cons (pv 1) (pa_cons (pe_bltn (v := .ty "bool") (by rfl) T.m_bool (by decide +kernel) rfl) pa_nil))))))) (pss_one (ps_ret pe_bl)) pss_nil)))
      (pss_one (ps_ret pe_bl))), ?_⟩
    have S : Gs H0 G0 H0 G0 := Gs.refl eG
    have q : ∀ v H2 G2, Gs H0 G0 H2 G2 → At C G2 v (.py ((PyData.bool (match loopE p_are_whole_2body (itemsD x0) () with | Sum.inl r => r | Sum.inr _ => (p_are_whole_5 ))))) → Q v H2 := q
    have qout_1 : ∀ r, loopE p_are_whole_2body (itemsD x0) () = .inl r → ∀ v H2 G2, Gs H0 G0 H2 G2 → At C G2 v (.py ((PyData.bool r))) → Q v H2 := fun r hr => by rw [hr] at q; exact q
    refine q_forD (C := C) (e := eId) K (ei_list (C := C) (EvD.is (ed_var (i := 0) rfl f0) (congrArg Da.py ((hq).trans (eId_map _).symm)))) S.gh (fun i σ G H => ∃ (st : Unit) (o0 : Option V) (o1 : Option V), σ = [o0, o1] ∧ loopE p_are_whole_2body (((itemsD x0)).take i) () = .inr st ∧ Gs H0 G0 H G) ?_ ?_ ?_
    · intro H1 G1 s1
      exact ⟨(), _, _, rfl, rfl, S.trans s1⟩
    · rintro i x_value1 v_value σ' G' H' G2 H2 Gb hx ⟨_, o0, o1, rfl, hst, S⟩ h3 h4 s2 f_value
      have eb : Ex Gb G2 := h4.trans s2.g
      have S := S.trans s2
      have q : (p_are_whole_2body () x_value1) = (p_are_whole_2body () x_value1) := rfl
      have q : (p_are_whole_2body () x_value1) = (if ((!(isaD "int" x_value1)) || (isaD "bool" x_value1)) = true then (p_are_whole_3 x_value1) else (p_are_whole_4 x_value1)) := q
      refine s_ifD (et_or (et_not (et_ofB (C := C) (ed_isi "int" (by simp) (ed_var (i := 1) rfl f_value)))) (fun z11 => (et_ofB (C := C) (ed_isi "bool" (by simp) (ed_var (i := 1) rfl f_value))))) S.gh (fun hb H1 s1 => ?_) (fun hb H1 s1 => ?_)
      · rw [if_pos hb] at q
        have S := S.trans s1
        have q : (p_are_whole_2body () x_value1) = (Sum.inl false) := q
        have q0 := qout_1 _ (loopE_ret hst hx q)
        exact s_retD (C := C) ed_b S.gh fun v H1 G1 s1 a => q0 v H1 G1 (S.trans s1) a
      · rw [if_neg (by rw [hb]; decide)] at q
        have S := S.trans s1
        have q : (p_are_whole_2body () x_value1) = (Sum.inr ()) := q
        first | refine Lk.mk eb S.gh ?_ | (unfold tNext; refine Lk.mk eb S.gh ?_)
        exact ⟨_, _, _, rfl, loopE_step hst hx q, S⟩
    · rintro σ' G' H' ⟨_, o0, o1, rfl, hst, S⟩ e1 e2
      have hst := loopE_end hst
      have q : ∀ v H2 G2, Gs H0 G0 H2 G2 → At C G2 v (.py ((PyData.bool (p_are_whole_5 )))) → Q v H2 := by rw [hst] at q; exact q
      exact s_retD (C := C) ed_b S.gh fun v H1 G1 s1 a => q v H1 G1 (S.trans s1) a
end
def p_is_rising_1 (x0 : (List Int)) : Bool := ((((rngI 0 (((x0).length : Int) - (1 : Int)))).map (fun (x12 : Int) => (decide ((getI x0 x12) < (getI x0 (x12 + (1 : Int))))))).all id)
def q_is_rising_1 (x0 : (List Int)) : Prop := ((-100000 ≤ (((x0).length : Int) - (1 : Int)) ∧ (((x0).length : Int) - (1 : Int)) ≤ 100000)) ∧ (((rngI 0 (((x0).length : Int) - (1 : Int)))).length ≤ 100000) ∧ (∀ x12 ∈ (rngI 0 (((x0).length : Int) - (1 : Int))), (((-((x0).length : Int) ≤ x12 ∧ x12 < ((x0).length : Int))) ∧ ((-((x0).length : Int) ≤ (x12 + (1 : Int)) ∧ (x12 + (1 : Int)) < ((x0).length : Int)))))
def p_is_rising (x0 : (List Int)) : Bool := (p_is_rising_1 x0)
def q_is_rising (x0 : (List Int)) : Prop := (q_is_rising_1 x0)
def R_is_rising (xs : List Da) (x : Da) : Prop := ∃ (x0 : (List Int)), xs = [.py (((eL PyData.int) x0))] ∧ q_is_rising x0 ∧ x = .py ((PyData.bool (p_is_rising x0)))
section
variable {P : Program} {w : World} {K : PySem.W.Frag} {mg : Str → Option Value} {base : Heap} {f C D : Addr} {fd : FuncData}
theorem oka_is_rising (T : Tk K w mg C D) (F : FnP K "is_rising" "is_rising" s_is_rising f fd)  : FnOk P w K mg base CX0 1 f fd ["numbers"] (spPure C R_is_rising) := by
  refine okN F sc_is_rising (fun vs H Q E h => ?_) (fun cdv A outer s H0 vs Q E hr h => ?_)
  · obtain ⟨G, xs, x, _, a, ⟨x0, rfl, _⟩, _⟩ := h
    exact a.len
  · obtain ⟨G0, xs, x, eG, a, ⟨x0, rfl, hq, rfl⟩, q⟩ := h
    obtain ⟨u0, rfl, f0⟩ := at_all1 a
    refine ⟨_, (pss_one (ps_ret (pe_callB (cr_all rfl) (by rfl) T.m_all (by decide +kernel) (pa_cons (pe_lc (own := [(("at" : Str), 1)]) (g := (gName 1)) (tt := tYes) rfl sc_is_rising.nd (pi_range1 (by rfl) T.m_range (pa_cons (pe_op op_sub (pe_callB (show CallR _ (.builtin "len") (rLenK K) from call_len_seq) (by rfl) T.m_len (by decide +kernel) (pa_cons (pv 0) pa_nil)) pe_int) pa_nil)) (blkOk_by (own := [(("at" : Str), 1)]) (N := ["numbers", "at"]) (sc := defScope s_is_rising) (by decide +kernel)) (fun _ _ _ _ _ => (pg_name (i := 1) sc_is_rising.nd rfl (Or.inl rfl))) (fun _ _ _ _ _ => pts_nil) (fun _ _ _ _ _ => (pe_cmpR op_lt (pe_ix (show IxR _ (rIxL K) from ix_list) (pv 0) (pv 1) (fun _ _ => rfl)) (pe_ix (show IxR _ (rIxL K) from ix_list) (pv 0) (pe_op op_add (pv 1) pe_int) (fun _ _ => rfl)) (nomark _)))) pa_nil)))), ?_⟩
    have S : Gs H0 G0 H0 G0 := Gs.refl eG
    exact s_retD (C := C) (ed_all (EvN.d (en_lcA K (e := PyData.int) (e' := PyData.bool) (fun (x12 : Int) => (decide ((getI x0 x12) < (getI x0 (x12 + (1 : Int)))))) (ei_rg1 (C := C) (ed_sub (ed_lenL (ed_var (i := 0) rfl f0)) ed_i) ((hq).1)) ((hq).2.1) (fun _ => rfl) (fun x12 m13 v15 Ge11 e11 a14 => (ed_lt (ed_ix (ed_var (i := 0) rfl (At.mono e11 f0)) (ed_var (i := 1) rfl a14) ((((hq).2.2) x12 m13).1)) (ed_ix (ed_var (i := 0) rfl (At.mono e11 f0)) (ed_add (ed_var (i := 1) rfl a14) ed_i) ((((hq).2.2) x12 m13).2))))))) S.gh fun v H1 G1 s1 a => q v H1 G1 (S.trans s1) a
end
def p_are_places_2  : Bool := false
def p_are_places_3 (x0 : (List Int)) (x1 : PyData) : Bool := (((itemsD x1)).isEmpty || ((decide ((0 : Int) ≤ (intD (getI (itemsD x1) (0 : Int))))) && (decide ((intD (getI (itemsD x1) (-(1 : Int)))) < ((x0).length : Int)))))
def q_are_places_3 (x0 : (List Int)) (x1 : PyData) : Prop := ((x1 = PyData.list (itemsD x1))) ∧ (((itemsD x1)).isEmpty = false → (((((x1 = PyData.list (itemsD x1))) ∧ (-(((itemsD x1)).length : Int) ≤ (0 : Int) ∧ (0 : Int) < (((itemsD x1)).length : Int))) ∧ ((getI (itemsD x1) (0 : Int)) = PyData.int (intD (getI (itemsD x1) (0 : Int)))))) ∧ ((decide ((0 : Int) ≤ (intD (getI (itemsD x1) (0 : Int))))) = true → ((((x1 = PyData.list (itemsD x1))) ∧ (-(((itemsD x1)).length : Int) ≤ (-(1 : Int)) ∧ (-(1 : Int)) < (((itemsD x1)).length : Int))) ∧ ((getI (itemsD x1) (-(1 : Int))) = PyData.int (intD (getI (itemsD x1) (-(1 : Int))))))))
def p_are_places_1 (x0 : (List Int)) (x1 : PyData) : Bool := (if (!((isaD "list" x1) && ((p_are_whole (x1)) && (p_is_rising ((nsD x1)))))) = true then (p_are_places_2 ) else (p_are_places_3 x0 x1))
def q_are_places_1 (x0 : (List Int)) (x1 : PyData) : Prop := (((isaD "list" x1) = true → ((q_are_whole (x1))) ∧ ((p_are_whole (x1)) = true → ((x1 = PyData.list ((nsD x1).map PyData.int))) ∧ (q_is_rising ((nsD x1)))))) ∧ ((!((isaD "list" x1) && ((p_are_whole (x1)) && (p_is_rising ((nsD x1)))))) = false → (q_are_places_3 x0 x1))
def p_are_places (x0 : (List Int)) (x1 : PyData) : Bool := (p_are_places_1 x0 x1)
def q_are_places (x0 : (List Int)) (x1 : PyData) : Prop := (q_are_places_1 x0 x1)
def R_are_places (xs : List Da) (x : Da) : Prop := ∃ (x0 : (List Int)) (x1 : PyData), xs = [.py (((eL PyData.int) x0)), .py (x1)] ∧ q_are_places x0 x1 ∧ x = .py ((PyData.bool (p_are_places x0 x1)))
section
variable {P : Program} {w : World} {K : PySem.W.Frag} {mg : Str → Option Value} {base : Heap} {f C D : Addr} {fd : FuncData}
theorem oka_are_places (T : Tk K w mg C D) (F : FnP K "are_places" "are_places" s_are_places f fd) (c_are_whole : Gd P w K mg base "are_whole" ["values"] 1 (spPure C R_are_whole)) (c_is_rising : Gd P w K mg base "is_rising" ["numbers"] 1 (spPure C R_is_rising)) : FnOk P w K mg base CX0 2 f fd ["row", "value"] (spPure C R_are_places) := by
  refine okN F sc_are_places (fun vs H Q E h => ?_) (fun cdv A outer s H0 vs Q E hr h => ?_)
  · obtain ⟨G, xs, x, _, a, ⟨x0, x1, rfl, _⟩, _⟩ := h
    exact a.len
  · obtain ⟨G0, xs, x, eG, a, ⟨x0, x1, rfl, hq, rfl⟩, q⟩ := h
    obtain ⟨u0, u1, rfl, f0, f1⟩ := at_all2 a
    refine ⟨_, (pss_cons (ps_if (pt_not (PW.pt (pw_and (pt_val (pe_callB call_isi (by rfl) T.m_isinstance (by decide +kernel) (pa_cons (pv 1) (pa_cons (pe_bltn (v := .ty "list") (by rfl) T.m_list (by decide +kernel) rfl) pa_nil)))) (pw_and (pt_val (pe_callG c_are_whole (hr.mono (by decide)) (by rfl) (pa_cons (pv 1) pa_nil))) (pw_and1 (pt_val (pe_callG c_is_rising (hr.mono (by decide)) (by rfl) (pa_cons (pv 1) pa_nil)))))))) (pss_one (ps_ret pe_bl)) pss_nil)
      (pss_one (ps_ret (pe_or (pe_notT (pv 1)) (pe_one (pe_and (pe_cmpR op_ge (pe_ix ix_list (pv 1) pe_int (fun _ _ => rfl)) pe_int (nomark _)) (pe_one (pe_cmpR op_lt (pe_ix ix_list (pv 1) (pe_un un_neg pe_int) (fun _ _ => rfl)) (pe_callB call_len_seq (by rfl) T.m_len (by decide +kernel) (pa_cons (pv 0) pa_nil)) (nomark _))))))))), ?_⟩
    have S : Gs H0 G0 H0 G0 := Gs.refl eG
    have q : ∀ v H2 G2, Gs H0 G0 H2 G2 → At C G2 v (.py ((PyData.bool (if (!((isaD "list" x1) && ((p_are_whole (x1)) && (p_is_rising ((nsD x1)))))) = true then (p_are_places_2 ) else (p_are_places_3 x0 x1))))) → Q v H2 := q
    refine q_ifD (et_not (et_and (et_ofB (C := C) (ed_isi "list" (by simp) (ed_var (i := 1) rfl f1))) (fun z13 => (et_and (et_ofB (C := C) (ed_call (as_cons (ed_var (i := 1) rfl f1) as_nil) (ct_pure ⟨x1, rfl, ((((hq).1) z13).1), rfl⟩))) (fun z14 => (et_ofB (C := C) (ed_call (as_cons (EvD.is (ed_var (i := 1) rfl f1) (congrArg Da.py ((((((hq).1) z13).2) z14).1))) as_nil) (ct_pure ⟨(nsD x1), rfl, ((((((hq).1) z13).2) z14).2), rfl⟩)))))))) S.gh (fun hb H1 s1 => ?_) (fun hb H1 s1 => ?_)
    · rw [if_pos hb] at q
      have S := S.trans s1
      exact s_retD (C := C) ed_b S.gh fun v H1 G1 s1 a => q v H1 G1 (S.trans s1) a
    · rw [if_neg (by rw [hb]; decide)] at q
      replace hq : (q_are_places_3 x0 x1) := (hq).2 hb
      have S := S.trans s1
      exact s_retD (C := C) (ed_or (ed_notL (EvD.is (ed_var (i := 1) rfl f1) (congrArg Da.py (((hq).1).trans (eId_map _).symm)))) (fun z11 => (ed_and (ed_ge (EvD.is (ed_ix (EvD.is (ed_var (i := 1) rfl f1) (congrArg Da.py (((((((hq).2) z11).1).1).1).trans (eId_map _).symm))) ed_i ((((((hq).2) z11).1).1).2)) (congrArg Da.py (((((hq).2) z11).1).2))) ed_i) (fun z12 => (ed_lt (EvD.is (ed_ix (EvD.is (ed_var (i := 1) rfl f1) (congrArg Da.py ((((((((hq).2) z11).2) z12).1).1).trans (eId_map _).symm))) (ed_neg ed_i) (((((((hq).2) z11).2) z12).1).2)) (congrArg Da.py ((((((hq).2) z11).2) z12).2))) (ed_lenL (ed_var (i := 0) rfl f0))))))) S.gh fun v H1 G1 s1 a => q v H1 G1 (S.trans s1) a
end
section
variable {K : PySem.W.Frag} {C : Addr}
theorem ct_madeT {g : Nm → Nat → List Int → List Int → List Int} {k : Nm} {n : Nat} {l : List Int} (c0 : okK k n = true) (c1 : ∀ s ∈ l, okS k n s) : CtN C (spMadeT K g) [.py (toldD k n), .py (eL PyData.int l)] ((g k n (startL k n) l).map PyData.int) := fun vs G a H1 e Q q E => by
  obtain ⟨v0, v1, rfl, a0, a1⟩ := at_all2 a
  obtain ⟨t, rfl, h_t⟩ := at_told a0
  obtain ⟨r, rfl, h_r⟩ := at_ints a1
  exact ⟨_, _, _, _, _, rfl, st_of (e _ _ h_t), c0, sq_of (e _ _ h_r), c1, fun p H2 s2 np hp => q p _ H2 G (Gs.same e s2) np (fresh_back e np) hp (dpa_ints _)⟩
end
def p_law_start_2 (k0 : Nm) (n0 : Nat) (y__law_first1 : Int) : (List Int) := (rngI y__law_first1 (y__law_first1 + (n0 : Int)))
def q_law_start_2 (k0 : Nm) (n0 : Nat) (y__law_first1 : Int) : Prop := (((y__law_first1 + (n0 : Int)) ≤ 100000 ∧ -100000 ≤ (y__law_first1 + (n0 : Int))) ∧ y__law_first1 ≤ 100000 ∧ -100000 ≤ y__law_first1)
def p_law_start_1 (k0 : Nm) (n0 : Nat) : (List Int) := (p_law_start_2 k0 n0 (b2i (decide (k0 = Nm.mi))))
def q_law_start_1 (k0 : Nm) (n0 : Nat) : Prop := ((q_law_start_2 k0 n0 (b2i (decide (k0 = Nm.mi)))))
def p_law_start (k0 : Nm) (n0 : Nat) : (List Int) := (p_law_start_1 k0 n0)
def q_law_start (k0 : Nm) (n0 : Nat) : Prop := (q_law_start_1 k0 n0)
def R_law_start (xs : List Da) (ds : List PyData) : Prop := ∃ (k0 : Nm) (n0 : Nat), xs = [.py (toldD k0 n0)] ∧ q_law_start k0 n0 ∧ ds = (p_law_start k0 n0).map PyData.int
section
variable {P : Program} {w : World} {K : PySem.W.Frag} {mg : Str → Option Value} {base : Heap} {f C D : Addr} {fd : FuncData}
theorem oka_law_start (T : Tx K mg) (F : FnP K "_law_start" "_law_start" s__law_start f fd)  : FnOk P w K mg base CX0 1 f fd ["_law_pair"] (spPureN C R_law_start) := by
  refine okN F sc__law_start (fun vs H Q E h => ?_) (fun cdv A outer s H0 vs Q E hr h => ?_)
  · obtain ⟨G, xs, x, _, a, ⟨k0, n0, rfl, _⟩, _⟩ := h
    exact a.len
  · obtain ⟨G0, xs, x, eG, a, ⟨k0, n0, rfl, hq, rfl⟩, q⟩ := h
    obtain ⟨u0, rfl, f0⟩ := at_all1 a
    refine ⟨_, (pss_cons (ps_set (i := 1) sc__law_start.nd rfl (by first | exact Or.inl rfl | exact Or.inr rfl) (pe_callTy call_int1 (by rfl) T.m_int (by decide +kernel) (pa_cons (pe_cmpR op_eq (pe_ix ix_tup (pv 0) pe_int (fun _ _ => rfl)) pe_str (nomark _)) pa_nil)))
      (pss_one (ps_ret (pe_listRg rfl (by rfl) T.m_list (prg_2 (by rfl) T.m_range (pv 1) (pe_op op_add (pv 1) (pe_ix ix_tup (pv 0) pe_int (fun _ _ => rfl)))))))), ?_⟩
    have S : Gs H0 G0 H0 G0 := Gs.refl eG
    have q : ∀ p vs H2 G2, Gs H0 G0 H2 G2 → H0 p = none → G2 p = none → H2 p = some (.lst vs) → DqAll G2 vs (((p_law_start_2 k0 n0 (b2i (decide (k0 = Nm.mi))))).map PyData.int) → Q (.ref p) H2 := q
    refine q_asgD (C := C) (ed_intB (ed_eqM (ed_ix0 (ed_var (i := 0) rfl f0) ed_i) (ed_m Nm.mi))) S.gh fun v__law_first H1 G1 s1 f__law_first => ?_
    replace hq : (q_law_start_2 k0 n0 (b2i (decide (k0 = Nm.mi)))) := hq
    have f0 := At.mono s1.g f0
    have S := S.trans s1
    generalize hg_y__law_first1 : (b2i (decide (k0 = Nm.mi))) = y__law_first1 at hq q f__law_first
    clear hg_y__law_first1
    exact s_retN (C := C) (en_rg2 (ed_var (i := 1) rfl f__law_first) (ed_add (ed_var (i := 1) rfl f__law_first) (ed_ix1 (ed_var (i := 0) rfl f0) ed_i)) (hq)) S.gh fun p vs H1 G1 s1 h1 h2 h3 a => q p vs H1 G1 (S.trans s1) (fresh_back S.h h1) h2 h3 a
end
def p_law_is_part_2  : Bool := false
def p_law_is_part_4  : Bool := false
def p_law_is_part_6  : Bool := false
def p_law_is_part_7 (k0 : Nm) (n0 : Nat) (x1 : (List Int)) (x2 : (List Int)) (x3 : PyData) : Bool := (decide ((run k0 n0 (startL k0 n0) (((itemsD x3)).map (fun (x27 : PyData) => (getI x2 (intD x27))))) = x1))
def q_law_is_part_7 (k0 : Nm) (n0 : Nat) (x1 : (List Int)) (x2 : (List Int)) (x3 : PyData) : Prop := ((((x3 = PyData.list (itemsD x3))) ∧ (((itemsD x3)).length ≤ 100000) ∧ (∀ x27 ∈ (itemsD x3), (((x27 = PyData.int (intD x27))) ∧ (-((x2).length : Int) ≤ (intD x27) ∧ (intD x27) < ((x2).length : Int))))) ∧ (okK k0 n0 = true ∧ ∀ s ∈ (((itemsD x3)).map (fun (x27 : PyData) => (getI x2 (intD x27)))), okS k0 n0 s))
def p_law_is_part_5 (k0 : Nm) (n0 : Nat) (x1 : (List Int)) (x2 : (List Int)) (x3 : PyData) : Bool := (if ((!PyData.eqv ((eL eId) ((((itemsD x3)).filter (fun (x17 : PyData) => (!(decide ((0 : Int) ≤ (intD x17)) && decide ((intD x17) < ((x2).length : Int)))))).map (fun (x17 : PyData) => x17))) ((eL PyData.int) ([] : (List Int)))) || (!decide (((((rngI (1 : Int) (((itemsD x3)).length : Int))).filter (fun (x22 : Int) => (decide ((intD (getI (itemsD x3) x22)) ≤ (intD (getI (itemsD x3) (x22 - (1 : Int)))))))).map (fun (x22 : Int) => x22)) = ([] : (List Int))))) = true then (p_law_is_part_6 ) else (p_law_is_part_7 k0 n0 x1 x2 x3))
def q_law_is_part_5 (k0 : Nm) (n0 : Nat) (x1 : (List Int)) (x2 : (List Int)) (x3 : PyData) : Prop := (((((x3 = PyData.list (itemsD x3))) ∧ (((itemsD x3)).length ≤ 100000) ∧ (∀ x17 ∈ (itemsD x3), (((x17 = PyData.int (intD x17)))))) ∧ (SeqAt.shaped ((eL eId) ((((itemsD x3)).filter (fun (x17 : PyData) => (!(decide ((0 : Int) ≤ (intD x17)) && decide ((intD x17) < ((x2).length : Int)))))).map (fun (x17 : PyData) => x17))) = true ∧ SeqAt.shaped ((eL PyData.int) ([] : (List Int))) = true)) ∧ ((!PyData.eqv ((eL eId) ((((itemsD x3)).filter (fun (x17 : PyData) => (!(decide ((0 : Int) ≤ (intD x17)) && decide ((intD x17) < ((x2).length : Int)))))).map (fun (x17 : PyData) => x17))) ((eL PyData.int) ([] : (List Int)))) = false → ((((x3 = PyData.list (itemsD x3))) ∧ ((-100000 ≤ (((itemsD x3)).length : Int) ∧ (((itemsD x3)).length : Int) ≤ 100000) ∧ -100000 ≤ (1 : Int) ∧ (1 : Int) ≤ 100000)) ∧ (((rngI (1 : Int) (((itemsD x3)).length : Int))).length ≤ 100000) ∧ (∀ x22 ∈ (rngI (1 : Int) (((itemsD x3)).length : Int)), (((((x3 = PyData.list (itemsD x3))) ∧ (-(((itemsD x3)).length : Int) ≤ (x22 - (1 : Int)) ∧ (x22 - (1 : Int)) < (((itemsD x3)).length : Int))) ∧ ((getI (itemsD x3) (x22 - (1 : Int))) = PyData.int (intD (getI (itemsD x3) (x22 - (1 : Int)))))) ∧ ((((x3 = PyData.list (itemsD x3))) ∧ (-(((itemsD x3)).length : Int) ≤ x22 ∧ x22 < (((itemsD x3)).length : Int))) ∧ ((getI (itemsD x3) x22) = PyData.int (intD (getI (itemsD x3) x22))))))))) ∧ (((!PyData.eqv ((eL eId) ((((itemsD x3)).filter (fun (x17 : PyData) => (!(decide ((0 : Int) ≤ (intD x17)) && decide ((intD x17) < ((x2).length : Int)))))).map (fun (x17 : PyData) => x17))) ((eL PyData.int) ([] : (List Int)))) || (!decide (((((rngI (1 : Int) (((itemsD x3)).length : Int))).filter (fun (x22 : Int) => (decide ((intD (getI (itemsD x3) x22)) ≤ (intD (getI (itemsD x3) (x22 - (1 : Int)))))))).map (fun (x22 : Int) => x22)) = ([] : (List Int))))) = false → (q_law_is_part_7 k0 n0 x1 x2 x3))
def p_law_is_part_3 (k0 : Nm) (n0 : Nat) (x1 : (List Int)) (x2 : (List Int)) (x3 : PyData) : Bool := (if (!PyData.eqv ((eL eId) ((((itemsD x3)).filter (fun (x12 : PyData) => ((isaD "bool" x12) || (!(isaD "int" x12))))).map (fun (x12 : PyData) => x12))) ((eL PyData.int) ([] : (List Int)))) = true then (p_law_is_part_4 ) else (p_law_is_part_5 k0 n0 x1 x2 x3))
def q_law_is_part_3 (k0 : Nm) (n0 : Nat) (x1 : (List Int)) (x2 : (List Int)) (x3 : PyData) : Prop := ((((x3 = PyData.list (itemsD x3))) ∧ (((itemsD x3)).length ≤ 100000)) ∧ (SeqAt.shaped ((eL eId) ((((itemsD x3)).filter (fun (x12 : PyData) => ((isaD "bool" x12) || (!(isaD "int" x12))))).map (fun (x12 : PyData) => x12))) = true ∧ SeqAt.shaped ((eL PyData.int) ([] : (List Int))) = true)) ∧ ((!PyData.eqv ((eL eId) ((((itemsD x3)).filter (fun (x12 : PyData) => ((isaD "bool" x12) || (!(isaD "int" x12))))).map (fun (x12 : PyData) => x12))) ((eL PyData.int) ([] : (List Int)))) = false → (q_law_is_part_5 k0 n0 x1 x2 x3))
def p_law_is_part_1 (k0 : Nm) (n0 : Nat) (x1 : (List Int)) (x2 : (List Int)) (x3 : PyData) : Bool := (if (!(isaD "list" x3)) = true then (p_law_is_part_2 ) else (p_law_is_part_3 k0 n0 x1 x2 x3))
def q_law_is_part_1 (k0 : Nm) (n0 : Nat) (x1 : (List Int)) (x2 : (List Int)) (x3 : PyData) : Prop := ((!(isaD "list" x3)) = false → (q_law_is_part_3 k0 n0 x1 x2 x3))
def p_law_is_part (k0 : Nm) (n0 : Nat) (x1 : (List Int)) (x2 : (List Int)) (x3 : PyData) : Bool := (p_law_is_part_1 k0 n0 x1 x2 x3)
def q_law_is_part (k0 : Nm) (n0 : Nat) (x1 : (List Int)) (x2 : (List Int)) (x3 : PyData) : Prop := (q_law_is_part_1 k0 n0 x1 x2 x3)
def R_law_is_part (xs : List Da) (x : Da) : Prop := ∃ (k0 : Nm) (n0 : Nat) (x1 : (List Int)) (x2 : (List Int)) (x3 : PyData), xs = [.py (toldD k0 n0), .py (((eL PyData.int) x1)), .py (((eL PyData.int) x2)), .py (x3)] ∧ q_law_is_part k0 n0 x1 x2 x3 ∧ x = .py ((PyData.bool (p_law_is_part k0 n0 x1 x2 x3)))
section
variable {P : Program} {w : World} {K : PySem.W.Frag} {mg : Str → Option Value} {base : Heap} {f C D : Addr} {fd : FuncData}
theorem oka_law_is_part (T : Tx K mg) (F : FnP K "_law_is_part" "_law_is_part" s__law_is_part f fd) (c_law_made : Gd P w K mg base "_law_made" ["_law_pair", "_law_row_here"] 2 (spMadeT K run)) : FnOk P w K mg base CX0 3 f fd ["_law_pair", "_law_order_here", "_law_row_here", "_law_value"] (spPure C R_law_is_part) := by
  refine okN F sc__law_is_part (fun vs H Q E h => ?_) (fun cdv A outer s H0 vs Q E hr h => ?_)
  · obtain ⟨G, xs, x, _, a, ⟨k0, n0, x1, x2, x3, rfl, _⟩, _⟩ := h
    exact a.len
  · obtain ⟨G0, xs, x, eG, a, ⟨k0, n0, x1, x2, x3, rfl, hq, rfl⟩, q⟩ := h
    obtain ⟨u0, u1, u2, u3, rfl, f0, f1, f2, f3⟩ := at_all4 a
    refine ⟨_, (pss_cons (ps_if (pt_not (pt_val (pe_callB call_isi (by rfl) T.m_isinstance (by decide +kernel) (pa_cons (pv 3) (pa_cons (pe_bltn (v := .ty "list") (by rfl) T.m_list (by decide +kernel) rfl) pa_nil))))) (pss_one (ps_ret pe_bl)) pss_nil)
      (pss_cons (ps_if (pt_cmpR (op_neD hr.units) (pe_lc (own := [(("_law_at" : Str), 4)]) (g := (gName 4)) rfl sc__law_is_part.nd (pi_list (pv 3)) (blkOk_by (own := [(("_law_at" : Str), 4)]) (N := ["_law_pair", "_law_order_here", "_law_row_here", "_law_value", "_law_at"]) (sc := defScope s__law_is_part) (by decide +kernel)) (fun _ _ _ _ _ => (pg_name (i := 4) sc__law_is_part.nd rfl (Or.inl rfl))) (fun _ _ _ _ _ => pts_one (PW.pt (pw_or (pt_val (pe_callB (show CallR _ (.builtin "isinstance") (rIsi K) from call_isi) (by rfl) T.m_isinstance (by decide +kernel) (pa_cons (pv 4) (pa_cons (pe_bltn (v := .ty "bool") (by rfl) T.m_bool (by decide +kernel) rfl) pa_nil)))) (pw_or1 (pt_not (pt_val (pe_callB (show CallR _ (.builtin "isinstance") (rIsi K) from call_isi) (by rfl) T.m_isinstance (by decide +kernel) (pa_cons (pv 4) (pa_cons (pe_bltn (v := .ty "int") (by rfl) T.m_int (by decide +kernel) rfl) pa_nil))))))))) (fun _ _ _ _ _ => (pv 4))) (pe_lst pa_nil) (nomark _)) (pss_one (ps_ret pe_bl)) pss_nil)
      (pss_cons (ps_if (PW.pt (pw_or (pt_cmpR (op_neD hr.units) (pe_lc (own := [(("_law_at" : Str), 4)]) (g := (gName 4)) rfl sc__law_is_part.nd (pi_list (pv 3)) (blkOk_by (own := [(("_law_at" : Str), 4)]) (N := ["_law_pair", "_law_order_here", "_law_row_here", "_law_value", "_law_at"]) (sc := defScope s__law_is_part) (by decide +kernel)) (fun _ _ _ _ _ => (pg_name (i := 4) sc__law_is_part.nd rfl (Or.inl rfl))) (fun _ _ _ _ _ => pts_one (pt_not (pt_chain op_le op_lt pe_int (pv 4) (pe_callB (show CallR _ (.builtin "len") (rLenK K) from call_len_seq) (by rfl) T.m_len (by decide +kernel) (pa_cons (pv 2) pa_nil))))) (fun _ _ _ _ _ => (pv 4))) (pe_lst pa_nil) (nomark _)) (pw_or1 (pt_cmpR (op_neD hr.units) (pe_lc (own := [(("_law_at" : Str), 4)]) (g := (gName 4)) rfl sc__law_is_part.nd (pi_range2 (by rfl) T.m_range (pa_cons pe_int (pa_cons (pe_callB (show CallR _ (.builtin "len") (rLenK K) from call_len_seq) (by rfl) T.m_len (by decide +kernel) (pa_cons (pv 3) pa_nil)) pa_nil))) (blkOk_by (own := [(("_law_at" : Str), 4)]) (N := ["_law_pair", "_law_order_here", "_law_row_here", "_law_value", "_law_at"]) (sc := defScope s__law_is_part) (by decide +kernel)) (fun _ _ _ _ _ => (pg_name (i := 4) sc__law_is_part.nd rfl (Or.inl rfl))) (fun _ _ _ _ _ => pts_one (pt_cmpR op_ge (pe_ix (show IxR _ (rIxL K) from ix_list) (pv 3) (pe_op op_sub (pv 4) pe_int) (fun _ _ => rfl)) (pe_ix (show IxR _ (rIxL K) from ix_list) (pv 3) (pv 4) (fun _ _ => rfl)) (nomark _))) (fun _ _ _ _ _ => (pv 4))) (pe_lst pa_nil) (nomark _))))) (pss_one (ps_ret pe_bl)) pss_nil)
      (pss_one (ps_ret (pe_cmpR (op_eqD hr.units) (pe_callG c_law_made (hr.mono (by decide)) (by rfl) (pa_cons (pv 0) (pa_cons (pe_lc (own := [(("_law_at" : Str), 4)]) (g := (gName 4)) (tt := tYes) rfl sc__law_is_part.nd (pi_list (pv 3)) (blkOk_by (own := [(("_law_at" : Str), 4)]) (N := ["_law_pair", "_law_order_here", "_law_row_here", "_law_value", "_law_at"]) (sc := defScope s__law_is_part) (by decide +kernel)) (fun _ _ _ _ _ => (pg_name (i := 4) sc__law_is_part.nd rfl (Or.inl rfl))) (fun _ _ _ _ _ => pts_nil) (fun _ _ _ _ _ => (pe_ix (show IxR _ (rIxL K) from ix_list) (pv 2) (pv 4) (fun _ _ => rfl)))) pa_nil))) (pv 1) (nomark _))))))), ?_⟩
    have S : Gs H0 G0 H0 G0 := Gs.refl eG
    have q : ∀ v H2 G2, Gs H0 G0 H2 G2 → At C G2 v (.py ((PyData.bool (if (!(isaD "list" x3)) = true then (p_law_is_part_2 ) else (p_law_is_part_3 k0 n0 x1 x2 x3))))) → Q v H2 := q
    refine q_ifD (et_not (et_ofB (C := C) (ed_isi "list" (by simp) (ed_var (i := 3) rfl f3)))) S.gh (fun hb H1 s1 => ?_) (fun hb H1 s1 => ?_)
    · rw [if_pos hb] at q
      have S := S.trans s1
      exact s_retD (C := C) ed_b S.gh fun v H1 G1 s1 a => q v H1 G1 (S.trans s1) a
    · rw [if_neg (by rw [hb]; decide)] at q
      replace hq : (q_law_is_part_3 k0 n0 x1 x2 x3) := hq hb
      have S := S.trans s1
      have q : ∀ v H2 G2, Gs H0 G0 H2 G2 → At C G2 v (.py ((PyData.bool (if (!PyData.eqv ((eL eId) ((((itemsD x3)).filter (fun (x12 : PyData) => ((isaD "bool" x12) || (!(isaD "int" x12))))).map (fun (x12 : PyData) => x12))) ((eL PyData.int) ([] : (List Int)))) = true then (p_law_is_part_4 ) else (p_law_is_part_5 k0 n0 x1 x2 x3))))) → Q v H2 := q
      refine q_ifD (et_of (C := C) (ed_neD (EvN.d (en_lc K (e := eId) (e' := eId) (fun (x12 : PyData) => ((isaD "bool" x12) || (!(isaD "int" x12)))) (fun (x12 : PyData) => x12) (ei_list (C := C) (EvD.is (ed_var (i := 3) rfl f3) (congrArg Da.py (((((hq).1).1).1).trans (eId_map _).symm)))) ((((hq).1).1).2) (fun _ => rfl) (fun x12 m13 v15 Ge11 e11 a14 => (et_or (et_ofB (C := C) (ed_isi "bool" (by simp) (ed_var (i := 4) rfl a14))) (fun z35 => (et_not (et_ofB (C := C) (ed_isi "int" (by simp) (ed_var (i := 4) rfl a14))))))) (fun x12 m13 v15 Ge11 e11 a14 z34 => (ed_var (i := 4) rfl a14)))) (EvN.d (en_lst (ds := ([] : (List Int)).map PyData.int) as_nil (by decide))) (((hq).1).2).1 (((hq).1).2).2)) S.gh (fun hb H1 s1 => ?_) (fun hb H1 s1 => ?_)
      · rw [if_pos hb] at q
        have S := S.trans s1
        exact s_retD (C := C) ed_b S.gh fun v H1 G1 s1 a => q v H1 G1 (S.trans s1) a
      · rw [if_neg (by rw [hb]; decide)] at q
        replace hq : (q_law_is_part_5 k0 n0 x1 x2 x3) := (hq).2 hb
        have S := S.trans s1
        have q : ∀ v H2 G2, Gs H0 G0 H2 G2 → At C G2 v (.py ((PyData.bool (if ((!PyData.eqv ((eL eId) ((((itemsD x3)).filter (fun (x17 : PyData) => (!(decide ((0 : Int) ≤ (intD x17)) && decide ((intD x17) < ((x2).length : Int)))))).map (fun (x17 : PyData) => x17))) ((eL PyData.int) ([] : (List Int)))) || (!decide (((((rngI (1 : Int) (((itemsD x3)).length : Int))).filter (fun (x22 : Int) => (decide ((intD (getI (itemsD x3) x22)) ≤ (intD (getI (itemsD x3) (x22 - (1 : Int)))))))).map (fun (x22 : Int) => x22)) = ([] : (List Int))))) = true then (p_law_is_part_6 ) else (p_law_is_part_7 k0 n0 x1 x2 x3))))) → Q v H2 := q
        refine q_ifD (et_or (et_of (C := C) (ed_neD (EvN.d (en_lc K (e := eId) (e' := eId) (fun (x17 : PyData) => (!(decide ((0 : Int) ≤ (intD x17)) && decide ((intD x17) < ((x2).length : Int))))) (fun (x17 : PyData) => x17) (ei_list (C := C) (EvD.is (ed_var (i := 3) rfl f3) (congrArg Da.py ((((((hq).1).1).1).1).trans (eId_map _).symm)))) (((((hq).1).1).1).2.1) (fun _ => rfl) (fun x17 m18 v20 Ge16 e16 a19 => (et_not (et_of (C := C) (ed_chain (p := (fun i j => decide (i ≤ j))) (p' := (fun i j => decide (i < j))) ed_i (EvD.is (ed_var (i := 4) rfl a19) (congrArg Da.py ((((((hq).1).1).1).2.2) x17 m18))) (fun z => (ed_lenL (ed_var (i := 2) rfl (At.mono e16 f2)))))))) (fun x17 m18 v20 Ge16 e16 a19 z32 => (ed_var (i := 4) rfl a19)))) (EvN.d (en_lst (ds := ([] : (List Int)).map PyData.int) as_nil (by decide))) ((((hq).1).1).2).1 ((((hq).1).1).2).2)) (fun z31 => (et_of (C := C) (ed_neE (Enc.list enc_int) (by decide) (EvN.d (en_lc K (e := PyData.int) (e' := PyData.int) (fun (x22 : Int) => (decide ((intD (getI (itemsD x3) x22)) ≤ (intD (getI (itemsD x3) (x22 - (1 : Int))))))) (fun (x22 : Int) => x22) (ei_rg2 (C := C) ed_i (ed_lenL (EvD.is (ed_var (i := 3) rfl f3) (congrArg Da.py (((((((hq).1).2) z31).1).1).trans (eId_map _).symm)))) ((((((hq).1).2) z31).1).2)) (((((hq).1).2) z31).2.1) (fun _ => rfl) (fun x22 m23 v25 Ge21 e21 a24 => (et_of (C := C) (ed_ge (EvD.is (ed_ix (EvD.is (ed_var (i := 3) rfl (At.mono e21 f3)) (congrArg Da.py ((((((((((hq).1).2) z31).2.2) x22 m23).1).1).1).trans (eId_map _).symm))) (ed_sub (ed_var (i := 4) rfl a24) ed_i) (((((((((hq).1).2) z31).2.2) x22 m23).1).1).2)) (congrArg Da.py ((((((((hq).1).2) z31).2.2) x22 m23).1).2))) (EvD.is (ed_ix (EvD.is (ed_var (i := 3) rfl (At.mono e21 f3)) (congrArg Da.py ((((((((((hq).1).2) z31).2.2) x22 m23).2).1).1).trans (eId_map _).symm))) (ed_var (i := 4) rfl a24) (((((((((hq).1).2) z31).2.2) x22 m23).2).1).2)) (congrArg Da.py ((((((((hq).1).2) z31).2.2) x22 m23).2).2)))))) (fun x22 m23 v25 Ge21 e21 a24 z33 => (ed_var (i := 4) rfl a24)))) (EvN.d (en_lst (ds := ([] : (List Int)).map PyData.int) as_nil (by decide))))))) S.gh (fun hb H1 s1 => ?_) (fun hb H1 s1 => ?_)
        · rw [if_pos hb] at q
          have S := S.trans s1
          exact s_retD (C := C) ed_b S.gh fun v H1 G1 s1 a => q v H1 G1 (S.trans s1) a
        · rw [if_neg (by rw [hb]; decide)] at q
          replace hq : (q_law_is_part_7 k0 n0 x1 x2 x3) := (hq).2 hb
          have S := S.trans s1
          exact s_retD (C := C) (ed_eqE (Enc.list enc_int) (by decide) (EvN.d (en_call (as_cons (ed_var (i := 0) rfl f0) (as_cons (EvN.d (en_lcA K (e := eId) (e' := PyData.int) (fun (x27 : PyData) => (getI x2 (intD x27))) (ei_list (C := C) (EvD.is (ed_var (i := 3) rfl f3) (congrArg Da.py ((((hq).1).1).trans (eId_map _).symm)))) (((hq).1).2.1) (fun _ => rfl) (fun x27 m28 v30 Ge26 e26 a29 => (ed_ix (ed_var (i := 2) rfl (At.mono e26 f2)) (EvD.is (ed_var (i := 4) rfl a29) (congrArg Da.py (((((hq).1).2.2) x27 m28).1))) (((((hq).1).2.2) x27 m28).2))))) as_nil)) (ct_madeT (((hq).2)).1 (((hq).2)).2))) (ed_var (i := 1) rfl f1)) S.gh fun v H1 G1 s1 a => q v H1 G1 (S.trans s1) a
end

section
variable {K : PySem.W.Frag} {C : Addr} {k : Nm} {n : Nat} {ws us l : List Int}
/-- what is asked of a kind, an order and a row -/
structure PartQ (k : Nm) (n : Nat) (ws l : List Int) : Prop where
  ok : okK k n = true
  f : Form k n ws
  c : crP k n ws ≤ 60
  st : ∀ s ∈ l, okS k n s
  len : l.length ≤ 100
/-- what part answers -/
noncomputable def partD (k : Nm) (n : Nat) (ws l : List Int) : PyData := @ite _ (downs k n ws l.reverse = startL k n) (Classical.propDecidable _) (eL PyData.int (plcD k n ws l l.length).reverse) .none
theorem partD_yes (h : downs k n ws l.reverse = startL k n) : partD k n ws l = eL PyData.int (plcD k n ws l l.length).reverse := if_pos h
theorem partD_no (h : ¬ downs k n ws l.reverse = startL k n) : partD k n ws l = .none := if_neg h
theorem ct_part (h : PartQ k n ws l) : Ct C (spPart K C) [.kd k n, .py (eL PyData.int ws), .py (eL PyData.int l)] (.py (partD k n ws l)) := fun vs G a H1 e Q q E => by
  obtain ⟨v0, v1, v2, rfl, a0, a1, a2⟩ := at_all3 a
  obtain ⟨p, rfl, dx, hp⟩ := a0
  obtain ⟨o, rfl, ho⟩ := at_ints a1
  obtain ⟨r, rfl, hr⟩ := at_ints a2
  refine ⟨p, o, r, k, n, ws, l, rfl, ⟨⟨dx, e _ _ hp⟩, sq_of (e _ _ ho), h.f.1, h.ok⟩, e _ _ ho, h.f, h.c, ⟨⟨dx, e _ _ hp⟩, h.ok, sq_of (e _ _ hr), h.len, h.st⟩, fun v H2 s2 e1 e2 => ?_⟩
  by_cases z : downs k n ws l.reverse = startL k n
  · obtain ⟨q1, rfl, nq, hq⟩ := e1 z
    rw [partD_yes z] at q
    have hg : G q1 = none := fresh_back e nq
    have gs : Gs H1 G H2 (L2.upd G q1 (.lst ((plcD k n ws l l.length).reverse.map V.int))) := ⟨s2, Ex.new hg, fun b u hb => by
      by_cases y : b = q1
      · subst y
        rw [upd_same] at hb
        rw [← hb]
        exact hq
      · rw [upd_ne y] at hb
        exact s2 _ _ (e _ _ hb), fun b z1 z2 => by
      by_cases y : b = q1
      · subst y
        exact absurd nq z1
      · rw [upd_ne y]
        exact z2⟩
    exact q _ H2 _ gs (.lst upd_same (dpa_ints _))
  · rw [e2 z]
    rw [partD_no z] at q
    exact q _ H2 G (Gs.same e s2) .non
theorem ct_partN (h : PartQ k n ws l) (z : downs k n ws l.reverse = startL k n) : CtN C (spPart K C) [.kd k n, .py (eL PyData.int ws), .py (eL PyData.int l)] ((plcD k n ws l l.length).reverse.map PyData.int) := fun vs G a H1 e Q q E => by
  obtain ⟨v0, v1, v2, rfl, a0, a1, a2⟩ := at_all3 a
  obtain ⟨p, rfl, dx, hp⟩ := a0
  obtain ⟨o, rfl, ho⟩ := at_ints a1
  obtain ⟨r, rfl, hr⟩ := at_ints a2
  refine ⟨p, o, r, k, n, ws, l, rfl, ⟨⟨dx, e _ _ hp⟩, sq_of (e _ _ ho), h.f.1, h.ok⟩, e _ _ ho, h.f, h.c, ⟨⟨dx, e _ _ hp⟩, h.ok, sq_of (e _ _ hr), h.len, h.st⟩, fun v H2 s2 e1 e2 => ?_⟩
  obtain ⟨q1, rfl, nq, hq⟩ := e1 z
  exact q _ _ H2 G (Gs.same e s2) nq (fresh_back e nq) hq (dpa_ints _)
/-- whether one order lies beneath another -/
noncomputable def benB (k : Nm) (n : Nat) (ws us : List Int) : Bool := @decide (Beneath k n ws us) (Classical.propDecidable _)
theorem benB_iff : benB k n ws us = true ↔ Beneath k n ws us := @decide_eq_true_iff _ (Classical.propDecidable _)
structure BenQ (k : Nm) (n : Nat) (ws us : List Int) : Prop where
  ok : okK k n = true
  f : Form k n ws
  c : crP k n ws ≤ 60
  g : Form k n us
  d : crP k n us ≤ 60
theorem ct_isBen (h : BenQ k n ws us) : Ct C (spIsBeneath K C) [.kd k n, .py (eL PyData.int ws), .py (eL PyData.int us)] (.py (.bool (benB k n ws us))) := fun vs G a H1 e Q q E => by
  obtain ⟨v0, v1, v2, rfl, a0, a1, a2⟩ := at_all3 a
  obtain ⟨p, rfl, dx, hp⟩ := a0
  obtain ⟨o, rfl, ho⟩ := at_ints a1
  obtain ⟨r, rfl, hr⟩ := at_ints a2
  refine ⟨p, o, r, k, n, ws, us, rfl, ⟨⟨dx, e _ _ hp⟩, sq_of (e _ _ ho), h.f.1, h.ok⟩, e _ _ ho, sq_of (e _ _ hr), h.f, h.c, h.g, h.d, fun b H2 s2 hb => ?_⟩
  have eb : b = benB k n ws us := Bool.eq_iff_iff.mpr (hb.trans benB_iff.symm)
  subst eb
  exact q _ H2 G (Gs.same e s2) (.bl _)
theorem ct_ckO1 (h : okK k n = true ∧ Form k n ws ∧ crP k n ws ≤ 60) : Ct C (spCkOn K C) [.kd k n, .py (eL PyData.int ws)] (.py .none) := fun vs G a H1 e Q q E => by
  obtain ⟨v0, v1, rfl, a0, a1⟩ := at_all2 a
  obtain ⟨p, rfl, dx, hp⟩ := a0
  obtain ⟨o, rfl, ho⟩ := at_ints a1
  exact ⟨p, [o], k, n, [ws], rfl, (by simp), ⟨dx, e _ _ hp⟩, h.1, ⟨sq_of (e _ _ ho), trivial⟩, fun x hx => by rw [List.mem_singleton.mp hx]; exact h.2, fun H2 s2 => q _ H2 G (Gs.same e s2) .non⟩
theorem ct_ckRw (h : okK k n = true ∧ (∀ s ∈ l, okS k n s) ∧ l.length ≤ 100) : Ct C (spCkRw K C) [.kd k n, .py (eL PyData.int l)] (.py .none) := fun vs G a H1 e Q q E => by
  obtain ⟨v0, v1, rfl, a0, a1⟩ := at_all2 a
  obtain ⟨p, rfl, dx, hp⟩ := a0
  obtain ⟨o, rfl, ho⟩ := at_ints a1
  exact ⟨p, o, k, n, l, rfl, ⟨⟨dx, e _ _ hp⟩, h.1, sq_of (e _ _ ho), h.2.2, h.2.1⟩, fun H2 s2 => q _ H2 G (Gs.same e s2) .non⟩
end
section
variable {K : PySem.W.Frag} {C : Addr}
theorem ct_spMadeBy {k : Nm} {n : Nat} {l : List Int} (c0 : okK k n = true) (c1 : (∀ s ∈ l, okS k n s)) : CtN C (spMadeBy K C) [.kd k n, .py (eL PyData.int l)] (((run k n (startL k n) l)).map PyData.int) := fun vs G a H1 e Q q E => by
  obtain ⟨v0, v1, rfl, a0, a1⟩ := at_all2 a
  obtain ⟨p, rfl, _, h_p⟩ := a0
  obtain ⟨r, rfl, h_r⟩ := at_ints a1
  exact ⟨_, _, _, _, _, rfl, ⟨_, e _ _ h_p⟩, c0, sq_of (e _ _ h_r), c1, fun p H2 s2 np hp => q p _ H2 G (Gs.same e s2) np (fresh_back e np) hp (dpa_ints _)⟩
end
def p_is_part_3 (k0 : Nm) (n0 : Nat) (x1 : (List Int)) (x2 : (List Int)) (x3 : PyData) : Bool := ((p_are_places (x2) (x3)) && (decide (((run (k0) (n0) (startL (k0) (n0)) ((((itemsD x3)).map (fun (x12 : PyData) => (getI x2 (intD x12))))))) = x1)))
def q_is_part_3 (k0 : Nm) (n0 : Nat) (x1 : (List Int)) (x2 : (List Int)) (x3 : PyData) : Prop := ((q_are_places (x2) (x3))) ∧ ((p_are_places (x2) (x3)) = true → ((((x3 = PyData.list (itemsD x3))) ∧ (((itemsD x3)).length ≤ 100000) ∧ (∀ x12 ∈ (itemsD x3), (((x12 = PyData.int (intD x12))) ∧ (-((x2).length : Int) ≤ (intD x12) ∧ (intD x12) < ((x2).length : Int))))) ∧ (okK (k0) (n0) = true ∧ (∀ s ∈ ((((itemsD x3)).map (fun (x12 : PyData) => (getI x2 (intD x12))))), okS (k0) (n0) s))))
def p_is_part_2 (k0 : Nm) (n0 : Nat) (x1 : (List Int)) (x2 : (List Int)) (x3 : PyData) : Bool := (p_is_part_3 k0 n0 x1 x2 x3)
def q_is_part_2 (k0 : Nm) (n0 : Nat) (x1 : (List Int)) (x2 : (List Int)) (x3 : PyData) : Prop := ((okK k0 n0 = true ∧ (∀ s ∈ x2, okS k0 n0 s) ∧ (x2).length ≤ 100)) ∧ ((q_is_part_3 k0 n0 x1 x2 x3))
def p_is_part_1 (k0 : Nm) (n0 : Nat) (x1 : (List Int)) (x2 : (List Int)) (x3 : PyData) : Bool := (p_is_part_2 k0 n0 x1 x2 x3)
def q_is_part_1 (k0 : Nm) (n0 : Nat) (x1 : (List Int)) (x2 : (List Int)) (x3 : PyData) : Prop := ((okK k0 n0 = true ∧ Form k0 n0 x1 ∧ crP k0 n0 x1 ≤ 60)) ∧ ((q_is_part_2 k0 n0 x1 x2 x3))
def p_is_part (k0 : Nm) (n0 : Nat) (x1 : (List Int)) (x2 : (List Int)) (x3 : PyData) : Bool := (p_is_part_1 k0 n0 x1 x2 x3)
def q_is_part (k0 : Nm) (n0 : Nat) (x1 : (List Int)) (x2 : (List Int)) (x3 : PyData) : Prop := (q_is_part_1 k0 n0 x1 x2 x3)
def R_is_part (xs : List Da) (x : Da) : Prop := ∃ (k0 : Nm) (n0 : Nat) (x1 : (List Int)) (x2 : (List Int)) (x3 : PyData), xs = [.kd k0 n0, .py (((eL PyData.int) x1)), .py (((eL PyData.int) x2)), .py (x3)] ∧ q_is_part k0 n0 x1 x2 x3 ∧ x = .py ((PyData.bool (p_is_part k0 n0 x1 x2 x3)))
section
variable {P : Program} {w : World} {K : PySem.W.Frag} {mg : Str → Option Value} {base : Heap} {f C D : Addr} {fd : FuncData}
theorem oka_is_part (T : Tk K w mg C D) (F : FnP K "is_part" "is_part" s_is_part f fd) (c_are_places : Gd P w K mg base "are_places" ["row", "value"] 2 (spPure C R_are_places)) (c_check_orders : Rd P w K mg base "check_orders" 5 (spCkOn K C)) (c_check_rows : Rd P w K mg base "check_rows" 4 (spCkRw K C)) (c_made_by : Gd P w K mg base "made_by" ["kind", "row"] 5 (spMadeBy K C)) : FnOk P w K mg base CX0 6 f fd ["kind", "order", "row", "value"] (spPure C R_is_part) := by
  refine okN F sc_is_part (fun vs H Q E h => ?_) (fun cdv A outer s H0 vs Q E hr h => ?_)
  · obtain ⟨G, xs, x, _, a, ⟨k0, n0, x1, x2, x3, rfl, _⟩, _⟩ := h
    exact a.len
  · obtain ⟨G0, xs, x, eG, a, ⟨k0, n0, x1, x2, x3, rfl, hq, rfl⟩, q⟩ := h
    obtain ⟨u0, u1, u2, u3, rfl, f0, f1, f2, f3⟩ := at_all4 a
    refine ⟨_, (pss_cons (ps_expr (pe_callRG c_check_orders (hr.mono (by decide)) (by rfl) (pa_cons (pv 0) (pa_cons (pv 1) pa_nil))))
      (pss_cons (ps_expr (pe_callRG c_check_rows (hr.mono (by decide)) (by rfl) (pa_cons (pv 0) (pa_cons (pv 2) pa_nil))))
      (pss_one (ps_ret (pe_and (pe_callG c_are_places (hr.mono (by decide)) (by rfl) (pa_cons (pv 2) (pa_cons (pv 3) pa_nil))) (pe_one (pe_cmpR (op_eqD hr.units) (pe_callG c_made_by (hr.mono (by decide)) (by rfl) (pa_cons (pv 0) (pa_cons (pe_lc (own := [(("at" : Str), 4)]) (g := (gName 4)) (tt := tYes) rfl sc_is_part.nd (pi_list (pv 3)) (blkOk_by (own := [(("at" : Str), 4)]) (N := ["kind", "order", "row", "value", "at"]) (sc := defScope s_is_part) (by decide +kernel)) (fun _ _ _ _ _ => (pg_name (i := 4) sc_is_part.nd rfl (Or.inl rfl))) (fun _ _ _ _ _ => pts_nil) (fun _ _ _ _ _ => (pe_ix (show IxR _ (rIxL K) from ix_list) (pv 2) (pv 4) (fun _ _ => rfl)))) pa_nil))) (pv 1) (nomark _)))))))), ?_⟩
    have S : Gs H0 G0 H0 G0 := Gs.refl eG
    have q : ∀ v H2 G2, Gs H0 G0 H2 G2 → At C G2 v (.py ((PyData.bool (p_is_part_2 k0 n0 x1 x2 x3)))) → Q v H2 := q
    refine q_dropD (C := C) (ed_call (as_cons (ed_var (i := 0) rfl f0) (as_cons (ed_var (i := 1) rfl f1) as_nil)) (ct_ckO1 ((hq).1))) S.gh fun H1 G1 s1 => ?_
    replace hq : (q_is_part_2 k0 n0 x1 x2 x3) := (hq).2
    have f0 := At.mono s1.g f0
    have f1 := At.mono s1.g f1
    have f2 := At.mono s1.g f2
    have f3 := At.mono s1.g f3
    have S := S.trans s1
    have q : ∀ v H2 G2, Gs H0 G0 H2 G2 → At C G2 v (.py ((PyData.bool (p_is_part_3 k0 n0 x1 x2 x3)))) → Q v H2 := q
    refine q_dropD (C := C) (ed_call (as_cons (ed_var (i := 0) rfl f0) (as_cons (ed_var (i := 2) rfl f2) as_nil)) (ct_ckRw ((hq).1))) S.gh fun H1 G1 s1 => ?_
    replace hq : (q_is_part_3 k0 n0 x1 x2 x3) := (hq).2
    have f0 := At.mono s1.g f0
    have f1 := At.mono s1.g f1
    have f2 := At.mono s1.g f2
    have f3 := At.mono s1.g f3
    have S := S.trans s1
    exact s_retD (C := C) (ed_and (ed_call (as_cons (ed_var (i := 2) rfl f2) (as_cons (ed_var (i := 3) rfl f3) as_nil)) (ct_pure ⟨x2, x3, rfl, ((hq).1), rfl⟩)) (fun z16 => (ed_eqE (Enc.list enc_int) (by decide) (EvN.d (en_call (as_cons (ed_var (i := 0) rfl f0) (as_cons (EvN.d (en_lcA K (e := eId) (e' := PyData.int) (fun (x12 : PyData) => (getI x2 (intD x12))) (ei_list (C := C) (EvD.is (ed_var (i := 3) rfl f3) (congrArg Da.py ((((((hq).2) z16).1).1).trans (eId_map _).symm)))) (((((hq).2) z16).1).2.1) (fun _ => rfl) (fun x12 m13 v15 Ge11 e11 a14 => (ed_ix (ed_var (i := 2) rfl (At.mono e11 f2)) (EvD.is (ed_var (i := 4) rfl a14) (congrArg Da.py (((((((hq).2) z16).1).2.2) x12 m13).1))) (((((((hq).2) z16).1).2.2) x12 m13).2))))) as_nil)) (ct_spMadeBy (((((hq).2) z16).2)).1 (((((hq).2) z16).2)).2))) (ed_var (i := 1) rfl f1)))) S.gh fun v H1 G1 s1 a => q v H1 G1 (S.trans s1) a
end
end Sv

/-! Small data: shown shortly, compared, one in another. By the verifier. -/
namespace Sv
open PySem PySem.Spec PyProof.Rows L2 Evl
structure Tn (d : PyData) : Prop where
  b : PyData.leavesShort 50 d = true
  w : PyData.weight d ≤ 200
  s : PyData.showable d = true
  h : PyData.hasDict d = false
  l : PyData.canLay0 d = true
  p : PyData.depth d ≤ 1
theorem tn_int {i : Int} (h : i.natAbs < 10 ^ 40) : Tn (.int i) := by
  have hlog : i.natAbs.log2 < 140 := by
    by_cases z : i.natAbs = 0
    · rw [z]; decide
    · exact (Nat.log2_lt z).mpr (by omega)
  refine ⟨?_, ?_, ?_, rfl, rfl, by simp [PyData.depth]⟩
  · have e := int_text_length_le10 (k := 40) (by decide) h
    simp only [PyData.leavesShort, decide_eq_true_eq]
    show (Str.ofString (toString i)).length ≤ 50
    rw [PySem.ofString_length]
    omega
  · simp only [PyData.weight]
    split <;> omega
  · simp only [PyData.showable, decide_eq_true_eq]
    omega
theorem tn_bool (b : Bool) : Tn (.bool b) := ⟨rfl, by simp [PyData.weight], rfl, rfl, rfl, by simp [PyData.depth]⟩
theorem tn_none : Tn .none := ⟨rfl, by simp [PyData.weight], rfl, rfl, rfl, by simp [PyData.depth]⟩
theorem char_small (c : Char) : c.toNat < 0x110000 := by
  have := c.valid
  show c.val.toNat < 0x110000
  unfold UInt32.isValidChar Nat.isValidChar at this
  omega
theorem tn_text {s : String} (h : s.length ≤ 100) : Tn (.str (Str.ofString s)) := by
  have e : (Str.ofString s).cps.toList = s.toList.map Char.toNat := by rw [Str.ofString_eq_toList]
  refine ⟨?_, ?_, rfl, rfl, ?_, by simp [PyData.depth]⟩
  · simp only [PyData.leavesShort]
    rw [e, List.all_eq_true]
    intro c hc
    obtain ⟨x, _, rfl⟩ := List.mem_map.mp hc
    have := char_small x
    exact decide_eq_true (by omega)
  · have := PySem.ofString_length s
    simp only [PyData.weight]
    show (Str.ofString s).length ≤ 200
    omega
  · show PyData.strOk (Str.ofString s) = true
    unfold PyData.strOk
    rw [← Array.all_toList, e, List.all_eq_true]
    intro c hc
    obtain ⟨x, _, rfl⟩ := List.mem_map.mp hc
    exact decide_eq_true (char_small x)
theorem tn_all : ∀ xs : List PyData, (∀ x ∈ xs, Tn x) → PyData.leavesShortAll 50 xs = true ∧ PyData.weightAll xs ≤ 201 * xs.length ∧ PyData.showableAll xs = true ∧ PyData.hasDictAll xs = false ∧ PyData.canLayAll0 xs = true ∧ PyData.depthAll xs ≤ 1
  | [], _ => ⟨rfl, Nat.le_refl _, rfl, rfl, rfl, by simp [PyData.depthAll]⟩
  | x :: xs, h => by
    obtain ⟨a, b, c, d, e, f⟩ := tn_all xs fun y hy => h y (List.mem_cons_of_mem _ hy)
    have hx := h x List.mem_cons_self
    refine ⟨?_, ?_, ?_, ?_, ?_, ?_⟩
    · simp only [PyData.leavesShortAll, hx.b, a]; rfl
    · have := hx.w
      simp only [PyData.weightAll, List.length_cons]
      omega
    · simp only [PyData.showableAll, hx.s, c]; rfl
    · simp only [PyData.hasDictAll, hx.h, d]; rfl
    · show (PyData.canLay0 x && PyData.canLayAll0 xs) = true
      rw [hx.l, e]; rfl
    · have := hx.p
      show max (PyData.depth x) (PyData.depthAll xs) ≤ 1
      omega
theorem shown_fits50 {d : PyData} (hl : d.leavesShort 50 = true) (hw : d.weight ≤ 20000) : d.shown.length ≤ sizeLine := by
  have h := PyData.shown_le 50 (by decide) d hl
  have h2 : (50 + 2) * d.weight ≤ 52 * 20000 := Nat.mul_le_mul (by omega) hw
  rw [sizeLine_eq]
  omega
theorem showy_list {xs : List PyData} (h : ∀ x ∈ xs, Tn x) (hl : xs.length ≤ 60) : Showy (.list xs) := by
  obtain ⟨a, b, c, d, e, f⟩ := tn_all xs h
  refine ⟨by simpa only [PyData.showable] using c, .inl (by simpa only [PyData.hasDict] using d), by simp only [PyData.depth]; omega, shown_fits50 (by simpa only [PyData.leavesShort] using a) (by simp only [PyData.weight]; omega)⟩
theorem showy_tuple {xs : List PyData} (h : ∀ x ∈ xs, Tn x) (hl : xs.length ≤ 60) : Showy (.tuple xs) := by
  obtain ⟨a, b, c, d, e, f⟩ := tn_all xs h
  refine ⟨by simpa only [PyData.showable] using c, .inl (by simpa only [PyData.hasDict] using d), by simp only [PyData.depth]; omega, shown_fits50 (by simpa only [PyData.leavesShort] using a) (by simp only [PyData.weight]; omega)⟩
theorem Tn.showy {d : PyData} (h : Tn d) : Showy d := ⟨h.s, .inl h.h, Nat.le_trans h.p (by decide), shown_fits50 h.b (Nat.le_trans h.w (by decide))⟩
theorem showy_dict : Showy (.dict []) := ⟨rfl, .inr rfl, by simp [PyData.depth, PyData.depthKv], by decide +kernel⟩
theorem tn_ints {xs : List Int} (h : ∀ x ∈ xs, x.natAbs < 10 ^ 40) : ∀ d ∈ xs.map PyData.int, Tn d := fun d hd => by
  obtain ⟨x, hx, rfl⟩ := List.mem_map.mp hd
  exact tn_int (h x hx)
/-- a list of one level within a list -/
theorem tn_list {xs : List PyData} (h : ∀ x ∈ xs, Tn x ∧ PyData.depth x = 0 ∧ PyData.weight x ≤ 10) (hl : xs.length ≤ 10) : Tn (.list xs) := by
  obtain ⟨a, b, c, d, e, f⟩ := tn_all xs fun x hx => (h x hx).1
  have hw : PyData.weightAll xs ≤ 11 * xs.length := by
    clear a b c d e f hl
    induction xs with
    | nil => exact Nat.le_refl _
    | cons x xs ih =>
      have := (h x List.mem_cons_self).2.2
      have := ih fun y hy => h y (List.mem_cons_of_mem _ hy)
      simp only [PyData.weightAll, List.length_cons]
      omega
  have hp : PyData.depthAll xs = 0 := by
    clear a b c d e f hl hw
    induction xs with
    | nil => simp [PyData.depthAll]
    | cons x xs ih =>
      have h1 := (h x List.mem_cons_self).2.1
      have h2 := ih fun y hy => h y (List.mem_cons_of_mem _ hy)
      show max (PyData.depth x) (PyData.depthAll xs) = 0
      omega
  exact ⟨by simpa only [PyData.leavesShort] using a, by simp only [PyData.weight]; omega, by simpa only [PyData.showable] using c, by simpa only [PyData.hasDict] using d, e, by simp only [PyData.depth, hp]; omega⟩
end Sv

namespace Sv
open PySem PySem.Spec PyProof.Rows L2 Evl
theorem cutL_le {α : Type} (ws : List α) (lo hi : Option Int) : (cutL ws lo hi).length ≤ ws.length := by
  unfold cutL
  rw [List.length_take, List.length_drop]
  omega
theorem cutL_mem {α : Type} {ws : List α} {lo hi : Option Int} {x : α} (h : x ∈ cutL ws lo hi) : x ∈ ws := List.mem_of_mem_drop (List.mem_of_mem_take h)
theorem enumL_mem {α : Type} {ws : List α} {x : Int × α} (h : x ∈ enumL ws) : (0 ≤ x.1 ∧ x.1 < ws.length) ∧ x.2 ∈ ws := by
  obtain ⟨i, hi, e⟩ := List.mem_iff_getElem.mp h
  rw [enumL_len] at hi
  have e2 := enumL_get (List.getElem?_eq_getElem hi)
  rw [List.getElem?_eq_getElem (by rw [enumL_len]; exact hi), e] at e2
  cases e2
  exact ⟨⟨by show (0 : Int) ≤ (i : Int); omega, by show (i : Int) < _; omega⟩, List.getElem_mem hi⟩
theorem getI_mem {α : Type} [Inhabited α] {ws : List α} {i : Int} (h : -(ws.length : Int) ≤ i ∧ i < ws.length) : getI ws i ∈ ws := by
  unfold getI
  have hl : (if 0 ≤ i then i.toNat else ((ws.length : Int) + i).toNat) < ws.length := by split <;> omega
  rw [List.getD_eq_getElem?_getD, List.getElem?_eq_getElem hl]
  exact List.getElem_mem hl
theorem rep_one {α : Type} (n : Nat) (x : α) : (List.replicate n [x]).flatten = List.replicate n x := by
  induction n with
  | zero => rfl
  | succ n ih => rw [List.replicate_succ, List.flatten_cons, ih, List.replicate_succ]; rfl
/-- what is asked of a bent value -/
structure BentD (d : PyData) : Prop where
  sh : Showy d
  it : ∀ xs, d = .list xs → xs.length ≤ 1000 ∧ ∀ x ∈ xs, Tn x
def BentsP (ds : List PyData) : Prop := ds.length ≤ 40 ∧ ∀ d ∈ ds, BentD d
theorem bent_list {xs : List PyData} (h : ∀ x ∈ xs, Tn x) (hl : xs.length ≤ 60) : BentD (.list xs) := ⟨showy_list h hl, fun ys e => by
  cases e
  exact ⟨by omega, h⟩⟩
theorem bent_other {d : PyData} (h : Showy d) (n : ∀ xs, d ≠ .list xs) : BentD d := ⟨h, fun xs e => absurd e (n xs)⟩
theorem bent_ints {xs : List Int} (h : ∀ x ∈ xs, x.natAbs < 10 ^ 40) (hl : xs.length ≤ 60) : BentD (eL PyData.int xs) := bent_list (tn_ints h) (by rw [List.length_map]; exact hl)
/-- whole numbers that may be bent further -/
def Sml (B : Nat) (xs : List Int) : Prop := xs.length ≤ 20 ∧ ∀ x ∈ xs, x.natAbs < B
theorem Sml.bent {B : Nat} {xs : List Int} (h : Sml B xs) (hB : B ≤ 10 ^ 40) : BentD (eL PyData.int xs) := bent_ints (fun x hx => Nat.lt_of_lt_of_le (h.2 x hx) hB) (Nat.le_trans h.1 (by decide))
theorem Sml.cut {B : Nat} {xs : List Int} {lo hi : Option Int} (h : Sml B xs) : Sml B (cutL xs lo hi) := ⟨Nat.le_trans (cutL_le _ _ _) h.1, fun x hx => h.2 x (cutL_mem hx)⟩
theorem Sml.app {B : Nat} {xs ys : List Int} (h : ∀ x ∈ xs, x.natAbs < B) (h2 : ∀ x ∈ ys, x.natAbs < B) (hl : xs.length + ys.length ≤ 20) : Sml B (xs ++ ys) := ⟨by rw [List.length_append]; exact hl, fun x hx => (List.mem_append.mp hx).elim (h x) (h2 x)⟩
theorem Sml.map {B B' : Nat} {xs : List Int} {f : Int → Int} (h : Sml B xs) (hf : ∀ x, x.natAbs < B → (f x).natAbs < B') : Sml B' (xs.map f) := ⟨by rw [List.length_map]; exact h.1, fun x hx => by
  obtain ⟨y, hy, rfl⟩ := List.mem_map.mp hx
  exact hf y (h.2 y hy)⟩
theorem bents_nil : BentsP [] := ⟨by decide, fun _ h => by cases h⟩
theorem bents_cons {d : PyData} {ds : List PyData} (h : BentD d) (hs : ∀ x ∈ ds, BentD x) : ∀ x ∈ d :: ds, BentD x := fun x hx => (List.mem_cons.mp hx).elim (fun e => e ▸ h) (hs x)
theorem no_bents : ∀ x ∈ ([] : List PyData), BentD x := fun x h => by cases h
theorem bents_map {wss : List (List Int)} (h : ∀ w ∈ wss, BentD (eL PyData.int w)) : ∀ x ∈ wss.map (eL PyData.int), BentD x := fun x hx => by
  obtain ⟨w, hw, rfl⟩ := List.mem_map.mp hx
  exact h w hw
theorem app_all {P : PyData → Prop} {xs ys : List PyData} (h : ∀ x ∈ xs, P x) (h2 : ∀ x ∈ ys, P x) : ∀ x ∈ xs ++ ys, P x := fun x hx => (List.mem_append.mp hx).elim (h x) (h2 x)
theorem lists_cons {w : List Int} {wss : List (List Int)} (h : BentD (eL PyData.int w)) (hs : ∀ x ∈ wss, BentD (eL PyData.int x)) : ∀ x ∈ w :: wss, BentD (eL PyData.int x) := fun x hx => (List.mem_cons.mp hx).elim (fun e => e ▸ h) (hs x)
theorem log2_small {m : Nat} (h : m < 10 ^ 40) : m.log2 < 1920 := by
  by_cases z : m = 0
  · rw [z]; decide
  · have h2 : m.log2 < 140 := (Nat.log2_lt z).mpr (Nat.lt_of_lt_of_le h (by decide))
    omega
theorem mem_set_or {xs : List Int} {i : Nat} {a x : Int} (h : x ∈ xs.set i a) : x ∈ xs ∨ x = a := by
  obtain ⟨j, hj, e⟩ := List.mem_iff_getElem.mp h
  rw [List.getElem_set] at e
  split at e
  · exact .inr e.symm
  · exact .inl (e ▸ List.getElem_mem _)
theorem no_lists : ∀ x ∈ ([] : List (List Int)), BentD (eL PyData.int x) := fun x h => by cases h

section
variable {P : Program} {w : World} {K : PySem.W.Frag} {mg : Str → Option Value} {base : Heap} {f C D : Addr} {fd : FuncData}
def DmBent (xs : List Da) : Prop := ∃ (ws : List Int) (len : Nat), xs = [.py (eL PyData.int ws), .py (.int (len : Int))] ∧ ws.length ≤ 8 ∧ len ≤ 8 ∧ ∀ x ∈ ws, x.natAbs < 10 ^ 12
def RBent (_ : List Da) (x : Da) : Prop := ∃ ds, BentsP ds ∧ x = .py (eL eId ds)
theorem ok_bent (T : Tx K mg) (F : FnP K "_law_bent" "_law_bent" s__law_bent f fd) (c_law_random : Gd P w K mg base "_law_random" ["_law_generator_here", "_law_bound"] 2 spRandom) : FnOk P w K mg base CX0 3 f fd ["_law_generator_here", "_law_value", "_law_length"] (spDr C 4 DmBent RBent) := by
  refine okN F sc__law_bent (fun vs H Q E h => ?_) (fun cdv A outer s H0 vs Q E hr h => ?_)
  · obtain ⟨g, vs', G, xs, c, rfl, _, _, a, _, _, ⟨ws, len, rfl, _⟩, _⟩ := h
    show vs'.length + 1 = 3
    rw [a.len]
    rfl
  · obtain ⟨g, vs', G0, xs, c, rfl, eG, ng, a, gc, hc, ⟨ws, len, rfl, hl, hn, hB⟩, q⟩ := h
    obtain ⟨u1, u2, rfl, f_value, f_len⟩ := at_all2 a
    refine ⟨_, (pss_cons (ps_set (i := 3) sc__law_bent.nd rfl (by first | exact Or.inl rfl | exact Or.inr rfl) (pe_callG c_law_random (hr.mono (by decide)) (by rfl) (pa_cons (pv 0) (pa_cons (pe_op op_add (pe_callB call_len_seq (by rfl) T.m_len (by decide +kernel) (pa_cons (pv 1) pa_nil)) pe_int) pa_nil))))
      (pss_cons (ps_set (i := 4) sc__law_bent.nd rfl (by first | exact Or.inl rfl | exact Or.inr rfl) (pe_lst (pa_cons (pv 1) (pa_cons (pe_slice sl_list (pv 1) (po_some pe_int) po_none) (pa_cons (pe_revL (pv 1)) (pa_cons (pe_op op_catS (pv 1) (pv 1)) (pa_cons (pe_callTy call_tuple_of (by rfl) T.m_tuple (by decide +kernel) (pa_cons (pv 1) pa_nil)) (pa_cons pe_non (pa_cons pe_dnewT (pa_cons pe_str (pa_cons (pe_lc (own := [(("_law_item" : Str), 5)]) (g := (gName 5)) (tt := tYes) rfl sc__law_bent.nd (pi_list (pv 1)) (blkOk_by (own := [(("_law_item" : Str), 5)]) (N := ["_law_generator_here", "_law_value", "_law_length", "_law_at", "_law_found", "_law_item", "_law_odd"]) (sc := defScope s__law_bent) (by decide +kernel)) (fun _ _ _ _ _ => (pg_name (i := 5) sc__law_bent.nd rfl (Or.inl rfl))) (fun _ _ _ _ _ => pts_nil) (fun _ _ _ _ _ => (pe_op op_add (pv 5) pe_int))) pa_nil)))))))))))
      (pss_one (ps_ret (pe_op op_catS (pv 4) (pe_lc (own := [(("_law_odd" : Str), 6)]) (g := (gName 6)) (tt := tYes) rfl sc__law_bent.nd (pi_list (pe_lst (pa_cons pe_non (pa_cons pe_bl (pa_cons (pv 2) (pa_cons (pe_un un_neg pe_int) (pa_cons pe_str (pa_cons (pe_lst (pa_cons pe_int pa_nil)) (pa_cons pe_int (pa_cons (pe_op op_sub (pv 2) pe_int) pa_nil)))))))))) (blkOk_by (own := [(("_law_odd" : Str), 6)]) (N := ["_law_generator_here", "_law_value", "_law_length", "_law_at", "_law_found", "_law_item", "_law_odd"]) (sc := defScope s__law_bent) (by decide +kernel)) (fun _ _ _ _ _ => (pg_name (i := 6) sc__law_bent.nd rfl (Or.inl rfl))) (fun _ _ _ _ _ => pts_nil) (fun _ _ _ _ _ => (pe_op op_catS (pe_op op_catS (pe_slice (show SlR _ (rSlL K) from sl_list) (pv 1) po_none (po_some (pv 3))) (pe_lst (pa_cons (pv 6) pa_nil))) (pe_slice (show SlR _ (rSlL K) from sl_list) (pv 1) (po_some (pe_op op_add (pv 3) pe_int)) po_none))))))))), ?_⟩
    have eB : Ex G0 G0 := Ex.refl _
    have sx : SameX g H0 H0 := SameX.refl g H0
    have al : ∀ a, H0 a ≠ none → H0 a ≠ none := fun a h => h
    have nwB : ∀ a, H0 a ≠ none → G0 a = none → G0 a = none := fun a h n => n
    -- _law_at = _law_random(_law_generator_here, len(_law_value) + 1)
    have hh1 : 0 < (((ws).length : Int) + (1 : Int)) ∧ (((ws).length : Int) + (1 : Int)) < 2 ^ 29 := by omega
    refine q_asgR (C := C) (er_call (ev_var (i := 0) rfl) (as_cons (ed_add (ed_lenL (ed_var (i := 1) rfl f_value)) ed_i) as_nil) (ct_random hh1)) eG ng gc (by omega) fun x1 v__law_at H1 G1 hx s1 g2 f__law_at => ?_
    refine st_eq (σ' := [some (V.ref g), some u1, some u2, some v__law_at, none, none, none]) ?_ rfl
    obtain ⟨r1, hr1, rfl⟩ := hx
    have ng := s1.keepNone gc ng
    have gc := g2
    have nwB := fun a h n => s1.nw a (al a h) (nwB a h n)
    have al := fun a h => SameX.ne s1.x (al a h) gc.ne
    have sx : SameX g H0 _ := sx.trans s1.x
    have eB := eB.trans s1.g
    have eG := s1.gh
    have f_value := At.mono s1.g f_value
    have f_len := At.mono s1.g f_len
    -- _law_found = [_law_value, _law_value[1:], _law_value[::-1], _law_value + _law_value, tuple(_law_value), None, {}, '0', [_law_item + 1 for _law_item in
    have hh2 : (((ws).length + (ws).length ≤ 100000)) ∧ (((ws).length ≤ 100000)) := by exact ⟨by omega, by omega⟩
    refine q_asgD (C := C) (EvN.d (en_lst (ds := ([(((eL PyData.int) ws) : PyData), (((eL PyData.int) (cutL ws (some (1 : Int)) none)) : PyData), (((eL PyData.int) (ws).reverse) : PyData), (((eL PyData.int) (ws ++ ws)) : PyData), ((PyData.tuple ((ws).map PyData.int)) : PyData), (PyData.none : PyData), ((PyData.dict []) : PyData), ((PyData.str ("0" : Str)) : PyData), (((eL PyData.int) ((ws).map (fun (x3 : Int) => (x3 + (1 : Int))))) : PyData)] : List PyData).map eId) (as_cons (ed_var (i := 1) rfl f_value) (as_cons (EvN.d (en_slL (ed_var (i := 1) rfl f_value) (eo_int (C := C) ed_i) eo_none)) (as_cons (EvN.d (en_rev (e := PyData.int) (ed_var (i := 1) rfl f_value))) (as_cons (EvN.d (en_catL (ed_var (i := 1) rfl f_value) (ed_var (i := 1) rfl f_value) ((hh2).1))) (as_cons (ed_tupOf (ed_var (i := 1) rfl f_value)) (as_cons ed_n (as_cons ed_dnew (as_cons ed_s (as_cons (EvN.d (en_lcA K (e := PyData.int) (e' := PyData.int) (fun (x3 : Int) => (x3 + (1 : Int))) (ei_list (C := C) (ed_var (i := 1) rfl f_value)) ((hh2).2) (fun _ => rfl) (fun x3 m4 v6 Ge2 e2 a5 => (ed_add (ed_var (i := 5) rfl a5) ed_i)))) as_nil))))))))) (show 9 ≤ 100000 by decide))) eG fun v__law_found H1 G1 s1 f__law_found => ?_
    refine st_eq (σ' := [some (V.ref g), some u1, some u2, some v__law_at, some v__law_found, none, none]) ?_ rfl
    have ng := s1.nw _ gc.ne ng
    have gc := gc.ex s1.h
    have nwB := fun a h n => s1.nw a (al a h) (nwB a h n)
    have al := fun a h => Ex.ne s1.h (al a h)
    have sx : SameX g H0 _ := sx.trans (Same.x g s1.h)
    have eB := eB.trans s1.g
    have eG := s1.gh
    have f_value := At.mono s1.g f_value
    have f_len := At.mono s1.g f_len
    have f__law_at := At.mono s1.g f__law_at
    generalize hy1 : [(((eL PyData.int) ws) : PyData), (((eL PyData.int) (cutL ws (some (1 : Int)) none)) : PyData), (((eL PyData.int) (ws).reverse) : PyData), (((eL PyData.int) (ws ++ ws)) : PyData), ((PyData.tuple ((ws).map PyData.int)) : PyData), (PyData.none : PyData), ((PyData.dict []) : PyData), ((PyData.str ("0" : Str)) : PyData), (((eL PyData.int) ((ws).map (fun (x3 : Int) => (x3 + (1 : Int))))) : PyData)] = y_found_1 at f__law_found
    -- return _law_found + [_law_value[:_law_at] + [_law_odd] + _law_value[_law_at + 1:] for _law_odd in [None, True, _law_length, -1, '0', [0], 0, _law_leng
    have hh3 : ((([(PyData.none : PyData), ((PyData.bool true) : PyData), ((PyData.int (len : Int)) : PyData), ((PyData.int (-(1 : Int))) : PyData), ((PyData.str ("0" : Str)) : PyData), (((eL PyData.int) ([(0 : Int)] : List Int)) : PyData), ((PyData.int (0 : Int)) : PyData), ((PyData.int ((len : Int) - (1 : Int))) : PyData)]).length ≤ 100000) ∧ (∀ x8 ∈ [(PyData.none : PyData), ((PyData.bool true) : PyData), ((PyData.int (len : Int)) : PyData), ((PyData.int (-(1 : Int))) : PyData), ((PyData.str ("0" : Str)) : PyData), (((eL PyData.int) ([(0 : Int)] : List Int)) : PyData), ((PyData.int (0 : Int)) : PyData), ((PyData.int ((len : Int) - (1 : Int))) : PyData)], (((((((cutL ws none (some r1))).map PyData.int)).length + ([(x8 : PyData)]).length ≤ 100000)) ∧ ((((((cutL ws none (some r1))).map PyData.int) ++ [(x8 : PyData)])).length + ((((cutL ws (some (r1 + (1 : Int))) none)).map PyData.int)).length ≤ 100000)))) ∧ ((y_found_1).length + ((((([(PyData.none : PyData), ((PyData.bool true) : PyData), ((PyData.int (len : Int)) : PyData), ((PyData.int (-(1 : Int))) : PyData), ((PyData.str ("0" : Str)) : PyData), (((eL PyData.int) ([(0 : Int)] : List Int)) : PyData), ((PyData.int (0 : Int)) : PyData), ((PyData.int ((len : Int) - (1 : Int))) : PyData)]).map (fun (x8 : PyData) => (((((cutL ws none (some r1))).map PyData.int) ++ [(x8 : PyData)]) ++ (((cutL ws (some (r1 + (1 : Int))) none)).map PyData.int))))).map (eL eId))).length ≤ 100000) := by have c1 := cutL_le ws none (some r1); have c2 := cutL_le ws (some (r1 + 1)) none; have c3 := cutL_le ws (some 1) none; have c4 := cutL_le ws none (some 1); have ef : y_found_1.length = 9 := (by rw [← hy1]; rfl); exact ⟨⟨by simp, fun x8 _ => ⟨by simp only [List.length_append, List.length_cons, List.length_nil, List.length_map]; omega, by simp only [List.length_append, List.length_cons, List.length_nil, List.length_map]; omega⟩⟩, by simp only [List.length_append, List.length_cons, List.length_nil, List.length_map]; omega⟩
    have hret : BentsP ((y_found_1 ++ (((([(PyData.none : PyData), ((PyData.bool true) : PyData), ((PyData.int (len : Int)) : PyData), ((PyData.int (-(1 : Int))) : PyData), ((PyData.str ("0" : Str)) : PyData), (((eL PyData.int) ([(0 : Int)] : List Int)) : PyData), ((PyData.int (0 : Int)) : PyData), ((PyData.int ((len : Int) - (1 : Int))) : PyData)]).map (fun (x8 : PyData) => (((((cutL ws none (some r1))).map PyData.int) ++ [(x8 : PyData)]) ++ (((cutL ws (some (r1 + (1 : Int))) none)).map PyData.int))))).map (eL eId)))) := by 
      have big : ∀ x ∈ ws, x.natAbs < 10 ^ 40 := fun x hx => Nat.lt_of_lt_of_le (hB x hx) (by decide)
      have tw : ∀ x ∈ ws.map PyData.int, Tn x := tn_ints big
      have c1 := cutL_le ws none (some r1)
      have c2 := cutL_le ws (some (r1 + 1)) none
      have c3 := cutL_le ws (some 1) none
      refine ⟨?_, ?_⟩
      · rw [← hy1]
        simp only [List.length_append, List.length_map, List.length_cons, List.length_nil]
        decide
      rw [← hy1]
      refine app_all ?_ ?_
      · refine bents_cons (bent_ints big (by omega)) (bents_cons (bent_ints (fun x hx => big x (cutL_mem hx)) (by omega)) (bents_cons (bent_ints (fun x hx => big x (List.mem_reverse.mp hx)) (by rw [List.length_reverse]; omega)) (bents_cons (bent_ints (fun x hx => (List.mem_append.mp hx).elim (big x) (big x)) (by rw [List.length_append]; omega)) (bents_cons ?_ (bents_cons ?_ (bents_cons ?_ (bents_cons ?_ (bents_cons ?_ no_bents))))))))
        · exact bent_other (showy_tuple tw (by rw [List.length_map]; omega)) fun _ e => by cases e
        · exact bent_other tn_none.showy fun _ e => by cases e
        · exact bent_other showy_dict fun _ e => by cases e
        · exact bent_other (tn_text (s := "0") (by decide)).showy fun _ e => by cases e
        · refine bent_ints (fun x hx => ?_) (by rw [List.length_map]; omega)
          obtain ⟨y, hy, rfl⟩ := List.mem_map.mp hx
          have := hB y hy
          show (y + 1).natAbs < _
          have e12 : (10 : Nat) ^ 12 = 1000000000000 := by decide
          have e40 : (10 : Nat) ^ 13 ≤ 10 ^ 40 := by decide
          have e13 : (10 : Nat) ^ 13 = 10000000000000 := by decide
          omega
      · intro d hd
        obtain ⟨ys, hys, rfl⟩ := List.mem_map.mp hd
        obtain ⟨x8, h8, rfl⟩ := List.mem_map.mp hys
        have tx : Tn x8 := by
          simp only [List.mem_cons, List.not_mem_nil, or_false] at h8
          rcases h8 with rfl | rfl | rfl | rfl | rfl | rfl | rfl | rfl
          · exact tn_none
          · exact tn_bool _
          · exact tn_int (by omega)
          · exact tn_int (by decide)
          · exact tn_text (by decide)
          · exact tn_list (fun x hx => by rw [List.mem_singleton.mp hx]; exact ⟨tn_int (by decide), by simp [PyData.depth], by simp [PyData.weight]⟩) (by decide)
          · exact tn_int (by decide)
          · exact tn_int (by omega)
        refine (by rw [show eL eId ((cutL ws none (some r1)).map PyData.int ++ [x8] ++ (cutL ws (some (r1 + 1)) none).map PyData.int) = PyData.list ((cutL ws none (some r1)).map PyData.int ++ [x8] ++ (cutL ws (some (r1 + 1)) none).map PyData.int) from eId_map _]; refine bent_list (fun x hx => ?_) (by simp only [List.length_append, List.length_map, List.length_cons, List.length_nil]; omega); exact (List.mem_append.mp hx).elim (fun h => (List.mem_append.mp h).elim (fun h => tn_ints (fun x hx => big x (cutL_mem hx)) x h) (fun h => by rw [List.mem_singleton.mp h]; exact tx)) (fun h => tn_ints (fun x hx => big x (cutL_mem hx)) x h))
    refine s_retD (C := C) (EvN.d (en_catL (ed_var (i := 4) rfl f__law_found) (EvD.is (EvN.d (en_lcA K (e := eId) (e' := (eL eId)) (fun (x8 : PyData) => (((((cutL ws none (some r1))).map PyData.int) ++ [(x8 : PyData)]) ++ (((cutL ws (some (r1 + (1 : Int))) none)).map PyData.int))) (ei_list (C := C) (EvN.d (en_lst (ds := ([(PyData.none : PyData), ((PyData.bool true) : PyData), ((PyData.int (len : Int)) : PyData), ((PyData.int (-(1 : Int))) : PyData), ((PyData.str ("0" : Str)) : PyData), (((eL PyData.int) ([(0 : Int)] : List Int)) : PyData), ((PyData.int (0 : Int)) : PyData), ((PyData.int ((len : Int) - (1 : Int))) : PyData)] : List PyData).map eId) (as_cons ed_n (as_cons ed_b (as_cons (ed_var (i := 2) rfl f_len) (as_cons (ed_neg ed_i) (as_cons ed_s (as_cons (EvN.d (en_lst (ds := ([(0 : Int)] : List Int).map PyData.int) (as_cons ed_i as_nil) (show 1 ≤ 100000 by decide))) (as_cons ed_i (as_cons (ed_sub (ed_var (i := 2) rfl f_len) ed_i) as_nil)))))))) (show 8 ≤ 100000 by decide)))) (((hh3).1).1) (fun _ => rfl) (fun x8 m9 v11 Ge7 e7 a10 => (EvN.d (en_catL (EvN.d (en_catL (EvD.is (EvN.d (en_slL (ed_var (i := 1) rfl (At.mono e7 f_value)) eo_none (eo_int (C := C) (ed_var (i := 3) rfl (At.mono e7 f__law_at))))) (congrArg Da.py (eId_map _).symm)) (EvN.d (en_lst (ds := ([(x8 : PyData)] : List PyData).map eId) (as_cons (ed_var (i := 6) rfl a10) as_nil) (show 1 ≤ 100000 by decide))) (((((hh3).1).2) x8 m9).1))) (EvD.is (EvN.d (en_slL (ed_var (i := 1) rfl (At.mono e7 f_value)) (eo_int (C := C) (ed_add (ed_var (i := 3) rfl (At.mono e7 f__law_at)) ed_i)) eo_none)) (congrArg Da.py (eId_map _).symm)) (((((hh3).1).2) x8 m9).2)))))) (congrArg Da.py (eId_map _).symm)) ((hh3).2))) eG fun v H1 G1 s1 a => ?_
    exact q _ v H1 G1 ⟨_, hret, rfl⟩ ⟨sx.trans (Same.x g s1.h), eB.trans s1.g, s1.gh, fun a h n => s1.nw a (al a h) (nwB a h n)⟩ ((gc.ex s1.h).le (by omega)) a
end
end Sv

/-! New lists that are drawn, readings beside an owned list, more defs that draw. By the verifier. -/
namespace Sv
open PySem PySem.Spec PyProof.Rows L2 Evl
def CtRN (C : Addr) (sp : Sp) (m : Int) (xs : List Da) (Φ : List PyData → Prop) : Prop := ∀ g vs G, G g = none → AtAll C G vs xs → ∀ H1 c, Ex G H1 → GenC H1 g c → c + m ≤ 600000 → ∀ Q : VK, (∀ ds p us H2 G2, Φ ds → Gx g H1 G H2 G2 → GenC H2 g (c + m) → H1 p = none → p ≠ g → G2 p = none → H2 p = some (.lst us) → DqAll G2 us ds → Q (.ref p) H2) → ∀ E, sp (.ref g :: vs) H1 Q E
def EvRN (C : Addr) (g : Addr) (m : Int) (te : TE) (σ : L2.St) (G : Hp) (Φ : List PyData → Prop) : Prop := ∀ H1 c, Ex G H1 → G g = none → GenC H1 g c → c + m ≤ 600000 → ∀ Q : VK, (∀ ds p us H2 G2, Φ ds → Gx g H1 G H2 G2 → GenC H2 g (c + m) → H1 p = none → p ≠ g → G2 p = none → H2 p = some (.lst us) → DqAll G2 us ds → Q (.ref p) H2) → te σ H1 Q
/-- a reading beside an owned list at r -/
def EvO (C : Addr) (te : TE) (σ : L2.St) (G : Hp) (r : Addr) (us : List V) (Φ : Da → Prop) : Prop := ∀ H1, Ex G H1 → H1 r = some (.lst us) → G r = none → ∀ Q : VK, (∀ x v H2 G2, Φ x → Gs H1 G H2 G2 → At C G2 v x → Q v H2) → te σ H1 Q
section
variable {K : PySem.W.Frag} {C g : Addr} {σ : L2.St} {H H' G G' : Hp} {ta tb tc te tx tl : TE} {t u : TT} {x y z : Da} {v : V} {r : Addr} {us : List V} {m m' : Int} {Φ Ψ X : Da → Prop} {sp : Sp} {E : XK} {as : TA} {D : Ends} {tz : TS}
theorem ern_call {xs : List Da} {Φ : List PyData → Prop} (hv : Ev tb σ G (.ref g)) (h : EvAs C as σ G xs) (c : CtRN C sp m xs Φ) : EvRN C g m (tCall sp [] E (tCons tb as)) σ G Φ := fun H1 cc e n gc hc Q q =>
  hv H1 e _ fun H2 e2 => h H2 (e.trans e2) _ fun vs H3 G3 s a => by
    have ng3 : G3 g = none := s.nw g (gc.ex e2).ne n
    have s13 : Gs H1 G H3 G3 := (Gs.same e e2).trans s
    refine c g (vs ++ []) G3 ng3 (by rw [List.append_nil]; exact a) H3 cc s.gh ((gc.ex e2).ex s.h) hc Q (fun ds p us H4 G4 hx s4 g4 n1 n2 n3 h4 d4 => ?_) _
    exact q ds p us H4 G4 hx ((Gx.of s13).trans ((gc.ex s13.h).ne) s4) g4 (fresh_back s13.h n1) n2 n3 h4 d4
theorem q_par2N {i j : Nat} {c : Int} {Φ : List PyData → Prop} (h1 : EvD C ta σ G x) (h2 : EvRN C g m tb σ G Φ) (eG : Ex G H) (n : G g = none) (gc : GenC H g c) (hc : c + m ≤ 600000)
    (k : ∀ v ds p us H1 G1, Φ ds → Gx g H G H1 G1 → GenC H1 g (c + m) → At C G1 v x → H p = none → p ≠ g → G1 p = none → H1 p = some (.lst us) → DqAll G1 us ds → tz D ((σ.set i (some v)).set j (some (.ref p))) H1) : tSeq (tPar i j (tCons ta (tCons tb tNil))) tz D σ H :=
  h1 H eG _ fun v H1 G1 s1 a => by
    have ng1 : G1 g = none := s1.nw g gc.ne n
    have eg1 : Ex G H1 := eG.trans s1.h
    refine h2 H1 c eg1 n (gc.ex s1.h) hc _ fun ds p us H2 G2 hx s2 g2 n1 n2 n3 h3 d3 => ?_
    have e12 : Ex G1 H2 := fun b o h => s2.x b o (s1.gh b o h) fun z => by rw [z, ng1] at h; cases h
    have p1 : G1 p = none := fresh_back s1.gh n1
    refine ⟨_, _, rfl, ?_⟩
    exact k v ds p us H2 (both G1 G2) hx ⟨fun b o h nb => s2.x b o (s1.h b o h) nb, s1.g.trans (both_l _ _), both_in e12 s2.gh, fun b z1 z2 => by
      unfold both
      rw [s1.nw b z1 z2]
      exact s2.nw b (Ex.ne s1.h z1) z2⟩ g2 (a.mono (both_l _ _)) (fresh_back s1.h n1) n2 (by unfold both; rw [p1]; exact n3) h3 (dpExAll (both_r e12 s2.gh) _ _ d3)
theorem EvO.mono (e : Ex G G') (h : EvO C te σ G r us Φ) : EvO C te σ G' r us Φ := fun H1 e1 hr n Q q => h H1 (e.trans e1) hr (fresh_back e n) Q fun x v H2 G2 hx s a =>
  q x v H2 _ hx (s.widen e e1) (a.mono (both_r (e1.trans s.h) s.gh))
theorem OwnR.beside {a b : Addr} {vs us : List V} {ds es : List PyData} (w1 : OwnR C G H a vs ds) (w2 : OwnR C G H b us es) (h : b ≠ a) : OwnR C (L2.upd G a (.lst vs)) H b us es := ⟨w2.o, by rw [upd_ne h]; exact w2.n, dpExAll (Ex.new w1.n) _ _ w2.d⟩
theorem evo_of {ws : List Int} (h : EvN C te σ (L2.upd G r (.lst us)) (ws.map PyData.int)) : EvO C te σ G r us (fun z => z = .py (eL PyData.int ws)) := fun H1 e hr n Q q => by
  have e1 : Ex (L2.upd G r (.lst us)) H1 := fun b o h => by
    by_cases y : b = r
    · subst y
      rw [upd_same] at h
      rw [← h]
      exact hr
    · rw [upd_ne y] at h
      exact e b o h
  refine h H1 e1 Q fun p vs H2 G2 s h1 h2 h3 h4 => ?_
  have hg : G p = none := fresh_back e h1
  have s0 : Gs H1 G H2 G := Gs.same e s.h
  refine q _ _ H2 (L2.upd G p (.lst vs)) rfl ⟨s.h, Ex.new hg, fun b o hb => ?_, fun b z1 z2 => ?_⟩ (.lst upd_same (dqa_flat h4))
  · by_cases y : b = p
    · subst y
      rw [upd_same] at hb
      rw [← hb]
      exact h3
    · rw [upd_ne y] at hb
      exact s0.gh b o hb
  · by_cases y : b = p
    · subst y
      exact absurd h1 z1
    · rw [upd_ne y]
      exact z2
theorem dqa_flatB : ∀ {vs : List V} {ws : List Bool}, DqAll G vs (ws.map PyData.bool) → ∀ {G2 : Hp}, DqAll G2 vs (ws.map PyData.bool)
  | _, [], .nil, _ => .nil
  | _, _ :: _, .cons a b, _ => .cons (by cases a; exact .bl _) (dqa_flatB b)
theorem Ex.of (e : Ex G H) : Ex G G := Ex.refl G
theorem ex_add (e : Ex G H) (hr : H r = some (.lst us)) : Ex (L2.upd G r (.lst us)) H := fun b o h => by
  by_cases y : b = r
  · subst y
    rw [upd_same] at h
    rw [← h]
    exact hr
  · rw [upd_ne y] at h
    exact e b o h
theorem evo_flatB {b : Bool} (h : EvD C te σ (L2.upd G r (.lst us)) (.py (.bool b))) : EvO C te σ G r us (fun z => z = .py (.bool b)) := fun H1 e hr n Q q =>
  h H1 (ex_add e hr) Q fun v H2 G2 s a => q _ v H2 G rfl (Gs.same e s.h) (at_bool a ▸ .bl _)
theorem evo_flatI {b : Int} (h : EvD C te σ (L2.upd G r (.lst us)) (.py (.int b))) : EvO C te σ G r us (fun z => z = .py (.int b)) := fun H1 e hr n Q q =>
  h H1 (ex_add e hr) Q fun v H2 G2 s a => q _ v H2 G rfl (Gs.same e s.h) (at_int a ▸ .int _)
/-- x.append(e): x is owned, e reads another owned list -/
theorem q_appO {l : Addr} {vs : List V} {d : PyData} (h : EvO C te σ G r us (fun z => z = .py d)) (eG : Ex G H) (hr : H r = some (.lst us)) (nr : G r = none) (ha : Ev ta σ G (.ref l)) (hl : H l = some (.lst vs)) (hg : G l = none) (hz : vs.length < 100000) (k : ∀ v H1 G1, Gs H G H1 G1 → Dq G1 v d → G1 l = none → Ex G1 (L2.upd H1 l (.lst (vs ++ [v]))) → tz D σ (L2.upd H1 l (.lst (vs ++ [v])))) :
    tSeq (tDrop (tBM K "list" rAppend ta (tCons te tNil))) tz D σ H := ha H eG _ fun H1 e1 => by
  have s1 : Gs H G H1 G := Gs.same eG e1
  refine ⟨Or.inl ⟨rfl, vs, sq_of (e1 l _ hl)⟩, h H1 s1.gh (e1 _ _ hr) nr _ fun x v H2 G2 hx s2 a => ?_⟩
  subst hx
  have h2 : H2 l = some (.lst vs) := s2.h _ _ (e1 l _ hl)
  have g2 : G2 l = none := s2.nw l (by rw [e1 l _ hl]; exact fun z => by cases z) hg
  exact ⟨l, vs, v, rfl, rfl, h2, sz_lt hz, k v H2 G2 (s1.trans s2) a g2 (Ex.mut s2.gh g2)⟩
/-- two names: a reading beside an owned list, and a new list -/
theorem q_parON {i j : Nat} {ds : List PyData} (h1 : EvO C ta σ G r us Φ) (h2 : EvN C tb σ G ds) (eG : Ex G H) (hr : H r = some (.lst us)) (n : G r = none)
    (k : ∀ x v p vs H1 G1, Φ x → Gs H G H1 G1 → At C G1 v x → H p = none → G1 p = none → H1 p = some (.lst vs) → DqAll G1 vs ds → tz D ((σ.set i (some v)).set j (some (.ref p))) H1) : tSeq (tPar i j (tCons ta (tCons tb tNil))) tz D σ H :=
  h1 H eG hr n _ fun x v H1 G1 hx s1 a1 => by
    refine h2 H1 (eG.trans s1.h) _ fun p vs H2 G2 s2 n1 n2 h3 h4 => ?_
    have w := Gs.widen s1.g s1.gh s2
    have p1 : G1 p = none := fresh_back s1.gh n1
    refine ⟨_, _, rfl, ?_⟩
    exact k x v p vs H2 (both G1 G2) hx (s1.trans w) (a1.mono w.g) (fresh_back s1.h n1) (by unfold both; rw [p1]; exact n2) h3 (dpExAll (both_r (s1.gh.trans s2.h) s2.gh) _ _ h4)
/-- the parts of a row, as data -/
def PartsOf (k : Nm) (n : Nat) (l : List Int) (wss : List (List Int)) : Prop := wss.length ≤ 256 ∧ ∀ w, w ∈ wss ↔ ∃ m, m.Sublist l ∧ run k n (startL k n) m = w
theorem evo_parts {k : Nm} {n : Nat} {l : List Int} (h : EvAs C as σ (L2.upd G r (.lst us)) [.py (toldD k n), .py (eL PyData.int l)]) (hK : okK k n = true) (hl : ∀ s ∈ l, okS k n s) (h8 : l.length ≤ 8) :
    EvO C (tCall (spParts K) [] E as) σ G r us (fun z => ∃ wss, PartsOf k n l wss ∧ z = .py (eL (eL PyData.int) wss)) := fun H1 e hr n1 Q q => by
  have e1 : Ex (L2.upd G r (.lst us)) H1 := fun b o h => by
    by_cases y : b = r
    · subst y
      rw [upd_same] at h
      rw [← h]
      exact hr
    · rw [upd_ne y] at h
      exact e b o h
  refine h H1 e1 _ fun vs H2 G2 s a => ?_
  obtain ⟨v0, v1, rfl, a0, a1⟩ := at_all2 a
  obtain ⟨t, rfl, ht⟩ := at_told a0
  obtain ⟨o, rfl, ho⟩ := at_ints a1
  refine ⟨t, o, k, n, l, rfl, st_of (s.gh _ _ ht), hK, sq_of (s.gh _ _ ho), hl, h8, fun q0 ps H3 s3 nq hq hrows hps hw hlen => ?_⟩
  have e13 : Ex H1 H3 := s.h.trans s3
  have hG3 : ∀ b, H1 b = none → G b = none := fun b hb => fresh_back e hb
  have fresh : ∀ {b o}, H2 b = none → H3 b = some o → (fun a => if H1 a = none then H3 a else G a) b = some o := fun {b o} hb h3 => by
    show (if H1 b = none then H3 b else G b) = some o
    rw [if_pos (fresh_back s.h hb)]
    exact h3
  refine q (.py (eL (eL PyData.int) (ps.map Prod.snd))) (.ref q0) H3 (fun a => if H1 a = none then H3 a else G a) ⟨_, ⟨by rw [List.length_map]; exact hlen, fun w => ?_⟩, rfl⟩ ⟨e13, fun b o hb => ?_, fun b o hb => ?_, fun b z1 z2 => ?_⟩ (.lst (fresh nq hq) ?_)
  · rw [← hw w]
    exact List.mem_map
  · show (if H1 b = none then H3 b else G b) = some o
    rw [if_neg (fun z => by rw [e b o hb] at z; cases z)]
    exact hb
  · change (if H1 b = none then H3 b else G b) = some o at hb
    by_cases y : H1 b = none
    · rw [if_pos y] at hb
      exact hb
    · rw [if_neg y] at hb
      exact e13 b o (e b o hb)
  · show (if H1 b = none then H3 b else G b) = none
    rw [if_neg z1]
    exact z2
  · have go : ∀ qs : List (Addr × List Int), (∀ p ∈ qs, p ∈ ps) → DqAll (fun a => if H1 a = none then H3 a else G a) (qs.map fun p => V.ref p.1) ((qs.map Prod.snd).map (eL PyData.int)) := fun qs => by
      induction qs with
      | nil => exact fun _ => .nil
      | cons p qs ih =>
        intro hp
        have hm := hp p (List.mem_cons_self ..)
        exact .cons (.lst (fresh (hps p hm) (hrows p hm)) (dpa_ints _)) (ih fun z hz => hp z (List.mem_cons_of_mem _ hz))
    exact go ps fun _ h => h
theorem q_par3O {i j l : Nat} (h1 : EvO C ta σ G r us Φ) (h2 : EvO C tb σ G r us Ψ) (h3 : EvO C tc σ G r us X) (eG : Ex G H) (hr : H r = some (.lst us)) (n : G r = none)
    (k : ∀ x y z v w u H1 G1, Φ x → Ψ y → X z → Gs H G H1 G1 → At C G1 v x → At C G1 w y → At C G1 u z → tz D (((σ.set i (some v)).set j (some w)).set l (some u)) H1) : tSeq (tPar3 i j l (tCons ta (tCons tb (tCons tc tNil)))) tz D σ H :=
  h1 H eG hr n _ fun x v H1 G1 hx s1 a1 => by
    have r1 := s1.h _ _ hr
    have n1 : G1 r = none := s1.nw r (by rw [hr]; exact fun z => by cases z) n
    refine (h2.mono s1.g) H1 s1.gh r1 n1 _ fun y w H2 G2 hy s2 a2 => ?_
    have r2 := s2.h _ _ r1
    have n2 : G2 r = none := s2.nw r (by rw [r1]; exact fun z => by cases z) n1
    refine ((h3.mono s1.g).mono s2.g) H2 s2.gh r2 n2 _ fun z u H3 G3 hz s3 a3 => ?_
    exact ⟨_, _, _, rfl, k x y z v w u H3 G3 hx hy hz ((s1.trans s2).trans s3) (a1.mono (s2.g.trans s3.g)) (a2.mono s3.g) a3⟩
theorem ct_rowN {k : Nm} {n m : Nat} (hK : okK k n = true) (hm : m ≤ 1000) : CtRN C (spRow K) (m + 1) [.py (toldD k n), .py (.int (m : Int))] (fun ds => ∃ l : List Int, ((∀ s ∈ l, okS k n s) ∧ l.length ≤ m) ∧ ds = l.map PyData.int) := fun g vs G ng a H1 c e gc hc Q q E => by
  obtain ⟨v, w, rfl, a1, a2⟩ := at_all2 a
  obtain ⟨t, rfl, ht⟩ := at_told a1
  rw [at_int a2]
  obtain ⟨x, b, c', hg, h1, h2⟩ := id gc
  have hne : t ≠ g := fun z => by rw [z, ng] at ht; cases ht
  refine ⟨g, t, x, b, c', k, n, m, rfl, hg, ⟨h1, by omega⟩, st_of (e _ _ ht), hne, hK, hm, fun p xs a' c2 H2 hx hl d0 d1 g2 x2 np npg hp => ?_⟩
  refine q _ p _ H2 G ⟨xs, ⟨hx, hl⟩, rfl⟩ ⟨x2, Ex.refl _, fun b o h => x2 b o (e b o h) (fun z => by rw [z, ng] at h; cases h), fun b z1 z2 => z2⟩ ⟨a', _, c2, g2, d0, by omega⟩ np npg (fresh_back e np) hp (dpa_ints _)
theorem ed_lenW {k : Nm} {n : Nat} {ws : List Int} (h : EvAs C as σ G [.py (toldD k n), .py (eL PyData.int ws)]) (c : okK k n = true ∧ Form k n ws ∧ crP k n ws ≤ 200) :
    EvD C (tCB (fun xs H Q => ∃ p ys, xs = [.ref p] ∧ (SqL K H p ys ∨ SqT K H p ys) ∧ Q (.int ys.length) H) (tCons (tCall (spLeastW K) [] E as) tNil)) σ G (.py (.int (crP k n ws))) := fun H1 e Q q => h H1 e _ fun vs H2 G2 s a => by
  obtain ⟨v0, v1, rfl, a0, a1⟩ := at_all2 a
  obtain ⟨t, rfl, ht⟩ := at_told a0
  obtain ⟨o, rfl, ho⟩ := at_ints a1
  refine ⟨t, o, k, n, ws, rfl, ⟨st_of (s.gh _ _ ht), sq_of (s.gh _ _ ho), c.2.1.1, c.1⟩, c.2.1, c.2.2, fun q0 l H3 hl s3 nq hq => ⟨q0, l.map V.int, rfl, .inl (sq_of hq), ?_⟩⟩
  rw [List.length_map, hl.2.2]
  exact q _ H3 G2 (s.trans (Gs.same s.gh s3)) (.int _)
theorem ct_kindT : CtR C spKindT 6 [] (fun z => ∃ (k : Nm) (n : Nat), (okK k n = true ∧ n ≤ 5) ∧ z = .py (toldD k n)) := fun g vs G ng a H1 c e gc hc Q q E => by
  cases a
  obtain ⟨x, b, c', hg, h1, h2⟩ := gc
  refine ⟨g, x, b, c', rfl, hg, ⟨h1, by omega⟩, fun t k n a' c2 H2 hK hn d0 d1 g2 x2 _ nt ht => ?_⟩
  have hgt : G t = none := fresh_back e nt
  refine q _ _ H2 (L2.upd G t (.tup [.str k.s, .int (n : Int)])) ⟨k, n, ⟨hK, hn⟩, rfl⟩ ⟨x2, Ex.new hgt, fun b o h => ?_, fun b z1 z2 => ?_⟩ ⟨a', _, c2, g2, d0, by omega⟩ (.tup upd_same (.cons (.str _) (.cons (.int _) .nil)))
  · by_cases z : b = t
    · subst z
      rw [upd_same] at h
      rw [← h]
      exact ht
    · rw [upd_ne z] at h
      exact x2 _ _ (e _ _ h) (fun w => by rw [w, ng] at h; cases h)
  · by_cases z : b = t
    · subst z
      exact absurd nt z1
    · rw [upd_ne z]
      exact z2
theorem gxl {G H1 H2 : Hp} {q : Addr} {ws : List Int} (e : Ex G H1) (ng : G g = none) (x2 : SameX g H1 H2) (nq : H1 q = none) (hq : H2 q = some (.lst (ws.map V.int))) : Gx g H1 G H2 (L2.upd G q (.lst (ws.map V.int))) := by
  have hgt : G q = none := fresh_back e nq
  refine ⟨x2, Ex.new hgt, fun b o h => ?_, fun b z1 z2 => ?_⟩
  · by_cases z : b = q
    · subst z
      rw [upd_same] at h
      rw [← h]
      exact hq
    · rw [upd_ne z] at h
      exact x2 _ _ (e _ _ h) (fun w => by rw [w, ng] at h; cases h)
  · by_cases z : b = q
    · subst z
      exact absurd nq z1
    · rw [upd_ne z]
      exact z2
theorem ct_orderT {k : Nm} {n m : Nat} (hK : okK k n = true) (hm : m ≤ 1000) : CtR C (spOrderT K) (m + 2) [.py (toldD k n), .py (.int (m : Int))] (fun z => ∃ ws : List Int, (Form k n ws ∧ crP k n ws ≤ (m : Int)) ∧ z = .py (eL PyData.int ws)) := fun g vs G ng a H1 c e gc hc Q q E => by
  obtain ⟨v, w, rfl, a1, a2⟩ := at_all2 a
  obtain ⟨t, rfl, ht⟩ := at_told a1
  rw [at_int a2]
  obtain ⟨x, b, c', hg, h1, h2⟩ := gc
  have hne : t ≠ g := fun z => by rw [z, ng] at ht; cases ht
  refine ⟨g, t, x, b, c', k, n, m, rfl, hg, ⟨h1, by omega⟩, st_of (e _ _ ht), hne, hK, hm, fun p ws a' c2 H2 hF hcr d0 d1 g2 x2 np _ hp => ?_⟩
  exact q _ _ H2 _ ⟨ws, ⟨hF, hcr⟩, rfl⟩ (gxl e ng x2 np hp) ⟨a', _, c2, g2, d0, by omega⟩ (.lst upd_same (dpa_ints _))
end
end Sv

/-! What a part is: the program's test and the law's are one. By the verifier. -/
namespace Sv
open PySem PySem.Spec PyProof.Rows L2 Evl
theorem shaped_tn {ds : List PyData} (h : ∀ x ∈ ds, Tn x) : SeqAt.shaped (.list ds) = true := by
  have go : ∀ ds : List PyData, (∀ x ∈ ds, Tn x) → PyData.depthAll ds ≤ 1 ∧ PyData.canLayAll0 ds = true := fun ds => by
    induction ds with
    | nil => exact fun _ => ⟨by simp [PyData.depthAll], rfl⟩
    | cons d ds ih =>
      intro h
      obtain ⟨a, b⟩ := ih fun x hx => h x (List.mem_cons_of_mem _ hx)
      have t := h d (List.mem_cons_self ..)
      have tp := t.p
      exact ⟨by show max (PyData.depth d) (PyData.depthAll ds) ≤ 1; omega, by show (PyData.canLay0 d && PyData.canLayAll0 ds) = true; rw [t.l, b]; rfl⟩
  obtain ⟨a, b⟩ := go ds h
  have e : PyData.depth (.list ds) = PyData.depthAll ds + 1 := by simp [PyData.depth]
  unfold SeqAt.shaped
  rw [show PyData.canLay0 (.list ds) = PyData.canLayAll0 ds from rfl, b, decide_eq_true (by omega)]
  rfl
theorem eqv_nil8 (ds : List PyData) : PyData.eqv (.list ds) (.list []) = decide (ds = []) := by
  cases ds with
  | nil => rw [PyData.eqv]; rfl
  | cons q r => rw [PyData.eqv]; rfl
def isI (x : PyData) : Bool := isaD "int" x && !isaD "bool" x
theorem eLe (ds : List PyData) : eL eId ds = .list ds := eId_map ds
theorem isI_int {x : PyData} : isI x = true ↔ x = .int (intD x) := by
  cases x <;> simp [isI, isaD, tyD, intD]
theorem isI_list {ds : List PyData} (h : ds.all isI = true) : ds = (ds.map intD).map PyData.int := by
  rw [List.map_map]
  refine (List.map_id' ds).symm.trans (List.map_congr_left fun x hx => ?_)
  exact isI_int.mp (List.all_eq_true.mp h x hx)
theorem whole_all : ∀ ds : List PyData, loopE p_are_whole_2body ds () = if ds.all isI = true then Sum.inr () else Sum.inl false
  | [] => rfl
  | x :: ds => by
    have e : p_are_whole_2body () x = if isI x = true then Sum.inr () else Sum.inl false := by
      unfold p_are_whole_2body p_are_whole_3 p_are_whole_4 isI
      cases isaD "int" x <;> cases isaD "bool" x <;> rfl
    simp only [loopE]
    rw [e, List.all_cons]
    cases h : isI x with
    | false => rfl
    | true =>
      show loopE p_are_whole_2body ds () = _
      rw [whole_all ds, Bool.true_and]
theorem whole_list (ds : List PyData) : p_are_whole (.list ds) = ds.all isI := by
  show (match loopE p_are_whole_2body ds () with | Sum.inl r => r | Sum.inr _ => p_are_whole_5) = _
  rw [whole_all]
  cases ds.all isI <;> rfl
theorem rise_iff : ∀ {zs : List Int}, (∀ i, i + 1 < zs.length → zs.getD i 0 < zs.getD (i + 1) 0) ↔ zs.Pairwise (· < ·)
  | [] => ⟨fun _ => .nil, fun _ i h => absurd h (Nat.not_lt_zero _)⟩
  | x :: zs => by
    constructor
    · intro h
      have ht : zs.Pairwise (· < ·) := rise_iff.mp fun i hi => by
        have := h (i + 1) (by rw [List.length_cons]; omega)
        simpa using this
      refine List.pairwise_cons.mpr ⟨fun y hy => ?_, ht⟩
      cases zs with
      | nil => cases hy
      | cons z zs =>
        have h0 : x < z := by simpa using h 0 (by simp)
        rcases List.mem_cons.mp hy with rfl | hy
        · exact h0
        · exact Int.lt_trans h0 ((List.pairwise_cons.mp ht).1 y hy)
    · intro h i hi
      have h2 := List.pairwise_iff_getElem.mp h i (i + 1) (by omega) hi (by omega)
      rw [List.getD_eq_getElem?_getD, List.getD_eq_getElem?_getD, List.getElem?_eq_getElem (by omega : i < (x :: zs).length), List.getElem?_eq_getElem hi]
      exact h2
theorem getI_nat (zs : List Int) (i : Nat) : getI zs (i : Int) = zs.getD i 0 := by
  unfold getI
  rw [if_pos (by omega)]
  rfl
theorem mem_rng {a b x : Int} : x ∈ rngI a b ↔ a ≤ x ∧ x < b := by
  unfold rngI
  rw [List.mem_map]
  constructor
  · rintro ⟨i, hi, rfl⟩
    have := List.mem_range.mp hi
    omega
  · rintro ⟨h1, h2⟩
    exact ⟨(x - a).toNat, List.mem_range.mpr (by omega), by omega⟩
theorem getI_map {zs : List Int} {i : Int} (h : -(zs.length : Int) ≤ i ∧ i < zs.length) : getI (zs.map PyData.int) i = .int (getI zs i) := by
  unfold getI
  rw [List.length_map]
  have hl : (if 0 ≤ i then i.toNat else ((zs.length : Int) + i).toNat) < zs.length := by split <;> omega
  generalize (if 0 ≤ i then i.toNat else ((zs.length : Int) + i).toNat) = j at hl
  rw [List.getD_eq_getElem?_getD, List.getD_eq_getElem?_getD, List.getElem?_map, List.getElem?_eq_getElem hl]
  rfl
/-- places in a row -/
def PtQ (l zs : List Int) : Prop := zs.Pairwise (· < ·) ∧ ∀ z ∈ zs, 0 ≤ z ∧ z < (l.length : Int)
instance (l zs : List Int) : Decidable (PtQ l zs) := by unfold PtQ; infer_instance
def ptB (k : Nm) (n : Nat) (ws l : List Int) : PyData → Bool
  | .list ds => ds.all isI && (decide (PtQ l (ds.map intD)) && decide (run k n (startL k n) ((ds.map intD).map (getI l)) = ws))
  | _ => false
theorem items_ints (zs : List Int) : itemsD (eL PyData.int zs) = zs.map PyData.int := rfl
theorem ns_ints (zs : List Int) : nsD (eL PyData.int zs) = zs := by
  show (zs.map PyData.int).map intD = zs
  rw [List.map_map]
  exact List.map_id' zs
theorem all_ints (zs : List Int) : (zs.map PyData.int).all isI = true := List.all_eq_true.mpr fun x hx => by
  obtain ⟨z, _, rfl⟩ := List.mem_map.mp hx
  rfl
theorem rising_iff {zs : List Int} : p_is_rising zs = true ↔ zs.Pairwise (· < ·) := by
  rw [← rise_iff]
  show (((rngI 0 ((zs.length : Int) - 1)).map fun x => decide (getI zs x < getI zs (x + 1))).all id) = true ↔ _
  rw [List.all_eq_true]
  constructor
  · intro h i hi
    have := h _ (List.mem_map.mpr ⟨(i : Int), mem_rng.mpr ⟨by omega, by omega⟩, rfl⟩)
    have := of_decide_eq_true this
    rw [getI_nat, show (i : Int) + 1 = ((i + 1 : Nat) : Int) by omega, getI_nat] at this
    exact this
  · intro h b hb
    obtain ⟨x, hx, rfl⟩ := List.mem_map.mp hb
    obtain ⟨h0, h1⟩ := mem_rng.mp hx
    obtain ⟨i, rfl⟩ : ∃ i : Nat, x = (i : Int) := ⟨x.toNat, by omega⟩
    refine decide_eq_true ?_
    rw [getI_nat, show (i : Int) + 1 = ((i + 1 : Nat) : Int) by omega, getI_nat]
    exact h i (by omega)
theorem lastI_get {zs : List Int} (h : zs ≠ []) : getI zs (-1) = zs.getD (zs.length - 1) 0 := by
  have hp := List.length_pos_iff.mpr h
  unfold getI
  rw [if_neg (by omega), show ((zs.length : Int) + -1).toNat = zs.length - 1 by omega]
  rfl
/-- rising numbers lie in a range where the first and the last do -/
theorem ends_iff {zs : List Int} {m : Int} (hr : zs.Pairwise (· < ·)) (h : zs ≠ []) : (0 ≤ getI zs 0 ∧ getI zs (-1) < m) ↔ ∀ z ∈ zs, 0 ≤ z ∧ z < m := by
  have hp := List.length_pos_iff.mpr h
  have e0 : getI zs 0 = zs.getD 0 0 := getI_nat zs 0
  rw [e0, lastI_get h]
  have g : ∀ i (hi : i < zs.length), zs.getD i 0 = zs[i] := fun i hi => by rw [List.getD_eq_getElem?_getD, List.getElem?_eq_getElem hi]; rfl
  constructor
  · rintro ⟨h0, h1⟩ z hz
    obtain ⟨i, hi, rfl⟩ := List.mem_iff_getElem.mp hz
    rw [g 0 hp] at h0
    rw [g _ (by omega)] at h1
    constructor
    · by_cases q : i = 0
      · subst q; exact h0
      · have := List.pairwise_iff_getElem.mp hr 0 i hp hi (by omega)
        omega
    · by_cases q : i = zs.length - 1
      · subst q; exact h1
      · have := List.pairwise_iff_getElem.mp hr i (zs.length - 1) hi (by omega) (by omega)
        omega
  · intro hz
    rw [g 0 hp, g _ (by omega)]
    exact ⟨(hz _ (List.getElem_mem _)).1, (hz _ (List.getElem_mem _)).2⟩
theorem places_iff {l zs : List Int} : p_are_places l (eL PyData.int zs) = decide (PtQ l zs) := by
  show (if (!((isaD "list" (eL PyData.int zs)) && ((p_are_whole (eL PyData.int zs)) && (p_is_rising (nsD (eL PyData.int zs)))))) = true then p_are_places_2 else p_are_places_3 l (eL PyData.int zs)) = _
  rw [show p_are_whole (eL PyData.int zs) = true from (whole_list _).trans (all_ints zs), ns_ints, show isaD "list" (eL PyData.int zs) = true from rfl, Bool.true_and, Bool.true_and]
  by_cases hr : zs.Pairwise (· < ·)
  · rw [if_neg (by rw [rising_iff.mpr hr]; decide)]
    by_cases he : zs = []
    · subst he
      exact (decide_eq_true (⟨.nil, fun _ h => by cases h⟩ : PtQ l [])).symm
    · have hp := List.length_pos_iff.mpr he
      show ((zs.map PyData.int).isEmpty || (decide ((0 : Int) ≤ intD (getI (zs.map PyData.int) 0)) && decide (intD (getI (zs.map PyData.int) (-1)) < (l.length : Int)))) = _
      rw [getI_map (by omega), getI_map (by omega), show (zs.map PyData.int).isEmpty = false by cases zs <;> first | rfl | exact absurd rfl he, Bool.false_or]
      show (decide ((0 : Int) ≤ getI zs 0) && decide (getI zs (-1) < (l.length : Int))) = _
      rw [Bool.eq_iff_iff, Bool.and_eq_true, decide_eq_true_iff, decide_eq_true_iff, decide_eq_true_iff, ends_iff hr he]
      exact ⟨fun h => ⟨hr, h⟩, fun h => h.2⟩
  · rw [if_pos (by rw [Bool.eq_false_iff.mpr (fun h => hr (rising_iff.mp h))]; rfl)]
    exact (decide_eq_false fun h => hr h.1).symm
theorem map_get {l zs : List Int} : (zs.map PyData.int).map (fun x => getI l (intD x)) = zs.map (getI l) := by
  rw [List.map_map]
  rfl
theorem prog_ints {k : Nm} {n : Nat} {ws l zs : List Int} : p_is_part k n ws l (eL PyData.int zs) = (decide (PtQ l zs) && decide (run k n (startL k n) (zs.map (getI l)) = ws)) := by
  show (p_are_places l (eL PyData.int zs) && decide (run k n (startL k n) ((zs.map PyData.int).map fun x => getI l (intD x)) = ws)) = _
  rw [places_iff, map_get]
theorem law_ints {k : Nm} {n : Nat} {ws l zs : List Int} : p_law_is_part k n ws l (eL PyData.int zs) = (decide (PtQ l zs) && decide (run k n (startL k n) (zs.map (getI l)) = ws)) := by
  have f1 : (zs.map PyData.int).filter (fun x => isaD "bool" x || !isaD "int" x) = [] := List.filter_eq_nil_iff.mpr fun x hx => by
    obtain ⟨z, _, rfl⟩ := List.mem_map.mp hx
    simp [isaD, tyD]
  have f2 : (zs.map PyData.int).filter (fun x => !(decide ((0 : Int) ≤ intD x) && decide (intD x < (l.length : Int)))) = [] ↔ ∀ z ∈ zs, 0 ≤ z ∧ z < (l.length : Int) := by
    rw [List.filter_eq_nil_iff]
    constructor
    · intro h z hz
      have h2 := h _ (List.mem_map.mpr ⟨z, hz, rfl⟩)
      by_cases q : 0 ≤ z ∧ z < (l.length : Int)
      · exact q
      · refine absurd ?_ h2
        show (!(decide (0 ≤ z) && decide (z < (l.length : Int)))) = true
        rw [Bool.not_eq_true', ← Bool.not_eq_true, Bool.and_eq_true, decide_eq_true_iff, decide_eq_true_iff]
        exact q
    · intro h x hx
      obtain ⟨z, hz, rfl⟩ := List.mem_map.mp hx
      intro hh
      change (!(decide (0 ≤ z) && decide (z < (l.length : Int)))) = true at hh
      rw [decide_eq_true (h z hz).1, decide_eq_true (h z hz).2] at hh
      cases hh
  have f3 : ((rngI 1 ((zs.map PyData.int).length : Int)).filter fun x => decide (intD (getI (zs.map PyData.int) x) ≤ intD (getI (zs.map PyData.int) (x - 1)))) = [] ↔ zs.Pairwise (· < ·) := by
    rw [List.filter_eq_nil_iff, ← rise_iff, List.length_map]
    constructor
    · intro h i hi
      have := h ((i + 1 : Nat) : Int) (mem_rng.mpr ⟨by omega, by omega⟩)
      rw [decide_eq_true_iff, getI_map (by omega), getI_map (by omega), show ((i + 1 : Nat) : Int) - 1 = (i : Int) by omega] at this
      change ¬ getI zs ((i + 1 : Nat) : Int) ≤ getI zs (i : Int) at this
      rw [getI_nat, getI_nat] at this
      omega
    · intro h x hx
      obtain ⟨h0, h1⟩ := mem_rng.mp hx
      obtain ⟨i, rfl⟩ : ∃ i : Nat, x = ((i + 1 : Nat) : Int) := ⟨(x - 1).toNat, by omega⟩
      rw [decide_eq_true_iff, getI_map (by omega), getI_map (by omega), show ((i + 1 : Nat) : Int) - 1 = (i : Int) by omega]
      change ¬ getI zs ((i + 1 : Nat) : Int) ≤ getI zs (i : Int)
      rw [getI_nat, getI_nat]
      have := h i (by omega)
      omega
  show (if (!isaD "list" (eL PyData.int zs)) = true then p_law_is_part_2 else p_law_is_part_3 k n ws l (eL PyData.int zs)) = _
  rw [if_neg (by rw [show isaD "list" (eL PyData.int zs) = true from rfl]; decide)]
  show (if (!PyData.eqv (eL eId (((zs.map PyData.int).filter fun x => isaD "bool" x || !isaD "int" x).map fun x => x)) (eL PyData.int [])) = true then p_law_is_part_4 else p_law_is_part_5 k n ws l (eL PyData.int zs)) = _
  rw [f1, if_neg (by decide +kernel)]
  show (if (!PyData.eqv (.list ((((zs.map PyData.int).filter fun x => !(decide ((0 : Int) ≤ intD x) && decide (intD x < (l.length : Int)))).map fun x => x).map eId)) (.list []) || !decide ((((rngI 1 ((zs.map PyData.int).length : Int)).filter fun x => decide (intD (getI (zs.map PyData.int) x) ≤ intD (getI (zs.map PyData.int) (x - 1)))).map fun x => x) = [])) = true then p_law_is_part_6 else p_law_is_part_7 k n ws l (eL PyData.int zs)) = _
  rw [eqv_nil8, map_eId, List.map_id', List.map_id']
  by_cases hq : PtQ l zs
  · rw [decide_eq_true (f2.mpr hq.2), decide_eq_true (f3.mpr hq.1), if_neg (by decide), decide_eq_true hq, Bool.true_and]
    show decide (run k n (startL k n) ((zs.map PyData.int).map fun x => getI l (intD x)) = ws) = _
    rw [map_get]
  · rw [decide_eq_false hq, Bool.false_and, if_pos]
    · rfl
    · rw [Bool.or_eq_true, Bool.not_eq_true', decide_eq_false_iff_not, Bool.not_eq_true', decide_eq_false_iff_not]
      by_cases h1 : ∀ z ∈ zs, 0 ≤ z ∧ z < (l.length : Int)
      · exact .inr fun h => hq ⟨f3.mp h, h1⟩
      · exact .inl fun h => h1 (f2.mp h)
theorem get_int {zs : List Int} {i : Int} (h : -(zs.length : Int) ≤ i ∧ i < zs.length) : getI (zs.map PyData.int) i = .int (intD (getI (zs.map PyData.int) i)) := by
  rw [getI_map h]
  rfl
theorem q_rising {zs : List Int} (hz : zs.length ≤ 1000) : q_is_rising zs := by
  refine ⟨⟨by omega, by omega⟩, by rw [rng_len]; omega, fun x hx => ?_⟩
  have := mem_rng.mp hx
  exact ⟨⟨by omega, by omega⟩, by omega, by omega⟩
theorem q_places {l zs : List Int} (hz : zs.length ≤ 1000) : q_are_places l (eL PyData.int zs) := by
  refine ⟨fun _ => ⟨rfl, fun _ => ⟨?_, ?_⟩⟩, fun _ => ⟨rfl, fun he => ?_⟩⟩
  · rw [ns_ints]
  · rw [ns_ints]
    exact q_rising hz
  · have hp : 0 < zs.length := List.length_pos_iff.mpr fun e => by rw [e] at he; cases he
    have hl : (zs.map PyData.int).length = zs.length := List.length_map ..
    refine ⟨⟨⟨rfl, ?_⟩, ?_⟩, fun _ => ⟨⟨rfl, ?_⟩, ?_⟩⟩
    · rw [items_ints, hl]; omega
    · rw [items_ints]; exact get_int (by omega)
    · rw [items_ints, hl]; omega
    · rw [items_ints]; exact get_int (by omega)
theorem getI_in {l : List Int} {i : Int} (h : 0 ≤ i ∧ i < (l.length : Int)) : getI l i ∈ l := getI_mem ⟨by omega, h.2⟩
theorem q_prog {k : Nm} {n : Nat} {ws l zs : List Int} (h : PartQ k n ws l) (hz : zs.length ≤ 1000) : q_is_part k n ws l (eL PyData.int zs) := by
  refine ⟨⟨h.ok, h.f, h.c⟩, ⟨h.ok, h.st, h.len⟩, q_places hz, fun hp => ?_⟩
  rw [places_iff] at hp
  have hq := of_decide_eq_true hp
  refine ⟨⟨rfl, by rw [items_ints, List.length_map]; omega, fun x hx => ?_⟩, h.ok, fun s hs => ?_⟩
  · obtain ⟨z, hz, rfl⟩ := List.mem_map.mp hx
    have := hq.2 z hz
    exact ⟨rfl, by show -(l.length : Int) ≤ z; omega, this.2⟩
  · rw [items_ints, map_get] at hs
    obtain ⟨z, hz, rfl⟩ := List.mem_map.mp hs
    exact h.st _ (getI_in (hq.2 z hz))
theorem q_law {k : Nm} {n : Nat} {ws l zs : List Int} (h : PartQ k n ws l) (hz : zs.length ≤ 1000) (ht : ∀ z ∈ zs, Tn (.int z)) : q_law_is_part k n ws l (eL PyData.int zs) := by
  have hl : (zs.map PyData.int).length = zs.length := List.length_map ..
  have sn : SeqAt.shaped (eL PyData.int ([] : List Int)) = true := shaped_tn (ds := []) fun x hx => by cases hx
  have fl : ∀ p : PyData → Bool, SeqAt.shaped (eL eId (((itemsD (eL PyData.int zs)).filter p).map fun x => x)) = true := fun p => by
    rw [List.map_id', eLe]
    refine shaped_tn fun x hx => ?_
    obtain ⟨z, hz, rfl⟩ := List.mem_map.mp ((List.mem_filter.mp hx).1)
    exact ht z hz
  refine fun _ => ⟨⟨⟨rfl, by rw [items_ints, hl]; omega⟩, fl _, sn⟩, fun _ => ⟨⟨⟨⟨rfl, by rw [items_ints, hl]; omega, fun x hx => ?_⟩, fl _, sn⟩, fun _ => ⟨⟨rfl, ⟨by rw [items_ints, hl]; omega, by rw [items_ints, hl]; omega⟩, by omega, by omega⟩, by rw [rng_len, items_ints, hl]; omega, fun x hx => ?_⟩⟩, fun hh => ?_⟩⟩
  · obtain ⟨z, _, rfl⟩ := List.mem_map.mp hx
    rfl
  · rw [items_ints, hl] at hx
    have := mem_rng.mp hx
    refine ⟨⟨⟨rfl, by rw [items_ints, hl]; omega⟩, by rw [items_ints]; exact get_int (by omega)⟩, ⟨rfl, by rw [items_ints, hl]; omega⟩, by rw [items_ints]; exact get_int (by omega)⟩
  · have f2 : ∀ z ∈ zs, 0 ≤ z ∧ z < (l.length : Int) := by
      rw [Bool.or_eq_false_iff] at hh
      have h1 := hh.1
      rw [Bool.not_eq_false', List.map_id', eLe, show eL PyData.int ([] : List Int) = PyData.list [] from rfl, eqv_nil8, decide_eq_true_iff, items_ints, List.filter_eq_nil_iff] at h1
      intro z hz
      have h2 := h1 _ (List.mem_map.mpr ⟨z, hz, rfl⟩)
      by_cases q : 0 ≤ z ∧ z < (l.length : Int)
      · exact q
      · refine absurd ?_ h2
        show (!(decide (0 ≤ z) && decide (z < (l.length : Int)))) = true
        rw [Bool.not_eq_true', ← Bool.not_eq_true, Bool.and_eq_true, decide_eq_true_iff, decide_eq_true_iff]
        exact q
    refine ⟨⟨rfl, by rw [items_ints, hl]; omega, fun x hx => ?_⟩, h.ok, fun s hs => ?_⟩
    · obtain ⟨z, hz, rfl⟩ := List.mem_map.mp hx
      have := f2 z hz
      exact ⟨rfl, by show -(l.length : Int) ≤ z; omega, this.2⟩
    · rw [items_ints, map_get] at hs
      obtain ⟨z, hz, rfl⟩ := List.mem_map.mp hs
      exact h.st _ (getI_in (f2 z hz))
theorem bent_pt {k : Nm} {n : Nat} {ws l : List Int} {d : PyData} (h : PartQ k n ws l) (b : BentD d) : p_is_part k n ws l d = p_law_is_part k n ws l d ∧ q_is_part k n ws l d ∧ q_law_is_part k n ws l d := by
  by_cases hl : ∃ ds, d = .list ds
  · obtain ⟨ds, rfl⟩ := hl
    have hb := b.it ds rfl
    by_cases ha : ds.all isI = true
    · have e := isI_list ha
      have ed : PyData.list ds = eL PyData.int (ds.map intD) := congrArg PyData.list e
      have hz : (ds.map intD).length ≤ 1000 := by rw [List.length_map]; exact hb.1
      rw [ed]
      refine ⟨prog_ints.trans law_ints.symm, q_prog h hz, q_law h hz fun z hz => ?_⟩
      exact hb.2 _ (by rw [e]; exact List.mem_map.mpr ⟨z, hz, rfl⟩)
    · have hf : ds.all isI = false := Bool.eq_false_iff.mpr ha
      have w0 : p_are_whole (.list ds) = false := (whole_list ds).trans hf
      have p0 : p_are_places l (.list ds) = false := by
        show (if (!((isaD "list" (.list ds)) && ((p_are_whole (.list ds)) && (p_is_rising (nsD (.list ds)))))) = true then p_are_places_2 else p_are_places_3 l (.list ds)) = _
        rw [w0, Bool.false_and, Bool.and_false]
        rfl
      have fn : ds.filter (fun x => isaD "bool" x || !isaD "int" x) ≠ [] := fun z => by
        rw [List.filter_eq_nil_iff] at z
        refine ha (List.all_eq_true.mpr fun x hx => ?_)
        have := z x hx
        unfold isI
        revert this
        cases isaD "bool" x <;> cases isaD "int" x <;> simp
      have e0 : PyData.eqv (eL eId ((ds.filter fun x => isaD "bool" x || !isaD "int" x).map fun x => x)) (eL PyData.int []) = false := by
        rw [List.map_id', eLe, show eL PyData.int ([] : List Int) = PyData.list [] from rfl, eqv_nil8]
        exact decide_eq_false fn
      refine ⟨?_, ⟨⟨h.ok, h.f, h.c⟩, ⟨h.ok, h.st, h.len⟩, ⟨fun _ => ⟨rfl, fun z => ?_⟩, fun z => ?_⟩, fun z => ?_⟩, fun _ => ⟨⟨⟨rfl, by show ds.length ≤ 100000; have := hb.1; omega⟩, ?_, shaped_tn (ds := []) fun x hx => by cases hx⟩, fun z => ?_⟩⟩
      · show (p_are_places l (.list ds) && _) = (if (!isaD "list" (.list ds)) = true then p_law_is_part_2 else p_law_is_part_3 k n ws l (.list ds))
        rw [p0, Bool.false_and, if_neg (by rw [show isaD "list" (.list ds) = true from rfl]; decide)]
        show false = (if (!PyData.eqv (eL eId ((ds.filter fun x => isaD "bool" x || !isaD "int" x).map fun x => x)) (eL PyData.int [])) = true then p_law_is_part_4 else p_law_is_part_5 k n ws l (.list ds))
        rw [e0, if_pos (by decide)]
        rfl
      · rw [w0] at z
        cases z
      · rw [w0, Bool.false_and, Bool.and_false] at z
        cases z
      · rw [p0] at z
        cases z
      · rw [List.map_id', eLe]
        exact shaped_tn fun x hx => hb.2 x ((List.mem_filter.mp hx).1)
      · change (!PyData.eqv (eL eId ((ds.filter fun x => isaD "bool" x || !isaD "int" x).map fun x => x)) (eL PyData.int [])) = false at z
        rw [e0] at z
        cases z
  · have h0 : isaD "list" d = false := by cases d <;> first | exact absurd ⟨_, rfl⟩ hl | (simp [isaD, tyD])
    have p0 : p_are_places l d = false := by
      show (if (!((isaD "list" d) && ((p_are_whole d) && (p_is_rising (nsD d))))) = true then p_are_places_2 else p_are_places_3 l d) = _
      rw [h0, Bool.false_and]
      rfl
    refine ⟨?_, ⟨⟨h.ok, h.f, h.c⟩, ⟨h.ok, h.st, h.len⟩, ⟨fun z => ?_, fun z => ?_⟩, fun z => ?_⟩, fun z => ?_⟩
    · show (p_are_places l d && _) = (if (!isaD "list" d) = true then p_law_is_part_2 else p_law_is_part_3 k n ws l d)
      rw [p0, Bool.false_and, h0]
      rfl
    · rw [h0] at z
      cases z
    · rw [h0, Bool.false_and] at z
      cases z
    · rw [p0] at z
      cases z
    · rw [h0] at z
      cases z
/-! ### the places that are found -/
section
variable {k : Nm} {n : Nat} {ws l : List Int}
theorem plc_low : ∀ {i : Nat}, i ≤ l.length → (plcD k n ws l i).Pairwise (· > ·) ∧ ∀ z ∈ plcD k n ws l i, (l.length : Int) - (i : Int) ≤ z ∧ z < (l.length : Int)
  | 0, _ => ⟨.nil, fun _ h => by cases h⟩
  | i + 1, hi => by
    obtain ⟨a, b⟩ := plc_low (i := i) (by omega)
    rw [plcD_succ]
    refine ⟨List.pairwise_append.mpr ⟨a, ?_, fun x hx y hy => ?_⟩, fun z hz => ?_⟩
    · split
      · exact List.pairwise_singleton _ _
      · exact .nil
    · have := b x hx
      split at hy
      · rw [List.mem_singleton.mp hy]
        show (l.length : Int) - 1 - (i : Int) < x
        omega
      · cases hy
    · rcases List.mem_append.mp hz with h | h
      · have := b z h
        omega
      · split at h
        · rw [List.mem_singleton.mp h]
          omega
        · cases h
theorem plc_pt : PtQ l (plcD k n ws l l.length).reverse := by
  obtain ⟨a, b⟩ := plc_low (k := k) (n := n) (ws := ws) (l := l) (Nat.le_refl _)
  refine ⟨?_, fun z hz => ?_⟩
  · rw [List.pairwise_reverse]
    exact a
  · have := b z (List.mem_reverse.mp hz)
    omega
theorem plc_run (hK : okK k n = true) (hl : ∀ s ∈ l, okS k n s) (hF : Form k n ws) : ∀ {i : Nat}, i ≤ l.length → run k n (downs k n ws (l.reverse.take i)) ((plcD k n ws l i).reverse.map (getI l)) = ws ∧ crP k n (downs k n ws (l.reverse.take i)) + ((plcD k n ws l i).length : Int) = crP k n ws
  | 0, _ => ⟨rfl, by show crP k n ws + ((0 : Nat) : Int) = _; omega⟩
  | i + 1, hi => by
    obtain ⟨a, b⟩ := plc_run hK hl hF (i := i) (by omega)
    have hj : i < l.reverse.length := by rw [List.length_reverse]; omega
    have hz : okS k n (l.reverse.getD i 0) := by
      refine rev_ok hl _ ?_
      rw [List.getD_eq_getElem?_getD, List.getElem?_eq_getElem hj]
      exact List.getElem_mem hj
    have hu : Form k n (downs k n ws (l.reverse.take i)) := downs_form hK (fun s hs => rev_ok hl s (List.mem_of_mem_take hs)) hF
    rw [downs_take hj, plcD_succ]
    have eg : getI l ((l.length : Int) - 1 - (i : Int)) = l.reverse.getD i 0 := by
      rw [rev_getD7 (by omega), show (l.length : Int) - 1 - (i : Int) = ((l.length - 1 - i : Nat) : Int) by omega, getI_nat]
    generalize downs k n ws (l.reverse.take i) = u at a b hu ⊢
    generalize l.reverse.getD i 0 = z at hz eg ⊢
    unfold downed
    by_cases hc : crossed k n u z = true
    · rw [if_pos hc, if_pos hc, List.reverse_append, List.map_append, List.length_append]
      have hst := cr_stepI hK hz hu
      rw [if_pos hc] at hst
      refine ⟨?_, by rw [List.length_singleton]; omega⟩
      show run k n (stepped k n (stepped k n u z) (getI l ((l.length : Int) - 1 - (i : Int)))) _ = ws
      rw [eg, step_step hK hz hu.1]
      exact a
    · rw [if_neg hc, if_neg hc, List.append_nil]
      exact ⟨a, b⟩
theorem plc_made (hK : okK k n = true) (hl : ∀ s ∈ l, okS k n s) (hF : Form k n ws) (hc : downs k n ws l.reverse = startL k n) : run k n (startL k n) ((plcD k n ws l l.length).reverse.map (getI l)) = ws ∧ ((plcD k n ws l l.length).reverse.length : Int) = crP k n ws := by
  have h := plc_run hK hl hF (Nat.le_refl _)
  rw [List.take_of_length_le (by rw [List.length_reverse]; omega), hc, cr_start hK] at h
  exact ⟨h.1, by rw [List.length_reverse]; omega⟩
/-- which orders are parts of a row -/
theorem parts_iff (hK : okK k n = true) (hl : ∀ s ∈ l, okS k n s) (hF : Form k n ws) {wss : List (List Int)} (hw : PartsOf k n l wss) : ws ∈ wss ↔ downs k n ws l.reverse = startL k n := by
  rw [hw.2 ws, ← beneath_row hK hl hF]
  constructor
  · rintro ⟨m, hm, rfl⟩
    exact part_beneath hK hm hl (form_start hK) (form_start hK) (Beneath.refl _)
  · exact part_of hK hl hF
theorem ben_iff (hK : okK k n = true) (hl : ∀ s ∈ l, okS k n s) (hF : Form k n ws) : benB k n ws (gains k n (startL k n) l) = true ↔ downs k n ws l.reverse = startL k n := benB_iff.trans (beneath_row hK hl hF)
end
section
variable {k : Nm} {n : Nat} {ws l zs : List Int} {wss : List (List Int)}
theorem parts_mem (hK : okK k n = true) (hl : ∀ s ∈ l, okS k n s) (hw : PartsOf k n l wss) (h : ws ∈ wss) : Form k n ws ∧ crP k n ws ≤ (l.length : Int) := by
  obtain ⟨m, hm, rfl⟩ := (hw.2 ws).mp h
  have hr := run_form hK (sub_ok hm hl) (form_start hK)
  rw [cr_start hK] at hr
  have := hm.length_le
  exact ⟨hr.1, by omega⟩
theorem parts_pos (hw : PartsOf k n l wss) : 0 < wss.length := List.length_pos_of_mem ((hw.2 (startL k n)).mpr ⟨[], List.nil_sublist l, rfl⟩)
theorem parts_q (hK : okK k n = true) (hl : ∀ s ∈ l, okS k n s) (h8 : l.length ≤ 8) (hw : PartsOf k n l wss) (h : ws ∈ wss) : PartQ k n ws l := by
  have h1 := parts_mem hK hl hw h
  exact ⟨hK, h1.1, by omega, hl, by omega⟩
theorem PartQ.nil (h : PartQ k n ws l) : PartQ k n ws [] := ⟨h.ok, h.f, h.c, fun s hs => (by cases hs), by decide⟩
theorem PartQ.start (h : PartQ k n ws l) : PartQ k n (startL k n) l := ⟨h.ok, form_start h.ok, by rw [cr_start h.ok]; decide, h.st, h.len⟩
theorem PartQ.ben (h : PartQ k n ws l) (h8 : l.length ≤ 8) : BenQ k n ws (gains k n (startL k n) l) := by
  have h1 := gains_crN h.ok h.st (form_start h.ok)
  rw [cr_start h.ok] at h1
  exact ⟨h.ok, h.f, h.c, gains_form h.ok h.st (form_start h.ok), by omega⟩
theorem tn_small {z : Int} (h : -1 ≤ z ∧ z ≤ 1000) : Tn (.int z) := tn_int (Nat.lt_of_lt_of_le (show z.natAbs < 10 ^ 4 by omega) (by decide))
theorem plc_len8 (h8 : l.length ≤ 8) : (plcD k n ws l l.length).reverse.length ≤ 8 := by
  have := plcD_len k n ws l l.length
  rw [List.length_reverse]
  omega
theorem plc_in (h8 : l.length ≤ 8) {z : Int} (h : z ∈ (plcD k n ws l l.length).reverse) : 0 ≤ z ∧ z < 8 := by
  have := (plc_pt (k := k) (n := n) (ws := ws) (l := l)).2 z h
  omega
theorem eqv_same (zs : List Int) : PyData.eqv (eL PyData.int zs) (eL PyData.int zs) = true := (eqv_l zs zs).trans (decide_eq_true rfl)
theorem shaped_partD : SeqAt.shaped (partD k n ws l) = true := by
  by_cases h : downs k n ws l.reverse = startL k n
  · rw [partD_yes h]; exact shaped_ints _
  · rw [partD_no h]; rfl
theorem none_partD : isNoneD (partD k n ws l) = !(@decide (downs k n ws l.reverse = startL k n) (Classical.propDecidable _)) := by
  by_cases h : downs k n ws l.reverse = startL k n
  · rw [partD_yes h, @decide_eq_true _ (Classical.propDecidable _) h]; rfl
  · rw [partD_no h, @decide_eq_false _ (Classical.propDecidable _) h]; rfl
theorem some_partD (h : downs k n ws l.reverse = startL k n) : isNoneD (partD k n ws l) = false := by rw [partD_yes h]; rfl
theorem downs_start (hK : okK k n = true) (hl : ∀ s ∈ l, okS k n s) : downs k n (startL k n) l.reverse = startL k n :=
  (beneath_row hK hl (form_start hK)).mp (part_beneath hK (List.nil_sublist l) hl (form_start hK) (form_start hK) (Beneath.refl _))
theorem part_start (hK : okK k n = true) (hl : ∀ s ∈ l, okS k n s) : partD k n (startL k n) l = eL PyData.int [] := by
  have hd := downs_start hK hl
  rw [partD_yes hd]
  have h := (plc_made hK hl (form_start hK) hd).2
  rw [cr_start hK] at h
  have e : (plcD k n (startL k n) l l.length).reverse = [] := List.eq_nil_of_length_eq_zero (by omega)
  rw [e]
/-- after a step too many no places are left -/
theorem pt_far (k : Nm) (n : Nat) (ws : List Int) : p_is_part k n ws l (eL PyData.int (zs ++ [(l.length : Int)])) = false := by
  rw [prog_ints, decide_eq_false, Bool.false_and]
  intro h
  have := h.2 (l.length : Int) (List.mem_append_right _ (List.mem_singleton.mpr rfl))
  omega
theorem pt_nil (k : Nm) (n : Nat) (ws l : List Int) : p_is_part k n ws l (eL PyData.int []) = decide (startL k n = ws) := by
  rw [prog_ints, show decide (PtQ l []) = true from decide_eq_true ⟨.nil, fun _ h => by cases h⟩, Bool.true_and]
  rfl
end
end Sv

namespace Sv
open PySem PySem.Spec PyProof.Rows L2 Evl
section
variable {K : PySem.W.Frag} {C : Addr}
theorem ct_start8 {k : Nm} {n : Nat} (c0 : n ≤ 100) : CtN C (spStart K) [.py (toldD k n)] ((startL k n).map PyData.int) := fun vs G a H1 e Q q E => by
  obtain ⟨v0, rfl, a0⟩ := at_all1 a
  obtain ⟨t, rfl, h_t⟩ := at_told a0
  exact ⟨t, k, n, rfl, st_of (e _ _ h_t), c0, fun p np => q p _ _ G (Gs.same e (Ex.new np)) np (fresh_back e np) upd_same (dpa_ints _)⟩
end
section
variable {K : PySem.W.Frag} {C g : Addr} {G : Hp} {v : V}
theorem ct_order7 {k : Nm} {n : Nat} (h : okK k n = true ∧ 7 ≤ 1000) : CtR C (spOrderT K) 9 [.py (toldD k n), .py (.int 7)] (fun z => ∃ ws : List Int, (Form k n ws ∧ crP k n ws ≤ (7 : Int)) ∧ z = .py (eL PyData.int ws)) := ct_orderT (m := 7) h.1 h.2
end

section
variable {P : Program} {w : World} {K : PySem.W.Frag} {mg : Str → Option Value} {base : Heap} {f C D : Addr} {fd : FuncData}
def spRightG : Sp := fun vs H Q _ => ∃ (g : Addr) (a b c : Int), vs = [.ref g] ∧ GenAt H g a b c ∧ (0 ≤ c ∧ c ≤ 10000) ∧ ∀ H', SameX g H H' → Q (.bl true) H'
theorem ok_right43 (T : Tx K mg) (F : FnP K "_law_right" "_law_right" s__law_right f fd) (c_Kind : Cd P w K mg base "Kind" C ["self", "name", "size"] 2 (spInit C)) (c_law_bent : Gd P w K mg base "_law_bent" ["_law_generator_here", "_law_value", "_law_length"] 3 (spDr C 4 DmBent RBent)) (c_law_greedy : Gd P w K mg base "_law_greedy" ["_law_pair", "_law_row_here"] 2 (spMadeT K gains)) (c_law_is_part : Gd P w K mg base "_law_is_part" ["_law_pair", "_law_order_here", "_law_row_here", "_law_value"] 3 (spPure C R_law_is_part)) (c_law_kind : Gd P w K mg base "_law_kind" ["_law_generator_here"] 3 (spKindT)) (c_law_least : Gd P w K mg base "_law_least" ["_law_pair", "_law_order_here"] 4 (spLeastW K)) (c_law_order : Gd P w K mg base "_law_order" ["_law_generator_here", "_law_pair", "_law_most"] 4 (spOrderT K)) (c_law_parts : GdG P w K mg base "_law_parts" ["_law_pair", "_law_row_here"] 5 (spParts K)) (c_law_random : Gd P w K mg base "_law_random" ["_law_generator_here", "_law_bound"] 2 (spRandom)) (c_law_row : Gd P w K mg base "_law_row" ["_law_generator_here", "_law_pair", "_law_most"] 3 (spRow K)) (c_law_start : Gd P w K mg base "_law_start" ["_law_pair"] 1 (spStart K)) (c_is_beneath : Gd P w K mg base "is_beneath" ["kind", "one", "other"] 8 (spIsBeneath K C)) (c_is_part : Gd P w K mg base "is_part" ["kind", "order", "row", "value"] 6 (spPure C R_is_part)) (c_part : Gd P w K mg base "part" ["kind", "order", "row"] 6 (spPart K C)) (c_partKw : GdK P w K mg base "part" ["kind", "order", "row"] ["row", "order", "kind"] gRev 6 (spPart K C)) (c_is_partKw : GdK P w K mg base "is_part" ["kind", "order", "row", "value"] ["value", "row", "order", "kind"] gRev 6 (spPure C R_is_part)) : FnG P w K mg base 9 f fd ["_law_generator_here"] spRightG := by
  refine okG F sc__law_right (fun vs H Q E h => ?_) (fun cdv A outer s H0 vs Q E gs hr h => ?_)
  · obtain ⟨g, a, b, c, rfl, _⟩ := h
    rfl
  · obtain ⟨g, a, b, c, rfl, hg, ⟨c0, c1⟩, q⟩ := h
    refine ⟨_, (pss_cons (ps_set (i := 1) sc__law_right.nd rfl (by first | exact Or.inl rfl | exact Or.inr rfl) (pe_callG c_law_kind (hr.mono (by decide)) (by rfl) (pa_cons (pv 0) pa_nil)))
      (pss_cons (ps_par (i := 2) (j := 3) (by rfl) sc__law_right.nd rfl rfl (by decide) rfl rfl (pa_cons (pe_makeG c_Kind (hr.mono (by decide)) (by rfl) (pa_cons (pe_ix ix_tup (pv 1) pe_int (fun _ _ => rfl)) (pa_cons (pe_ix ix_tup (pv 1) pe_int (fun _ _ => rfl)) pa_nil))) (pa_cons (pe_callG c_law_row (hr.mono (by decide)) (by rfl) (pa_cons (pv 0) (pa_cons (pv 1) (pa_cons pe_int pa_nil)))) pa_nil)) (by rfl))
      (pss_cons (ps_par3 (i := 4) (j := 5) (l := 6) (by rfl) sc__law_right.nd rfl rfl rfl (by decide) (by decide) (by decide) rfl rfl rfl (pa_cons (pe_callGG c_law_parts gs (hr.mono (by decide)) (by rfl) (pa_cons (pv 1) (pa_cons (pv 3) pa_nil))) (pa_cons (pe_callG c_law_greedy (hr.mono (by decide)) (by rfl) (pa_cons (pv 1) (pa_cons (pv 3) pa_nil))) (pa_cons (pe_callTy call_list_of (by rfl) T.m_list (by decide +kernel) (pa_cons (pv 3) pa_nil)) pa_nil))) (by rfl))
      (pss_cons (ps_for PassesOwn.never rfl (pi_range1 (by rfl) T.m_range (pa_cons pe_int pa_nil)) (pg_name (i := 7) sc__law_right.nd rfl (Or.inl rfl)) (pss_cons (ps_set (i := 8) sc__law_right.nd rfl (by first | exact Or.inl rfl | exact Or.inr rfl) (pe_ifExp (pt_cmpR op_lt (pv 7) pe_int (nomark _)) (pe_ix ix_list (pv 4) (pe_callG c_law_random (hr.mono (by decide)) (by rfl) (pa_cons (pv 0) (pa_cons (pe_callB call_len_seq (by rfl) T.m_len (by decide +kernel) (pa_cons (pv 4) pa_nil)) pa_nil))) (fun _ _ => rfl)) (pe_callG c_law_order (hr.mono (by decide)) (by rfl) (pa_cons (pv 0) (pa_cons (pv 1) (pa_cons pe_int pa_nil))))))
      (pss_cons (ps_set (i := 9) sc__law_right.nd rfl (by first | exact Or.inl rfl | exact Or.inr rfl) (pe_callG c_part (hr.mono (by decide)) (by rfl) (pa_cons (pv 2) (pa_cons (pv 8) (pa_cons (pv 3) pa_nil)))))
      (pss_cons (ps_if (PW.pt (pw_or (pt_cmpR op_ne (pe_cmpR op_notN (pv 9) pe_non (nomark _)) (pe_cmpR (op_inD (rm65 hr)) (pv 8) (pv 4) (by with_unfolding_all rfl)) (nomark _)) (pw_or (pt_cmpR op_ne (pe_callG c_is_beneath (hr.mono (by decide)) (by rfl) (pa_cons (pv 2) (pa_cons (pv 8) (pa_cons (pv 5) pa_nil)))) (pe_cmpR (op_inD (rm65 hr)) (pv 8) (pv 4) (by with_unfolding_all rfl)) (nomark _)) (pw_or1 (pt_cmpR (op_neD hr.units) (pv 3) (pv 6) (nomark _)))))) (pss_one (ps_ret pe_bl)) pss_nil)
      (pss_cons (ps_if (pt_cmpR op_notN (pv 9) pe_non (nomark _)) (pss_cons (ps_if (PW.pt (pw_or (pt_not (pt_val (pe_callG c_law_is_part (hr.mono (by decide)) (by rfl) (pa_cons (pv 1) (pa_cons (pv 8) (pa_cons (pv 3) (pa_cons (pv 9) pa_nil))))))) (pw_or1 (pt_cmpR op_ne (pe_callB call_len_seq (by rfl) T.m_len (by decide +kernel) (pa_cons (pv 9) pa_nil)) (pe_callB call_len_seq (by rfl) T.m_len (by decide +kernel) (pa_cons (pe_callG c_law_least (hr.mono (by decide)) (by rfl) (pa_cons (pv 1) (pa_cons (pv 8) pa_nil))) pa_nil)) (nomark _))))) (pss_one (ps_ret pe_bl)) pss_nil)
      (pss_one (ps_if (PW.pt (pw_or (pt_cmpR (op_neD hr.units) (pe_callKG c_partKw (hr.mono (by decide)) (by rfl) (pk_cons (pv 3) (pk_cons (pv 8) (pk_cons (pv 2) pk_nil)))) (pv 9) (nomark _)) (pw_or1 (pt_cmpR op_notBl (pe_callKG c_is_partKw (hr.mono (by decide)) (by rfl) (pk_cons (pv 9) (pk_cons (pv 3) (pk_cons (pv 8) (pk_cons (pv 2) pk_nil))))) pe_bl (nomark _))))) (pss_one (ps_ret pe_bl)) pss_nil))) pss_nil)
      (pss_cons (ps_for PassesOwn.never rfl (pi_list (pe_callG c_law_bent (hr.mono (by decide)) (by rfl) (pa_cons (pv 0) (pa_cons (pe_ifExp (pt_cmpR op_notN (pv 9) pe_non (nomark _)) (pv 9) (pe_lst pa_nil)) (pa_cons (pe_callB call_len_seq (by rfl) T.m_len (by decide +kernel) (pa_cons (pv 3) pa_nil)) pa_nil))))) (pg_name (i := 10) sc__law_right.nd rfl (Or.inl rfl)) (pss_cons (ps_par (i := 11) (j := 12) (by rfl) sc__law_right.nd rfl rfl (by decide) rfl rfl (pa_cons (pe_callB (call_reprV gs hr) (by rfl) T.m_repr (by decide +kernel) (pa_cons (pv 10) pa_nil)) (pa_cons (pe_callG c_law_is_part (hr.mono (by decide)) (by rfl) (pa_cons (pv 1) (pa_cons (pv 8) (pa_cons (pv 3) (pa_cons (pv 10) pa_nil))))) pa_nil)) (by rfl))
      (pss_one (ps_if (PW.pt (pw_or (pt_cmpR op_ne (pe_callB (call_reprV gs hr) (by rfl) T.m_repr (by decide +kernel) (pa_cons (pe_callG c_is_part (hr.mono (by decide)) (by rfl) (pa_cons (pv 2) (pa_cons (pv 8) (pa_cons (pv 3) (pa_cons (pv 10) pa_nil))))) pa_nil)) (pe_callB (call_reprV gs hr) (by rfl) T.m_repr (by decide +kernel) (pa_cons (pv 12) pa_nil)) (nomark _)) (pw_or1 (pt_cmpR op_ne (pe_callB (call_reprV gs hr) (by rfl) T.m_repr (by decide +kernel) (pa_cons (pv 10) pa_nil)) (pv 11) (nomark _))))) (pss_one (ps_ret pe_bl)) pss_nil))))
      (pss_one (ps_if (pt_cmpR op_notN (pv 9) pe_non (nomark _)) (pss_cons (ps_par (i := 12) (j := 13) (by rfl) sc__law_right.nd rfl rfl (by decide) rfl rfl (pa_cons (pe_callTy call_list_of (by rfl) T.m_list (by decide +kernel) (pa_cons (pv 9) pa_nil)) (pa_cons (pe_callG c_part (hr.mono (by decide)) (by rfl) (pa_cons (pv 2) (pa_cons (pv 8) (pa_cons (pv 3) pa_nil)))) pa_nil)) (by rfl))
      (pss_cons (ps_expr (pe_bm PySem.F.plainAttrs_list PySem.F.slot_list_append PySem.F.type_list_append mt_append (pv 13) (pa_cons (pe_callB call_len_seq (by rfl) T.m_len (by decide +kernel) (pa_cons (pv 3) pa_nil)) pa_nil)))
      (pss_cons (ps_set (i := 14) sc__law_right.nd rfl (by first | exact Or.inl rfl | exact Or.inr rfl) (pe_lst (pa_cons (pe_callG c_is_part (hr.mono (by decide)) (by rfl) (pa_cons (pv 2) (pa_cons (pv 8) (pa_cons (pv 3) (pa_cons (pv 13) pa_nil))))) pa_nil)))
      (pss_cons (ps_asg (pv 12) (pg_all (pv 13)))
      (pss_cons (ps_expr (pe_bm PySem.F.plainAttrs_list PySem.F.slot_list_append PySem.F.type_list_append mt_append (pv 14) (pa_cons (pe_callG c_is_part (hr.mono (by decide)) (by rfl) (pa_cons (pv 2) (pa_cons (pv 8) (pa_cons (pv 3) (pa_cons (pv 13) pa_nil))))) pa_nil)))
      (pss_cons (ps_expr (pe_bm0 PySem.F.plainAttrs_list PySem.F.slot_list_reverse PySem.F.type_list_reverse mt_reverse (pv 13)))
      (pss_cons (ps_expr (pe_bm PySem.F.plainAttrs_list PySem.F.slot_list_append PySem.F.type_list_append mt_append (pv 14) (pa_cons (pe_callG c_is_part (hr.mono (by decide)) (by rfl) (pa_cons (pv 2) (pa_cons (pv 8) (pa_cons (pv 3) (pa_cons (pv 13) pa_nil))))) pa_nil)))
      (pss_cons (ps_expr (pe_bm PySem.F.plainAttrs_list PySem.F.slot_list_append PySem.F.type_list_append mt_append (pv 9) (pa_cons pe_non pa_nil)))
      (pss_one (ps_if (PW.pt (pw_or (pt_cmpR (op_neD hr.units) (pe_callG c_part (hr.mono (by decide)) (by rfl) (pa_cons (pv 2) (pa_cons (pv 8) (pa_cons (pv 3) pa_nil)))) (pv 12) (nomark _)) (pw_or1 (pt_cmpR (op_neD hr.units) (pv 14) (pe_lst (pa_cons pe_bl (pa_cons pe_bl (pa_cons (pe_callG c_law_is_part (hr.mono (by decide)) (by rfl) (pa_cons (pv 1) (pa_cons (pv 8) (pa_cons (pv 3) (pa_cons (pe_revL (pv 12)) pa_nil))))) pa_nil)))) (nomark _))))) (pss_one (ps_ret pe_bl)) pss_nil)))))))))) pss_nil))))))))
      (pss_cons (ps_set (i := 8) sc__law_right.nd rfl (by first | exact Or.inl rfl | exact Or.inr rfl) (pe_ix ix_list (pv 4) (pe_callG c_law_random (hr.mono (by decide)) (by rfl) (pa_cons (pv 0) (pa_cons (pe_callB call_len_seq (by rfl) T.m_len (by decide +kernel) (pa_cons (pv 4) pa_nil)) pa_nil))) (fun _ _ => rfl)))
      (pss_cons (ps_set (i := 14) sc__law_right.nd rfl (by first | exact Or.inl rfl | exact Or.inr rfl) (pe_lst (pa_cons (pe_cmpR op_notN (pe_callG c_part (hr.mono (by decide)) (by rfl) (pa_cons (pv 2) (pa_cons (pv 8) (pa_cons (pv 3) pa_nil)))) pe_non (nomark _)) (pa_cons (pe_callG c_is_part (hr.mono (by decide)) (by rfl) (pa_cons (pv 2) (pa_cons (pv 8) (pa_cons (pv 3) (pa_cons (pe_lst pa_nil) pa_nil))))) pa_nil))))
      (pss_cons (ps_expr (pe_bm0 PySem.F.plainAttrs_list PySem.F.slot_list_clear PySem.F.type_list_clear mt_clear (pv 3)))
      (pss_cons (ps_set (i := 14) sc__law_right.nd rfl (by first | exact Or.inl rfl | exact Or.inr rfl) (pe_op op_catS (pv 14) (pe_lst (pa_cons (pe_cmpR op_notN (pe_callG c_part (hr.mono (by decide)) (by rfl) (pa_cons (pv 2) (pa_cons (pv 8) (pa_cons (pv 3) pa_nil)))) pe_non (nomark _)) (pa_cons (pe_callG c_is_part (hr.mono (by decide)) (by rfl) (pa_cons (pv 2) (pa_cons (pv 8) (pa_cons (pv 3) (pa_cons (pe_lst pa_nil) pa_nil))))) pa_nil)))))
      (pss_cons (ps_expr (pe_bm PySem.F.plainAttrs_list PySem.F.slot_list_extend PySem.F.type_list_extend mt_extend (pv 3) (pa_cons (pv 6) pa_nil)))
      (pss_cons (ps_set (i := 15) sc__law_right.nd rfl (by first | exact Or.inl rfl | exact Or.inr rfl) (pe_cmpR (op_eqD hr.units) (pv 8) (pe_callG c_law_start (hr.mono (by decide)) (by rfl) (pa_cons (pv 1) pa_nil)) (nomark _)))
      (pss_cons (ps_if (PW.pt (pw_or (pt_cmpR (op_neD hr.units) (pv 14) (pe_lst (pa_cons pe_bl (pa_cons (pv 15) (pa_cons (pv 15) (pa_cons (pv 15) pa_nil))))) (nomark _)) (pw_or1 (pt_cmpR op_isN (pe_callG c_part (hr.mono (by decide)) (by rfl) (pa_cons (pv 2) (pa_cons (pv 8) (pa_cons (pv 3) pa_nil)))) pe_non (nomark _))))) (pss_one (ps_ret pe_bl)) pss_nil)
      (pss_cons (ps_set (i := 16) sc__law_right.nd rfl (by first | exact Or.inl rfl | exact Or.inr rfl) (pe_callTy call_list_of (by rfl) T.m_list (by decide +kernel) (pa_cons (pv 8) pa_nil)))
      (pss_cons (ps_expr (pe_callG c_part (hr.mono (by decide)) (by rfl) (pa_cons (pv 2) (pa_cons (pv 16) (pa_cons (pv 3) pa_nil)))))
      (pss_cons (ps_asg (pe_callG c_law_start (hr.mono (by decide)) (by rfl) (pa_cons (pv 1) pa_nil)) (pg_all (pv 16)))
      (pss_one (ps_ret (pe_and (pe_cmpR (op_eqD hr.units) (pe_callG c_part (hr.mono (by decide)) (by rfl) (pa_cons (pv 2) (pa_cons (pv 16) (pa_cons (pv 3) pa_nil)))) (pe_lst pa_nil) (nomark _)) (pe_one (pe_cmpR (op_eqD hr.units) (pv 3) (pv 6) (nomark _)))))))))))))))))))), ?_⟩
    have eG := rmv_ex H0 g
    have ng := rmv_none H0 g
    have gc : GenC H0 g 10000 := ⟨a, b, c, hg, c0, c1⟩
    have eB : Ex (rmv H0 g) (rmv H0 g) := Ex.refl _
    -- _law_pair = _law_kind(_law_generator_here)
    refine q_asgR (C := C) (er_call (ev_var (i := 0) rfl) as_nil (ct_kindT )) eG ng gc (by omega) fun x1 v__law_pair H1 G1 hx s1 g2 f__law_pair => ?_
    refine st_eq (σ' := [some (V.ref g), some v__law_pair, none, none, none, none, none, none, none, none, none, none, none, none, none, none, none]) ?_ rfl
    obtain ⟨k1, n2, hk1, rfl⟩ := hx
    have ng := s1.keepNone gc ng
    have gc := g2
    have eB := eB.trans s1.g
    have eG := s1.gh
    -- _law_kind_here, _law_row_here = (Kind(_law_pair[0], _law_pair[1]), _law_row(_law_generator_here, _law_pair, 8))
    have hh1 : (okK k1 n2 = true) := by exact hk1.1
    refine q_par2N (C := C) (ed_make (as_cons (ed_ix0 (ed_var (i := 1) rfl f__law_pair) ed_i) (as_cons (ed_ix1 (ed_var (i := 1) rfl f__law_pair) ed_i) as_nil)) (hh1)) (ern_call (ev_var (i := 0) rfl) (as_cons (ed_var (i := 1) rfl f__law_pair) (as_cons ed_i as_nil)) (ct_rowN (m := 8) hk1.1 (by decide))) eG ng gc (by omega) fun v__law_kind_here ds p__law_row_here vs__law_row_here H1 G1 hx s1 g2 f__law_kind_here np1 ng__law_row_here n1 h1 d1 => ?_
    refine st_eq (σ' := [some (V.ref g), some v__law_pair, some v__law_kind_here, some (V.ref p__law_row_here), none, none, none, none, none, none, none, none, none, none, none, none, none]) ?_ rfl
    obtain ⟨l, hl, rfl⟩ := hx
    have w__law_row_here : OwnR C _ _ _ _ _ := ⟨h1, n1, d1⟩
    have ng := s1.keepNone gc ng
    have gc := g2
    have eB := eB.trans s1.g
    have eG := s1.gh
    have f__law_pair := At.mono s1.g f__law_pair
    -- _law_made_here, _law_greatest, _law_kept = (_law_parts(_law_pair, _law_row_here), _law_greedy(_law_pair, _law_row_here),
    have hh2 : (okK k1 n2 = true ∧ ∀ s ∈ l, okS k1 n2 s) := by exact ⟨hk1.1, hl.1⟩
    refine q_par3O (C := C) (evo_parts (as_cons (ed_var (i := 1) rfl (At.mono (Ex.new w__law_row_here.n) f__law_pair)) (as_cons (ed_var (i := 3) rfl (w__law_row_here.at)) as_nil)) hk1.1 hl.1 hl.2) (evo_of (en_call (as_cons (ed_var (i := 1) rfl (At.mono (Ex.new w__law_row_here.n) f__law_pair)) (as_cons (ed_var (i := 3) rfl (w__law_row_here.at)) as_nil)) (ct_madeT ((hh2)).1 ((hh2)).2))) (evo_of (en_list (ed_var (i := 3) rfl (w__law_row_here.at)))) eG w__law_row_here.o w__law_row_here.n fun x y z v__law_made_here v__law_greatest v__law_kept H1 G1 hx hy hz s1 f__law_made_here f__law_greatest f__law_kept => ?_
    refine st_eq (σ' := [some (V.ref g), some v__law_pair, some v__law_kind_here, some (V.ref p__law_row_here), some v__law_made_here, some v__law_greatest, some v__law_kept, none, none, none, none, none, none, none, none, none, none]) ?_ rfl
    obtain ⟨wss, hw, rfl⟩ := hx
    subst hy hz
    have ng := s1.nw _ gc.ne ng
    have gc := gc.ex s1.h
    have w__law_row_here := w__law_row_here.step s1
    have eB := eB.trans s1.g
    have eG := s1.gh
    have f__law_pair := At.mono s1.g f__law_pair
    have f__law_kind_here := At.mono s1.g f__law_kind_here
    -- for _law_turn in range(10):
    have eG_z1 := eG
    have ng_z1 := ng
    have eB_z1 := eB
    have f__law_pair_z1 := f__law_pair
    have f__law_kind_here_z1 := f__law_kind_here
    have w__law_row_here_z1 := w__law_row_here
    have f__law_made_here_z1 := f__law_made_here
    have f__law_greatest_z1 := f__law_greatest
    have f__law_kept_z1 := f__law_kept
    have f__law_row_here := w__law_row_here.at
    have eG := w__law_row_here.ex eG
    have eB := eB.trans (Ex.new (o := .lst vs__law_row_here) w__law_row_here.n)
    have ng := (upd_ne (o := .lst vs__law_row_here) (Ne.symm ng__law_row_here)).trans ng
    have f__law_pair := At.mono (Ex.new (o := .lst vs__law_row_here) w__law_row_here.n) f__law_pair
    have f__law_kind_here := At.mono (Ex.new (o := .lst vs__law_row_here) w__law_row_here.n) f__law_kind_here
    have f__law_made_here := At.mono (Ex.new (o := .lst vs__law_row_here) w__law_row_here.n) f__law_made_here
    have f__law_greatest := At.mono (Ex.new (o := .lst vs__law_row_here) w__law_row_here.n) f__law_greatest
    have f__law_kept := At.mono (Ex.new (o := .lst vs__law_row_here) w__law_row_here.n) f__law_kept
    have eo_z1 := Ex.of eG
    have hh3 : (-100000 ≤ (10 : Int) ∧ (10 : Int) ≤ 100000) := by exact ⟨by decide, by decide⟩
    obtain ⟨c1, hc1, gc⟩ : ∃ c : Int, c ≤ 20000 ∧ GenC _ g c := ⟨_, (by omega), gc⟩
    refine q_forD (C := C) (e := PyData.int) K (ei_rg1 (C := C) ed_i (hh3)) eG (fun i σ G H => ∃ (o7 : Option V) (o8 : Option V) (o9 : Option V) (o10 : Option V) (o11 : Option V) (o12 : Option V) (o13 : Option V) (o14 : Option V) (o15 : Option V) (o16 : Option V), (True) ∧ σ = [some (V.ref g), some v__law_pair, some v__law_kind_here, some (V.ref p__law_row_here), some v__law_made_here, some v__law_greatest, some v__law_kept, o7, o8, o9, o10, o11, o12, o13, o14, o15, o16] ∧ GenC H g (c1 + (i : Int) * 30) ∧ G g = none) ?_ ?_ ?_
    · intro H1 G1 s1
      exact ⟨_, _, _, _, _, _, _, _, _, _, trivial, rfl, by simpa using gc.ex s1.h, s1.nw _ gc.ne ng⟩
    · rintro i1 x_turn v__law_turn σ' G' H' G2 H2 Gb hx1 ⟨o7, o8, o9, o10, o11, o12, o13, o14, o15, o16, hinv1, rfl, gc, ng⟩ h3 h4 s2 f__law_turn
      have hi1 : i1 < ((rngI 0 (10 : Int))).length := (List.getElem?_eq_some_iff.mp hx1).1
      have hn1 : (i1 : Int) < 10 := by have h1 := hi1; rw [rng_len] at h1; omega
      have eb : Ex Gb G2 := h4.trans s2.g
      have eB := eB.trans ((h3.trans h4).trans s2.g)
      have eG := s2.gh
      have eo_z1 := eo_z1.trans ((h3.trans h4).trans s2.g)
      have ng := s2.nw _ gc.ne ng
      have gc := gc.ex s2.h
      have f__law_pair := At.mono ((h3.trans h4).trans s2.g) f__law_pair
      have f__law_kind_here := At.mono ((h3.trans h4).trans s2.g) f__law_kind_here
      have f__law_row_here := At.mono ((h3.trans h4).trans s2.g) f__law_row_here
      have f__law_made_here := At.mono ((h3.trans h4).trans s2.g) f__law_made_here
      have f__law_greatest := At.mono ((h3.trans h4).trans s2.g) f__law_greatest
      have f__law_kept := At.mono ((h3.trans h4).trans s2.g) f__law_kept
      refine st_eq (σ' := [some (V.ref g), some v__law_pair, some v__law_kind_here, some (V.ref p__law_row_here), some v__law_made_here, some v__law_greatest, some v__law_kept, some v__law_turn, o8, o9, o10, o11, o12, o13, o14, o15, o16]) ?_ rfl
      -- _law_order_here = _law_made_here[_law_random(_law_generator_here, len(_law_made_here))] if _law_turn < 5 else _law_order(_law_generator_here, _law_pai
      have hh4 : 0 < ((wss).length : Int) ∧ ((wss).length : Int) < 2 ^ 29 := by have h1 := parts_pos hw; have h2 := hw.1; omega
      have hh5 : ∀ i5 : Int, (0 ≤ i5 ∧ i5 < ((wss).length : Int)) → -((wss).length : Int) ≤ i5 ∧ i5 < ((wss).length : Int) := by intro i h; omega
      have hh6 : okK k1 n2 = true ∧ 7 ≤ 1000 := by exact ⟨hk1.1, by decide⟩
      refine q_asgR (C := C) (er_if (et_of (C := C) (ed_lt (ed_var (i := 7) rfl f__law_turn) ed_i)) (fun z3 => (er_ix (f := (eL PyData.int)) (ed_var (i := 4) rfl f__law_made_here) (er_call (ev_var (i := 0) rfl) (as_cons (ed_lenL (ed_var (i := 4) rfl f__law_made_here)) as_nil) (ct_random hh4)) hh5)) (fun z3 => (er_call (ev_var (i := 0) rfl) (as_cons (ed_var (i := 1) rfl f__law_pair) (as_cons ed_i as_nil)) (ct_order7 hh6))) (by omega) (by omega)) eG ng gc (by omega) fun x1 v__law_order_here H1 G1 hx s1 g2 f__law_order_here => ?_
      refine st_eq (σ' := [some (V.ref g), some v__law_pair, some v__law_kind_here, some (V.ref p__law_row_here), some v__law_made_here, some v__law_greatest, some v__law_kept, some v__law_turn, some v__law_order_here, o9, o10, o11, o12, o13, o14, o15, o16]) ?_ rfl
      obtain ⟨y7, hy7, rfl⟩ : ∃ y7 : (List Int), (Form k1 n2 y7 ∧ crP k1 n2 y7 ≤ 60) ∧ x1 = .py ((eL PyData.int) y7) := by 
        split at hx
        · obtain ⟨i, hi, rfl⟩ := hx
          have h1 := parts_mem hk1.1 hl.1 hw (getI_mem (ws := wss) (i := i) ⟨by omega, hi.2⟩)
          have := hl.2
          exact ⟨_, ⟨h1.1, by omega⟩, rfl⟩
        · obtain ⟨us, ⟨h1, h2⟩, rfl⟩ := hx
          exact ⟨_, ⟨h1, by omega⟩, rfl⟩
      have ng := s1.keepNone gc ng
      have gc := g2
      have eB := eB.trans s1.g
      have eG := s1.gh
      have f__law_pair := At.mono s1.g f__law_pair
      have f__law_kind_here := At.mono s1.g f__law_kind_here
      have f__law_row_here := At.mono s1.g f__law_row_here
      have f__law_made_here := At.mono s1.g f__law_made_here
      have f__law_greatest := At.mono s1.g f__law_greatest
      have f__law_kept := At.mono s1.g f__law_kept
      have f__law_turn := At.mono s1.g f__law_turn
      have eb := eb.trans s1.g
      have eo_z1 := eo_z1.trans s1.g
      -- _law_told = part(_law_kind_here, _law_order_here, _law_row_here)
      have hh7 : (PartQ k1 n2 y7 l) := by exact ⟨hk1.1, hy7.1, hy7.2, hl.1, by have := hl.2; omega⟩
      have hpq := hh7
      by_cases hc : downs k1 n2 y7 l.reverse = startL k1 n2
      · have hcase := hc
        refine q_asgN (C := C) (en_call (as_cons (ed_var (i := 2) rfl f__law_kind_here) (as_cons (ed_var (i := 8) rfl f__law_order_here) (as_cons (ed_var (i := 3) rfl f__law_row_here) as_nil))) (ct_partN hh7 hc)) eG fun p__law_told vs__law_told H1 G1 s1 h1 h2 h3 h4 => ?_
        refine st_eq (σ' := [some (V.ref g), some v__law_pair, some v__law_kind_here, some (V.ref p__law_row_here), some v__law_made_here, some v__law_greatest, some v__law_kept, some v__law_turn, some v__law_order_here, some (V.ref p__law_told), o10, o11, o12, o13, o14, o15, o16]) ?_ rfl
        have ng__law_told : p__law_told ≠ g := fun z => gc.ne (z ▸ h1)
        have w__law_told : OwnR C _ _ _ _ _ := ⟨h3, h2, h4⟩
        have ng := s1.nw _ gc.ne ng
        have gc := gc.ex s1.h
        have eB := eB.trans s1.g
        have eG := s1.gh
        have f__law_pair := At.mono s1.g f__law_pair
        have f__law_kind_here := At.mono s1.g f__law_kind_here
        have f__law_row_here := At.mono s1.g f__law_row_here
        have f__law_made_here := At.mono s1.g f__law_made_here
        have f__law_greatest := At.mono s1.g f__law_greatest
        have f__law_kept := At.mono s1.g f__law_kept
        have f__law_turn := At.mono s1.g f__law_turn
        have f__law_order_here := At.mono s1.g f__law_order_here
        have eb := eb.trans s1.g
        have eo_z1 := eo_z1.trans s1.g
        obtain ⟨ps, hps⟩ : ∃ z, z = (plcD k1 n2 y7 l l.length).reverse := ⟨_, rfl⟩
        rw [← hps] at w__law_told
        -- if (_law_told is not None) != (_law_order_here in _law_made_here) or is_beneath(_law_kind_here, _law_order_here, _law_greatest) != (_law_order_here in
        have hh8 : ((!decide ((!(isNoneD ((eL PyData.int) ps))) = (inL y7 wss))) = false → (((BenQ k1 n2 y7 (gains k1 n2 (startL k1 n2) l))))) := by exact fun _ => hpq.ben hl.2
        have hh9 : ((!decide ((!(isNoneD ((eL PyData.int) ps))) = (inL y7 wss))) || ((!decide ((benB k1 n2 y7 (gains k1 n2 (startL k1 n2) l)) = (inL y7 wss))) || (!decide (l = l)))) = false := by rw [inL_iff.mpr ((parts_iff hk1.1 hl.1 hpq.f hw).mpr hcase), (ben_iff hk1.1 hl.1 hpq.f).mpr hcase, show isNoneD (eL PyData.int ps) = false from rfl]; simp
        refine q_noD (et_or (et_of (C := C) (ed_neB (ed_notN (ed_var (i := 9) rfl (w__law_told.at))) (ed_inL (Enc.list enc_int) (by decide) (ed_var (i := 8) rfl (At.mono (Ex.new w__law_told.n) f__law_order_here)) (ed_var (i := 4) rfl (At.mono (Ex.new w__law_told.n) f__law_made_here))))) (fun z8 => (et_or (et_of (C := C) (ed_neB (ed_call (as_cons (ed_var (i := 2) rfl (At.mono (Ex.new w__law_told.n) f__law_kind_here)) (as_cons (ed_var (i := 8) rfl (At.mono (Ex.new w__law_told.n) f__law_order_here)) (as_cons (ed_var (i := 5) rfl (At.mono (Ex.new w__law_told.n) f__law_greatest)) as_nil))) (ct_isBen ((hh8) z8))) (ed_inL (Enc.list enc_int) (by decide) (ed_var (i := 8) rfl (At.mono (Ex.new w__law_told.n) f__law_order_here)) (ed_var (i := 4) rfl (At.mono (Ex.new w__law_told.n) f__law_made_here))))) (fun z9 => (et_of (C := C) (ed_neE (Enc.list enc_int) (by decide) (ed_var (i := 3) rfl (At.mono (Ex.new w__law_told.n) f__law_row_here)) (ed_var (i := 6) rfl (At.mono (Ex.new w__law_told.n) f__law_kept)))))))) (w__law_told.ex eG) hh9 fun H1 s1 => ?_
        have s1 := Gs.same eG s1.h
        have ng := s1.nw _ gc.ne ng
        have gc := gc.ex s1.h
        have w__law_told := w__law_told.step s1
        have eB := eB.trans s1.g
        have eG := s1.gh
        have f__law_pair := At.mono s1.g f__law_pair
        have f__law_kind_here := At.mono s1.g f__law_kind_here
        have f__law_row_here := At.mono s1.g f__law_row_here
        have f__law_made_here := At.mono s1.g f__law_made_here
        have f__law_greatest := At.mono s1.g f__law_greatest
        have f__law_kept := At.mono s1.g f__law_kept
        have f__law_turn := At.mono s1.g f__law_turn
        have f__law_order_here := At.mono s1.g f__law_order_here
        have eb := eb.trans s1.g
        have eo_z1 := eo_z1.trans s1.g
        -- if _law_told is not None:
        refine q_ifT (et_of (C := C) (ed_notN (ed_var (i := 9) rfl (w__law_told.at)))) (w__law_told.ex eG) rfl fun H1 s1 => ?_
        have s1 := Gs.same eG s1.h
        have ng := s1.nw _ gc.ne ng
        have gc := gc.ex s1.h
        have w__law_told := w__law_told.step s1
        have eB := eB.trans s1.g
        have eG := s1.gh
        have f__law_pair := At.mono s1.g f__law_pair
        have f__law_kind_here := At.mono s1.g f__law_kind_here
        have f__law_row_here := At.mono s1.g f__law_row_here
        have f__law_made_here := At.mono s1.g f__law_made_here
        have f__law_greatest := At.mono s1.g f__law_greatest
        have f__law_kept := At.mono s1.g f__law_kept
        have f__law_turn := At.mono s1.g f__law_turn
        have f__law_order_here := At.mono s1.g f__law_order_here
        have eb := eb.trans s1.g
        have eo_z1 := eo_z1.trans s1.g
        -- if not _law_is_part(_law_pair, _law_order_here, _law_row_here, _law_told) or len(_law_told) != len(_law_least(_law_pair, _law_order_here)):
        have hh10 : ((q_law_is_part k1 n2 (y7) (l) (((eL PyData.int) ps)))) ∧ ((!(p_law_is_part k1 n2 (y7) (l) (((eL PyData.int) ps)))) = false → ((okK k1 n2 = true ∧ Form k1 n2 y7 ∧ crP k1 n2 y7 ≤ 200))) := by subst hps; exact ⟨q_law hpq (Nat.le_trans (plc_len8 hl.2) (by decide)) (fun z hz => tn_small (by have := plc_in hl.2 hz; omega)), fun _ => ⟨hk1.1, hpq.f, by have := hpq.c; omega⟩⟩
        have hh11 : ((!(p_law_is_part k1 n2 (y7) (l) (((eL PyData.int) ps)))) || (!decide (((ps).length : Int) = (crP k1 n2 y7)))) = false := by subst hps; have hm := plc_made hk1.1 hl.1 hpq.f hcase; rw [law_ints, decide_eq_true plc_pt, decide_eq_true hm.1, decide_eq_true hm.2]; rfl
        refine q_noD (et_or (et_not (et_ofB (C := C) (ed_call (as_cons (ed_var (i := 1) rfl (At.mono (Ex.new w__law_told.n) f__law_pair)) (as_cons (ed_var (i := 8) rfl (At.mono (Ex.new w__law_told.n) f__law_order_here)) (as_cons (ed_var (i := 3) rfl (At.mono (Ex.new w__law_told.n) f__law_row_here)) (as_cons (ed_var (i := 9) rfl (w__law_told.at)) as_nil)))) (ct_pure ⟨k1, n2, y7, l, ((eL PyData.int) ps), rfl, ((hh10).1), rfl⟩)))) (fun z10 => (et_of (C := C) (ed_ne (ed_lenL (ed_var (i := 9) rfl (w__law_told.at))) (ed_lenW (as_cons (ed_var (i := 1) rfl (At.mono (Ex.new w__law_told.n) f__law_pair)) (as_cons (ed_var (i := 8) rfl (At.mono (Ex.new w__law_told.n) f__law_order_here)) as_nil)) (((hh10).2) z10)))))) (w__law_told.ex eG) hh11 fun H1 s1 => ?_
        have s1 := Gs.same eG s1.h
        have ng := s1.nw _ gc.ne ng
        have gc := gc.ex s1.h
        have w__law_told := w__law_told.step s1
        have eB := eB.trans s1.g
        have eG := s1.gh
        have f__law_pair := At.mono s1.g f__law_pair
        have f__law_kind_here := At.mono s1.g f__law_kind_here
        have f__law_row_here := At.mono s1.g f__law_row_here
        have f__law_made_here := At.mono s1.g f__law_made_here
        have f__law_greatest := At.mono s1.g f__law_greatest
        have f__law_kept := At.mono s1.g f__law_kept
        have f__law_turn := At.mono s1.g f__law_turn
        have f__law_order_here := At.mono s1.g f__law_order_here
        have eb := eb.trans s1.g
        have eo_z1 := eo_z1.trans s1.g
        -- if part(row=_law_row_here, order=_law_order_here, kind=_law_kind_here) != _law_told or is_part(value=_law_told, row=_law_row_here, order=_law_order_he
        have hh12 : (((PartQ k1 n2 y7 l)) ∧ (SeqAt.shaped (partD k1 n2 y7 l) = true ∧ SeqAt.shaped ((eL PyData.int) ps) = true)) ∧ ((!PyData.eqv (partD k1 n2 y7 l) ((eL PyData.int) ps)) = false → ((q_is_part k1 n2 (y7) (l) (((eL PyData.int) ps))))) := by subst hps; exact ⟨⟨hpq, shaped_partD, shaped_ints _⟩, fun _ => q_prog hpq (Nat.le_trans (plc_len8 hl.2) (by decide))⟩
        have hh13 : ((!PyData.eqv (partD k1 n2 y7 l) ((eL PyData.int) ps)) || (!decide ((p_is_part k1 n2 (y7) (l) (((eL PyData.int) ps))) = true))) = false := by subst hps; have hm := plc_made hk1.1 hl.1 hpq.f hcase; rw [partD_yes hcase, eqv_same, prog_ints, decide_eq_true plc_pt, decide_eq_true hm.1]; rfl
        refine s_noD (et_or (et_of (C := C) (ed_neD (ed_callK (as_cons (ed_var (i := 3) rfl (At.mono (Ex.new w__law_told.n) f__law_row_here)) (as_cons (ed_var (i := 8) rfl (At.mono (Ex.new w__law_told.n) f__law_order_here)) (as_cons (ed_var (i := 2) rfl (At.mono (Ex.new w__law_told.n) f__law_kind_here)) as_nil))) rfl (ct_part (((hh12).1).1))) (ed_var (i := 9) rfl (w__law_told.at)) (((hh12).1).2).1 (((hh12).1).2).2)) (fun z11 => (et_of (C := C) (ed_notB (ed_callK (as_cons (ed_var (i := 9) rfl (w__law_told.at)) (as_cons (ed_var (i := 3) rfl (At.mono (Ex.new w__law_told.n) f__law_row_here)) (as_cons (ed_var (i := 8) rfl (At.mono (Ex.new w__law_told.n) f__law_order_here)) (as_cons (ed_var (i := 2) rfl (At.mono (Ex.new w__law_told.n) f__law_kind_here)) as_nil)))) rfl (ct_pure ⟨k1, n2, y7, l, ((eL PyData.int) ps), rfl, (((hh12).2) z11), rfl⟩)) ed_b)))) (w__law_told.ex eG) hh13 fun H1 s1 => ?_
        have s1 := Gs.same eG s1.h
        have ng := s1.nw _ gc.ne ng
        have gc := gc.ex s1.h
        have w__law_told := w__law_told.step s1
        have eB := eB.trans s1.g
        have eG := s1.gh
        have f__law_pair := At.mono s1.g f__law_pair
        have f__law_kind_here := At.mono s1.g f__law_kind_here
        have f__law_row_here := At.mono s1.g f__law_row_here
        have f__law_made_here := At.mono s1.g f__law_made_here
        have f__law_greatest := At.mono s1.g f__law_greatest
        have f__law_kept := At.mono s1.g f__law_kept
        have f__law_turn := At.mono s1.g f__law_turn
        have f__law_order_here := At.mono s1.g f__law_order_here
        have eb := eb.trans s1.g
        have eo_z1 := eo_z1.trans s1.g
        -- for _law_value in _law_bent(_law_generator_here, _law_told if _law_told is not None else [], len(_law_row_here)):
        have eG_z2 := eG
        have ng_z2 := ng
        have eB_z2 := eB
        have eb_z2 := eb
        have eo_z1_z2 := eo_z1
        have f__law_pair_z2 := f__law_pair
        have f__law_kind_here_z2 := f__law_kind_here
        have f__law_row_here_z2 := f__law_row_here
        have f__law_made_here_z2 := f__law_made_here
        have f__law_greatest_z2 := f__law_greatest
        have f__law_kept_z2 := f__law_kept
        have f__law_turn_z2 := f__law_turn
        have f__law_order_here_z2 := f__law_order_here
        have w__law_told_z2 := w__law_told
        have f__law_told := w__law_told.at
        have eG := w__law_told.ex eG
        have eB := eB.trans (Ex.new (o := .lst vs__law_told) w__law_told.n)
        have eb := eb.trans (Ex.new (o := .lst vs__law_told) w__law_told.n)
        have eo_z1 := eo_z1.trans (Ex.new (o := .lst vs__law_told) w__law_told.n)
        have ng := (upd_ne (o := .lst vs__law_told) (Ne.symm ng__law_told)).trans ng
        have f__law_pair := At.mono (Ex.new (o := .lst vs__law_told) w__law_told.n) f__law_pair
        have f__law_kind_here := At.mono (Ex.new (o := .lst vs__law_told) w__law_told.n) f__law_kind_here
        have f__law_row_here := At.mono (Ex.new (o := .lst vs__law_told) w__law_told.n) f__law_row_here
        have f__law_made_here := At.mono (Ex.new (o := .lst vs__law_told) w__law_told.n) f__law_made_here
        have f__law_greatest := At.mono (Ex.new (o := .lst vs__law_told) w__law_told.n) f__law_greatest
        have f__law_kept := At.mono (Ex.new (o := .lst vs__law_told) w__law_told.n) f__law_kept
        have f__law_turn := At.mono (Ex.new (o := .lst vs__law_told) w__law_told.n) f__law_turn
        have f__law_order_here := At.mono (Ex.new (o := .lst vs__law_told) w__law_told.n) f__law_order_here
        have eo_z2 := Ex.of eG
        have hh14 : DmBent [.py (eL PyData.int ps), .py (.int ((l).length : Int))] := by subst hps; exact ⟨_, _, rfl, plc_len8 hl.2, hl.2, fun x hx => by have := plc_in hl.2 hx; exact Nat.lt_of_lt_of_le (show x.natAbs < 10 by omega) (by decide)⟩
        refine q_forR (C := C) (er_call (ev_var (i := 0) rfl) (as_cons (ed_ifT (et_of (C := C) (ed_notN (ed_var (i := 9) rfl f__law_told))) rfl (ed_var (i := 9) rfl f__law_told)) (as_cons (ed_lenL (ed_var (i := 3) rfl f__law_row_here)) as_nil)) (ct_dr hh14)) eG ng gc (by omega) fun x1 v_it H1 G1 hx s1 g2 f_it => ?_
        obtain ⟨ds12, hds12, rfl⟩ := hx
        have ng := s1.keepNone gc ng
        have gc := g2
        have eB := eB.trans s1.g
        have eG := s1.gh
        have f__law_pair := At.mono s1.g f__law_pair
        have f__law_kind_here := At.mono s1.g f__law_kind_here
        have f__law_row_here := At.mono s1.g f__law_row_here
        have f__law_made_here := At.mono s1.g f__law_made_here
        have f__law_greatest := At.mono s1.g f__law_greatest
        have f__law_kept := At.mono s1.g f__law_kept
        have f__law_turn := At.mono s1.g f__law_turn
        have f__law_order_here := At.mono s1.g f__law_order_here
        have f__law_told := At.mono s1.g f__law_told
        have eb := eb.trans s1.g
        have eo_z1 := eo_z1.trans s1.g
        have eo_z2 := eo_z2.trans s1.g
        obtain ⟨c2, hc2, gc⟩ : ∃ c : Int, c ≤ c1 + (i1 : Int) * 30 + 16 ∧ GenC _ g c := ⟨_, (by omega), gc⟩
        refine q_forD (C := C) (e := eId) K (ei_list (C := C) (ed_cv f_it)) eG (fun i σ G H => ∃ (o10 : Option V) (o11 : Option V) (o12 : Option V) (o13 : Option V) (o14 : Option V) (o15 : Option V) (o16 : Option V), (True) ∧ σ = [some (V.ref g), some v__law_pair, some v__law_kind_here, some (V.ref p__law_row_here), some v__law_made_here, some v__law_greatest, some v__law_kept, some v__law_turn, some v__law_order_here, some (V.ref p__law_told), o10, o11, o12, o13, o14, o15, o16] ∧ GenC H g (c2 + (i : Int) * 0) ∧ G g = none) ?_ ?_ ?_
        · intro H1 G1 s1
          exact ⟨_, _, _, _, _, _, _, trivial, rfl, by simpa using gc.ex s1.h, s1.nw _ gc.ne ng⟩
        · rintro i2 x_value v__law_value σ' G' H' G2 H2 Gb hx2 ⟨o10, o11, o12, o13, o14, o15, o16, hinv2, rfl, gc, ng⟩ h3 h4 s2 f__law_value
          have hi2 : i2 < (ds12).length := (List.getElem?_eq_some_iff.mp hx2).1
          have hn2 : (i2 : Int) < 1000 := by have h1 := hi2; have h2 := hds12.1; omega
          have eb : Ex Gb G2 := h4.trans s2.g
          have eB := eB.trans ((h3.trans h4).trans s2.g)
          have eG := s2.gh
          have eo_z1 := eo_z1.trans ((h3.trans h4).trans s2.g)
          have eo_z2 := eo_z2.trans ((h3.trans h4).trans s2.g)
          have ng := s2.nw _ gc.ne ng
          have gc := gc.ex s2.h
          have f__law_pair := At.mono ((h3.trans h4).trans s2.g) f__law_pair
          have f__law_kind_here := At.mono ((h3.trans h4).trans s2.g) f__law_kind_here
          have f__law_row_here := At.mono ((h3.trans h4).trans s2.g) f__law_row_here
          have f__law_made_here := At.mono ((h3.trans h4).trans s2.g) f__law_made_here
          have f__law_greatest := At.mono ((h3.trans h4).trans s2.g) f__law_greatest
          have f__law_kept := At.mono ((h3.trans h4).trans s2.g) f__law_kept
          have f__law_turn := At.mono ((h3.trans h4).trans s2.g) f__law_turn
          have f__law_order_here := At.mono ((h3.trans h4).trans s2.g) f__law_order_here
          have f__law_told := At.mono ((h3.trans h4).trans s2.g) f__law_told
          refine st_eq (σ' := [some (V.ref g), some v__law_pair, some v__law_kind_here, some (V.ref p__law_row_here), some v__law_made_here, some v__law_greatest, some v__law_kept, some v__law_turn, some v__law_order_here, some (V.ref p__law_told), some v__law_value, o11, o12, o13, o14, o15, o16]) ?_ rfl
          -- _law_before, _law_due = (repr(_law_value), _law_is_part(_law_pair, _law_order_here, _law_row_here, _law_value))
          have hh15 : (Showy x_value) := by exact (hds12.2 _ (List.mem_of_getElem? hx2)).sh
          have hh16 : (q_law_is_part k1 n2 (y7) (l) (x_value)) := by exact (bent_pt hpq (hds12.2 _ (List.mem_of_getElem? hx2))).2.2
          refine q_par2 (C := C) (er_pure (ed_repr (ed_var (i := 10) rfl f__law_value) (hh15))) (er_pure (ed_call (as_cons (ed_var (i := 1) rfl f__law_pair) (as_cons (ed_var (i := 8) rfl f__law_order_here) (as_cons (ed_var (i := 3) rfl f__law_row_here) (as_cons (ed_var (i := 10) rfl f__law_value) as_nil)))) (ct_pure ⟨k1, n2, y7, l, x_value, rfl, (hh16), rfl⟩))) eG ng gc (by omega) (by omega) fun x0 x1 v__law_before v__law_due H1 G1 hx0 hx1 s1 g2 f__law_before f__law_due => ?_
          refine st_eq (σ' := [some (V.ref g), some v__law_pair, some v__law_kind_here, some (V.ref p__law_row_here), some v__law_made_here, some v__law_greatest, some v__law_kept, some v__law_turn, some v__law_order_here, some (V.ref p__law_told), some v__law_value, some v__law_before, some v__law_due, o13, o14, o15, o16]) ?_ rfl
          obtain rfl := hx0
          obtain rfl := hx1
          have ng := s1.keepNone gc ng
          have gc := g2
          have eB := eB.trans s1.g
          have eG := s1.gh
          have f__law_pair := At.mono s1.g f__law_pair
          have f__law_kind_here := At.mono s1.g f__law_kind_here
          have f__law_row_here := At.mono s1.g f__law_row_here
          have f__law_made_here := At.mono s1.g f__law_made_here
          have f__law_greatest := At.mono s1.g f__law_greatest
          have f__law_kept := At.mono s1.g f__law_kept
          have f__law_turn := At.mono s1.g f__law_turn
          have f__law_order_here := At.mono s1.g f__law_order_here
          have f__law_told := At.mono s1.g f__law_told
          have f__law_value := At.mono s1.g f__law_value
          have eb := eb.trans s1.g
          have eo_z1 := eo_z1.trans s1.g
          have eo_z2 := eo_z2.trans s1.g
          generalize hy1 : (PyData.shown x_value) = y_before_1 at f__law_before
          generalize hy2 : (p_law_is_part k1 n2 (y7) (l) (x_value)) = y_due_2 at f__law_due
          -- if repr(is_part(_law_kind_here, _law_order_here, _law_row_here, _law_value)) != repr(_law_due) or repr(_law_value) != _law_before:
          have hh17 : ((((q_is_part k1 n2 (y7) (l) (x_value))) ∧ (Showy (PyData.bool (p_is_part k1 n2 (y7) (l) (x_value))))) ∧ ((Showy (PyData.bool y_due_2)))) ∧ ((!decide ((PyData.shown (PyData.bool (p_is_part k1 n2 (y7) (l) (x_value)))) = (PyData.shown (PyData.bool y_due_2)))) = false → ((Showy x_value))) := by have bd := hds12.2 _ (List.mem_of_getElem? hx2); exact ⟨⟨⟨(bent_pt hpq bd).2.1, (tn_bool _).showy⟩, (tn_bool _).showy⟩, fun _ => bd.sh⟩
          have hh18 : ((!decide ((PyData.shown (PyData.bool (p_is_part k1 n2 (y7) (l) (x_value)))) = (PyData.shown (PyData.bool y_due_2)))) || (!decide ((PyData.shown x_value) = y_before_1))) = false := by rw [← hy2, ← hy1, (bent_pt hpq (hds12.2 _ (List.mem_of_getElem? hx2))).1]; simp
          refine s_noD (et_or (et_of (C := C) (ed_neS (ed_repr (ed_call (as_cons (ed_var (i := 2) rfl f__law_kind_here) (as_cons (ed_var (i := 8) rfl f__law_order_here) (as_cons (ed_var (i := 3) rfl f__law_row_here) (as_cons (ed_var (i := 10) rfl f__law_value) as_nil)))) (ct_pure ⟨k1, n2, y7, l, x_value, rfl, ((((hh17).1).1).1), rfl⟩)) ((((hh17).1).1).2)) (ed_repr (ed_var (i := 12) rfl f__law_due) (((hh17).1).2)))) (fun z13 => (et_of (C := C) (ed_neS (ed_repr (ed_var (i := 10) rfl f__law_value) (((hh17).2) z13)) (ed_var (i := 11) rfl f__law_before))))) eG hh18 fun H1 s1 => ?_
          have ng := s1.nw _ gc.ne ng
          have gc := gc.ex s1.h
          have eB := eB.trans s1.g
          have eG := s1.gh
          have f__law_pair := At.mono s1.g f__law_pair
          have f__law_kind_here := At.mono s1.g f__law_kind_here
          have f__law_row_here := At.mono s1.g f__law_row_here
          have f__law_made_here := At.mono s1.g f__law_made_here
          have f__law_greatest := At.mono s1.g f__law_greatest
          have f__law_kept := At.mono s1.g f__law_kept
          have f__law_turn := At.mono s1.g f__law_turn
          have f__law_order_here := At.mono s1.g f__law_order_here
          have f__law_told := At.mono s1.g f__law_told
          have f__law_value := At.mono s1.g f__law_value
          have f__law_before := At.mono s1.g f__law_before
          have f__law_due := At.mono s1.g f__law_due
          have eb := eb.trans s1.g
          have eo_z1 := eo_z1.trans s1.g
          have eo_z2 := eo_z2.trans s1.g
          first | refine Lk.mk eb eG ?_ | (unfold tNext; refine Lk.mk eb eG ?_)
          exact ⟨_, _, _, _, _, _, _, trivial, rfl, gc.le (by push_cast; omega), ng⟩
        · rintro σ' G' H' ⟨o10, o11, o12, o13, o14, o15, o16, hinv2, rfl, gc, ng⟩ e1 e2
          have eB := eB.trans e1
          have eG := e2
          have eo_z1 := eo_z1.trans e1
          have eo_z2 := eo_z2.trans e1
          have eb := eb.trans e1
          have f__law_pair := At.mono e1 f__law_pair
          have f__law_kind_here := At.mono e1 f__law_kind_here
          have f__law_row_here := At.mono e1 f__law_row_here
          have f__law_made_here := At.mono e1 f__law_made_here
          have f__law_greatest := At.mono e1 f__law_greatest
          have f__law_kept := At.mono e1 f__law_kept
          have f__law_turn := At.mono e1 f__law_turn
          have f__law_order_here := At.mono e1 f__law_order_here
          have f__law_told := At.mono e1 f__law_told
          have gc := gc.le (show _ ≤ c2 + (1000 : Int) * 0 by omega)
          have oo_z2 := eG _ _ (eo_z2 _ _ (upd_same (o := .lst vs__law_told)))
          have eG := ((Ex.new (o := .lst vs__law_told) w__law_told_z2.n).trans eo_z2).trans eG
          have ng := ng_z2
          have eB := eB_z2
          have eb := eb_z2
          have eo_z1 := eo_z1_z2
          have f__law_pair := f__law_pair_z2
          have f__law_kind_here := f__law_kind_here_z2
          have f__law_row_here := f__law_row_here_z2
          have f__law_made_here := f__law_made_here_z2
          have f__law_greatest := f__law_greatest_z2
          have f__law_kept := f__law_kept_z2
          have f__law_turn := f__law_turn_z2
          have f__law_order_here := f__law_order_here_z2
          have w__law_told : OwnR C _ _ p__law_told vs__law_told _ := ⟨oo_z2, w__law_told_z2.n, w__law_told_z2.d⟩
          -- if _law_told is not None:
          refine s_ifT (et_of (C := C) (ed_notN (ed_var (i := 9) rfl (w__law_told.at)))) (w__law_told.ex eG) rfl fun H1 s1 => ?_
          have s1 := Gs.same eG s1.h
          have ng := s1.nw _ gc.ne ng
          have gc := gc.ex s1.h
          have w__law_told := w__law_told.step s1
          have eB := eB.trans s1.g
          have eG := s1.gh
          have f__law_pair := At.mono s1.g f__law_pair
          have f__law_kind_here := At.mono s1.g f__law_kind_here
          have f__law_row_here := At.mono s1.g f__law_row_here
          have f__law_made_here := At.mono s1.g f__law_made_here
          have f__law_greatest := At.mono s1.g f__law_greatest
          have f__law_kept := At.mono s1.g f__law_kept
          have f__law_turn := At.mono s1.g f__law_turn
          have f__law_order_here := At.mono s1.g f__law_order_here
          have eb := eb.trans s1.g
          have eo_z1 := eo_z1.trans s1.g
          -- _law_due, _law_given = (list(_law_told), part(_law_kind_here, _law_order_here, _law_row_here))
          refine q_parON (C := C) (evo_of (en_list (ed_var (i := 9) rfl (w__law_told.at)))) (en_call (as_cons (ed_var (i := 2) rfl f__law_kind_here) (as_cons (ed_var (i := 8) rfl f__law_order_here) (as_cons (ed_var (i := 3) rfl f__law_row_here) as_nil))) (ct_partN hpq hcase)) eG w__law_told.o w__law_told.n fun x v__law_due p__law_given vs__law_given H1 G1 hx s1 f__law_due h1 h2 h3 h4 => ?_
          refine st_eq (σ' := [some (V.ref g), some v__law_pair, some v__law_kind_here, some (V.ref p__law_row_here), some v__law_made_here, some v__law_greatest, some v__law_kept, some v__law_turn, some v__law_order_here, some (V.ref p__law_told), o10, o11, some v__law_due, some (V.ref p__law_given), o14, o15, o16]) ?_ rfl
          subst hx
          have ng__law_given : p__law_given ≠ g := fun z => gc.ne (z ▸ h1)
          have d__law_told__law_given := ne_of_none w__law_told.o h1
          have d__law_given__law_told := Ne.symm d__law_told__law_given
          have w__law_given : OwnR C _ _ _ _ _ := ⟨h3, h2, h4⟩
          rw [← hps] at w__law_given
          have ng := s1.nw _ gc.ne ng
          have gc := gc.ex s1.h
          have w__law_told := w__law_told.step s1
          have eB := eB.trans s1.g
          have eG := s1.gh
          have f__law_pair := At.mono s1.g f__law_pair
          have f__law_kind_here := At.mono s1.g f__law_kind_here
          have f__law_row_here := At.mono s1.g f__law_row_here
          have f__law_made_here := At.mono s1.g f__law_made_here
          have f__law_greatest := At.mono s1.g f__law_greatest
          have f__law_kept := At.mono s1.g f__law_kept
          have f__law_turn := At.mono s1.g f__law_turn
          have f__law_order_here := At.mono s1.g f__law_order_here
          have eb := eb.trans s1.g
          have eo_z1 := eo_z1.trans s1.g
          -- _law_given.append(len(_law_row_here))
          have hh19 : (ps).length < 100000 := by subst hps; exact Nat.lt_of_le_of_lt (plc_len8 hl.2) (by decide)
          refine q_appD (C := C) (ed_lenL (ed_var (i := 3) rfl f__law_row_here)) eG (ev_var (i := 13) rfl) w__law_given.o w__law_given.n (by rw [dpa_len w__law_given.d, List.length_map]; exact hh19) fun v1 H1 G1 s1 a1 g1 e1 => ?_
          have ng := s1.nw _ gc.ne ng
          have gc := (gc.ex s1.h).upd (o := .lst (vs__law_given ++ [v1])) (Ne.symm ng__law_given)
          have w__law_told := (w__law_told.step s1).other (o := .lst (vs__law_given ++ [v1])) d__law_told__law_given
          have w__law_given := OwnR.set (w__law_given.step s1) (dpa_append (w__law_given.step s1).d (.cons a1 .nil))
          have w__law_given := OwnR.snocE (e := PyData.int) (x := ((l).length : Int)) w__law_given
          have eB := eB.trans s1.g
          have eG := e1
          have eo_z1 := eo_z1.trans s1.g
          have eb := eb.trans s1.g
          have f__law_pair := At.mono s1.g f__law_pair
          have f__law_kind_here := At.mono s1.g f__law_kind_here
          have f__law_row_here := At.mono s1.g f__law_row_here
          have f__law_made_here := At.mono s1.g f__law_made_here
          have f__law_greatest := At.mono s1.g f__law_greatest
          have f__law_kept := At.mono s1.g f__law_kept
          have f__law_turn := At.mono s1.g f__law_turn
          have f__law_order_here := At.mono s1.g f__law_order_here
          have f__law_due := At.mono s1.g f__law_due
          generalize hv2 : vs__law_given ++ [v1] = vs__law_given at gc eG w__law_told w__law_given ⊢
          generalize hy3 : ps ++ [((l).length : Int)] = y_given_3 at w__law_given
          -- _law_asked = [is_part(_law_kind_here, _law_order_here, _law_row_here, _law_given)]
          have hh20 : ((q_is_part k1 n2 (y7) (l) (((eL PyData.int) y_given_3)))) := by subst hps; rw [← hy3]; exact q_prog hpq (by have := plc_len8 (k := k1) (n := n2) (ws := y7) hl.2; rw [List.length_append, List.length_singleton]; omega)
          refine q_asgN (C := C) (en_lst (ds := ([(p_is_part k1 n2 (y7) (l) (((eL PyData.int) y_given_3)))] : List Bool).map PyData.bool) (as_cons (ed_call (as_cons (ed_var (i := 2) rfl (At.mono (Ex.new w__law_given.n) f__law_kind_here)) (as_cons (ed_var (i := 8) rfl (At.mono (Ex.new w__law_given.n) f__law_order_here)) (as_cons (ed_var (i := 3) rfl (At.mono (Ex.new w__law_given.n) f__law_row_here)) (as_cons (ed_var (i := 13) rfl (w__law_given.at)) as_nil)))) (ct_pure ⟨k1, n2, y7, l, ((eL PyData.int) y_given_3), rfl, (hh20), rfl⟩)) as_nil) (show 1 ≤ 100000 by decide)) (w__law_given.ex eG) fun p__law_asked vs__law_asked H1 G1 s1 h1 h2 h3 h4 => ?_
          refine st_eq (σ' := [some (V.ref g), some v__law_pair, some v__law_kind_here, some (V.ref p__law_row_here), some v__law_made_here, some v__law_greatest, some v__law_kept, some v__law_turn, some v__law_order_here, some (V.ref p__law_told), o10, o11, some v__law_due, some (V.ref p__law_given), some (V.ref p__law_asked), o15, o16]) ?_ rfl
          have s1 := Gs.same eG s1.h
          have h2 := fresh_back eG h1
          have ng__law_asked : p__law_asked ≠ g := fun z => gc.ne (z ▸ h1)
          have d__law_told__law_asked := ne_of_none w__law_told.o h1
          have d__law_asked__law_told := Ne.symm d__law_told__law_asked
          have d__law_given__law_asked := ne_of_none w__law_given.o h1
          have d__law_asked__law_given := Ne.symm d__law_given__law_asked
          have w__law_asked : OwnR C _ _ _ _ _ := ⟨h3, h2, dqa_flatB h4⟩
          have ng := s1.nw _ gc.ne ng
          have gc := gc.ex s1.h
          have w__law_told := w__law_told.step s1
          have w__law_given := w__law_given.step s1
          have eB := eB.trans s1.g
          have eG := s1.gh
          have f__law_pair := At.mono s1.g f__law_pair
          have f__law_kind_here := At.mono s1.g f__law_kind_here
          have f__law_row_here := At.mono s1.g f__law_row_here
          have f__law_made_here := At.mono s1.g f__law_made_here
          have f__law_greatest := At.mono s1.g f__law_greatest
          have f__law_kept := At.mono s1.g f__law_kept
          have f__law_turn := At.mono s1.g f__law_turn
          have f__law_order_here := At.mono s1.g f__law_order_here
          have f__law_due := At.mono s1.g f__law_due
          have eb := eb.trans s1.g
          have eo_z1 := eo_z1.trans s1.g
          generalize hy4 : ([(p_is_part k1 n2 (y7) (l) (((eL PyData.int) y_given_3)))] : List Bool) = y_asked_4 at w__law_asked
          -- _law_given[:] = _law_due
          have hh21 : vs__law_given.length + (((ps).map PyData.int)).length < 100000 := by subst hps; have h1 := dpa_len w__law_given.d; have h2 := plc_len8 (k := k1) (n := n2) (ws := y7) hl.2; rw [hv2] at h1; simp only [← hy3, List.length_append, List.length_map, List.length_singleton] at h1; rw [List.length_map]; omega
          refine q_allD (C := C) (ed_var (i := 12) rfl f__law_due) eG (ev_var (i := 13) rfl) w__law_given.o w__law_given.n hh21 fun us H1 G1 s1 d1 n1 e1 => ?_
          have ng := s1.nw _ gc.ne ng
          have gc := (gc.ex s1.h).upd (o := .lst us) (Ne.symm ng__law_given)
          have w__law_told := (w__law_told.step s1).other (o := .lst us) d__law_told__law_given
          have w__law_asked := (w__law_asked.step s1).other (o := .lst us) d__law_asked__law_given
          have w__law_given : OwnR C _ (L2.upd H1 p__law_given (.lst us)) p__law_given us _ := ⟨upd_same, n1, d1⟩
          have eB := eB.trans s1.g
          have eb := eb.trans s1.g
          have eo_z1 := eo_z1.trans s1.g
          have eG := e1
          have f__law_pair := At.mono s1.g f__law_pair
          have f__law_kind_here := At.mono s1.g f__law_kind_here
          have f__law_row_here := At.mono s1.g f__law_row_here
          have f__law_made_here := At.mono s1.g f__law_made_here
          have f__law_greatest := At.mono s1.g f__law_greatest
          have f__law_kept := At.mono s1.g f__law_kept
          have f__law_turn := At.mono s1.g f__law_turn
          have f__law_order_here := At.mono s1.g f__law_order_here
          have f__law_due := At.mono s1.g f__law_due
          clear e1 d1 n1
          generalize hv5 : us = vs__law_given at gc eG w__law_told w__law_asked w__law_given ⊢
          try rw [← List.map_reverse] at w__law_given
          try rw [← List.map_append] at w__law_given
          change OwnR C _ _ _ _ ((ps).map PyData.int) at w__law_given
          obtain ⟨y_given_6, hy6⟩ : ∃ z, z = ps := ⟨_, rfl⟩
          rw [← hy6] at w__law_given
          -- _law_asked.append(is_part(_law_kind_here, _law_order_here, _law_row_here, _law_given))
          have hh22 : (q_is_part k1 n2 (y7) (l) (((eL PyData.int) y_given_6))) := by rw [hy6]; subst hps; exact q_prog hpq (Nat.le_trans (plc_len8 hl.2) (by decide))
          have hh23 : (y_asked_4).length < 100000 := by rw [← hy4]; exact (by decide : 1 < 100000)
          refine q_appO (evo_flatB (ed_call (as_cons (ed_var (i := 2) rfl (At.mono (Ex.new w__law_given.n) f__law_kind_here)) (as_cons (ed_var (i := 8) rfl (At.mono (Ex.new w__law_given.n) f__law_order_here)) (as_cons (ed_var (i := 3) rfl (At.mono (Ex.new w__law_given.n) f__law_row_here)) (as_cons (ed_var (i := 13) rfl (w__law_given.at)) as_nil)))) (ct_pure ⟨k1, n2, y7, l, ((eL PyData.int) y_given_6), rfl, (hh22), rfl⟩))) eG w__law_given.o w__law_given.n (ev_var (i := 14) rfl) w__law_asked.o w__law_asked.n (by rw [dpa_len w__law_asked.d, List.length_map]; exact hh23) fun v1 H1 G1 s1 a1 g1 e1 => ?_
          have ng := s1.nw _ gc.ne ng
          have gc := (gc.ex s1.h).upd (o := .lst (vs__law_asked ++ [v1])) (Ne.symm ng__law_asked)
          have w__law_told := (w__law_told.step s1).other (o := .lst (vs__law_asked ++ [v1])) d__law_told__law_asked
          have w__law_given := (w__law_given.step s1).other (o := .lst (vs__law_asked ++ [v1])) d__law_given__law_asked
          have w__law_asked := OwnR.set (w__law_asked.step s1) (dpa_append (w__law_asked.step s1).d (.cons a1 .nil))
          have w__law_asked := OwnR.snocE (e := PyData.bool) (x := (p_is_part k1 n2 (y7) (l) (((eL PyData.int) y_given_6)))) w__law_asked
          have eB := eB.trans s1.g
          have eG := e1
          have eo_z1 := eo_z1.trans s1.g
          have eb := eb.trans s1.g
          have f__law_pair := At.mono s1.g f__law_pair
          have f__law_kind_here := At.mono s1.g f__law_kind_here
          have f__law_row_here := At.mono s1.g f__law_row_here
          have f__law_made_here := At.mono s1.g f__law_made_here
          have f__law_greatest := At.mono s1.g f__law_greatest
          have f__law_kept := At.mono s1.g f__law_kept
          have f__law_turn := At.mono s1.g f__law_turn
          have f__law_order_here := At.mono s1.g f__law_order_here
          have f__law_due := At.mono s1.g f__law_due
          generalize hv6 : vs__law_asked ++ [v1] = vs__law_asked at gc eG w__law_told w__law_given w__law_asked ⊢
          generalize hy7 : y_asked_4 ++ [(p_is_part k1 n2 (y7) (l) (((eL PyData.int) y_given_6)))] = y_asked_7 at w__law_asked
          -- _law_given.reverse()
          refine q_rev eG (ev_var (i := 13) rfl) w__law_given.o w__law_given.n w__law_given.d fun us H1 G1 s1 d1 n1 e1 => ?_
          have ng := s1.nw _ gc.ne ng
          have gc := (gc.ex s1.h).upd (o := .lst us) (Ne.symm ng__law_given)
          have w__law_told := (w__law_told.step s1).other (o := .lst us) d__law_told__law_given
          have w__law_asked := (w__law_asked.step s1).other (o := .lst us) d__law_asked__law_given
          have w__law_given : OwnR C _ (L2.upd H1 p__law_given (.lst us)) p__law_given us _ := ⟨upd_same, n1, d1⟩
          have eB := eB.trans s1.g
          have eb := eb.trans s1.g
          have eo_z1 := eo_z1.trans s1.g
          have eG := e1
          have f__law_pair := At.mono s1.g f__law_pair
          have f__law_kind_here := At.mono s1.g f__law_kind_here
          have f__law_row_here := At.mono s1.g f__law_row_here
          have f__law_made_here := At.mono s1.g f__law_made_here
          have f__law_greatest := At.mono s1.g f__law_greatest
          have f__law_kept := At.mono s1.g f__law_kept
          have f__law_turn := At.mono s1.g f__law_turn
          have f__law_order_here := At.mono s1.g f__law_order_here
          have f__law_due := At.mono s1.g f__law_due
          clear e1 d1 n1
          generalize hv8 : us = vs__law_given at gc eG w__law_told w__law_asked w__law_given ⊢
          try rw [← List.map_reverse] at w__law_given
          try rw [← List.map_append] at w__law_given
          change OwnR C _ _ _ _ (((y_given_6).reverse).map PyData.int) at w__law_given
          obtain ⟨y_given_9, hy9⟩ : ∃ z, z = (y_given_6).reverse := ⟨_, rfl⟩
          rw [← hy9] at w__law_given
          -- _law_asked.append(is_part(_law_kind_here, _law_order_here, _law_row_here, _law_given))
          have hh24 : (q_is_part k1 n2 (y7) (l) (((eL PyData.int) y_given_9))) := by rw [hy9, hy6]; subst hps; exact q_prog hpq (by rw [List.length_reverse]; exact Nat.le_trans (plc_len8 hl.2) (by decide))
          have hh25 : (y_asked_7).length < 100000 := by rw [← hy7, ← hy4]; exact (by decide : 2 < 100000)
          refine q_appO (evo_flatB (ed_call (as_cons (ed_var (i := 2) rfl (At.mono (Ex.new w__law_given.n) f__law_kind_here)) (as_cons (ed_var (i := 8) rfl (At.mono (Ex.new w__law_given.n) f__law_order_here)) (as_cons (ed_var (i := 3) rfl (At.mono (Ex.new w__law_given.n) f__law_row_here)) (as_cons (ed_var (i := 13) rfl (w__law_given.at)) as_nil)))) (ct_pure ⟨k1, n2, y7, l, ((eL PyData.int) y_given_9), rfl, (hh24), rfl⟩))) eG w__law_given.o w__law_given.n (ev_var (i := 14) rfl) w__law_asked.o w__law_asked.n (by rw [dpa_len w__law_asked.d, List.length_map]; exact hh25) fun v1 H1 G1 s1 a1 g1 e1 => ?_
          have ng := s1.nw _ gc.ne ng
          have gc := (gc.ex s1.h).upd (o := .lst (vs__law_asked ++ [v1])) (Ne.symm ng__law_asked)
          have w__law_told := (w__law_told.step s1).other (o := .lst (vs__law_asked ++ [v1])) d__law_told__law_asked
          have w__law_given := (w__law_given.step s1).other (o := .lst (vs__law_asked ++ [v1])) d__law_given__law_asked
          have w__law_asked := OwnR.set (w__law_asked.step s1) (dpa_append (w__law_asked.step s1).d (.cons a1 .nil))
          have w__law_asked := OwnR.snocE (e := PyData.bool) (x := (p_is_part k1 n2 (y7) (l) (((eL PyData.int) y_given_9)))) w__law_asked
          have eB := eB.trans s1.g
          have eG := e1
          have eo_z1 := eo_z1.trans s1.g
          have eb := eb.trans s1.g
          have f__law_pair := At.mono s1.g f__law_pair
          have f__law_kind_here := At.mono s1.g f__law_kind_here
          have f__law_row_here := At.mono s1.g f__law_row_here
          have f__law_made_here := At.mono s1.g f__law_made_here
          have f__law_greatest := At.mono s1.g f__law_greatest
          have f__law_kept := At.mono s1.g f__law_kept
          have f__law_turn := At.mono s1.g f__law_turn
          have f__law_order_here := At.mono s1.g f__law_order_here
          have f__law_due := At.mono s1.g f__law_due
          generalize hv9 : vs__law_asked ++ [v1] = vs__law_asked at gc eG w__law_told w__law_given w__law_asked ⊢
          generalize hy10 : y_asked_7 ++ [(p_is_part k1 n2 (y7) (l) (((eL PyData.int) y_given_9)))] = y_asked_10 at w__law_asked
          have w__law_told := w__law_told
          rw [← map_eId ((ps).map PyData.int)] at w__law_told
          -- _law_told.append(None)
          have hh26 : (((ps).map PyData.int)).length < 100000 := by subst hps; rw [List.length_map]; exact Nat.lt_of_le_of_lt (plc_len8 hl.2) (by decide)
          refine q_appD (C := C) ed_n eG (ev_var (i := 9) rfl) w__law_told.o w__law_told.n (by rw [dpa_len w__law_told.d, List.length_map]; exact hh26) fun v1 H1 G1 s1 a1 g1 e1 => ?_
          have ng := s1.nw _ gc.ne ng
          have gc := (gc.ex s1.h).upd (o := .lst (vs__law_told ++ [v1])) (Ne.symm ng__law_told)
          have w__law_given := (w__law_given.step s1).other (o := .lst (vs__law_told ++ [v1])) d__law_given__law_told
          have w__law_asked := (w__law_asked.step s1).other (o := .lst (vs__law_told ++ [v1])) d__law_asked__law_told
          have w__law_told := OwnR.set (w__law_told.step s1) (dpa_append (w__law_told.step s1).d (.cons a1 .nil))
          have w__law_told := OwnR.snocE (e := eId) (x := PyData.none) w__law_told
          have eB := eB.trans s1.g
          have eG := e1
          have eo_z1 := eo_z1.trans s1.g
          have eb := eb.trans s1.g
          have f__law_pair := At.mono s1.g f__law_pair
          have f__law_kind_here := At.mono s1.g f__law_kind_here
          have f__law_row_here := At.mono s1.g f__law_row_here
          have f__law_made_here := At.mono s1.g f__law_made_here
          have f__law_greatest := At.mono s1.g f__law_greatest
          have f__law_kept := At.mono s1.g f__law_kept
          have f__law_turn := At.mono s1.g f__law_turn
          have f__law_order_here := At.mono s1.g f__law_order_here
          have f__law_due := At.mono s1.g f__law_due
          generalize hv10 : vs__law_told ++ [v1] = vs__law_told at gc eG w__law_told w__law_given w__law_asked ⊢
          generalize hy11 : ((ps).map PyData.int) ++ [PyData.none] = y_told_11 at w__law_told
          -- if part(_law_kind_here, _law_order_here, _law_row_here) != _law_due or _law_asked != [False, True, _law_is_part(_law_pair, _law_order_here, _law_row_h
          have hh27 : (((PartQ k1 n2 y7 l)) ∧ (SeqAt.shaped (partD k1 n2 y7 l) = true ∧ SeqAt.shaped ((eL PyData.int) ps) = true)) ∧ ((!PyData.eqv (partD k1 n2 y7 l) ((eL PyData.int) ps)) = false → (((q_law_is_part k1 n2 (y7) (l) (((eL PyData.int) (ps).reverse)))))) := by subst hps; exact ⟨⟨hpq, shaped_partD, shaped_ints _⟩, fun _ => q_law hpq (by rw [List.length_reverse]; exact Nat.le_trans (plc_len8 hl.2) (by decide)) (fun z hz => tn_small (by have := plc_in hl.2 (List.mem_reverse.mp hz); omega))⟩
          have hh28 : ((!PyData.eqv (partD k1 n2 y7 l) ((eL PyData.int) ps)) || (!decide (y_asked_10 = ([false, true, (p_law_is_part k1 n2 (y7) (l) (((eL PyData.int) (ps).reverse)))] : List Bool)))) = false := by have hm := plc_made hk1.1 hl.1 hpq.f hcase; rw [partD_yes hcase, ← hps, eqv_same, ← hy10, ← hy7, ← hy4, ← hy3, hy9, hy6, pt_far, law_ints, prog_ints, prog_ints, hps, decide_eq_true plc_pt, decide_eq_true hm.1]; simp
          refine s_noD (et_or (et_of (C := C) (ed_neD (ed_call (as_cons (ed_var (i := 2) rfl (At.mono (Ex.new w__law_asked.n) f__law_kind_here)) (as_cons (ed_var (i := 8) rfl (At.mono (Ex.new w__law_asked.n) f__law_order_here)) (as_cons (ed_var (i := 3) rfl (At.mono (Ex.new w__law_asked.n) f__law_row_here)) as_nil))) (ct_part (((hh27).1).1))) (ed_var (i := 12) rfl (At.mono (Ex.new w__law_asked.n) f__law_due)) (((hh27).1).2).1 (((hh27).1).2).2)) (fun z14 => (et_of (C := C) (ed_neE (Enc.list enc_bool) (by decide) (ed_var (i := 14) rfl (w__law_asked.at)) (EvN.d (en_lst (ds := ([false, true, (p_law_is_part k1 n2 (y7) (l) (((eL PyData.int) (ps).reverse)))] : List Bool).map PyData.bool) (as_cons ed_b (as_cons ed_b (as_cons (ed_call (as_cons (ed_var (i := 1) rfl (At.mono (Ex.new w__law_asked.n) f__law_pair)) (as_cons (ed_var (i := 8) rfl (At.mono (Ex.new w__law_asked.n) f__law_order_here)) (as_cons (ed_var (i := 3) rfl (At.mono (Ex.new w__law_asked.n) f__law_row_here)) (as_cons (EvN.d (en_rev (e := PyData.int) (ed_var (i := 12) rfl (At.mono (Ex.new w__law_asked.n) f__law_due)))) as_nil)))) (ct_pure ⟨k1, n2, y7, l, ((eL PyData.int) (ps).reverse), rfl, (((hh27).2) z14), rfl⟩)) as_nil))) (show 3 ≤ 100000 by decide))))))) (w__law_asked.ex eG) hh28 fun H1 s1 => ?_
          have s1 := Gs.same eG s1.h
          have ng := s1.nw _ gc.ne ng
          have gc := gc.ex s1.h
          have w__law_told := w__law_told.step s1
          have w__law_given := w__law_given.step s1
          have w__law_asked := w__law_asked.step s1
          have eB := eB.trans s1.g
          have eG := s1.gh
          have f__law_pair := At.mono s1.g f__law_pair
          have f__law_kind_here := At.mono s1.g f__law_kind_here
          have f__law_row_here := At.mono s1.g f__law_row_here
          have f__law_made_here := At.mono s1.g f__law_made_here
          have f__law_greatest := At.mono s1.g f__law_greatest
          have f__law_kept := At.mono s1.g f__law_kept
          have f__law_turn := At.mono s1.g f__law_turn
          have f__law_order_here := At.mono s1.g f__law_order_here
          have f__law_due := At.mono s1.g f__law_due
          have eb := eb.trans s1.g
          have eo_z1 := eo_z1.trans s1.g
          first | refine Lk.mk eb eG ?_ | (unfold tNext; refine Lk.mk eb eG ?_)
          exact ⟨_, _, _, _, _, _, _, _, _, _, trivial, rfl, gc.le (by push_cast; omega), ng⟩
      · have hcase := hc
        refine q_asgD (C := C) (EvD.is (ed_call (as_cons (ed_var (i := 2) rfl f__law_kind_here) (as_cons (ed_var (i := 8) rfl f__law_order_here) (as_cons (ed_var (i := 3) rfl f__law_row_here) as_nil))) (ct_part hh7)) (congrArg Da.py (partD_no hc))) eG fun v__law_told H1 G1 s1 f__law_told => ?_
        refine st_eq (σ' := [some (V.ref g), some v__law_pair, some v__law_kind_here, some (V.ref p__law_row_here), some v__law_made_here, some v__law_greatest, some v__law_kept, some v__law_turn, some v__law_order_here, some v__law_told, o10, o11, o12, o13, o14, o15, o16]) ?_ rfl
        have ng := s1.nw _ gc.ne ng
        have gc := gc.ex s1.h
        have eB := eB.trans s1.g
        have eG := s1.gh
        have f__law_pair := At.mono s1.g f__law_pair
        have f__law_kind_here := At.mono s1.g f__law_kind_here
        have f__law_row_here := At.mono s1.g f__law_row_here
        have f__law_made_here := At.mono s1.g f__law_made_here
        have f__law_greatest := At.mono s1.g f__law_greatest
        have f__law_kept := At.mono s1.g f__law_kept
        have f__law_turn := At.mono s1.g f__law_turn
        have f__law_order_here := At.mono s1.g f__law_order_here
        have eb := eb.trans s1.g
        have eo_z1 := eo_z1.trans s1.g
        -- if (_law_told is not None) != (_law_order_here in _law_made_here) or is_beneath(_law_kind_here, _law_order_here, _law_greatest) != (_law_order_here in
        have hh29 : ((!decide ((!(isNoneD PyData.none)) = (inL y7 wss))) = false → (((BenQ k1 n2 y7 (gains k1 n2 (startL k1 n2) l))))) := by exact fun _ => hpq.ben hl.2
        have hh30 : ((!decide ((!(isNoneD PyData.none)) = (inL y7 wss))) || ((!decide ((benB k1 n2 y7 (gains k1 n2 (startL k1 n2) l)) = (inL y7 wss))) || (!decide (l = l)))) = false := by rw [show inL y7 wss = false from Bool.eq_false_iff.mpr (fun z => hcase ((parts_iff hk1.1 hl.1 hpq.f hw).mp (inL_iff.mp z))), show benB k1 n2 y7 (gains k1 n2 (startL k1 n2) l) = false from Bool.eq_false_iff.mpr (fun z => hcase ((ben_iff hk1.1 hl.1 hpq.f).mp z)), show isNoneD PyData.none = true from rfl]; simp
        refine q_noD (et_or (et_of (C := C) (ed_neB (ed_notN (ed_var (i := 9) rfl f__law_told)) (ed_inL (Enc.list enc_int) (by decide) (ed_var (i := 8) rfl f__law_order_here) (ed_var (i := 4) rfl f__law_made_here)))) (fun z15 => (et_or (et_of (C := C) (ed_neB (ed_call (as_cons (ed_var (i := 2) rfl f__law_kind_here) (as_cons (ed_var (i := 8) rfl f__law_order_here) (as_cons (ed_var (i := 5) rfl f__law_greatest) as_nil))) (ct_isBen ((hh29) z15))) (ed_inL (Enc.list enc_int) (by decide) (ed_var (i := 8) rfl f__law_order_here) (ed_var (i := 4) rfl f__law_made_here)))) (fun z16 => (et_of (C := C) (ed_neE (Enc.list enc_int) (by decide) (ed_var (i := 3) rfl f__law_row_here) (ed_var (i := 6) rfl f__law_kept))))))) eG hh30 fun H1 s1 => ?_
        have ng := s1.nw _ gc.ne ng
        have gc := gc.ex s1.h
        have eB := eB.trans s1.g
        have eG := s1.gh
        have f__law_pair := At.mono s1.g f__law_pair
        have f__law_kind_here := At.mono s1.g f__law_kind_here
        have f__law_row_here := At.mono s1.g f__law_row_here
        have f__law_made_here := At.mono s1.g f__law_made_here
        have f__law_greatest := At.mono s1.g f__law_greatest
        have f__law_kept := At.mono s1.g f__law_kept
        have f__law_turn := At.mono s1.g f__law_turn
        have f__law_order_here := At.mono s1.g f__law_order_here
        have f__law_told := At.mono s1.g f__law_told
        have eb := eb.trans s1.g
        have eo_z1 := eo_z1.trans s1.g
        -- if _law_told is not None:
        refine q_ifF (et_of (C := C) (ed_notN (ed_var (i := 9) rfl f__law_told))) eG rfl fun H1 s1 => ?_
        have ng := s1.nw _ gc.ne ng
        have gc := gc.ex s1.h
        have eB := eB.trans s1.g
        have eG := s1.gh
        have f__law_pair := At.mono s1.g f__law_pair
        have f__law_kind_here := At.mono s1.g f__law_kind_here
        have f__law_row_here := At.mono s1.g f__law_row_here
        have f__law_made_here := At.mono s1.g f__law_made_here
        have f__law_greatest := At.mono s1.g f__law_greatest
        have f__law_kept := At.mono s1.g f__law_kept
        have f__law_turn := At.mono s1.g f__law_turn
        have f__law_order_here := At.mono s1.g f__law_order_here
        have f__law_told := At.mono s1.g f__law_told
        have eb := eb.trans s1.g
        have eo_z1 := eo_z1.trans s1.g
        unfold tNext
        -- for _law_value in _law_bent(_law_generator_here, _law_told if _law_told is not None else [], len(_law_row_here)):
        have hh31 : DmBent [.py (eL PyData.int ([] : (List Int))), .py (.int ((l).length : Int))] := by exact ⟨[], _, rfl, by decide, hl.2, fun x hx => by cases hx⟩
        refine q_forR (C := C) (er_call (ev_var (i := 0) rfl) (as_cons (ed_ifF (et_of (C := C) (ed_notN (ed_var (i := 9) rfl f__law_told))) rfl (EvN.d (en_lst (ds := ([] : (List Int)).map PyData.int) as_nil (by decide)))) (as_cons (ed_lenL (ed_var (i := 3) rfl f__law_row_here)) as_nil)) (ct_dr hh31)) eG ng gc (by omega) fun x1 v_it H1 G1 hx s1 g2 f_it => ?_
        obtain ⟨ds17, hds17, rfl⟩ := hx
        have ng := s1.keepNone gc ng
        have gc := g2
        have eB := eB.trans s1.g
        have eG := s1.gh
        have f__law_pair := At.mono s1.g f__law_pair
        have f__law_kind_here := At.mono s1.g f__law_kind_here
        have f__law_row_here := At.mono s1.g f__law_row_here
        have f__law_made_here := At.mono s1.g f__law_made_here
        have f__law_greatest := At.mono s1.g f__law_greatest
        have f__law_kept := At.mono s1.g f__law_kept
        have f__law_turn := At.mono s1.g f__law_turn
        have f__law_order_here := At.mono s1.g f__law_order_here
        have f__law_told := At.mono s1.g f__law_told
        have eb := eb.trans s1.g
        have eo_z1 := eo_z1.trans s1.g
        obtain ⟨c3, hc3, gc⟩ : ∃ c : Int, c ≤ c1 + (i1 : Int) * 30 + 16 ∧ GenC _ g c := ⟨_, (by omega), gc⟩
        refine q_forD (C := C) (e := eId) K (ei_list (C := C) (ed_cv f_it)) eG (fun i σ G H => ∃ (o10 : Option V) (o11 : Option V) (o12 : Option V) (o13 : Option V) (o14 : Option V) (o15 : Option V) (o16 : Option V), (True) ∧ σ = [some (V.ref g), some v__law_pair, some v__law_kind_here, some (V.ref p__law_row_here), some v__law_made_here, some v__law_greatest, some v__law_kept, some v__law_turn, some v__law_order_here, some v__law_told, o10, o11, o12, o13, o14, o15, o16] ∧ GenC H g (c3 + (i : Int) * 0) ∧ G g = none) ?_ ?_ ?_
        · intro H1 G1 s1
          exact ⟨_, _, _, _, _, _, _, trivial, rfl, by simpa using gc.ex s1.h, s1.nw _ gc.ne ng⟩
        · rintro i3 x_value v__law_value σ' G' H' G2 H2 Gb hx3 ⟨o10, o11, o12, o13, o14, o15, o16, hinv3, rfl, gc, ng⟩ h3 h4 s2 f__law_value
          have hi3 : i3 < (ds17).length := (List.getElem?_eq_some_iff.mp hx3).1
          have hn3 : (i3 : Int) < 1000 := by have h1 := hi3; have h2 := hds17.1; omega
          have eb : Ex Gb G2 := h4.trans s2.g
          have eB := eB.trans ((h3.trans h4).trans s2.g)
          have eG := s2.gh
          have eo_z1 := eo_z1.trans ((h3.trans h4).trans s2.g)
          have ng := s2.nw _ gc.ne ng
          have gc := gc.ex s2.h
          have f__law_pair := At.mono ((h3.trans h4).trans s2.g) f__law_pair
          have f__law_kind_here := At.mono ((h3.trans h4).trans s2.g) f__law_kind_here
          have f__law_row_here := At.mono ((h3.trans h4).trans s2.g) f__law_row_here
          have f__law_made_here := At.mono ((h3.trans h4).trans s2.g) f__law_made_here
          have f__law_greatest := At.mono ((h3.trans h4).trans s2.g) f__law_greatest
          have f__law_kept := At.mono ((h3.trans h4).trans s2.g) f__law_kept
          have f__law_turn := At.mono ((h3.trans h4).trans s2.g) f__law_turn
          have f__law_order_here := At.mono ((h3.trans h4).trans s2.g) f__law_order_here
          have f__law_told := At.mono ((h3.trans h4).trans s2.g) f__law_told
          refine st_eq (σ' := [some (V.ref g), some v__law_pair, some v__law_kind_here, some (V.ref p__law_row_here), some v__law_made_here, some v__law_greatest, some v__law_kept, some v__law_turn, some v__law_order_here, some v__law_told, some v__law_value, o11, o12, o13, o14, o15, o16]) ?_ rfl
          -- _law_before, _law_due = (repr(_law_value), _law_is_part(_law_pair, _law_order_here, _law_row_here, _law_value))
          have hh32 : (Showy x_value) := by exact (hds17.2 _ (List.mem_of_getElem? hx3)).sh
          have hh33 : (q_law_is_part k1 n2 (y7) (l) (x_value)) := by exact (bent_pt hpq (hds17.2 _ (List.mem_of_getElem? hx3))).2.2
          refine q_par2 (C := C) (er_pure (ed_repr (ed_var (i := 10) rfl f__law_value) (hh32))) (er_pure (ed_call (as_cons (ed_var (i := 1) rfl f__law_pair) (as_cons (ed_var (i := 8) rfl f__law_order_here) (as_cons (ed_var (i := 3) rfl f__law_row_here) (as_cons (ed_var (i := 10) rfl f__law_value) as_nil)))) (ct_pure ⟨k1, n2, y7, l, x_value, rfl, (hh33), rfl⟩))) eG ng gc (by omega) (by omega) fun x0 x1 v__law_before v__law_due H1 G1 hx0 hx1 s1 g2 f__law_before f__law_due => ?_
          refine st_eq (σ' := [some (V.ref g), some v__law_pair, some v__law_kind_here, some (V.ref p__law_row_here), some v__law_made_here, some v__law_greatest, some v__law_kept, some v__law_turn, some v__law_order_here, some v__law_told, some v__law_value, some v__law_before, some v__law_due, o13, o14, o15, o16]) ?_ rfl
          obtain rfl := hx0
          obtain rfl := hx1
          have ng := s1.keepNone gc ng
          have gc := g2
          have eB := eB.trans s1.g
          have eG := s1.gh
          have f__law_pair := At.mono s1.g f__law_pair
          have f__law_kind_here := At.mono s1.g f__law_kind_here
          have f__law_row_here := At.mono s1.g f__law_row_here
          have f__law_made_here := At.mono s1.g f__law_made_here
          have f__law_greatest := At.mono s1.g f__law_greatest
          have f__law_kept := At.mono s1.g f__law_kept
          have f__law_turn := At.mono s1.g f__law_turn
          have f__law_order_here := At.mono s1.g f__law_order_here
          have f__law_told := At.mono s1.g f__law_told
          have f__law_value := At.mono s1.g f__law_value
          have eb := eb.trans s1.g
          have eo_z1 := eo_z1.trans s1.g
          generalize hy12 : (PyData.shown x_value) = y_before_12 at f__law_before
          generalize hy13 : (p_law_is_part k1 n2 (y7) (l) (x_value)) = y_due_13 at f__law_due
          -- if repr(is_part(_law_kind_here, _law_order_here, _law_row_here, _law_value)) != repr(_law_due) or repr(_law_value) != _law_before:
          have hh34 : ((((q_is_part k1 n2 (y7) (l) (x_value))) ∧ (Showy (PyData.bool (p_is_part k1 n2 (y7) (l) (x_value))))) ∧ ((Showy (PyData.bool y_due_13)))) ∧ ((!decide ((PyData.shown (PyData.bool (p_is_part k1 n2 (y7) (l) (x_value)))) = (PyData.shown (PyData.bool y_due_13)))) = false → ((Showy x_value))) := by have bd := hds17.2 _ (List.mem_of_getElem? hx3); exact ⟨⟨⟨(bent_pt hpq bd).2.1, (tn_bool _).showy⟩, (tn_bool _).showy⟩, fun _ => bd.sh⟩
          have hh35 : ((!decide ((PyData.shown (PyData.bool (p_is_part k1 n2 (y7) (l) (x_value)))) = (PyData.shown (PyData.bool y_due_13)))) || (!decide ((PyData.shown x_value) = y_before_12))) = false := by rw [← hy13, ← hy12, (bent_pt hpq (hds17.2 _ (List.mem_of_getElem? hx3))).1]; simp
          refine s_noD (et_or (et_of (C := C) (ed_neS (ed_repr (ed_call (as_cons (ed_var (i := 2) rfl f__law_kind_here) (as_cons (ed_var (i := 8) rfl f__law_order_here) (as_cons (ed_var (i := 3) rfl f__law_row_here) (as_cons (ed_var (i := 10) rfl f__law_value) as_nil)))) (ct_pure ⟨k1, n2, y7, l, x_value, rfl, ((((hh34).1).1).1), rfl⟩)) ((((hh34).1).1).2)) (ed_repr (ed_var (i := 12) rfl f__law_due) (((hh34).1).2)))) (fun z18 => (et_of (C := C) (ed_neS (ed_repr (ed_var (i := 10) rfl f__law_value) (((hh34).2) z18)) (ed_var (i := 11) rfl f__law_before))))) eG hh35 fun H1 s1 => ?_
          have ng := s1.nw _ gc.ne ng
          have gc := gc.ex s1.h
          have eB := eB.trans s1.g
          have eG := s1.gh
          have f__law_pair := At.mono s1.g f__law_pair
          have f__law_kind_here := At.mono s1.g f__law_kind_here
          have f__law_row_here := At.mono s1.g f__law_row_here
          have f__law_made_here := At.mono s1.g f__law_made_here
          have f__law_greatest := At.mono s1.g f__law_greatest
          have f__law_kept := At.mono s1.g f__law_kept
          have f__law_turn := At.mono s1.g f__law_turn
          have f__law_order_here := At.mono s1.g f__law_order_here
          have f__law_told := At.mono s1.g f__law_told
          have f__law_value := At.mono s1.g f__law_value
          have f__law_before := At.mono s1.g f__law_before
          have f__law_due := At.mono s1.g f__law_due
          have eb := eb.trans s1.g
          have eo_z1 := eo_z1.trans s1.g
          first | refine Lk.mk eb eG ?_ | (unfold tNext; refine Lk.mk eb eG ?_)
          exact ⟨_, _, _, _, _, _, _, trivial, rfl, gc.le (by push_cast; omega), ng⟩
        · rintro σ' G' H' ⟨o10, o11, o12, o13, o14, o15, o16, hinv3, rfl, gc, ng⟩ e1 e2
          have eB := eB.trans e1
          have eG := e2
          have eo_z1 := eo_z1.trans e1
          have eb := eb.trans e1
          have f__law_pair := At.mono e1 f__law_pair
          have f__law_kind_here := At.mono e1 f__law_kind_here
          have f__law_row_here := At.mono e1 f__law_row_here
          have f__law_made_here := At.mono e1 f__law_made_here
          have f__law_greatest := At.mono e1 f__law_greatest
          have f__law_kept := At.mono e1 f__law_kept
          have f__law_turn := At.mono e1 f__law_turn
          have f__law_order_here := At.mono e1 f__law_order_here
          have f__law_told := At.mono e1 f__law_told
          have gc := gc.le (show _ ≤ c3 + (1000 : Int) * 0 by omega)
          -- if _law_told is not None:
          refine s_ifF (et_of (C := C) (ed_notN (ed_var (i := 9) rfl f__law_told))) eG rfl fun H1 s1 => ?_
          have ng := s1.nw _ gc.ne ng
          have gc := gc.ex s1.h
          have eB := eB.trans s1.g
          have eG := s1.gh
          have f__law_pair := At.mono s1.g f__law_pair
          have f__law_kind_here := At.mono s1.g f__law_kind_here
          have f__law_row_here := At.mono s1.g f__law_row_here
          have f__law_made_here := At.mono s1.g f__law_made_here
          have f__law_greatest := At.mono s1.g f__law_greatest
          have f__law_kept := At.mono s1.g f__law_kept
          have f__law_turn := At.mono s1.g f__law_turn
          have f__law_order_here := At.mono s1.g f__law_order_here
          have f__law_told := At.mono s1.g f__law_told
          have eb := eb.trans s1.g
          have eo_z1 := eo_z1.trans s1.g
          first | refine Lk.mk eb eG ?_ | (unfold tNext; refine Lk.mk eb eG ?_)
          exact ⟨_, _, _, _, _, _, _, _, _, _, trivial, rfl, gc.le (by push_cast; omega), ng⟩
    · rintro σ' G' H' ⟨o7, o8, o9, o10, o11, o12, o13, o14, o15, o16, hinv1, rfl, gc, ng⟩ e1 e2
      have eB := eB.trans e1
      have eG := e2
      have eo_z1 := eo_z1.trans e1
      have f__law_pair := At.mono e1 f__law_pair
      have f__law_kind_here := At.mono e1 f__law_kind_here
      have f__law_row_here := At.mono e1 f__law_row_here
      have f__law_made_here := At.mono e1 f__law_made_here
      have f__law_greatest := At.mono e1 f__law_greatest
      have f__law_kept := At.mono e1 f__law_kept
      have gc := gc.le (show _ ≤ c1 + (10 : Int) * 30 by rw [rng_len]; omega)
      have oo_z1 := eG _ _ (eo_z1 _ _ (upd_same (o := .lst vs__law_row_here)))
      have eG := ((Ex.new (o := .lst vs__law_row_here) w__law_row_here_z1.n).trans eo_z1).trans eG
      have ng := ng_z1
      have eB := eB_z1
      have f__law_pair := f__law_pair_z1
      have f__law_kind_here := f__law_kind_here_z1
      have w__law_row_here : OwnR C _ _ p__law_row_here vs__law_row_here _ := ⟨oo_z1, w__law_row_here_z1.n, w__law_row_here_z1.d⟩
      have f__law_made_here := f__law_made_here_z1
      have f__law_greatest := f__law_greatest_z1
      have f__law_kept := f__law_kept_z1
      -- _law_order_here = _law_made_here[_law_random(_law_generator_here, len(_law_made_here))]
      have hh36 : 0 < ((wss).length : Int) ∧ ((wss).length : Int) < 2 ^ 29 := by have h1 := parts_pos hw; have h2 := hw.1; omega
      have hh37 : ∀ i20 : Int, (0 ≤ i20 ∧ i20 < ((wss).length : Int)) → -((wss).length : Int) ≤ i20 ∧ i20 < ((wss).length : Int) := by intro i h; omega
      refine q_asgR (C := C) (er_ix (f := (eL PyData.int)) (ed_var (i := 4) rfl f__law_made_here) (er_call (ev_var (i := 0) rfl) (as_cons (ed_lenL (ed_var (i := 4) rfl f__law_made_here)) as_nil) (ct_random hh36)) hh37) eG ng gc (by omega) fun x1 v__law_order_here H1 G1 hx s1 g2 f__law_order_here => ?_
      refine st_eq (σ' := [some (V.ref g), some v__law_pair, some v__law_kind_here, some (V.ref p__law_row_here), some v__law_made_here, some v__law_greatest, some v__law_kept, o7, some v__law_order_here, o9, o10, o11, o12, o13, o14, o15, o16]) ?_ rfl
      obtain ⟨r19, hr19, rfl⟩ := hx
      have ng := s1.keepNone gc ng
      have gc := g2
      have w__law_row_here := w__law_row_here.stepG ng__law_row_here s1
      have eB := eB.trans s1.g
      have eG := s1.gh
      have f__law_pair := At.mono s1.g f__law_pair
      have f__law_kind_here := At.mono s1.g f__law_kind_here
      have f__law_made_here := At.mono s1.g f__law_made_here
      have f__law_kept := At.mono s1.g f__law_kept
      generalize hy14 : (getI wss r19) = y_order_here_14 at f__law_order_here
      -- _law_asked = [part(_law_kind_here, _law_order_here, _law_row_here) is not None, is_part(_law_kind_here, _law_order_here, _law_row_here, [])]
      have hh38 : ((PartQ k1 n2 y_order_here_14 l)) ∧ ((q_is_part k1 n2 (y_order_here_14) (l) (((eL PyData.int) ([] : (List Int)))))) := by have hq := parts_q hk1.1 hl.1 hl.2 hw (hy14 ▸ getI_mem (ws := wss) (i := r19) ⟨by omega, hr19.2⟩ : y_order_here_14 ∈ wss); exact ⟨hq, q_prog hq (by decide)⟩
      refine q_asgN (C := C) (en_lst (ds := ([(!(isNoneD (partD k1 n2 y_order_here_14 l))), (p_is_part k1 n2 (y_order_here_14) (l) (((eL PyData.int) ([] : (List Int)))))] : List Bool).map PyData.bool) (as_cons (ed_notN (ed_call (as_cons (ed_var (i := 2) rfl (At.mono (Ex.new w__law_row_here.n) f__law_kind_here)) (as_cons (ed_var (i := 8) rfl (At.mono (Ex.new w__law_row_here.n) f__law_order_here)) (as_cons (ed_var (i := 3) rfl (w__law_row_here.at)) as_nil))) (ct_part ((hh38).1)))) (as_cons (ed_call (as_cons (ed_var (i := 2) rfl (At.mono (Ex.new w__law_row_here.n) f__law_kind_here)) (as_cons (ed_var (i := 8) rfl (At.mono (Ex.new w__law_row_here.n) f__law_order_here)) (as_cons (ed_var (i := 3) rfl (w__law_row_here.at)) (as_cons (EvN.d (en_lst (ds := ([] : (List Int)).map PyData.int) as_nil (by decide))) as_nil)))) (ct_pure ⟨k1, n2, y_order_here_14, l, ((eL PyData.int) ([] : (List Int))), rfl, ((hh38).2), rfl⟩)) as_nil)) (show 2 ≤ 100000 by decide)) (w__law_row_here.ex eG) fun p__law_asked vs__law_asked H1 G1 s1 h1 h2 h3 h4 => ?_
      refine st_eq (σ' := [some (V.ref g), some v__law_pair, some v__law_kind_here, some (V.ref p__law_row_here), some v__law_made_here, some v__law_greatest, some v__law_kept, o7, some v__law_order_here, o9, o10, o11, o12, o13, some (V.ref p__law_asked), o15, o16]) ?_ rfl
      have s1 := Gs.same eG s1.h
      have h2 := fresh_back eG h1
      have ng__law_asked : p__law_asked ≠ g := fun z => gc.ne (z ▸ h1)
      have d__law_row_here__law_asked := ne_of_none w__law_row_here.o h1
      have d__law_asked__law_row_here := Ne.symm d__law_row_here__law_asked
      have w__law_asked : OwnR C _ _ _ _ _ := ⟨h3, h2, dqa_flatB h4⟩
      have ng := s1.nw _ gc.ne ng
      have gc := gc.ex s1.h
      have w__law_row_here := w__law_row_here.step s1
      have eB := eB.trans s1.g
      have eG := s1.gh
      have f__law_pair := At.mono s1.g f__law_pair
      have f__law_kind_here := At.mono s1.g f__law_kind_here
      have f__law_kept := At.mono s1.g f__law_kept
      have f__law_order_here := At.mono s1.g f__law_order_here
      generalize hy15 : ([(!(isNoneD (partD k1 n2 y_order_here_14 l))), (p_is_part k1 n2 (y_order_here_14) (l) (((eL PyData.int) ([] : (List Int)))))] : List Bool) = y_asked_15 at w__law_asked
      -- _law_row_here.clear()
      refine q_clear eG (ev_var (i := 3) rfl) w__law_row_here.o w__law_row_here.n fun us H1 G1 s1 d1 n1 e1 => ?_
      have ng := s1.nw _ gc.ne ng
      have gc := (gc.ex s1.h).upd (o := .lst us) (Ne.symm ng__law_row_here)
      have w__law_asked := (w__law_asked.step s1).other (o := .lst us) d__law_asked__law_row_here
      have w__law_row_here : OwnR C _ (L2.upd H1 p__law_row_here (.lst us)) p__law_row_here us _ := ⟨upd_same, n1, d1⟩
      have eB := eB.trans s1.g
      have eG := e1
      have f__law_pair := At.mono s1.g f__law_pair
      have f__law_kind_here := At.mono s1.g f__law_kind_here
      have f__law_kept := At.mono s1.g f__law_kept
      have f__law_order_here := At.mono s1.g f__law_order_here
      clear e1 d1 n1
      generalize hv16 : us = vs__law_row_here at gc eG w__law_asked w__law_row_here ⊢
      try rw [← List.map_reverse] at w__law_row_here
      try rw [← List.map_append] at w__law_row_here
      change OwnR C _ _ _ _ ((([] : List Int)).map PyData.int) at w__law_row_here
      obtain ⟨y_row_here_17, hy17⟩ : ∃ z, z = ([] : List Int) := ⟨_, rfl⟩
      rw [← hy17] at w__law_row_here
      have f__law_asked := w__law_asked.at
      have eG := w__law_asked.ex eG
      have eB := eB.trans (Ex.new (o := .lst vs__law_asked) w__law_asked.n)
      have f__law_pair := At.mono (Ex.new (o := .lst vs__law_asked) w__law_asked.n) f__law_pair
      have f__law_kind_here := At.mono (Ex.new (o := .lst vs__law_asked) w__law_asked.n) f__law_kind_here
      have w__law_row_here : OwnR C _ _ _ _ _ := ⟨w__law_row_here.o, by rw [upd_ne d__law_row_here__law_asked]; exact w__law_row_here.n, dpExAll (Ex.new (o := .lst vs__law_asked) w__law_asked.n) _ _ w__law_row_here.d⟩
      have f__law_kept := At.mono (Ex.new (o := .lst vs__law_asked) w__law_asked.n) f__law_kept
      have f__law_order_here := At.mono (Ex.new (o := .lst vs__law_asked) w__law_asked.n) f__law_order_here
      have ng := (upd_ne (a := p__law_asked) (o := .lst vs__law_asked) (Ne.symm ng__law_asked)).trans ng
      -- _law_asked = _law_asked + [part(_law_kind_here, _law_order_here, _law_row_here) is not None, is_part(_law_kind_here, _law_order_here, _law_row_here, [
      have hh39 : (((PartQ k1 n2 y_order_here_14 y_row_here_17)) ∧ ((q_is_part k1 n2 (y_order_here_14) (y_row_here_17) (((eL PyData.int) ([] : (List Int))))))) ∧ ((y_asked_15).length + (([(!(isNoneD (partD k1 n2 y_order_here_14 y_row_here_17))), (p_is_part k1 n2 (y_order_here_14) (y_row_here_17) (((eL PyData.int) ([] : (List Int)))))] : List Bool)).length ≤ 100000) := by have hq := parts_q hk1.1 hl.1 hl.2 hw (hy14 ▸ getI_mem (ws := wss) (i := r19) ⟨by omega, hr19.2⟩ : y_order_here_14 ∈ wss); rw [hy17]; exact ⟨⟨hq.nil, q_prog hq.nil (by decide)⟩, by rw [← hy15]; exact (by decide : 2 + 2 ≤ 100000)⟩
      refine q_asgN (C := C) (en_catL (ed_var (i := 14) rfl (At.mono (Ex.new w__law_row_here.n) f__law_asked)) (EvN.d (en_lst (ds := ([(!(isNoneD (partD k1 n2 y_order_here_14 y_row_here_17))), (p_is_part k1 n2 (y_order_here_14) (y_row_here_17) (((eL PyData.int) ([] : (List Int)))))] : List Bool).map PyData.bool) (as_cons (ed_notN (ed_call (as_cons (ed_var (i := 2) rfl (At.mono (Ex.new w__law_row_here.n) f__law_kind_here)) (as_cons (ed_var (i := 8) rfl (At.mono (Ex.new w__law_row_here.n) f__law_order_here)) (as_cons (ed_var (i := 3) rfl (w__law_row_here.at)) as_nil))) (ct_part (((hh39).1).1)))) (as_cons (ed_call (as_cons (ed_var (i := 2) rfl (At.mono (Ex.new w__law_row_here.n) f__law_kind_here)) (as_cons (ed_var (i := 8) rfl (At.mono (Ex.new w__law_row_here.n) f__law_order_here)) (as_cons (ed_var (i := 3) rfl (w__law_row_here.at)) (as_cons (EvN.d (en_lst (ds := ([] : (List Int)).map PyData.int) as_nil (by decide))) as_nil)))) (ct_pure ⟨k1, n2, y_order_here_14, y_row_here_17, ((eL PyData.int) ([] : (List Int))), rfl, (((hh39).1).2), rfl⟩)) as_nil)) (show 2 ≤ 100000 by decide))) ((hh39).2)) (w__law_row_here.ex eG) fun p__law_asked vs__law_asked H1 G1 s1 h1 h2 h3 h4 => ?_
      refine st_eq (σ' := [some (V.ref g), some v__law_pair, some v__law_kind_here, some (V.ref p__law_row_here), some v__law_made_here, some v__law_greatest, some v__law_kept, o7, some v__law_order_here, o9, o10, o11, o12, o13, some (V.ref p__law_asked), o15, o16]) ?_ rfl
      have s1 := Gs.same eG s1.h
      have h2 := fresh_back eG h1
      have ng__law_asked : p__law_asked ≠ g := fun z => gc.ne (z ▸ h1)
      have d__law_row_here__law_asked := ne_of_none w__law_row_here.o h1
      have d__law_asked__law_row_here := Ne.symm d__law_row_here__law_asked
      have w__law_asked : OwnR C _ _ _ _ _ := ⟨h3, h2, dqa_flatB h4⟩
      have ng := s1.nw _ gc.ne ng
      have gc := gc.ex s1.h
      have w__law_row_here := w__law_row_here.step s1
      have eB := eB.trans s1.g
      have eG := s1.gh
      have f__law_pair := At.mono s1.g f__law_pair
      have f__law_kind_here := At.mono s1.g f__law_kind_here
      have f__law_kept := At.mono s1.g f__law_kept
      have f__law_order_here := At.mono s1.g f__law_order_here
      generalize hy18 : (y_asked_15 ++ ([(!(isNoneD (partD k1 n2 y_order_here_14 y_row_here_17))), (p_is_part k1 n2 (y_order_here_14) (y_row_here_17) (((eL PyData.int) ([] : (List Int)))))] : List Bool)) = y_asked_18 at w__law_asked
      -- _law_row_here.extend(_law_kept)
      have hh40 : (((y_row_here_17).map PyData.int)).length + (((l).map PyData.int)).length < 100000 := by rw [hy17, List.length_map, List.length_map]; have := hl.2; show 0 + l.length < 100000; omega
      refine q_extD (C := C) (ed_var (i := 6) rfl f__law_kept) eG (ev_var (i := 3) rfl) w__law_row_here.o w__law_row_here.n w__law_row_here.d hh40 fun us H1 G1 s1 d1 n1 e1 => ?_
      have ng := s1.nw _ gc.ne ng
      have gc := (gc.ex s1.h).upd (o := .lst us) (Ne.symm ng__law_row_here)
      have w__law_asked := (w__law_asked.step s1).other (o := .lst us) d__law_asked__law_row_here
      have w__law_row_here : OwnR C _ (L2.upd H1 p__law_row_here (.lst us)) p__law_row_here us _ := ⟨upd_same, n1, d1⟩
      have eB := eB.trans s1.g
      have eG := e1
      have f__law_pair := At.mono s1.g f__law_pair
      have f__law_kind_here := At.mono s1.g f__law_kind_here
      have f__law_kept := At.mono s1.g f__law_kept
      have f__law_order_here := At.mono s1.g f__law_order_here
      clear e1 d1 n1
      generalize hv19 : us = vs__law_row_here at gc eG w__law_asked w__law_row_here ⊢
      try rw [← List.map_reverse] at w__law_row_here
      try rw [← List.map_append] at w__law_row_here
      change OwnR C _ _ _ _ (((y_row_here_17 ++ l)).map PyData.int) at w__law_row_here
      obtain ⟨y_row_here_20, hy20⟩ : ∃ z, z = (y_row_here_17 ++ l) := ⟨_, rfl⟩
      rw [← hy20] at w__law_row_here
      have f__law_row_here := w__law_row_here.at
      have eG := w__law_row_here.ex eG
      have eB := eB.trans (Ex.new (o := .lst vs__law_row_here) w__law_row_here.n)
      have f__law_pair := At.mono (Ex.new (o := .lst vs__law_row_here) w__law_row_here.n) f__law_pair
      have f__law_kind_here := At.mono (Ex.new (o := .lst vs__law_row_here) w__law_row_here.n) f__law_kind_here
      have f__law_kept := At.mono (Ex.new (o := .lst vs__law_row_here) w__law_row_here.n) f__law_kept
      have f__law_order_here := At.mono (Ex.new (o := .lst vs__law_row_here) w__law_row_here.n) f__law_order_here
      have w__law_asked : OwnR C _ _ _ _ _ := ⟨w__law_asked.o, by rw [upd_ne d__law_asked__law_row_here]; exact w__law_asked.n, dpExAll (Ex.new (o := .lst vs__law_row_here) w__law_row_here.n) _ _ w__law_asked.d⟩
      have ng := (upd_ne (a := p__law_row_here) (o := .lst vs__law_row_here) (Ne.symm ng__law_row_here)).trans ng
      have f__law_asked := w__law_asked.at
      have eG := w__law_asked.ex eG
      have eB := eB.trans (Ex.new (o := .lst vs__law_asked) w__law_asked.n)
      have f__law_pair := At.mono (Ex.new (o := .lst vs__law_asked) w__law_asked.n) f__law_pair
      have f__law_kind_here := At.mono (Ex.new (o := .lst vs__law_asked) w__law_asked.n) f__law_kind_here
      have f__law_row_here := At.mono (Ex.new (o := .lst vs__law_asked) w__law_asked.n) f__law_row_here
      have f__law_kept := At.mono (Ex.new (o := .lst vs__law_asked) w__law_asked.n) f__law_kept
      have f__law_order_here := At.mono (Ex.new (o := .lst vs__law_asked) w__law_asked.n) f__law_order_here
      have ng := (upd_ne (a := p__law_asked) (o := .lst vs__law_asked) (Ne.symm ng__law_asked)).trans ng
      -- _law_start_here = _law_order_here == _law_start(_law_pair)
      have hh41 : ((n2 ≤ 100)) := by have := hk1.2; omega
      refine q_asgD (C := C) (ed_eqE (Enc.list enc_int) (by decide) (ed_var (i := 8) rfl f__law_order_here) (EvN.d (en_call (as_cons (ed_var (i := 1) rfl f__law_pair) as_nil) (ct_start8 (hh41))))) eG fun v__law_start_here H1 G1 s1 f__law_start_here => ?_
      refine st_eq (σ' := [some (V.ref g), some v__law_pair, some v__law_kind_here, some (V.ref p__law_row_here), some v__law_made_here, some v__law_greatest, some v__law_kept, o7, some v__law_order_here, o9, o10, o11, o12, o13, some (V.ref p__law_asked), some v__law_start_here, o16]) ?_ rfl
      have ng := s1.nw _ gc.ne ng
      have gc := gc.ex s1.h
      have eB := eB.trans s1.g
      have eG := s1.gh
      have f__law_pair := At.mono s1.g f__law_pair
      have f__law_kind_here := At.mono s1.g f__law_kind_here
      have f__law_row_here := At.mono s1.g f__law_row_here
      have f__law_kept := At.mono s1.g f__law_kept
      have f__law_order_here := At.mono s1.g f__law_order_here
      have f__law_asked := At.mono s1.g f__law_asked
      generalize hy21 : (decide (y_order_here_14 = (startL k1 n2))) = y_start_here_21 at f__law_start_here
      -- if _law_asked != [True, _law_start_here, _law_start_here, _law_start_here] or part(_law_kind_here, _law_order_here, _law_row_here) is None:
      have hh42 : ((!decide (y_asked_18 = ([true, y_start_here_21, y_start_here_21, y_start_here_21] : List Bool))) = false → (PartQ k1 n2 y_order_here_14 y_row_here_20)) := by have hq := parts_q hk1.1 hl.1 hl.2 hw (hy14 ▸ getI_mem (ws := wss) (i := r19) ⟨by omega, hr19.2⟩ : y_order_here_14 ∈ wss); rw [hy20, hy17]; exact fun _ => hq
      have hh43 : ((!decide (y_asked_18 = ([true, y_start_here_21, y_start_here_21, y_start_here_21] : List Bool))) || (isNoneD (partD k1 n2 y_order_here_14 y_row_here_20))) = false := by have hm := (hy14 ▸ getI_mem (ws := wss) (i := r19) ⟨by omega, hr19.2⟩ : y_order_here_14 ∈ wss); have hq := parts_q hk1.1 hl.1 hl.2 hw hm; have hd := (parts_iff hk1.1 hl.1 hq.f hw).mp hm; rw [hy20, hy17, List.nil_append, some_partD hd, ← hy18, ← hy15, some_partD hd, hy17, pt_nil, pt_nil, none_partD, ← hy21]; by_cases q : y_order_here_14 = startL k1 n2; (subst q; simp [downs]); (have q2 : ¬ startL k1 n2 = y_order_here_14 := fun z => q z.symm; simp [downs, q, q2])
      refine q_noD (et_or (et_of (C := C) (ed_neE (Enc.list enc_bool) (by decide) (ed_var (i := 14) rfl f__law_asked) (EvN.d (en_lst (ds := ([true, y_start_here_21, y_start_here_21, y_start_here_21] : List Bool).map PyData.bool) (as_cons ed_b (as_cons (ed_var (i := 15) rfl f__law_start_here) (as_cons (ed_var (i := 15) rfl f__law_start_here) (as_cons (ed_var (i := 15) rfl f__law_start_here) as_nil)))) (show 4 ≤ 100000 by decide))))) (fun z21 => (et_of (C := C) (ed_isN (ed_call (as_cons (ed_var (i := 2) rfl f__law_kind_here) (as_cons (ed_var (i := 8) rfl f__law_order_here) (as_cons (ed_var (i := 3) rfl f__law_row_here) as_nil))) (ct_part ((hh42) z21))))))) eG hh43 fun H1 s1 => ?_
      have ng := s1.nw _ gc.ne ng
      have gc := gc.ex s1.h
      have eB := eB.trans s1.g
      have eG := s1.gh
      have f__law_pair := At.mono s1.g f__law_pair
      have f__law_kind_here := At.mono s1.g f__law_kind_here
      have f__law_row_here := At.mono s1.g f__law_row_here
      have f__law_kept := At.mono s1.g f__law_kept
      have f__law_order_here := At.mono s1.g f__law_order_here
      have f__law_asked := At.mono s1.g f__law_asked
      have f__law_start_here := At.mono s1.g f__law_start_here
      -- _law_handed = list(_law_order_here)
      refine q_asgN (C := C) (en_list (ed_var (i := 8) rfl f__law_order_here)) eG fun p__law_handed vs__law_handed H1 G1 s1 h1 h2 h3 h4 => ?_
      refine st_eq (σ' := [some (V.ref g), some v__law_pair, some v__law_kind_here, some (V.ref p__law_row_here), some v__law_made_here, some v__law_greatest, some v__law_kept, o7, some v__law_order_here, o9, o10, o11, o12, o13, some (V.ref p__law_asked), some v__law_start_here, some (V.ref p__law_handed)]) ?_ rfl
      have ng__law_handed : p__law_handed ≠ g := fun z => gc.ne (z ▸ h1)
      have w__law_handed : OwnR C _ _ _ _ _ := ⟨h3, h2, h4⟩
      have ng := s1.nw _ gc.ne ng
      have gc := gc.ex s1.h
      have eB := eB.trans s1.g
      have eG := s1.gh
      have f__law_pair := At.mono s1.g f__law_pair
      have f__law_kind_here := At.mono s1.g f__law_kind_here
      have f__law_row_here := At.mono s1.g f__law_row_here
      have f__law_kept := At.mono s1.g f__law_kept
      have f__law_order_here := At.mono s1.g f__law_order_here
      generalize hy22 : y_order_here_14 = y_handed_22 at w__law_handed
      -- part(_law_kind_here, _law_handed, _law_row_here)
      have hh44 : (PartQ k1 n2 y_handed_22 y_row_here_20) := by have hq := parts_q hk1.1 hl.1 hl.2 hw (hy14 ▸ getI_mem (ws := wss) (i := r19) ⟨by omega, hr19.2⟩ : y_order_here_14 ∈ wss); rw [hy20, hy17, ← hy22]; exact hq
      refine q_dropD (C := C) (ed_call (as_cons (ed_var (i := 2) rfl (At.mono (Ex.new w__law_handed.n) f__law_kind_here)) (as_cons (ed_var (i := 16) rfl (w__law_handed.at)) (as_cons (ed_var (i := 3) rfl (At.mono (Ex.new w__law_handed.n) f__law_row_here)) as_nil))) (ct_part (hh44))) (w__law_handed.ex eG) fun H1 G1 s1 => ?_
      have s1 := Gs.same eG s1.h
      have ng := s1.nw _ gc.ne ng
      have gc := gc.ex s1.h
      have w__law_handed := w__law_handed.step s1
      have eB := eB.trans s1.g
      have eG := s1.gh
      have f__law_pair := At.mono s1.g f__law_pair
      have f__law_kind_here := At.mono s1.g f__law_kind_here
      have f__law_row_here := At.mono s1.g f__law_row_here
      have f__law_kept := At.mono s1.g f__law_kept
      -- _law_handed[:] = _law_start(_law_pair)
      have hh45 : (n2 ≤ 100) := by have := hk1.2; omega
      have hh46 : vs__law_handed.length + ((((startL k1 n2)).map PyData.int)).length < 100000 := by have hm := (hy14 ▸ getI_mem (ws := wss) (i := r19) ⟨by omega, hr19.2⟩ : y_order_here_14 ∈ wss); have h0 := (parts_q hk1.1 hl.1 hl.2 hw hm).f.1; have h1 := dpa_len w__law_handed.d; have := hk1.2; rw [h1, ← hy22, List.length_map, List.length_map, startL_len, h0]; omega
      refine q_allD (C := C) (EvN.d (en_call (as_cons (ed_var (i := 1) rfl f__law_pair) as_nil) (ct_start8 (hh45)))) eG (ev_var (i := 16) rfl) w__law_handed.o w__law_handed.n hh46 fun us H1 G1 s1 d1 n1 e1 => ?_
      have ng := s1.nw _ gc.ne ng
      have gc := (gc.ex s1.h).upd (o := .lst us) (Ne.symm ng__law_handed)
      have w__law_handed : OwnR C _ (L2.upd H1 p__law_handed (.lst us)) p__law_handed us _ := ⟨upd_same, n1, d1⟩
      have eB := eB.trans s1.g
      have eG := e1
      have f__law_pair := At.mono s1.g f__law_pair
      have f__law_kind_here := At.mono s1.g f__law_kind_here
      have f__law_row_here := At.mono s1.g f__law_row_here
      have f__law_kept := At.mono s1.g f__law_kept
      clear e1 d1 n1
      generalize hv23 : us = vs__law_handed at gc eG w__law_handed ⊢
      try rw [← List.map_reverse] at w__law_handed
      try rw [← List.map_append] at w__law_handed
      change OwnR C _ _ _ _ (((startL k1 n2)).map PyData.int) at w__law_handed
      obtain ⟨y_handed_24, hy24⟩ : ∃ z, z = (startL k1 n2) := ⟨_, rfl⟩
      rw [← hy24] at w__law_handed
      have f__law_handed := w__law_handed.at
      have eG := w__law_handed.ex eG
      have eB := eB.trans (Ex.new (o := .lst vs__law_handed) w__law_handed.n)
      have f__law_kind_here := At.mono (Ex.new (o := .lst vs__law_handed) w__law_handed.n) f__law_kind_here
      have f__law_row_here := At.mono (Ex.new (o := .lst vs__law_handed) w__law_handed.n) f__law_row_here
      have f__law_kept := At.mono (Ex.new (o := .lst vs__law_handed) w__law_handed.n) f__law_kept
      have ng := (upd_ne (a := p__law_handed) (o := .lst vs__law_handed) (Ne.symm ng__law_handed)).trans ng
      -- return part(_law_kind_here, _law_handed, _law_row_here) == [] and _law_row_here == _law_kept
      have hh47 : (((PartQ k1 n2 y_handed_24 y_row_here_20)) ∧ (SeqAt.shaped (partD k1 n2 y_handed_24 y_row_here_20) = true ∧ SeqAt.shaped ((eL PyData.int) ([] : (List Int))) = true)) := by have hq := parts_q hk1.1 hl.1 hl.2 hw (hy14 ▸ getI_mem (ws := wss) (i := r19) ⟨by omega, hr19.2⟩ : y_order_here_14 ∈ wss); rw [hy20, hy17, hy24]; exact ⟨hq.start, shaped_partD, shaped_ints _⟩
      have hh48 : ((PyData.eqv (partD k1 n2 y_handed_24 y_row_here_20) ((eL PyData.int) ([] : (List Int)))) && (decide (y_row_here_20 = l))) = true := by rw [hy20, hy17, hy24, List.nil_append, part_start hk1.1 hl.1, eqv_same]; simp
      refine s_retD (C := C) (ed_and (ed_eqD (ed_call (as_cons (ed_var (i := 2) rfl f__law_kind_here) (as_cons (ed_var (i := 16) rfl f__law_handed) (as_cons (ed_var (i := 3) rfl f__law_row_here) as_nil))) (ct_part ((hh47).1))) (EvN.d (en_lst (ds := ([] : (List Int)).map PyData.int) as_nil (by decide))) ((hh47).2).1 ((hh47).2).2) (fun z22 => (ed_eqE (Enc.list enc_int) (by decide) (ed_var (i := 3) rfl f__law_row_here) (ed_var (i := 6) rfl f__law_kept)))) eG fun v H1 G1 s1 a => ?_
      rw [at_bool a, hh48]
      exact q H1 (rmv_same ((eB.trans eG).trans s1.h))
end
end Sv

/-! x or y of lists; range with a step. By the verifier. -/
namespace Sv
open PySem PySem.Spec PyProof.Rows L2 Evl
section
variable {K : PySem.W.Frag} {C : Addr} {H G : Hp} {σ : L2.St}
theorem ed_orL {α : Type} {e : α → PyData} {ws : List α} {ta tb : TE} (ha : EvD C ta σ G (.py (eL e ws))) (h : ws ≠ []) : EvD C (tOrT K ta tb) σ G (.py (eL e ws)) := fun H1 e0 Q q =>
  ha H1 e0 _ fun v H2 G2 s a => by
    obtain ⟨p, vs, rfl, hs, hd⟩ := at_list a
    have hl := dpa_len hd
    rw [List.length_map] at hl
    refine ⟨true, .inl ⟨vs, ex_l s.gh (sq_of hs), ?_⟩, ?_⟩
    · cases vs <;> cases ws <;> first | exact absurd rfl h | rfl | (cases hl)
    · rw [if_pos rfl]
      exact q _ H2 G2 s a
/-- range with a step -/
def rngC (lo c : Int) (n : Nat) : List Int := (List.range n).map fun (t : Nat) => lo + (t : Int) * c
theorem ei_rg3 {a b c : Int} {n : Nat} {ta tb tc : TE} (h1 : EvD C ta σ G (.py (.int a))) (h2 : EvD C tb σ G (.py (.int b))) (h3 : EvD C tc σ G (.py (.int c))) (hz : RgC a b c n) : EvI (iRng3 (tCons ta (tCons tb (tCons tc tNil)))) σ G ((rngC a c n).map PyData.int) := fun H1 e R k =>
  h1 H1 e _ fun v H2 G2 s a2 => (h2.mono s.g) H2 s.gh _ fun v2 H3 G3 s3 a3 => ((h3.mono s.g).mono s3.g) H3 s3.gh _ fun v3 H4 G4 s4 a4 => by
    rw [at_int a2, at_int a3, at_int a4]
    have hlen : (rngC a c n).length = n := by unfold rngC; rw [List.length_map, List.length_range]
    refine ⟨a, b, c, n, rfl, hz, k _ H4 G4 ((s.trans s3).trans s4) ⟨_, _, by rw [List.length_map, hlen]; exact walk_rangeC, fun _ _ => trivial, fun i H x H' Gi hi e1 e2 y => ?_⟩⟩
    obtain ⟨rfl, rfl⟩ := y
    rw [List.length_map, hlen] at hi
    exact ⟨Gi, _, by rw [List.getElem?_map]; unfold rngC; rw [List.getElem?_map, List.getElem?_range hi]; rfl, Gs.refl e2, .int _⟩
end
end Sv

namespace Sv
open PySem PySem.Spec PyProof.Rows L2 Evl
instance (k : Nm) (n : Nat) (s : Int) : Decidable (okS k n s) := by unfold okS; infer_instance
def plcL (k : Nm) (n : Nat) (ws l : List Int) : List Int := (plcD k n ws l l.length).reverse
theorem ct_partL {K : PySem.W.Frag} {C : Addr} {k : Nm} {n : Nat} {ws l : List Int} (h : PartQ k n ws l) (z : downs k n ws l.reverse = startL k n) : CtN C (spPart K C) [.kd k n, .py (eL PyData.int ws), .py (eL PyData.int l)] ((plcL k n ws l).map PyData.int) := ct_partN h z
theorem fpl {n : Nat} {ws : List Int} (h : ws.length = n) (p : ws.Perm (startL .pl n)) : Form .pl n ws := ⟨h, p⟩
theorem fri {n : Nat} {ws : List Int} (h : ws.length = n) (s : ws.sum = (n : Int) * ((n : Int) - 1) / 2) (p : (ws.map fun x => x % (n : Int)).Perm (startL .ri n)) : Form .ri n ws := ⟨h, s, p⟩
theorem pqa {k : Nm} {n : Nat} {ws l : List Int} (a : okK k n = true) (f : Form k n ws) (c : crP k n ws ≤ 60) (s : ∀ s ∈ l, okS k n s) (b : l.length ≤ 100) : PartQ k n ws l := ⟨a, f, c, s, b⟩

section
variable {P : Program} {w : World} {K : PySem.W.Frag} {mg : Str → Option Value} {base : Heap} {f C D : Addr} {fd : FuncData}
def spLaw (K : PySem.W.Frag) : Sp := fun vs H Q _ => ∃ (a : Addr) (ns : List Int), vs = [.ref a] ∧ SqL K H a (ns.map V.int) ∧ ns.length ≤ 63 ∧ ∀ H', Q (.bl true) H'
theorem ok_law43 (T : Tk K w mg C D) (F : FnP K "law" "law" s_law f fd) (c_law_right : GdG P w K mg base "_law_right" ["_law_generator_here"] 9 spRightG) (c_law_generator : Gd P w K mg base "_law_generator" ["_law_script", "_law_index"] 2 (spGen K)) (c_Kind : Cd P w K mg base "Kind" C ["self", "name", "size"] 2 (spInit C)) (c_is_part : Gd P w K mg base "is_part" ["kind", "order", "row", "value"] 6 (spPure C R_is_part)) (c_part : Gd P w K mg base "part" ["kind", "order", "row"] 6 (spPart K C)) : FnG P w K mg base 10 f fd ["_law_script"] (spLaw K) := by
  refine okG F sc_law (fun vs H Q E h => ?_) (fun cdv A outer s H vs Q E gs hr h => ?_)
  · obtain ⟨a, ns, rfl, _⟩ := h
    rfl
  · obtain ⟨a, ns, rfl, hA, hlen, q⟩ := h
    refine ⟨_, (pss_cons (ps_for PassesOwn.never rfl (pi_range1 (by rfl) T.m_range (pa_cons pe_int pa_nil)) (pg_name (i := 1) sc_law.nd rfl (Or.inl rfl)) (pss_one (ps_if (pt_not (pt_val (pe_callGG c_law_right gs (hr.mono (by decide)) (by rfl) (pa_cons (pe_callG c_law_generator (hr.mono (by decide)) (by rfl) (pa_cons (pv 0) (pa_cons (pv 1) pa_nil))) pa_nil)))) (pss_one (ps_ret pe_bl)) pss_nil)))
      (pss_cons (ps_par (i := 2) (j := 3) (by rfl) sc_law.nd rfl rfl (by decide) rfl rfl (pa_cons (pe_makeG c_Kind (hr.mono (by decide)) (by rfl) (pa_cons pe_str (pa_cons pe_int pa_nil))) (pa_cons (pe_makeG c_Kind (hr.mono (by decide)) (by rfl) (pa_cons pe_str (pa_cons pe_int pa_nil))) pa_nil)) (by rfl))
      (pss_cons (ps_if (PW.pt (pw_or (pt_cmpR (op_notInD (rm65 hr)) (pe_callG c_part (hr.mono (by decide)) (by rfl) (pa_cons (pv 2) (pa_cons (pe_lst (pa_cons pe_int (pa_cons pe_int (pa_cons pe_int pa_nil)))) (pa_cons (pe_lst (pa_cons pe_int (pa_cons pe_int (pa_cons pe_int (pa_cons pe_int pa_nil))))) pa_nil)))) (pe_lst (pa_cons (pe_lst (pa_cons pe_int (pa_cons pe_int (pa_cons pe_int pa_nil)))) (pa_cons (pe_lst (pa_cons pe_int (pa_cons pe_int (pa_cons pe_int pa_nil)))) pa_nil))) (by with_unfolding_all rfl)) (pw_or1 (pt_cmpR op_notN (pe_callG c_part (hr.mono (by decide)) (by rfl) (pa_cons (pv 2) (pa_cons (pe_lst (pa_cons pe_int (pa_cons pe_int (pa_cons pe_int pa_nil)))) (pa_cons (pe_lst (pa_cons pe_int (pa_cons pe_int pa_nil))) pa_nil)))) pe_non (nomark _))))) (pss_one (ps_ret pe_bl)) pss_nil)
      (pss_cons (ps_if (pt_cmpR op_notBl (pe_callG c_is_part (hr.mono (by decide)) (by rfl) (pa_cons (pv 2) (pa_cons (pe_lst (pa_cons pe_int (pa_cons pe_int (pa_cons pe_int pa_nil)))) (pa_cons (pe_lst (pa_cons pe_int (pa_cons pe_int (pa_cons pe_int pa_nil)))) (pa_cons (pe_lst (pa_cons pe_int (pa_cons pe_int pa_nil))) pa_nil))))) pe_bl (nomark _)) (pss_one (ps_ret pe_bl)) pss_nil)
      (pss_cons (ps_if (pt_cmpR op_notBl (pe_callG c_is_part (hr.mono (by decide)) (by rfl) (pa_cons (pv 2) (pa_cons (pe_lst (pa_cons pe_int (pa_cons pe_int (pa_cons pe_int pa_nil)))) (pa_cons (pe_lst (pa_cons pe_int (pa_cons pe_int (pa_cons pe_int pa_nil)))) (pa_cons (pe_lst (pa_cons pe_int (pa_cons pe_int pa_nil))) pa_nil))))) pe_bl (nomark _)) (pss_one (ps_ret pe_bl)) pss_nil)
      (pss_cons (ps_if (pt_cmpR op_notBl (pe_callG c_is_part (hr.mono (by decide)) (by rfl) (pa_cons (pv 2) (pa_cons (pe_lst (pa_cons pe_int (pa_cons pe_int (pa_cons pe_int pa_nil)))) (pa_cons (pe_lst (pa_cons pe_int (pa_cons pe_int pa_nil))) (pa_cons (pe_lst (pa_cons pe_int (pa_cons pe_int pa_nil))) pa_nil))))) pe_bl (nomark _)) (pss_one (ps_ret pe_bl)) pss_nil)
      (pss_cons (ps_if (pt_cmpR op_ne (pe_callB call_len_seq (by rfl) T.m_len (by decide +kernel) (pa_cons (pe_orT (pe_callG c_part (hr.mono (by decide)) (by rfl) (pa_cons (pe_makeG c_Kind (hr.mono (by decide)) (by rfl) (pa_cons pe_str (pa_cons pe_int pa_nil))) (pa_cons (pe_lst (pa_cons (pe_un un_neg pe_int) (pa_cons pe_int pa_nil))) (pa_cons (pe_op op_repS (pe_lst (pa_cons pe_int (pa_cons pe_int pa_nil))) pe_int) pa_nil)))) (pe_one (pe_lst pa_nil))) pa_nil)) pe_int (nomark _)) (pss_one (ps_ret pe_bl)) pss_nil)
      (pss_cons (ps_if (pt_cmpR (op_notInD (rm65 hr)) (pe_callG c_part (hr.mono (by decide)) (by rfl) (pa_cons (pv 3) (pa_cons (pe_lst (pa_cons pe_int (pa_cons pe_int (pa_cons pe_int pa_nil)))) (pa_cons (pe_op op_repS (pe_lst (pa_cons pe_int (pa_cons pe_int (pa_cons pe_int pa_nil)))) pe_int) pa_nil)))) (pe_lc (own := [(("_law_at" : Str), 4)]) (g := (gName 4)) (tt := tYes) rfl sc_law.nd (pi_range3 (by rfl) T.m_range (pa_cons pe_int (pa_cons pe_int (pa_cons pe_int pa_nil)))) (blkOk_by (own := [(("_law_at" : Str), 4)]) (N := ["_law_script", "_law_index", "_law_plain", "_law_ring", "_law_at"]) (sc := defScope s_law) (by decide +kernel)) (fun _ _ _ _ _ => (pg_name (i := 4) sc_law.nd rfl (Or.inl rfl))) (fun _ _ _ _ _ => pts_nil) (fun _ _ _ _ _ => (pe_lst (pa_cons (pv 4) pa_nil)))) (by with_unfolding_all rfl)) (pss_one (ps_ret pe_bl)) pss_nil)
      (pss_cons (ps_if (pt_cmpR (op_notInD (rm65 hr)) (pe_callG c_part (hr.mono (by decide)) (by rfl) (pa_cons (pv 3) (pa_cons (pe_lst (pa_cons pe_int (pa_cons pe_int (pa_cons pe_int pa_nil)))) (pa_cons (pe_op op_repS (pe_lst (pa_cons pe_int pa_nil)) pe_int) pa_nil)))) (pe_lc (own := [(("_law_at" : Str), 4)]) (g := (gName 4)) (tt := tYes) rfl sc_law.nd (pi_range1 (by rfl) T.m_range (pa_cons pe_int pa_nil)) (blkOk_by (own := [(("_law_at" : Str), 4)]) (N := ["_law_script", "_law_index", "_law_plain", "_law_ring", "_law_at"]) (sc := defScope s_law) (by decide +kernel)) (fun _ _ _ _ _ => (pg_name (i := 4) sc_law.nd rfl (Or.inl rfl))) (fun _ _ _ _ _ => pts_nil) (fun _ _ _ _ _ => (pe_lst (pa_cons (pv 4) pa_nil)))) (by with_unfolding_all rfl)) (pss_one (ps_ret pe_bl)) pss_nil)
      (pss_one (ps_ret (pe_and (pe_cmpR (op_eqD hr.units) (pe_callG c_part (hr.mono (by decide)) (by rfl) (pa_cons (pv 3) (pa_cons (pe_lst (pa_cons pe_int (pa_cons pe_int (pa_cons pe_int pa_nil)))) (pa_cons (pe_lst pa_nil) pa_nil)))) (pe_lst pa_nil) (nomark _)) (pe_one (pe_cmpR op_isBl (pe_callG c_is_part (hr.mono (by decide)) (by rfl) (pa_cons (pv 3) (pa_cons (pe_lst (pa_cons pe_int (pa_cons pe_int (pa_cons pe_int pa_nil)))) (pa_cons (pe_lst pa_nil) (pa_cons (pe_lst pa_nil) pa_nil))))) pe_bl (nomark _))))))))))))))), ?_⟩
    refine ⟨3, rfl, by decide, by decide, ?_⟩
    refine for_range (lo := 0) (n := 3) (fun i σ H2 => ∃ v1 : Option V, σ = [some (.ref a), v1, none, none, none] ∧ Same H H2) ⟨none, rfl, Same.refl H⟩ ?_ ?_
    · rintro i σ H2 hi ⟨v1, rfl, s2⟩
      refine ⟨_, rfl, _, rfl, a, ns, i, (by rw [Int.zero_add]; rfl), s2.seq hA, by omega, fun g ga gb H3 ng s3 hg => ?_⟩
      refine ⟨g, ga, gb, _, rfl, hg, ⟨by omega, by omega⟩, fun H4 x4 => ⟨true, rfl, ?_⟩⟩
      exact ⟨_, rfl, fun b o e => x4 b o (s3 b o (s2 b o e)) (ne_of_none (s2 b o e) ng)⟩
    · rintro σ H2 ⟨v1, rfl, s2⟩
      have eG : Ex H2 H2 := Ex.refl _
      -- _law_plain, _law_ring = (Kind('plain', 3), Kind('ring', 3))
      have hh1 : (okK Nm.pl 3 = true) := by decide
      have hh2 : (okK Nm.ri 3 = true) := by decide
      refine q_parD (C := C) (as_cons (ed_make (as_cons (ed_m Nm.pl) (as_cons ed_i as_nil)) (hh1)) (as_cons (ed_make (as_cons (ed_m Nm.ri) (as_cons ed_i as_nil)) (hh2)) as_nil)) eG fun v__law_plain v__law_ring H1 G1 s1 f__law_plain f__law_ring => ?_
      refine st_eq (σ' := [some (V.ref a), v1, some v__law_plain, some v__law_ring, none]) ?_ rfl
      have eG := s1.gh
      -- if part(_law_plain, [2, 1, 0], [0, 0, 1, 0]) not in [[0, 2, 3], [1, 2, 3]] or part(_law_plain, [2, 1, 0], [0, 1]) is not None:
      have hh3 : (((PartQ Nm.pl 3 ([(2 : Int), (1 : Int), (0 : Int)] : List Int) ([(0 : Int), (0 : Int), (1 : Int), (0 : Int)] : List Int)) ∧ (downs Nm.pl 3 ([(2 : Int), (1 : Int), (0 : Int)] : List Int) (([(0 : Int), (0 : Int), (1 : Int), (0 : Int)] : List Int)).reverse = startL Nm.pl 3))) ∧ ((!inL (plcL Nm.pl 3 ([(2 : Int), (1 : Int), (0 : Int)] : List Int) ([(0 : Int), (0 : Int), (1 : Int), (0 : Int)] : List Int)) ([([(0 : Int), (2 : Int), (3 : Int)] : List Int), ([(1 : Int), (2 : Int), (3 : Int)] : List Int)] : List (List Int))) = false → (PartQ Nm.pl 3 ([(2 : Int), (1 : Int), (0 : Int)] : List Int) ([(0 : Int), (1 : Int)] : List Int)) ∧ (¬ downs Nm.pl 3 ([(2 : Int), (1 : Int), (0 : Int)] : List Int) (([(0 : Int), (1 : Int)] : List Int)).reverse = startL Nm.pl 3)) := by exact ⟨⟨pqa (by decide) (fpl (by decide) (by decide +kernel)) (by decide +kernel) (by decide +kernel) (by decide), by decide +kernel⟩, fun _ => ⟨pqa (by decide) (fpl (by decide) (by decide +kernel)) (by decide +kernel) (by decide +kernel) (by decide), by decide +kernel⟩⟩
      have hh4 : ((!inL (plcL Nm.pl 3 ([(2 : Int), (1 : Int), (0 : Int)] : List Int) ([(0 : Int), (0 : Int), (1 : Int), (0 : Int)] : List Int)) ([([(0 : Int), (2 : Int), (3 : Int)] : List Int), ([(1 : Int), (2 : Int), (3 : Int)] : List Int)] : List (List Int))) || (!(isNoneD PyData.none))) = false := by decide +kernel
      refine q_noD (et_or (et_of (C := C) (ed_ninL (Enc.list enc_int) (by decide) (EvN.d (en_call (as_cons (ed_var (i := 2) rfl f__law_plain) (as_cons (EvN.d (en_lst (ds := ([(2 : Int), (1 : Int), (0 : Int)] : List Int).map PyData.int) (as_cons ed_i (as_cons ed_i (as_cons ed_i as_nil))) (show 3 ≤ 100000 by decide))) (as_cons (EvN.d (en_lst (ds := ([(0 : Int), (0 : Int), (1 : Int), (0 : Int)] : List Int).map PyData.int) (as_cons ed_i (as_cons ed_i (as_cons ed_i (as_cons ed_i as_nil)))) (show 4 ≤ 100000 by decide))) as_nil))) (ct_partL (((hh3).1).1) (((hh3).1).2)))) (EvN.d (en_lst (ds := ([([(0 : Int), (2 : Int), (3 : Int)] : List Int), ([(1 : Int), (2 : Int), (3 : Int)] : List Int)] : List (List Int)).map (eL PyData.int)) (as_cons (EvN.d (en_lst (ds := ([(0 : Int), (2 : Int), (3 : Int)] : List Int).map PyData.int) (as_cons ed_i (as_cons ed_i (as_cons ed_i as_nil))) (show 3 ≤ 100000 by decide))) (as_cons (EvN.d (en_lst (ds := ([(1 : Int), (2 : Int), (3 : Int)] : List Int).map PyData.int) (as_cons ed_i (as_cons ed_i (as_cons ed_i as_nil))) (show 3 ≤ 100000 by decide))) as_nil)) (show 2 ≤ 100000 by decide))))) (fun z1 => (et_of (C := C) (ed_notN (EvD.is (ed_call (as_cons (ed_var (i := 2) rfl f__law_plain) (as_cons (EvN.d (en_lst (ds := ([(2 : Int), (1 : Int), (0 : Int)] : List Int).map PyData.int) (as_cons ed_i (as_cons ed_i (as_cons ed_i as_nil))) (show 3 ≤ 100000 by decide))) (as_cons (EvN.d (en_lst (ds := ([(0 : Int), (1 : Int)] : List Int).map PyData.int) (as_cons ed_i (as_cons ed_i as_nil)) (show 2 ≤ 100000 by decide))) as_nil))) (ct_part ((((hh3).2) z1).1))) (congrArg Da.py (partD_no ((((hh3).2) z1).2)))))))) eG hh4 fun H1 s1 => ?_
      have eG := s1.gh
      have f__law_plain := At.mono s1.g f__law_plain
      have f__law_ring := At.mono s1.g f__law_ring
      -- if is_part(_law_plain, [0, 1, 2], [0, 1, 0], [0, 2]) is not True:
      have hh5 : ((q_is_part Nm.pl 3 (([(0 : Int), (1 : Int), (2 : Int)] : List Int)) (([(0 : Int), (1 : Int), (0 : Int)] : List Int)) (((eL PyData.int) ([(0 : Int), (2 : Int)] : List Int))))) := by exact q_prog (pqa (by decide) (fpl (by decide) (by decide +kernel)) (by decide +kernel) (by decide +kernel) (by decide)) (by decide)
      have hh6 : (!decide ((p_is_part Nm.pl 3 (([(0 : Int), (1 : Int), (2 : Int)] : List Int)) (([(0 : Int), (1 : Int), (0 : Int)] : List Int)) (((eL PyData.int) ([(0 : Int), (2 : Int)] : List Int)))) = true)) = false := by rw [prog_ints]; decide +kernel
      refine q_noD (et_of (C := C) (ed_notB (ed_call (as_cons (ed_var (i := 2) rfl f__law_plain) (as_cons (EvN.d (en_lst (ds := ([(0 : Int), (1 : Int), (2 : Int)] : List Int).map PyData.int) (as_cons ed_i (as_cons ed_i (as_cons ed_i as_nil))) (show 3 ≤ 100000 by decide))) (as_cons (EvN.d (en_lst (ds := ([(0 : Int), (1 : Int), (0 : Int)] : List Int).map PyData.int) (as_cons ed_i (as_cons ed_i (as_cons ed_i as_nil))) (show 3 ≤ 100000 by decide))) (as_cons (EvN.d (en_lst (ds := ([(0 : Int), (2 : Int)] : List Int).map PyData.int) (as_cons ed_i (as_cons ed_i as_nil)) (show 2 ≤ 100000 by decide))) as_nil)))) (ct_pure ⟨Nm.pl, 3, ([(0 : Int), (1 : Int), (2 : Int)] : List Int), ([(0 : Int), (1 : Int), (0 : Int)] : List Int), ((eL PyData.int) ([(0 : Int), (2 : Int)] : List Int)), rfl, (hh5), rfl⟩)) ed_b)) eG hh6 fun H1 s1 => ?_
      have eG := s1.gh
      have f__law_plain := At.mono s1.g f__law_plain
      have f__law_ring := At.mono s1.g f__law_ring
      -- if is_part(_law_plain, [1, 0, 2], [0, 1, 0], [2, 0]) is not False:
      have hh7 : ((q_is_part Nm.pl 3 (([(1 : Int), (0 : Int), (2 : Int)] : List Int)) (([(0 : Int), (1 : Int), (0 : Int)] : List Int)) (((eL PyData.int) ([(2 : Int), (0 : Int)] : List Int))))) := by exact q_prog (pqa (by decide) (fpl (by decide) (by decide +kernel)) (by decide +kernel) (by decide +kernel) (by decide)) (by decide)
      have hh8 : (!decide ((p_is_part Nm.pl 3 (([(1 : Int), (0 : Int), (2 : Int)] : List Int)) (([(0 : Int), (1 : Int), (0 : Int)] : List Int)) (((eL PyData.int) ([(2 : Int), (0 : Int)] : List Int)))) = false)) = false := by rw [prog_ints]; decide +kernel
      refine q_noD (et_of (C := C) (ed_notB (ed_call (as_cons (ed_var (i := 2) rfl f__law_plain) (as_cons (EvN.d (en_lst (ds := ([(1 : Int), (0 : Int), (2 : Int)] : List Int).map PyData.int) (as_cons ed_i (as_cons ed_i (as_cons ed_i as_nil))) (show 3 ≤ 100000 by decide))) (as_cons (EvN.d (en_lst (ds := ([(0 : Int), (1 : Int), (0 : Int)] : List Int).map PyData.int) (as_cons ed_i (as_cons ed_i (as_cons ed_i as_nil))) (show 3 ≤ 100000 by decide))) (as_cons (EvN.d (en_lst (ds := ([(2 : Int), (0 : Int)] : List Int).map PyData.int) (as_cons ed_i (as_cons ed_i as_nil)) (show 2 ≤ 100000 by decide))) as_nil)))) (ct_pure ⟨Nm.pl, 3, ([(1 : Int), (0 : Int), (2 : Int)] : List Int), ([(0 : Int), (1 : Int), (0 : Int)] : List Int), ((eL PyData.int) ([(2 : Int), (0 : Int)] : List Int)), rfl, (hh7), rfl⟩)) ed_b)) eG hh8 fun H1 s1 => ?_
      have eG := s1.gh
      have f__law_plain := At.mono s1.g f__law_plain
      have f__law_ring := At.mono s1.g f__law_ring
      -- if is_part(_law_plain, [0, 1, 2], [0, 1], [1, 1]) is not False:
      have hh9 : ((q_is_part Nm.pl 3 (([(0 : Int), (1 : Int), (2 : Int)] : List Int)) (([(0 : Int), (1 : Int)] : List Int)) (((eL PyData.int) ([(1 : Int), (1 : Int)] : List Int))))) := by exact q_prog (pqa (by decide) (fpl (by decide) (by decide +kernel)) (by decide +kernel) (by decide +kernel) (by decide)) (by decide)
      have hh10 : (!decide ((p_is_part Nm.pl 3 (([(0 : Int), (1 : Int), (2 : Int)] : List Int)) (([(0 : Int), (1 : Int)] : List Int)) (((eL PyData.int) ([(1 : Int), (1 : Int)] : List Int)))) = false)) = false := by rw [prog_ints]; decide +kernel
      refine q_noD (et_of (C := C) (ed_notB (ed_call (as_cons (ed_var (i := 2) rfl f__law_plain) (as_cons (EvN.d (en_lst (ds := ([(0 : Int), (1 : Int), (2 : Int)] : List Int).map PyData.int) (as_cons ed_i (as_cons ed_i (as_cons ed_i as_nil))) (show 3 ≤ 100000 by decide))) (as_cons (EvN.d (en_lst (ds := ([(0 : Int), (1 : Int)] : List Int).map PyData.int) (as_cons ed_i (as_cons ed_i as_nil)) (show 2 ≤ 100000 by decide))) (as_cons (EvN.d (en_lst (ds := ([(1 : Int), (1 : Int)] : List Int).map PyData.int) (as_cons ed_i (as_cons ed_i as_nil)) (show 2 ≤ 100000 by decide))) as_nil)))) (ct_pure ⟨Nm.pl, 3, ([(0 : Int), (1 : Int), (2 : Int)] : List Int), ([(0 : Int), (1 : Int)] : List Int), ((eL PyData.int) ([(1 : Int), (1 : Int)] : List Int)), rfl, (hh9), rfl⟩)) ed_b)) eG hh10 fun H1 s1 => ?_
      have eG := s1.gh
      have f__law_plain := At.mono s1.g f__law_plain
      have f__law_ring := At.mono s1.g f__law_ring
      -- if len(part(Kind('ring', 2), [-60, 61], [1, 0] * 50) or []) != 60:
      have hh11 : ((((okK Nm.ri 2 = true)) ∧ ((-(2 ^ 62) ≤ (50 : Int) ∧ (50 : Int) < 2 ^ 62 ∧ (([(1 : Int), (0 : Int)] : List Int)).length * ((50 : Int)).toNat ≤ 100000)) ∧ (PartQ Nm.ri 2 ([(-(60 : Int)), (61 : Int)] : List Int) (List.replicate ((50 : Int)).toNat ([(1 : Int), (0 : Int)] : List Int)).flatten) ∧ (downs Nm.ri 2 ([(-(60 : Int)), (61 : Int)] : List Int) ((List.replicate ((50 : Int)).toNat ([(1 : Int), (0 : Int)] : List Int)).flatten).reverse = startL Nm.ri 2)) ∧ ((plcL Nm.ri 2 ([(-(60 : Int)), (61 : Int)] : List Int) (List.replicate ((50 : Int)).toNat ([(1 : Int), (0 : Int)] : List Int)).flatten) ≠ [])) := by exact ⟨⟨by decide, ⟨by decide, by decide, by decide⟩, pqa (by decide) (fri (by decide) (by decide +kernel) (by decide +kernel)) (by decide +kernel) (by decide +kernel) (by decide), by decide +kernel⟩, by decide +kernel⟩
      have hh12 : (!decide ((((plcL Nm.ri 2 ([(-(60 : Int)), (61 : Int)] : List Int) (List.replicate ((50 : Int)).toNat ([(1 : Int), (0 : Int)] : List Int)).flatten)).length : Int) = (60 : Int))) = false := by decide +kernel
      refine q_noD (et_of (C := C) (ed_ne (ed_lenL (ed_orL (EvN.d (en_call (as_cons (ed_make (k := Nm.ri) (n := 2) (as_cons (ed_m Nm.ri) (as_cons ed_i as_nil)) (((hh11).1).1)) (as_cons (EvN.d (en_lst (ds := ([(-(60 : Int)), (61 : Int)] : List Int).map PyData.int) (as_cons (ed_neg ed_i) (as_cons ed_i as_nil)) (show 2 ≤ 100000 by decide))) (as_cons (EvN.d (en_repL (f := PyData.int) (EvN.d (en_lst (ds := ([(1 : Int), (0 : Int)] : List Int).map PyData.int) (as_cons ed_i (as_cons ed_i as_nil)) (show 2 ≤ 100000 by decide))) ed_i (((hh11).1).2.1))) as_nil))) (ct_partL (((hh11).1).2.2.1) (((hh11).1).2.2.2)))) ((hh11).2))) ed_i)) eG hh12 fun H1 s1 => ?_
      have eG := s1.gh
      have f__law_ring := At.mono s1.g f__law_ring
      -- if part(_law_ring, [1, 0, 2], [0, 1, 2] * 33) not in [[_law_at] for _law_at in range(0, 99, 3)]:
      have hh13 : (((-(2 ^ 62) ≤ (33 : Int) ∧ (33 : Int) < 2 ^ 62 ∧ (([(0 : Int), (1 : Int), (2 : Int)] : List Int)).length * ((33 : Int)).toNat ≤ 100000)) ∧ (PartQ Nm.ri 3 ([(1 : Int), (0 : Int), (2 : Int)] : List Int) (List.replicate ((33 : Int)).toNat ([(0 : Int), (1 : Int), (2 : Int)] : List Int)).flatten) ∧ (downs Nm.ri 3 ([(1 : Int), (0 : Int), (2 : Int)] : List Int) ((List.replicate ((33 : Int)).toNat ([(0 : Int), (1 : Int), (2 : Int)] : List Int)).flatten).reverse = startL Nm.ri 3)) ∧ (((RgC (0 : Int) (99 : Int) (3 : Int) 33)) ∧ (((rngC (0 : Int) (3 : Int) 33)).length ≤ 100000)) := by exact ⟨⟨⟨by decide, by decide, by decide⟩, pqa (by decide) (fri (by decide) (by decide +kernel) (by decide +kernel)) (by decide +kernel) (by decide +kernel) (by decide), by decide +kernel⟩, ⟨by decide, by decide, by decide, by decide +kernel⟩, by decide +kernel⟩
      have hh14 : (!inL (plcL Nm.ri 3 ([(1 : Int), (0 : Int), (2 : Int)] : List Int) (List.replicate ((33 : Int)).toNat ([(0 : Int), (1 : Int), (2 : Int)] : List Int)).flatten) (((rngC (0 : Int) (3 : Int) 33)).map (fun (x3 : Int) => ([x3] : List Int)))) = false := by decide +kernel
      refine q_noD (et_of (C := C) (ed_ninL (Enc.list enc_int) (by decide) (EvN.d (en_call (as_cons (ed_var (i := 3) rfl f__law_ring) (as_cons (EvN.d (en_lst (ds := ([(1 : Int), (0 : Int), (2 : Int)] : List Int).map PyData.int) (as_cons ed_i (as_cons ed_i (as_cons ed_i as_nil))) (show 3 ≤ 100000 by decide))) (as_cons (EvN.d (en_repL (f := PyData.int) (EvN.d (en_lst (ds := ([(0 : Int), (1 : Int), (2 : Int)] : List Int).map PyData.int) (as_cons ed_i (as_cons ed_i (as_cons ed_i as_nil))) (show 3 ≤ 100000 by decide))) ed_i (((hh13).1).1))) as_nil))) (ct_partL (((hh13).1).2.1) (((hh13).1).2.2)))) (EvN.d (en_lcA K (e := PyData.int) (e' := (eL PyData.int)) (fun (x3 : Int) => ([x3] : List Int)) (ei_rg3 (C := C) ed_i ed_i ed_i (((hh13).2).1)) (((hh13).2).2) (fun _ => rfl) (fun x3 m4 v6 Ge2 e2 a5 => (EvN.d (en_lst (ds := ([x3] : List Int).map PyData.int) (as_cons (ed_var (i := 4) rfl a5) as_nil) (show 1 ≤ 100000 by decide)))))))) eG hh14 fun H1 s1 => ?_
      have eG := s1.gh
      have f__law_ring := At.mono s1.g f__law_ring
      -- if part(_law_ring, [1, 0, 2], [0] * 100) not in [[_law_at] for _law_at in range(100)]:
      have hh15 : (((-(2 ^ 62) ≤ (100 : Int) ∧ (100 : Int) < 2 ^ 62 ∧ (([(0 : Int)] : List Int)).length * ((100 : Int)).toNat ≤ 100000)) ∧ (PartQ Nm.ri 3 ([(1 : Int), (0 : Int), (2 : Int)] : List Int) (List.replicate ((100 : Int)).toNat ([(0 : Int)] : List Int)).flatten) ∧ (downs Nm.ri 3 ([(1 : Int), (0 : Int), (2 : Int)] : List Int) ((List.replicate ((100 : Int)).toNat ([(0 : Int)] : List Int)).flatten).reverse = startL Nm.ri 3)) ∧ (((-100000 ≤ (100 : Int) ∧ (100 : Int) ≤ 100000)) ∧ (((rngI 0 (100 : Int))).length ≤ 100000)) := by exact ⟨⟨⟨by decide, by decide, by decide⟩, pqa (by decide) (fri (by decide) (by decide +kernel) (by decide +kernel)) (by decide +kernel) (by decide +kernel) (by decide), by decide +kernel⟩, ⟨by decide, by decide⟩, by decide +kernel⟩
      have hh16 : (!inL (plcL Nm.ri 3 ([(1 : Int), (0 : Int), (2 : Int)] : List Int) (List.replicate ((100 : Int)).toNat ([(0 : Int)] : List Int)).flatten) (((rngI 0 (100 : Int))).map (fun (x8 : Int) => ([x8] : List Int)))) = false := by decide +kernel
      refine q_noD (et_of (C := C) (ed_ninL (Enc.list enc_int) (by decide) (EvN.d (en_call (as_cons (ed_var (i := 3) rfl f__law_ring) (as_cons (EvN.d (en_lst (ds := ([(1 : Int), (0 : Int), (2 : Int)] : List Int).map PyData.int) (as_cons ed_i (as_cons ed_i (as_cons ed_i as_nil))) (show 3 ≤ 100000 by decide))) (as_cons (EvN.d (en_repL (f := PyData.int) (EvN.d (en_lst (ds := ([(0 : Int)] : List Int).map PyData.int) (as_cons ed_i as_nil) (show 1 ≤ 100000 by decide))) ed_i (((hh15).1).1))) as_nil))) (ct_partL (((hh15).1).2.1) (((hh15).1).2.2)))) (EvN.d (en_lcA K (e := PyData.int) (e' := (eL PyData.int)) (fun (x8 : Int) => ([x8] : List Int)) (ei_rg1 (C := C) ed_i (((hh15).2).1)) (((hh15).2).2) (fun _ => rfl) (fun x8 m9 v11 Ge7 e7 a10 => (EvN.d (en_lst (ds := ([x8] : List Int).map PyData.int) (as_cons (ed_var (i := 4) rfl a10) as_nil) (show 1 ≤ 100000 by decide)))))))) eG hh16 fun H1 s1 => ?_
      have eG := s1.gh
      have f__law_ring := At.mono s1.g f__law_ring
      -- return part(_law_ring, [0, 1, 2], []) == [] and is_part(_law_ring, [0, 1, 2], [], []) is True
      have hh17 : (((PartQ Nm.ri 3 ([(0 : Int), (1 : Int), (2 : Int)] : List Int) ([] : (List Int))) ∧ (downs Nm.ri 3 ([(0 : Int), (1 : Int), (2 : Int)] : List Int) (([] : (List Int))).reverse = startL Nm.ri 3))) ∧ ((decide ((plcL Nm.ri 3 ([(0 : Int), (1 : Int), (2 : Int)] : List Int) ([] : (List Int))) = ([] : (List Int)))) = true → ((q_is_part Nm.ri 3 (([(0 : Int), (1 : Int), (2 : Int)] : List Int)) (([] : (List Int))) (((eL PyData.int) ([] : (List Int))))))) := by exact ⟨⟨pqa (by decide) (fri (by decide) (by decide +kernel) (by decide +kernel)) (by decide +kernel) (by decide +kernel) (by decide), by decide +kernel⟩, fun _ => q_prog (pqa (by decide) (fri (by decide) (by decide +kernel) (by decide +kernel)) (by decide +kernel) (by decide +kernel) (by decide)) (by decide)⟩
      have hh18 : ((decide ((plcL Nm.ri 3 ([(0 : Int), (1 : Int), (2 : Int)] : List Int) ([] : (List Int))) = ([] : (List Int)))) && (decide ((p_is_part Nm.ri 3 (([(0 : Int), (1 : Int), (2 : Int)] : List Int)) (([] : (List Int))) (((eL PyData.int) ([] : (List Int))))) = true))) = true := by rw [prog_ints]; decide +kernel
      refine s_retD (C := C) (ed_and (ed_eqE (Enc.list enc_int) (by decide) (EvN.d (en_call (as_cons (ed_var (i := 3) rfl f__law_ring) (as_cons (EvN.d (en_lst (ds := ([(0 : Int), (1 : Int), (2 : Int)] : List Int).map PyData.int) (as_cons ed_i (as_cons ed_i (as_cons ed_i as_nil))) (show 3 ≤ 100000 by decide))) (as_cons (EvN.d (en_lst (ds := ([] : (List Int)).map PyData.int) as_nil (by decide))) as_nil))) (ct_partL (((hh17).1).1) (((hh17).1).2)))) (EvN.d (en_lst (ds := ([] : (List Int)).map PyData.int) as_nil (by decide)))) (fun z12 => (ed_isB (ed_call (as_cons (ed_var (i := 3) rfl f__law_ring) (as_cons (EvN.d (en_lst (ds := ([(0 : Int), (1 : Int), (2 : Int)] : List Int).map PyData.int) (as_cons ed_i (as_cons ed_i (as_cons ed_i as_nil))) (show 3 ≤ 100000 by decide))) (as_cons (EvN.d (en_lst (ds := ([] : (List Int)).map PyData.int) as_nil (by decide))) (as_cons (EvN.d (en_lst (ds := ([] : (List Int)).map PyData.int) as_nil (by decide))) as_nil)))) (ct_pure ⟨Nm.ri, 3, ([(0 : Int), (1 : Int), (2 : Int)] : List Int), ([] : (List Int)), ((eL PyData.int) ([] : (List Int))), rfl, (((hh17).2) z12), rfl⟩)) ed_b))) eG fun v H1 G1 s1 a => ?_
      rw [at_bool a, hh18]
      exact q H1
end
end Sv

namespace Sv
open PySem PySem.Spec PyProof.Rows L2
/-! ### the head: facts by names -/
def tupAt (K : PySem.W.Frag) (a : Addr) (vs : List V) : Bool := match K.lookup a with
  | some ⟨.type c, _, .seq its _, _⟩ => decide (c = "tuple") && (decide (its.size ≤ sizeLine) && He.relAll vs its.toList)
  | _ => false
theorem tupAt_ok {K : PySem.W.Frag} {a : Addr} {vs : List V} (h : tupAt K a vs = true) (H : Hp) : SqT K H a vs := by
  unfold tupAt at h
  cases q : K.lookup a with
  | none =>
    rw [q] at h
    cases h
  | some o =>
    obtain ⟨oc, od, dt, osl⟩ := o
    rw [q] at h
    cases oc with
    | type c =>
      cases dt with
      | seq its n =>
        obtain ⟨h1, h2⟩ := He.ba (show (decide (c = "tuple") && (decide (its.size ≤ sizeLine) && He.relAll vs its.toList)) = true from h)
        obtain ⟨h3, h4⟩ := He.ba h2
        exact .inr ⟨_, its, n, q, congrArg Value.type (of_decide_eq_true h1), rfl, of_decide_eq_true h3, He.relAll_ok h4⟩
      | _ => cases h
    | _ => cases dt <;> cases h
def szB (K : PySem.W.Frag) (D : Addr) (x : Str) (lo hi : Int) : Bool := match PySem.W.nsIn K D x with
  | some (some (.ref t)) => tupAt K t [.int lo, .int hi]
  | _ => false
theorem szB_ok {K : PySem.W.Frag} {D : Addr} {x : Str} {lo hi : Int} (h : szB K D x lo hi = true) : ∃ t : Addr, PySem.W.nsIn K D x = some (some (.ref t)) ∧ ∀ H, SqT K H t [.int lo, .int hi] := by
  unfold szB at h
  cases q : PySem.W.nsIn K D x with
  | none =>
    rw [q] at h
    cases h
  | some r =>
    rw [q] at h
    cases r with
    | none => cases h
    | some v =>
      cases v with
      | ref t => exact ⟨t, rfl, tupAt_ok h⟩
      | _ => cases h
/-- what more is asked of the class and the table -/
def exB (C D : Addr) (K : PySem.W.Frag) : Bool :=
  He.eqO (PySem.W.findIn K (.ref C) "__class__") (some (some (.builtin "object.__class__"))) && (He.eqO (PySem.W.specialIn K (.builtin "object.__class__") "__get__") (some (some (.builtin "getset_descriptor.__get__"))) &&
  (decide (PySem.W.takesIn K (.builtin "object.__class__") = some true) && (decide (PySem.W.mroIn K C (.type "object") = some true) && (decide (PySem.W.kitOne K (.ref C) (.ref C) = some true) &&
  (decide (PySem.W.kitOne K (.type "tuple") (.ref C) = some false) && (PySem.W.notFirst K C (.type "tuple") && (He.eqO (PySem.W.nsIn K mainGlobals "combinations") (some (some (.type "itertools.combinations"))) && (szB K D "plain" 1 7 && (szB K D "mirror" 1 5 && szB K D "ring" 2 5)))))))))
def ex (K : PySem.W.Frag) : Bool := exB (He.ga K "Kind") (He.ga K "SIZES") K
def d_Kind___init__ : He.DefD := ⟨("Kind", some "__init__"), "__init__", "Kind.__init__", defArgs s_Kind___init__, defBody s_Kind___init__, defScope s_Kind___init__, [], []⟩
def d_Kind___eq__ : He.DefD := ⟨("Kind", some "__eq__"), "__eq__", "Kind.__eq__", defArgs s_Kind___eq__, defBody s_Kind___eq__, defScope s_Kind___eq__, [], []⟩
def d_Kind_name : He.DefD := ⟨("Kind", some "name"), "name", "Kind.name", defArgs s_Kind_name, defBody s_Kind_name, defScope s_Kind_name, [], []⟩
def d_Kind_size : He.DefD := ⟨("Kind", some "size"), "size", "Kind.size", defArgs s_Kind_size, defBody s_Kind_size, defScope s_Kind_size, [], []⟩
def d_Kind_steps : He.DefD := ⟨("Kind", some "steps"), "steps", "Kind.steps", defArgs s_Kind_steps, defBody s_Kind_steps, defScope s_Kind_steps, [], []⟩
def d_Kind_start : He.DefD := ⟨("Kind", some "start"), "start", "Kind.start", defArgs s_Kind_start, defBody s_Kind_start, defScope s_Kind_start, [], []⟩
def d_is_whole : He.DefD := ⟨("is_whole", none), "is_whole", "is_whole", defArgs s_is_whole, defBody s_is_whole, defScope s_is_whole, [], []⟩
def d_are_whole : He.DefD := ⟨("are_whole", none), "are_whole", "are_whole", defArgs s_are_whole, defBody s_are_whole, defScope s_are_whole, [], []⟩
def d_is_rising : He.DefD := ⟨("is_rising", none), "is_rising", "is_rising", defArgs s_is_rising, defBody s_is_rising, defScope s_is_rising, [], []⟩
def d_spread_of : He.DefD := ⟨("spread_of", none), "spread_of", "spread_of", defArgs s_spread_of, defBody s_spread_of, defScope s_spread_of, [], []⟩
def d_order_in : He.DefD := ⟨("order_in", none), "order_in", "order_in", defArgs s_order_in, defBody s_order_in, defScope s_order_in, [], []⟩
def d_exchange_in : He.DefD := ⟨("exchange_in", none), "exchange_in", "exchange_in", defArgs s_exchange_in, defBody s_exchange_in, defScope s_exchange_in, [], []⟩
def d_is_crossed : He.DefD := ⟨("is_crossed", none), "is_crossed", "is_crossed", defArgs s_is_crossed, defBody s_is_crossed, defScope s_is_crossed, [], []⟩
def d_after_step : He.DefD := ⟨("after_step", none), "after_step", "after_step", defArgs s_after_step, defBody s_after_step, defScope s_after_step, [], []⟩
def d_opposite_of : He.DefD := ⟨("opposite_of", none), "opposite_of", "opposite_of", defArgs s_opposite_of, defBody s_opposite_of, defScope s_opposite_of, [], []⟩
def d_count_crossings : He.DefD := ⟨("count_crossings", none), "count_crossings", "count_crossings", defArgs s_count_crossings, defBody s_count_crossings, defScope s_count_crossings, [], []⟩
def d_has_order_form : He.DefD := ⟨("has_order_form", none), "has_order_form", "has_order_form", defArgs s_has_order_form, defBody s_has_order_form, defScope s_has_order_form, [], []⟩
def d_is_told_order : He.DefD := ⟨("is_told_order", none), "is_told_order", "is_told_order", defArgs s_is_told_order, defBody s_is_told_order, defScope s_is_told_order, [], []⟩
def d_check_kind : He.DefD := ⟨("check_kind", none), "check_kind", "check_kind", defArgs s_check_kind, defBody s_check_kind, defScope s_check_kind, [], []⟩
def d_is_step : He.DefD := ⟨("is_step", none), "is_step", "is_step", defArgs s_is_step, defBody s_is_step, defScope s_is_step, [], []⟩
def d_is_told_row : He.DefD := ⟨("is_told_row", none), "is_told_row", "is_told_row", defArgs s_is_told_row, defBody s_is_told_row, defScope s_is_told_row, [], []⟩
def d_are_places : He.DefD := ⟨("are_places", none), "are_places", "are_places", defArgs s_are_places, defBody s_are_places, defScope s_are_places, [], []⟩
def d_made_by : He.DefD := ⟨("made_by", none), "made_by", "made_by", defArgs s_made_by, defBody s_made_by, defScope s_made_by, [], []⟩
def d_first_down : He.DefD := ⟨("first_down", none), "first_down", "first_down", defArgs s_first_down, defBody s_first_down, defScope s_first_down, [], []⟩
def d_least_changed : He.DefD := ⟨("least_changed", none), "least_changed", "least_changed", defArgs s_least_changed, defBody s_least_changed, defScope s_least_changed, [], []⟩
def d_first_least : He.DefD := ⟨("first_least", none), "first_least", "first_least", defArgs s_first_least, defBody s_first_least, defScope s_first_least, [], []⟩
def d_places_of : He.DefD := ⟨("places_of", none), "places_of", "places_of", defArgs s_places_of, defBody s_places_of, defScope s_places_of, [], []⟩
def d_lies_beneath : He.DefD := ⟨("lies_beneath", none), "lies_beneath", "lies_beneath", defArgs s_lies_beneath, defBody s_lies_beneath, defScope s_lies_beneath, [], []⟩
def d_check_orders : He.DefD := ⟨("check_orders", none), "check_orders", "check_orders", defArgs s_check_orders, defBody s_check_orders, defScope s_check_orders, [], []⟩
def d_check_rows : He.DefD := ⟨("check_rows", none), "check_rows", "check_rows", defArgs s_check_rows, defBody s_check_rows, defScope s_check_rows, [], []⟩
def d_is_beneath : He.DefD := ⟨("is_beneath", none), "is_beneath", "is_beneath", defArgs s_is_beneath, defBody s_is_beneath, defScope s_is_beneath, [], []⟩
def d_part : He.DefD := ⟨("part", none), "part", "part", defArgs s_part, defBody s_part, defScope s_part, [], []⟩
def d_is_part : He.DefD := ⟨("is_part", none), "is_part", "is_part", defArgs s_is_part, defBody s_is_part, defScope s_is_part, [], []⟩
def d__law_hash : He.DefD := ⟨("_law_hash", none), "_law_hash", "_law_hash", defArgs s__law_hash, defBody s__law_hash, defScope s__law_hash, [], []⟩
def d__law_random : He.DefD := ⟨("_law_random", none), "_law_random", "_law_random", defArgs s__law_random, defBody s__law_random, defScope s__law_random, [], []⟩
def d__law_cell : He.DefD := ⟨("_law_cell", none), "_law_cell", "_law_cell", defArgs s__law_cell, defBody s__law_cell, defScope s__law_cell, [], []⟩
def d__law_generator : He.DefD := ⟨("_law_generator", none), "_law_generator", "_law_generator", defArgs s__law_generator, defBody s__law_generator, defScope s__law_generator, [], []⟩
def d__law_kind : He.DefD := ⟨("_law_kind", none), "_law_kind", "_law_kind", defArgs s__law_kind, defBody s__law_kind, defScope s__law_kind, [], []⟩
def d__law_many : He.DefD := ⟨("_law_many", none), "_law_many", "_law_many", defArgs s__law_many, defBody s__law_many, defScope s__law_many, [], []⟩
def d__law_start : He.DefD := ⟨("_law_start", none), "_law_start", "_law_start", defArgs s__law_start, defBody s__law_start, defScope s__law_start, [], []⟩
def d__law_step : He.DefD := ⟨("_law_step", none), "_law_step", "_law_step", defArgs s__law_step, defBody s__law_step, defScope s__law_step, [], []⟩
def d__law_crossed : He.DefD := ⟨("_law_crossed", none), "_law_crossed", "_law_crossed", defArgs s__law_crossed, defBody s__law_crossed, defScope s__law_crossed, [], []⟩
def d__law_made : He.DefD := ⟨("_law_made", none), "_law_made", "_law_made", defArgs s__law_made, defBody s__law_made, defScope s__law_made, [], []⟩
def d__law_row : He.DefD := ⟨("_law_row", none), "_law_row", "_law_row", defArgs s__law_row, defBody s__law_row, defScope s__law_row, [], []⟩
def d__law_least : He.DefD := ⟨("_law_least", none), "_law_least", "_law_least", defArgs s__law_least, defBody s__law_least, defScope s__law_least, [], []⟩
def d__law_parts : He.DefD := ⟨("_law_parts", none), "_law_parts", "_law_parts", defArgs s__law_parts, defBody s__law_parts, defScope s__law_parts, [], []⟩
def d__law_greedy : He.DefD := ⟨("_law_greedy", none), "_law_greedy", "_law_greedy", defArgs s__law_greedy, defBody s__law_greedy, defScope s__law_greedy, [], []⟩
def d__law_order : He.DefD := ⟨("_law_order", none), "_law_order", "_law_order", defArgs s__law_order, defBody s__law_order, defScope s__law_order, [], []⟩
def d__law_is_part : He.DefD := ⟨("_law_is_part", none), "_law_is_part", "_law_is_part", defArgs s__law_is_part, defBody s__law_is_part, defScope s__law_is_part, [], []⟩
def d__law_bent : He.DefD := ⟨("_law_bent", none), "_law_bent", "_law_bent", defArgs s__law_bent, defBody s__law_bent, defScope s__law_bent, [], []⟩
def d__law_right : He.DefD := ⟨("_law_right", none), "_law_right", "_law_right", defArgs s__law_right, defBody s__law_right, defScope s__law_right, [], []⟩
def d_law : He.DefD := ⟨("law", none), "law", "law", defArgs s_law, defBody s_law, defScope s_law, [], []⟩
def fn : List He.DefD := [d_Kind___init__, d_Kind___eq__, d_Kind_name, d_Kind_size, d_Kind_steps, d_Kind_start, d_is_whole, d_are_whole, d_is_rising, d_spread_of, d_order_in, d_exchange_in, d_is_crossed, d_after_step, d_opposite_of, d_count_crossings, d_has_order_form, d_is_told_order, d_check_kind, d_is_step, d_is_told_row, d_are_places, d_made_by, d_first_down, d_least_changed, d_first_least, d_places_of, d_lies_beneath, d_check_orders, d_check_rows, d_is_beneath, d_part, d_is_part, d__law_hash, d__law_random, d__law_cell, d__law_generator, d__law_kind, d__law_many, d__law_start, d__law_step, d__law_crossed, d__law_made, d__law_row, d__law_least, d__law_parts, d__law_greedy, d__law_order, d__law_is_part, d__law_bent, d__law_right, d_law]
def fa : List He.Fa := [.glo "is_whole", .glo "are_whole", .glo "is_rising", .glo "spread_of", .glo "order_in", .glo "exchange_in", .glo "is_crossed", .glo "after_step", .glo "opposite_of", .glo "count_crossings", .glo "has_order_form", .glo "is_told_order", .glo "check_kind", .glo "is_step", .glo "is_told_row", .glo "are_places", .glo "made_by", .glo "first_down", .glo "least_changed", .glo "first_least", .glo "places_of", .glo "lies_beneath", .glo "check_orders", .glo "check_rows", .glo "is_beneath", .glo "part", .glo "is_part", .glo "_law_hash", .glo "_law_random", .glo "_law_cell", .glo "_law_generator", .glo "_law_kind", .glo "_law_many", .glo "_law_start", .glo "_law_step", .glo "_law_crossed", .glo "_law_made", .glo "_law_row", .glo "_law_least", .glo "_law_parts", .glo "_law_greedy", .glo "_law_order", .glo "_law_is_part", .glo "_law_bent", .glo "_law_right", .glo "law", .glo "Kind", .glo "SIZES", .int "MOST_CROSSINGS" 60, .int "MOST_STEPS" 100, .free "int", .free "str", .free "bool", .free "range", .free "list", .free "abs", .free "max", .free "min", .free "sum", .free "len", .free "repr", .free "isinstance", .free "all", .free "sorted", .free "enumerate", .free "tuple", .free "reversed", .cls "Kind", .noat "Kind" "_name", .noat "Kind" "_size", .mkr "Kind", .meth "Kind" "__eq__", .meth "Kind" "name", .meth "Kind" "size", .meth "Kind" "steps", .meth "Kind" "start"]
def tsx : List He.Tab := [((fun K => He.ga K "SIZES"), ["plain", "mirror", "ring"])]
theorem vals_rev : ∀ {vs : List V} {us : List Value}, Vals vs us → Vals vs.reverse us.reverse
  | _, _, .nil => .nil
  | _, _, .cons r t => by
    rw [List.reverse_cons, List.reverse_cons]
    exact (vals_rev t).append (.cons r .nil)
/-- how keywords alone bind where the written names are the last parameters, turned about -/
theorem kb_rev {K : PySem.W.Frag} {x qual : Str} {params : Arguments} {body : List Stmt} {scope : Scope} {f : Addr} {fd : FuncData} {ps : List Str} (F : FunD K x qual params body scope [] [] f fd) (n : Nat) (ks : List Str)
    (h : ∀ (kV doc pm : Value) (an : Option Addr) (cdv ct : Value) (us ws : List Value), us.length = n → ws.length = ks.length → bindArgs (PySem.W.fnOf x qual params body scope .none kV doc pm an cdv ct) ⟨us, ks.zip ws⟩ = pure (ps.zip (us ++ ws.reverse))) :
    KBn K fd ps n ks (fun us ws => us ++ ws.reverse) gRev := by
  obtain ⟨oc, od, dV, kV, doc, pm, an, cdv, ct, osl, rfl, lk, hcd, hD, hK⟩ := F.ex
  rcases hD with ⟨_, rfl⟩ | ⟨e, _⟩
  · refine ⟨fun s us ws X l1 l2 => .of_eq (h kV doc pm an cdv ct us ws l1 l2), fun r1 r2 => r1.append ?_⟩
    exact vals_rev r2
  · exact absurd rfl e
theorem facts {P : Program} {w : World} {K : PySem.W.Frag} {h : Heap} {mg : Str → Option Value} {f : Addr} (X : K.In h) (G : h.Ns mainGlobals mg) (hfa : mg ("law" : Str) = some (.ref f)) (z : He.SaysX fa fn tsx [] ex w h K) :
    ∃ fd : FuncData, (∀ (s : Shared) (v : Value), BindsTo s fd ⟨[v], []⟩ [("_law_script", v)]) ∧ ∀ base : Heap, K.In base → base.Ns mainGlobals mg → FnG P w K mg base 10 f fd ["_law_script"] (spLaw K) := by
  have c : He.SaysD fa fn K := z.t.d
  obtain ⟨fd_Kind___init__, F_Kind___init__⟩ := c.def_ 0 (d := d_Kind___init__) rfl
  obtain ⟨fd_Kind___eq__, F_Kind___eq__⟩ := c.def_ 1 (d := d_Kind___eq__) rfl
  obtain ⟨fd_Kind_name, F_Kind_name⟩ := c.def_ 2 (d := d_Kind_name) rfl
  obtain ⟨fd_Kind_size, F_Kind_size⟩ := c.def_ 3 (d := d_Kind_size) rfl
  obtain ⟨fd_Kind_steps, F_Kind_steps⟩ := c.def_ 4 (d := d_Kind_steps) rfl
  obtain ⟨fd_Kind_start, F_Kind_start⟩ := c.def_ 5 (d := d_Kind_start) rfl
  obtain ⟨fd_is_whole, F_is_whole⟩ := c.def_ 6 (d := d_is_whole) rfl
  obtain ⟨fd_are_whole, F_are_whole⟩ := c.def_ 7 (d := d_are_whole) rfl
  obtain ⟨fd_is_rising, F_is_rising⟩ := c.def_ 8 (d := d_is_rising) rfl
  obtain ⟨fd_spread_of, F_spread_of⟩ := c.def_ 9 (d := d_spread_of) rfl
  obtain ⟨fd_order_in, F_order_in⟩ := c.def_ 10 (d := d_order_in) rfl
  obtain ⟨fd_exchange_in, F_exchange_in⟩ := c.def_ 11 (d := d_exchange_in) rfl
  obtain ⟨fd_is_crossed, F_is_crossed⟩ := c.def_ 12 (d := d_is_crossed) rfl
  obtain ⟨fd_after_step, F_after_step⟩ := c.def_ 13 (d := d_after_step) rfl
  obtain ⟨fd_opposite_of, F_opposite_of⟩ := c.def_ 14 (d := d_opposite_of) rfl
  obtain ⟨fd_count_crossings, F_count_crossings⟩ := c.def_ 15 (d := d_count_crossings) rfl
  obtain ⟨fd_has_order_form, F_has_order_form⟩ := c.def_ 16 (d := d_has_order_form) rfl
  obtain ⟨fd_is_told_order, F_is_told_order⟩ := c.def_ 17 (d := d_is_told_order) rfl
  obtain ⟨fd_check_kind, F_check_kind⟩ := c.def_ 18 (d := d_check_kind) rfl
  obtain ⟨fd_is_step, F_is_step⟩ := c.def_ 19 (d := d_is_step) rfl
  obtain ⟨fd_is_told_row, F_is_told_row⟩ := c.def_ 20 (d := d_is_told_row) rfl
  obtain ⟨fd_are_places, F_are_places⟩ := c.def_ 21 (d := d_are_places) rfl
  obtain ⟨fd_made_by, F_made_by⟩ := c.def_ 22 (d := d_made_by) rfl
  obtain ⟨fd_first_down, F_first_down⟩ := c.def_ 23 (d := d_first_down) rfl
  obtain ⟨fd_least_changed, F_least_changed⟩ := c.def_ 24 (d := d_least_changed) rfl
  obtain ⟨fd_first_least, F_first_least⟩ := c.def_ 25 (d := d_first_least) rfl
  obtain ⟨fd_places_of, F_places_of⟩ := c.def_ 26 (d := d_places_of) rfl
  obtain ⟨fd_lies_beneath, F_lies_beneath⟩ := c.def_ 27 (d := d_lies_beneath) rfl
  obtain ⟨fd_check_orders, F_check_orders⟩ := c.def_ 28 (d := d_check_orders) rfl
  obtain ⟨fd_check_rows, F_check_rows⟩ := c.def_ 29 (d := d_check_rows) rfl
  obtain ⟨fd_is_beneath, F_is_beneath⟩ := c.def_ 30 (d := d_is_beneath) rfl
  obtain ⟨fd_part, F_part⟩ := c.def_ 31 (d := d_part) rfl
  obtain ⟨fd_is_part, F_is_part⟩ := c.def_ 32 (d := d_is_part) rfl
  obtain ⟨fd__law_hash, F__law_hash⟩ := c.def_ 33 (d := d__law_hash) rfl
  obtain ⟨fd__law_random, F__law_random⟩ := c.def_ 34 (d := d__law_random) rfl
  obtain ⟨fd__law_cell, F__law_cell⟩ := c.def_ 35 (d := d__law_cell) rfl
  obtain ⟨fd__law_generator, F__law_generator⟩ := c.def_ 36 (d := d__law_generator) rfl
  obtain ⟨fd__law_kind, F__law_kind⟩ := c.def_ 37 (d := d__law_kind) rfl
  obtain ⟨fd__law_many, F__law_many⟩ := c.def_ 38 (d := d__law_many) rfl
  obtain ⟨fd__law_start, F__law_start⟩ := c.def_ 39 (d := d__law_start) rfl
  obtain ⟨fd__law_step, F__law_step⟩ := c.def_ 40 (d := d__law_step) rfl
  obtain ⟨fd__law_crossed, F__law_crossed⟩ := c.def_ 41 (d := d__law_crossed) rfl
  obtain ⟨fd__law_made, F__law_made⟩ := c.def_ 42 (d := d__law_made) rfl
  obtain ⟨fd__law_row, F__law_row⟩ := c.def_ 43 (d := d__law_row) rfl
  obtain ⟨fd__law_least, F__law_least⟩ := c.def_ 44 (d := d__law_least) rfl
  obtain ⟨fd__law_parts, F__law_parts⟩ := c.def_ 45 (d := d__law_parts) rfl
  obtain ⟨fd__law_greedy, F__law_greedy⟩ := c.def_ 46 (d := d__law_greedy) rfl
  obtain ⟨fd__law_order, F__law_order⟩ := c.def_ 47 (d := d__law_order) rfl
  obtain ⟨fd__law_is_part, F__law_is_part⟩ := c.def_ 48 (d := d__law_is_part) rfl
  obtain ⟨fd__law_bent, F__law_bent⟩ := c.def_ 49 (d := d__law_bent) rfl
  obtain ⟨fd__law_right, F__law_right⟩ := c.def_ 50 (d := d__law_right) rfl
  obtain ⟨fd_law, F_law⟩ := c.def_ 51 (d := d_law) rfl
  have e := hfa.symm.trans (He.glo_ok X G (c.fact 45 (f := .glo "law") rfl))
  cases e
  have b := FunD.bindsA (ps := ["_law_script"]) F_law fun _ _ _ _ _ _ us hl => match us, hl with | [_], _ => rfl
  obtain ⟨x1, y⟩ := He.ba z.more
  obtain ⟨x2, y⟩ := He.ba y
  obtain ⟨x3, y⟩ := He.ba y
  obtain ⟨x4, y⟩ := He.ba y
  obtain ⟨x5, y⟩ := He.ba y
  obtain ⟨x6, y⟩ := He.ba y
  obtain ⟨x7, y⟩ := He.ba y
  obtain ⟨x8, y⟩ := He.ba y
  obtain ⟨x9, y⟩ := He.ba y
  obtain ⟨x10, x11⟩ := He.ba y
  obtain ⟨es, nn, kd⟩ := z.t.tab 0 (t := ((fun K => He.ga K "SIZES"), ["plain", "mirror", "ring"])) rfl
  have T0 : Tx K mg := ⟨He.free_ok X G (c.fact 50 (f := .free "int") rfl), He.free_ok X G (c.fact 51 (f := .free "str") rfl), He.free_ok X G (c.fact 52 (f := .free "bool") rfl), He.free_ok X G (c.fact 53 (f := .free "range") rfl), He.free_ok X G (c.fact 54 (f := .free "list") rfl), He.free_ok X G (c.fact 55 (f := .free "abs") rfl), He.free_ok X G (c.fact 56 (f := .free "max") rfl), He.free_ok X G (c.fact 57 (f := .free "min") rfl), He.free_ok X G (c.fact 58 (f := .free "sum") rfl), He.free_ok X G (c.fact 59 (f := .free "len") rfl), He.free_ok X G (c.fact 60 (f := .free "repr") rfl), He.free_ok X G (c.fact 61 (f := .free "isinstance") rfl), He.free_ok X G (c.fact 62 (f := .free "all") rfl), He.free_ok X G (c.fact 63 (f := .free "sorted") rfl), He.free_ok X G (c.fact 64 (f := .free "enumerate") rfl), He.free_ok X G (c.fact 65 (f := .free "tuple") rfl), He.free_ok X G (c.fact 66 (f := .free "reversed") rfl)⟩
  have T : Tk K w mg (He.ga K "Kind") (He.ga K "SIZES") := ⟨T0, He.cls_ok (c.fact 67 (f := .cls "Kind") rfl), He.noat_ok (c.fact 68 (f := .noat "Kind" "_name") rfl), He.noat_ok (c.fact 69 (f := .noat "Kind" "_size") rfl), He.glo_ok X G (c.fact 46 (f := .glo "Kind") rfl), He.glo_ok X G (c.fact 47 (f := .glo "SIZES") rfl),
    He.eqO_ok x1, He.eqO_ok x2, of_decide_eq_true x3, of_decide_eq_true x4, of_decide_eq_true x5, of_decide_eq_true x6, x7, ⟨es, nn, kd⟩, PySem.W.mg_of X G (He.eqO_ok x8), fun k => match k with
    | .pl => let ⟨t, e1, e2⟩ := szB_ok x9; ⟨t, 1, 7, e1, e2, fun n h => by have := of_decide_eq_true h; omega⟩
    | .mi => let ⟨t, e1, e2⟩ := szB_ok x10; ⟨t, 1, 5, e1, e2, fun n h => by have := of_decide_eq_true h; omega⟩
    | .ri => let ⟨t, e1, e2⟩ := szB_ok x11; ⟨t, 2, 5, e1, e2, fun n h => by have := of_decide_eq_true h; omega⟩⟩
  refine ⟨fd_law, fun s v => b s [v] rfl, fun base _ _ => ?_⟩
  have c_law_hash : Gd P w K mg base "_law_hash" ["_law_seed", "_law_index"] 1 (spHash) := ⟨_, _, ok_hash T0 F__law_hash, He.glo_ok X G (c.fact 27 (f := .glo "_law_hash") rfl), F__law_hash.kp, F__law_hash.bindsN fun _ _ _ _ _ _ us hl => match us, hl with | [_, _], _ => rfl⟩
  have c_law_random : Gd P w K mg base "_law_random" ["_law_generator_here", "_law_bound"] 2 (spRandom) := ⟨_, _, ok_random T0 F__law_random c_law_hash, He.glo_ok X G (c.fact 28 (f := .glo "_law_random") rfl), F__law_random.kp, F__law_random.bindsN fun _ _ _ _ _ _ us hl => match us, hl with | [_, _], _ => rfl⟩
  have c_law_cell : Gd P w K mg base "_law_cell" ["_law_script", "_law_index"] 1 (spCell K) := ⟨_, _, ok_cell T0 F__law_cell, He.glo_ok X G (c.fact 29 (f := .glo "_law_cell") rfl), F__law_cell.kp, F__law_cell.bindsN fun _ _ _ _ _ _ us hl => match us, hl with | [_, _], _ => rfl⟩
  have c_law_generator : Gd P w K mg base "_law_generator" ["_law_script", "_law_index"] 2 (spGen K) := ⟨_, _, ok_generator T0 F__law_generator c_law_cell, He.glo_ok X G (c.fact 30 (f := .glo "_law_generator") rfl), F__law_generator.kp, F__law_generator.bindsN fun _ _ _ _ _ _ us hl => match us, hl with | [_, _], _ => rfl⟩
  have c_is_whole : Gd P w K mg base "is_whole" ["value"] 1 (spIsWhole) := ⟨_, _, ok_is_whole T F_is_whole, He.glo_ok X G (c.fact 0 (f := .glo "is_whole") rfl), F_is_whole.kp, F_is_whole.bindsN fun _ _ _ _ _ _ us hl => match us, hl with | [_], _ => rfl⟩
  have c_m_name : Md P w K mg base (He.ga K "Kind") "name" ["self"] 1 (spName (He.ga K "Kind")) := ⟨_, _, ok_name T F_Kind_name, He.meth_ok (c.fact 72 (f := .meth "Kind" "name") rfl), F_Kind_name.bindsN fun _ _ _ _ _ _ us hl => match us, hl with | [_], _ => rfl⟩
  have c_m_size : Md P w K mg base (He.ga K "Kind") "size" ["self"] 1 (spSize (He.ga K "Kind")) := ⟨_, _, ok_size T F_Kind_size, He.meth_ok (c.fact 73 (f := .meth "Kind" "size") rfl), F_Kind_size.bindsN fun _ _ _ _ _ _ us hl => match us, hl with | [_], _ => rfl⟩
  have c_m_steps : Md P w K mg base (He.ga K "Kind") "steps" ["self"] 1 (spSteps (He.ga K "Kind")) := ⟨_, _, ok_steps T F_Kind_steps, He.meth_ok (c.fact 74 (f := .meth "Kind" "steps") rfl), F_Kind_steps.bindsN fun _ _ _ _ _ _ us hl => match us, hl with | [_], _ => rfl⟩
  have c_m___eq__ : Md P w K mg base (He.ga K "Kind") "__eq__" ["self", "other"] 1 (spEqK (He.ga K "Kind")) := ⟨_, _, ok_eqK T F_Kind___eq__, He.meth_ok (c.fact 71 (f := .meth "Kind" "__eq__") rfl), F_Kind___eq__.bindsN fun _ _ _ _ _ _ us hl => match us, hl with | [_, _], _ => rfl⟩
  have c_m_start : Md P w K mg base (He.ga K "Kind") "start" ["self"] 1 (spStartM (He.ga K "Kind")) := ⟨_, _, ok_startM T F_Kind_start, He.meth_ok (c.fact 75 (f := .meth "Kind" "start") rfl), F_Kind_start.bindsN fun _ _ _ _ _ _ us hl => match us, hl with | [_], _ => rfl⟩
  have Mi := He.mkr_ok (c.fact 70 (f := .mkr "Kind") rfl)
  have gK := He.glo_ok X G (c.fact 46 (f := .glo "Kind") rfl)
  have c_Kind : Cd P w K mg base "Kind" (He.ga K "Kind") ["self", "name", "size"] 2 (spInit (He.ga K "Kind")) := ⟨_, _, ok_init T F_Kind___init__ c_is_whole, gK, Mi, F_Kind___init__.bindsN fun _ _ _ _ _ _ us hl => match us, hl with | [_, _, _], _ => rfl⟩
  have c_check_kind : Gd P w K mg base "check_kind" ["kind"] 1 (spCk (He.ga K "Kind")) := ⟨_, _, ok_check_kind T F_check_kind, He.glo_ok X G (c.fact 12 (f := .glo "check_kind") rfl), F_check_kind.kp, F_check_kind.bindsN fun _ _ _ _ _ _ us hl => match us, hl with | [_], _ => rfl⟩
  have c_is_step : Gd P w K mg base "is_step" ["kind", "value"] 2 (spIsStep (He.ga K "Kind")) := ⟨_, _, ok_is_step T F_is_step c_is_whole c_m_steps, He.glo_ok X G (c.fact 13 (f := .glo "is_step") rfl), F_is_step.kp, F_is_step.bindsN fun _ _ _ _ _ _ us hl => match us, hl with | [_, _], _ => rfl⟩
  have c_spread_of : Gd P w K mg base "spread_of" ["kind", "order"] 2 (spSpread K (He.ga K "Kind")) := ⟨_, _, ok_spread_of T F_spread_of c_m_name, He.glo_ok X G (c.fact 3 (f := .glo "spread_of") rfl), F_spread_of.kp, F_spread_of.bindsN fun _ _ _ _ _ _ us hl => match us, hl with | [_, _], _ => rfl⟩
  have c_order_in : Gd P w K mg base "order_in" ["kind", "spread"] 2 (spOrdIn K (He.ga K "Kind")) := ⟨_, _, ok_order_in T F_order_in c_m_name, He.glo_ok X G (c.fact 4 (f := .glo "order_in") rfl), F_order_in.kp, F_order_in.bindsN fun _ _ _ _ _ _ us hl => match us, hl with | [_, _], _ => rfl⟩
  have c_exchange_in : Gd P w K mg base "exchange_in" ["name", "spread", "step"] 1 (spExIn K) := ⟨_, _, ok_exchange_in T F_exchange_in, He.glo_ok X G (c.fact 5 (f := .glo "exchange_in") rfl), F_exchange_in.kp, F_exchange_in.bindsN fun _ _ _ _ _ _ us hl => match us, hl with | [_, _, _], _ => rfl⟩
  have c_least_changed : Gd P w K mg base "least_changed" ["name", "step", "steps"] 1 (spLeastCh) := ⟨_, _, ok_least_changed T F_least_changed, He.glo_ok X G (c.fact 18 (f := .glo "least_changed") rfl), F_least_changed.kp, F_least_changed.bindsN fun _ _ _ _ _ _ us hl => match us, hl with | [_, _, _], _ => rfl⟩
  have c_is_crossed : Gd P w K mg base "is_crossed" ["kind", "order", "step"] 3 (spCrossP K (He.ga K "Kind")) := ⟨_, _, ok_is_crossedP T F_is_crossed c_m_name, He.glo_ok X G (c.fact 6 (f := .glo "is_crossed") rfl), F_is_crossed.kp, F_is_crossed.bindsN fun _ _ _ _ _ _ us hl => match us, hl with | [_, _, _], _ => rfl⟩
  have c_after_step : Gd P w K mg base "after_step" ["kind", "order", "step"] 3 (spAfter K (He.ga K "Kind")) := ⟨_, _, ok_after_step T F_after_step c_m_name, He.glo_ok X G (c.fact 7 (f := .glo "after_step") rfl), F_after_step.kp, F_after_step.bindsN fun _ _ _ _ _ _ us hl => match us, hl with | [_, _, _], _ => rfl⟩
  have c_are_whole : Gd P w K mg base "are_whole" ["values"] 2 (spAreWhole K) := ⟨_, _, ok_are_whole T F_are_whole, He.glo_ok X G (c.fact 1 (f := .glo "are_whole") rfl), F_are_whole.kp, F_are_whole.bindsN fun _ _ _ _ _ _ us hl => match us, hl with | [_], _ => rfl⟩
  have c_opposite_of : Gd P w K mg base "opposite_of" ["kind", "order"] 2 (spOpp K (He.ga K "Kind")) := ⟨_, _, ok_opposite_of T F_opposite_of c_m_name, He.glo_ok X G (c.fact 8 (f := .glo "opposite_of") rfl), F_opposite_of.kp, F_opposite_of.bindsN fun _ _ _ _ _ _ us hl => match us, hl with | [_, _], _ => rfl⟩
  have c_count_crossings : Gd P w K mg base "count_crossings" ["kind", "order"] 2 (spCount K (He.ga K "Kind")) := ⟨_, _, ok_count_crossings T F_count_crossings c_m_name, He.glo_ok X G (c.fact 9 (f := .glo "count_crossings") rfl), F_count_crossings.kp, F_count_crossings.bindsN fun _ _ _ _ _ _ us hl => match us, hl with | [_, _], _ => rfl⟩
  have c_has_order_form : Gd P w K mg base "has_order_form" ["kind", "value"] 3 (spForm K (He.ga K "Kind")) := ⟨_, _, ok_has_order_form T F_has_order_form c_m_name c_m_size c_m_start c_are_whole, He.glo_ok X G (c.fact 10 (f := .glo "has_order_form") rfl), F_has_order_form.kp, F_has_order_form.bindsN fun _ _ _ _ _ _ us hl => match us, hl with | [_, _], _ => rfl⟩
  have c_is_told_order : Gd P w K mg base "is_told_order" ["kind", "value"] 4 (spTold K (He.ga K "Kind")) := ⟨_, _, ok_is_told_order T F_is_told_order (He.int_ok X G (c.fact 48 (f := .int "MOST_CROSSINGS" 60) rfl)) c_has_order_form c_count_crossings c_m_name, He.glo_ok X G (c.fact 11 (f := .glo "is_told_order") rfl), F_is_told_order.kp, F_is_told_order.bindsN fun _ _ _ _ _ _ us hl => match us, hl with | [_, _], _ => rfl⟩
  have c_check_orders : Rd P w K mg base "check_orders" 5 (spCkOn K (He.ga K "Kind")) := ⟨_, ok_check_ordersN T F_check_orders c_check_kind c_is_told_order, He.glo_ok X G (c.fact 22 (f := .glo "check_orders") rfl), F_check_orders.kp⟩
  have c_first_down : Gd P w K mg base "first_down" ["kind", "flipped"] 5 (spFirstDown K (He.ga K "Kind")) := ⟨_, _, ok_first_down T F_first_down c_m_name c_spread_of c_exchange_in c_least_changed, He.glo_ok X G (c.fact 17 (f := .glo "first_down") rfl), F_first_down.kp, F_first_down.bindsN fun _ _ _ _ _ _ us hl => match us, hl with | [_, _], _ => rfl⟩
  have c_first_least : Gd P w K mg base "first_least" ["kind", "order"] 6 (spFirstLeast K (He.ga K "Kind")) := ⟨_, _, ok_first_least T F_first_least c_first_down c_opposite_of, He.glo_ok X G (c.fact 19 (f := .glo "first_least") rfl), F_first_least.kp, F_first_least.bindsN fun _ _ _ _ _ _ us hl => match us, hl with | [_, _], _ => rfl⟩
  have c_law_kind : Gd P w K mg base "_law_kind" ["_law_generator_here"] 3 (spKindT) := ⟨_, _, ok_kindT T0 F__law_kind c_law_random, He.glo_ok X G (c.fact 31 (f := .glo "_law_kind") rfl), F__law_kind.kp, F__law_kind.bindsN fun _ _ _ _ _ _ us hl => match us, hl with | [_], _ => rfl⟩
  have c_law_many : Gd P w K mg base "_law_many" ["_law_pair"] 1 (spMany K) := ⟨_, _, ok_many T0 F__law_many, He.glo_ok X G (c.fact 32 (f := .glo "_law_many") rfl), F__law_many.kp, F__law_many.bindsN fun _ _ _ _ _ _ us hl => match us, hl with | [_], _ => rfl⟩
  have c_law_start : Gd P w K mg base "_law_start" ["_law_pair"] 1 (spStart K) := ⟨_, _, ok_startT T0 F__law_start, He.glo_ok X G (c.fact 33 (f := .glo "_law_start") rfl), F__law_start.kp, F__law_start.bindsN fun _ _ _ _ _ _ us hl => match us, hl with | [_], _ => rfl⟩
  have c_law_step : Gd P w K mg base "_law_step" ["_law_pair", "_law_order_here", "_law_step_here"] 1 (spStepT K) := ⟨_, _, ok_stepT T0 F__law_step, He.glo_ok X G (c.fact 34 (f := .glo "_law_step") rfl), F__law_step.kp, F__law_step.bindsN fun _ _ _ _ _ _ us hl => match us, hl with | [_, _, _], _ => rfl⟩
  have c_law_crossed : Gd P w K mg base "_law_crossed" ["_law_pair", "_law_order_here", "_law_step_here"] 1 (spCrossT K) := ⟨_, _, ok_crossT T0 F__law_crossed, He.glo_ok X G (c.fact 35 (f := .glo "_law_crossed") rfl), F__law_crossed.kp, F__law_crossed.bindsN fun _ _ _ _ _ _ us hl => match us, hl with | [_, _, _], _ => rfl⟩
  have c_law_made : Gd P w K mg base "_law_made" ["_law_pair", "_law_row_here"] 2 (spMadeT K run) := ⟨_, _, ok_madeT T0 F__law_made c_law_start c_law_step, He.glo_ok X G (c.fact 36 (f := .glo "_law_made") rfl), F__law_made.kp, F__law_made.bindsN fun _ _ _ _ _ _ us hl => match us, hl with | [_, _], _ => rfl⟩
  have c_law_row : Gd P w K mg base "_law_row" ["_law_generator_here", "_law_pair", "_law_most"] 3 (spRow K) := ⟨_, _, ok_row T0 F__law_row c_law_many c_law_random, He.glo_ok X G (c.fact 37 (f := .glo "_law_row") rfl), F__law_row.kp, F__law_row.bindsN fun _ _ _ _ _ _ us hl => match us, hl with | [_, _, _], _ => rfl⟩
  have c_law_greedy : Gd P w K mg base "_law_greedy" ["_law_pair", "_law_row_here"] 2 (spMadeT K gains) := ⟨_, _, ok_greedyT T0 F__law_greedy c_law_start c_law_crossed c_law_step, He.glo_ok X G (c.fact 40 (f := .glo "_law_greedy") rfl), F__law_greedy.kp, F__law_greedy.bindsN fun _ _ _ _ _ _ us hl => match us, hl with | [_, _], _ => rfl⟩
  have c_law_order : Gd P w K mg base "_law_order" ["_law_generator_here", "_law_pair", "_law_most"] 4 (spOrderT K) := ⟨_, _, ok_orderT T0 F__law_order c_law_row c_law_random c_law_greedy c_law_made, He.glo_ok X G (c.fact 41 (f := .glo "_law_order") rfl), F__law_order.kp, F__law_order.bindsN fun _ _ _ _ _ _ us hl => match us, hl with | [_, _, _], _ => rfl⟩
  have c_places_of : Gd P w K mg base "places_of" ["kind", "order", "row"] 4 (spPlaces K (He.ga K "Kind")) := ⟨_, _, ok_places_of T F_places_of c_is_crossed c_after_step c_m_start, He.glo_ok X G (c.fact 20 (f := .glo "places_of") rfl), F_places_of.kp, F_places_of.bindsN fun _ _ _ _ _ _ us hl => match us, hl with | [_, _, _], _ => rfl⟩
  have c_lies_beneath : Gd P w K mg base "lies_beneath" ["kind", "one", "other"] 7 (spLies K (He.ga K "Kind")) := ⟨_, _, ok_lies_beneath T F_lies_beneath c_places_of c_first_least, He.glo_ok X G (c.fact 21 (f := .glo "lies_beneath") rfl), F_lies_beneath.kp, F_lies_beneath.bindsN fun _ _ _ _ _ _ us hl => match us, hl with | [_, _, _], _ => rfl⟩
  have c_is_beneath : Gd P w K mg base "is_beneath" ["kind", "one", "other"] 8 (spIsBeneath K (He.ga K "Kind")) := ⟨_, _, ok_is_beneath T F_is_beneath c_check_orders c_lies_beneath, He.glo_ok X G (c.fact 24 (f := .glo "is_beneath") rfl), F_is_beneath.kp, F_is_beneath.bindsN fun _ _ _ _ _ _ us hl => match us, hl with | [_, _, _], _ => rfl⟩
  have c_places_of : Gd P w K mg base "places_of" ["kind", "order", "row"] 4 (spPlaces2 K (He.ga K "Kind")) := ⟨_, _, ok_places_of2 T F_places_of c_is_crossed c_after_step c_m_start, He.glo_ok X G (c.fact 20 (f := .glo "places_of") rfl), F_places_of.kp, F_places_of.bindsN fun _ _ _ _ _ _ us hl => match us, hl with | [_, _, _], _ => rfl⟩
  have c_is_told_row : Gd P w K mg base "is_told_row" ["kind", "value"] 3 (spToldRow K (He.ga K "Kind")) := ⟨_, _, ok_is_told_row T F_is_told_row (He.int_ok X G (c.fact 49 (f := .int "MOST_STEPS" 100) rfl)) c_is_step, He.glo_ok X G (c.fact 14 (f := .glo "is_told_row") rfl), F_is_told_row.kp, F_is_told_row.bindsN fun _ _ _ _ _ _ us hl => match us, hl with | [_, _], _ => rfl⟩
  have c_check_rows : Rd P w K mg base "check_rows" 4 (spCkRw K (He.ga K "Kind")) := ⟨_, ok_check_rows T F_check_rows c_check_kind c_is_told_row, He.glo_ok X G (c.fact 23 (f := .glo "check_rows") rfl), F_check_rows.kp⟩
  have c_made_by : Gd P w K mg base "made_by" ["kind", "row"] 5 (spMadeBy K (He.ga K "Kind")) := ⟨_, _, ok_made_by T F_made_by c_m_name c_m_start c_spread_of c_exchange_in c_order_in, He.glo_ok X G (c.fact 16 (f := .glo "made_by") rfl), F_made_by.kp, F_made_by.bindsN fun _ _ _ _ _ _ us hl => match us, hl with | [_, _], _ => rfl⟩
  have c_part : Gd P w K mg base "part" ["kind", "order", "row"] 6 (spPart K (He.ga K "Kind")) := ⟨_, _, ok_part T F_part c_check_orders c_check_rows c_places_of, He.glo_ok X G (c.fact 25 (f := .glo "part") rfl), F_part.kp, F_part.bindsN fun _ _ _ _ _ _ us hl => match us, hl with | [_, _, _], _ => rfl⟩
  have c_partKw : GdK P w K mg base "part" ["kind", "order", "row"] ["row", "order", "kind"] gRev 6 (spPart K (He.ga K "Kind")) := ⟨_, _, _, ok_part T F_part c_check_orders c_check_rows c_places_of, He.glo_ok X G (c.fact 25 (f := .glo "part") rfl), F_part.kp, kb_rev F_part 0 ["row", "order", "kind"] fun _ _ _ _ _ _ us ws h1 h2 => match us, ws, h1, h2 with | [], [_, _, _], _, _ => rfl⟩
  have c_are_whole : Gd P w K mg base "are_whole" ["values"] 1 (spPure (He.ga K "Kind") R_are_whole) := ⟨_, _, oka_are_whole T F_are_whole, He.glo_ok X G (c.fact 1 (f := .glo "are_whole") rfl), F_are_whole.kp, F_are_whole.bindsN fun _ _ _ _ _ _ us hl => match us, hl with | [_], _ => rfl⟩
  have c_is_rising : Gd P w K mg base "is_rising" ["numbers"] 1 (spPure (He.ga K "Kind") R_is_rising) := ⟨_, _, oka_is_rising T F_is_rising, He.glo_ok X G (c.fact 2 (f := .glo "is_rising") rfl), F_is_rising.kp, F_is_rising.bindsN fun _ _ _ _ _ _ us hl => match us, hl with | [_], _ => rfl⟩
  have c_are_places : Gd P w K mg base "are_places" ["row", "value"] 2 (spPure (He.ga K "Kind") R_are_places) := ⟨_, _, oka_are_places T F_are_places c_are_whole c_is_rising, He.glo_ok X G (c.fact 15 (f := .glo "are_places") rfl), F_are_places.kp, F_are_places.bindsN fun _ _ _ _ _ _ us hl => match us, hl with | [_, _], _ => rfl⟩
  have c_is_part : Gd P w K mg base "is_part" ["kind", "order", "row", "value"] 6 (spPure (He.ga K "Kind") R_is_part) := ⟨_, _, oka_is_part T F_is_part c_are_places c_check_orders c_check_rows c_made_by, He.glo_ok X G (c.fact 26 (f := .glo "is_part") rfl), F_is_part.kp, F_is_part.bindsN fun _ _ _ _ _ _ us hl => match us, hl with | [_, _, _, _], _ => rfl⟩
  have c_is_partKw : GdK P w K mg base "is_part" ["kind", "order", "row", "value"] ["value", "row", "order", "kind"] gRev 6 (spPure (He.ga K "Kind") R_is_part) := ⟨_, _, _, oka_is_part T F_is_part c_are_places c_check_orders c_check_rows c_made_by, He.glo_ok X G (c.fact 26 (f := .glo "is_part") rfl), F_is_part.kp, kb_rev F_is_part 0 ["value", "row", "order", "kind"] fun _ _ _ _ _ _ us ws h1 h2 => match us, ws, h1, h2 with | [], [_, _, _, _], _, _ => rfl⟩
  have c_law_is_part : Gd P w K mg base "_law_is_part" ["_law_pair", "_law_order_here", "_law_row_here", "_law_value"] 3 (spPure (He.ga K "Kind") R_law_is_part) := ⟨_, _, oka_law_is_part T0 F__law_is_part c_law_made, He.glo_ok X G (c.fact 42 (f := .glo "_law_is_part") rfl), F__law_is_part.kp, F__law_is_part.bindsN fun _ _ _ _ _ _ us hl => match us, hl with | [_, _, _, _], _ => rfl⟩
  have c_law_least : Gd P w K mg base "_law_least" ["_law_pair", "_law_order_here"] 4 (spLeastW K) := ⟨_, _, ok_leastW T0 F__law_least c_law_many c_law_crossed c_law_step, He.glo_ok X G (c.fact 38 (f := .glo "_law_least") rfl), F__law_least.kp, F__law_least.bindsN fun _ _ _ _ _ _ us hl => match us, hl with | [_, _], _ => rfl⟩
  have c_law_parts : GdG P w K mg base "_law_parts" ["_law_pair", "_law_row_here"] 5 (spParts K) := ⟨_, _, ok_parts T0 F__law_parts c_law_start c_law_step, He.glo_ok X G (c.fact 39 (f := .glo "_law_parts") rfl), F__law_parts.kp, F__law_parts.bindsN fun _ _ _ _ _ _ us hl => match us, hl with | [_, _], _ => rfl⟩
  have c_law_bent : Gd P w K mg base "_law_bent" ["_law_generator_here", "_law_value", "_law_length"] 3 (spDr (He.ga K "Kind") 4 DmBent RBent) := ⟨_, _, ok_bent T0 F__law_bent c_law_random, He.glo_ok X G (c.fact 43 (f := .glo "_law_bent") rfl), F__law_bent.kp, F__law_bent.bindsN fun _ _ _ _ _ _ us hl => match us, hl with | [_, _, _], _ => rfl⟩
  have c_law_right : GdG P w K mg base "_law_right" ["_law_generator_here"] 9 (spRightG) := ⟨_, _, ok_right43 T0 F__law_right c_Kind c_law_bent c_law_greedy c_law_is_part c_law_kind c_law_least c_law_order c_law_parts c_law_random c_law_row c_law_start c_is_beneath c_is_part c_part c_partKw c_is_partKw, He.glo_ok X G (c.fact 44 (f := .glo "_law_right") rfl), F__law_right.kp, F__law_right.bindsN fun _ _ _ _ _ _ us hl => match us, hl with | [_], _ => rfl⟩
  exact ok_law43 T F_law c_law_right c_law_generator c_Kind c_is_part c_part
end Sv
open PySem PySem.W PyProof.Rows
theorem PySem.Challenge.cw_seamlayers_k43_whole_parts_of_any_rows_holds : PySem.Challenge.rw_seamlayers_k43_whole_parts_of_any_rows.Holds := by
  w_on; o_law; k_head; (case hw => w_witness2)
  k_fill
  refine Sv.walkG (l := PySem.Challenge.rw_seamlayers_k43_whole_parts_of_any_rows) (n := 63) (k := 10) (x := "_law_script") (sp := fun w => Sv.spLaw _) rfl (by decide) rfl ⟨rfl, by decide, by decide⟩ (fun w h Y => PySem.W.kIn_of Y) ?F (fun _ _ a ns hl hS => ⟨a, ns, rfl, hS, hl, fun _ => rfl⟩)
  case F =>
    intro w mg fa h KX G hmg
    refine Sv.facts KX G hmg ⟨?t, ?m, (fun p hp => nomatch hp), (fun p hp => nomatch hp), (fun p hp => nomatch hp)⟩
    case t =>
      show He.obsT Sv.fa Sv.fn Sv.tsx _ = He.valT Sv.fn Sv.tsx w
      kernel_rfl
    case m => kernel_rfl


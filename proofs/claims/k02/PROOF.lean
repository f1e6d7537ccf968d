import PyProof.Rows.All
import Wide.All
import OpenK.AllK
import Wide.FinOn
import HandS.ForMost
import HandS.IsInst
import HandS.Conv
import HandS.Style
import HandS.More
import HandS.WideBits
import HandS.Defaults
import HandS.MakeKw
import HandS.MakeKwOnly
import HandS.SlotsOwn
import HandS.OwnEq
import KE.KEqSeq
import HandS.ForExc
import HandS.Star
import HandS.Walk
import HandS.SortInts
import HandS.List
import HandS.Ends
import HandS.Words
import PyProof.ReprRoads
import HandS.Dict
import PyProof.SeqI3
import HandS.Evl
import HandS.Deep
import HandS.Struct
import HandS.Flow
import PyProof.FitsInt
import KE.KStateDown
import Lean
import HandS.WordsExc
import HandS.Head0
import HandS.Head1
import HandS.Head2
import HandS.HeadEnd
import HandS.HeadHook1
import HandS.HeadHook2
import HandS.HeadHook3
import HandS.HeadHook4
import PySem.Challenge.RW_seamlayers_k02_orders_told_apart
set_option Elab.async false
set_option linter.all false
set_option maxRecDepth 100000
set_option maxHeartbeats 40000000
/-! Kinds of orders, their items and steps, by the verifier: plain mathematics. -/
namespace Sv
open PySem L2
inductive Nm where | pl | mi | ri
  deriving DecidableEq
def Nm.s : Nm → Str | .pl => "plain" | .mi => "mirror" | .ri => "ring"
theorem s_mi (k : Nm) : decide (V.str k.s = V.str "mirror") = decide (k = .mi) := by cases k <;> decide +kernel
theorem s_pl (k : Nm) : decide (V.str k.s = V.str "plain") = decide (k = .pl) := by cases k <;> decide +kernel
theorem s_ri (k : Nm) : decide (V.str k.s = V.str "ring") = decide (k = .ri) := by cases k <;> decide +kernel
theorem s_inj {k j : Nm} : (k.s = j.s) ↔ k = j := by cases k <;> cases j <;> decide +kernel
/-- the kinds that there are -/
def okK : Nm → Nat → Bool
  | .pl, n => decide (1 ≤ n ∧ n ≤ 7)
  | .mi, n => decide (1 ≤ n ∧ n ≤ 5)
  | .ri, n => decide (2 ≤ n ∧ n ≤ 5)
theorem okK_le {k : Nm} {n : Nat} (h : okK k n = true) : 1 ≤ n ∧ n ≤ 7 := by
  cases k <;> (have := of_decide_eq_true h; omega)
def off (k : Nm) : Int := if k = .mi then 1 else 0
def many (k : Nm) (n : Nat) : Int := (n : Int) - (if k = .pl then 1 else 0)
def startL (k : Nm) (n : Nat) : List Int := (List.range n).map fun (i : Nat) => off k + (i : Int)
def sg (p : Int) : Int := if 0 < p then 1 else -1
def item (k : Nm) (n : Nat) (w : List Int) (p : Int) : Int :=
  if k = .mi then w.getD (p.natAbs - 1) 0 * sg p else w.getD (p % (n : Int)).toNat 0 + p - p % (n : Int)
def turned (k : Nm) (n : Nat) (s p : Int) : Int :=
  if k = .mi then
    if s = 0 then (if p.natAbs = 1 then -p else p)
    else if (p.natAbs : Int) = s ∨ (p.natAbs : Int) = s + 1 then (2 * s + 1 - (p.natAbs : Int)) * sg p else p
  else if (p - s) % (n : Int) = 0 then p + 1 else if (p - s) % (n : Int) = 1 then p - 1 else p
def stepped (k : Nm) (n : Nat) (w : List Int) (s : Int) : List Int := (startL k n).map fun p => item k n w (turned k n s p)
def low (k : Nm) (s : Int) : Int := if k = .mi then (if 0 < s then s else -1) else s
def crossed (k : Nm) (n : Nat) (w : List Int) (s : Int) : Bool := decide (item k n w (turned k n s (low k s)) < item k n w (low k s))
def gained (k : Nm) (n : Nat) (w : List Int) (s : Int) : List Int := if crossed k n w s = true then w else stepped k n w s
def okP (k : Nm) (n : Nat) (p : Int) : Prop := k = .mi → p ≠ 0 ∧ p.natAbs ≤ n
def okS (k : Nm) (n : Nat) (s : Int) : Prop := 0 ≤ s ∧ s < many k n
theorem sg_pos {p : Int} (h : 0 < p) : sg p = 1 := if_pos h
theorem sg_neg {p : Int} (h : p < 0) : sg p = -1 := if_neg (by omega)
theorem startL_len (k : Nm) (n : Nat) : (startL k n).length = n := by unfold startL; rw [List.length_map, List.length_range]
theorem startL_get (k : Nm) (n i : Nat) (h : i < n) : (startL k n)[i]? = some (off k + (i : Int)) := by
  unfold startL
  rw [List.getElem?_map, List.getElem?_range h]
  rfl
theorem stepped_len (k : Nm) (n : Nat) (w : List Int) (s : Int) : (stepped k n w s).length = n := by unfold stepped; rw [List.length_map, startL_len]
theorem stepped_getD (k : Nm) (n : Nat) (w : List Int) (s : Int) (i : Nat) (h : i < n) : (stepped k n w s).getD i 0 = item k n w (turned k n s (off k + (i : Int))) := by
  unfold stepped
  rw [List.getD_eq_getElem?_getD, List.getElem?_map, startL_get k n i h]
  rfl
theorem startL_getD (k : Nm) (n i : Nat) (h : i < n) : (startL k n).getD i 0 = off k + (i : Int) := by
  rw [List.getD_eq_getElem?_getD, startL_get k n i h]
  rfl
theorem mem_startL {k : Nm} {n : Nat} {p : Int} (h : p ∈ startL k n) : ∃ i : Nat, i < n ∧ p = off k + (i : Int) := by
  unfold startL at h
  obtain ⟨i, hi, e⟩ := List.mem_map.mp h
  exact ⟨i, List.mem_range.mp hi, e.symm⟩
theorem startL_okP {k : Nm} {n : Nat} {p : Int} (h : p ∈ startL k n) : okP k n p := by
  obtain ⟨i, hi, rfl⟩ := mem_startL h
  intro hk
  subst hk
  show (1 : Int) + i ≠ 0 ∧ ((1 : Int) + i).natAbs ≤ n
  omega
/-- steps there are only where there are two items, for plain and ring -/
theorem okS_two {k : Nm} {n : Nat} {s : Int} (hK : okK k n = true) (hk : k ≠ .mi) (h : okS k n s) : 2 ≤ n ∧ n ≤ 7 := by
  have h7 := okK_le hK
  obtain ⟨h1, h2⟩ := h
  unfold many at h2
  cases k with
  | mi => exact absurd rfl hk
  | pl => rw [if_pos rfl] at h2; omega
  | ri => have := of_decide_eq_true hK; omega
theorem okS_mi {n : Nat} {s : Int} (h : okS .mi n s) : 0 ≤ s ∧ s < (n : Int) := by
  obtain ⟨h1, h2⟩ := h
  unfold many at h2
  rw [if_neg (by decide)] at h2
  omega
theorem upto7 {n : Nat} (h : 2 ≤ n ∧ n ≤ 7) : n = 2 ∨ n = 3 ∨ n = 4 ∨ n = 5 ∨ n = 6 ∨ n = 7 := by omega
theorem item_nm {k : Nm} (hk : k ≠ .mi) (n : Nat) (w : List Int) (p : Int) : item k n w p = w.getD (p % (n : Int)).toNat 0 + p - p % (n : Int) := if_neg hk
theorem item_mi (n : Nat) (w : List Int) (p : Int) : item .mi n w p = w.getD (p.natAbs - 1) 0 * sg p := if_pos rfl
theorem turned_nm {k : Nm} (hk : k ≠ .mi) (n : Nat) (s p : Int) : turned k n s p = if (p - s) % (n : Int) = 0 then p + 1 else if (p - s) % (n : Int) = 1 then p - 1 else p := if_neg hk
theorem turned_mi (n : Nat) (s p : Int) : turned .mi n s p = if s = 0 then (if p.natAbs = 1 then -p else p) else if (p.natAbs : Int) = s ∨ (p.natAbs : Int) = s + 1 then (2 * s + 1 - (p.natAbs : Int)) * sg p else p := if_pos rfl
/-- what turned does on the mirror side, by cases without products -/
theorem turned_mi' (n : Nat) (s p : Int) (h0 : p ≠ 0) (hs0 : 0 ≤ s) : turned .mi n s p = if s = 0 then (if p = 1 ∨ p = -1 then -p else p) else if p = s then s + 1 else if p = s + 1 then s else if p = -s then -(s + 1) else if p = -(s + 1) then -s else p := by
  rw [turned_mi]
  unfold sg
  by_cases hs : s = 0
  · subst hs
    simp only [if_true]
    by_cases h1 : p.natAbs = 1
    · rw [if_pos h1, if_pos (by omega)]
    · rw [if_neg h1, if_neg (by omega)]
  · rw [if_neg hs, if_neg hs]
    by_cases hp : 0 < p
    · rw [if_pos hp, Int.mul_one]
      repeat' split
      all_goals omega
    · rw [if_neg hp, Int.mul_neg, Int.mul_one]
      repeat' split
      all_goals omega
theorem turned_ok {k : Nm} {n : Nat} {s p : Int} (hs : okS k n s) (hp : okP k n p) : okP k n (turned k n s p) := by
  intro hk
  subst hk
  obtain ⟨h0, h1⟩ := hp rfl
  have h2 := okS_mi hs
  rw [turned_mi' n s p h0 h2.1]
  repeat' split
  all_goals omega
theorem turned_inv {k : Nm} {n : Nat} {s p : Int} (hK : okK k n = true) (hs : okS k n s) (hp : okP k n p) : turned k n s (turned k n s p) = p := by
  by_cases hk : k = .mi
  · subst hk
    obtain ⟨h0, h1⟩ := hp rfl
    have h2 := okS_mi hs
    have h3 := turned_ok hs hp rfl
    rw [turned_mi' n s _ h3.1 h2.1]
    rw [turned_mi' n s p h0 h2.1]
    repeat' split
    all_goals omega
  · have h2 := okS_two hK hk hs
    rw [turned_nm hk, turned_nm hk]
    rcases upto7 h2 with rfl | rfl | rfl | rfl | rfl | rfl <;> (repeat' split) <;> omega
theorem turned_inj {k : Nm} {n : Nat} {s p q : Int} (hK : okK k n = true) (hs : okS k n s) (hp : okP k n p) (hq : okP k n q) (e : turned k n s p = turned k n s q) : p = q := by
  rw [← turned_inv hK hs hp, e, turned_inv hK hs hq]
theorem item_neg (n : Nat) (w : List Int) (p : Int) (h : p ≠ 0) : item .mi n w (-p) = - item .mi n w p := by
  rw [item_mi, item_mi, Int.natAbs_neg]
  by_cases hp : 0 < p
  · rw [sg_pos hp, sg_neg (by omega)]
    omega
  · rw [sg_neg (by omega : p < 0), sg_pos (by omega)]
    omega
theorem turned_neg (n : Nat) (s p : Int) (hs : 0 ≤ s) (h : p ≠ 0) : turned .mi n s (-p) = - turned .mi n s p := by
  rw [turned_mi' n s p h hs, turned_mi' n s (-p) (by omega) hs]
  repeat' split
  all_goals omega
theorem item_step {k : Nm} {n : Nat} {w : List Int} {s p : Int} (hK : okK k n = true) (hs : okS k n s) (hp : okP k n p) : item k n (stepped k n w s) p = item k n w (turned k n s p) := by
  by_cases hk : k = .mi
  · subst hk
    obtain ⟨h0, h1⟩ := hp rfl
    have h2 := okS_mi hs
    rw [item_mi, stepped_getD .mi n w s _ (by omega)]
    have e : off .mi + ((p.natAbs - 1 : Nat) : Int) = (p.natAbs : Int) := by
      show (1 : Int) + _ = _
      omega
    rw [e]
    by_cases hp0 : 0 < p
    · rw [sg_pos hp0, Int.mul_one]
      have e2 : (p.natAbs : Int) = p := by omega
      rw [e2]
    · rw [sg_neg (by omega : p < 0)]
      have e2 : (p.natAbs : Int) = -p := by omega
      have h3 := turned_ok hs hp rfl
      rw [e2, turned_neg n s p h2.1 h0, item_neg n w _ h3.1]
      omega
  · have h2 := okS_two hK hk hs
    have hn : (0 : Int) < (n : Int) := by omega
    have hm1 : 0 ≤ p % (n : Int) := Int.emod_nonneg p (by omega)
    have hm2 : p % (n : Int) < (n : Int) := Int.emod_lt_of_pos p hn
    rw [item_nm hk, stepped_getD k n w s _ (by omega)]
    have e0 : off k = 0 := if_neg hk
    have e1 : off k + ((p % (n : Int)).toNat : Int) = p % (n : Int) := by rw [e0]; omega
    rw [e1, item_nm hk, item_nm hk, turned_nm hk, turned_nm hk]
    have key : ∀ (a b : Int), a % (n : Int) = b % (n : Int) → a + p - p % (n : Int) = b → w.getD (a % (n : Int)).toNat 0 + a - a % (n : Int) + p - p % (n : Int) = w.getD (b % (n : Int)).toNat 0 + b - b % (n : Int) := by
      intro a b h3 h4
      rw [h3]
      omega
    apply key
    · rcases upto7 h2 with rfl | rfl | rfl | rfl | rfl | rfl <;> (repeat' split) <;> omega
    · rcases upto7 h2 with rfl | rfl | rfl | rfl | rfl | rfl <;> (repeat' split) <;> omega
/-- an order: unlike places have unlike items -/
structure Good (k : Nm) (n : Nat) (w : List Int) : Prop where
  len : w.length = n
  inj : ∀ p q, okP k n p → okP k n q → item k n w p = item k n w q → p = q
theorem item_start {k : Nm} {n : Nat} {p : Int} (hn : 1 ≤ n) (hp : okP k n p) : item k n (startL k n) p = p := by
  by_cases hk : k = .mi
  · subst hk
    obtain ⟨h0, h1⟩ := hp rfl
    rw [item_mi, startL_getD .mi n _ (by omega)]
    have e : off .mi + ((p.natAbs - 1 : Nat) : Int) = (p.natAbs : Int) := by
      show (1 : Int) + _ = _
      omega
    rw [e]
    by_cases hp0 : 0 < p
    · rw [sg_pos hp0]; omega
    · rw [sg_neg (by omega : p < 0)]; omega
  · have hn' : (0 : Int) < (n : Int) := by omega
    have hm1 : 0 ≤ p % (n : Int) := Int.emod_nonneg p (by omega)
    have hm2 : p % (n : Int) < (n : Int) := Int.emod_lt_of_pos p hn'
    rw [item_nm hk, startL_getD k n _ (by omega)]
    have e0 : off k = 0 := if_neg hk
    rw [e0]
    omega
theorem good_start {k : Nm} {n : Nat} (hn : 1 ≤ n) : Good k n (startL k n) := ⟨startL_len k n, fun p q hp hq e => by rw [item_start hn hp, item_start hn hq] at e; exact e⟩
theorem good_stepped {k : Nm} {n : Nat} {w : List Int} {s : Int} (hK : okK k n = true) (hs : okS k n s) (g : Good k n w) : Good k n (stepped k n w s) :=
  ⟨stepped_len k n w s, fun p q hp hq e => by
    rw [item_step hK hs hp, item_step hK hs hq] at e
    exact turned_inj hK hs hp hq (g.inj _ _ (turned_ok hs hp) (turned_ok hs hq) e)⟩
theorem good_gained {k : Nm} {n : Nat} {w : List Int} {s : Int} (hK : okK k n = true) (hs : okS k n s) (g : Good k n w) : Good k n (gained k n w s) := by
  unfold gained
  split
  · exact g
  · exact good_stepped hK hs g
theorem low_okP {k : Nm} {n : Nat} {s : Int} (hs : okS k n s) : okP k n (low k s) := by
  intro hk
  subst hk
  have h2 := okS_mi hs
  show (if 0 < s then s else -1) ≠ 0 ∧ (if 0 < s then s else -1).natAbs ≤ n
  split <;> omega
/-! ### rows of steps on orders -/
def run (k : Nm) (n : Nat) (w : List Int) (l : List Int) : List Int := l.foldl (stepped k n) w
def turns (k : Nm) (n : Nat) : List Int → Int → Int
  | [], p => p
  | s :: l, p => turned k n s (turns k n l p)
theorem turns_ok {k : Nm} {n : Nat} : ∀ {l : List Int} {p : Int}, (∀ s ∈ l, okS k n s) → okP k n p → okP k n (turns k n l p)
  | [], _, _, hp => hp
  | s :: l, p, hl, hp => turned_ok (hl s List.mem_cons_self) (turns_ok (fun t ht => hl t (List.mem_cons_of_mem _ ht)) hp)
theorem item_run {k : Nm} {n : Nat} (hK : okK k n = true) : ∀ {l : List Int} {w : List Int} {p : Int}, (∀ s ∈ l, okS k n s) → okP k n p → item k n (run k n w l) p = item k n w (turns k n l p)
  | [], _, _, _, _ => rfl
  | s :: l, w, p, hl, hp => by
    have hl' : ∀ t ∈ l, okS k n t := fun t ht => hl t (List.mem_cons_of_mem _ ht)
    show item k n (run k n (stepped k n w s) l) p = item k n w (turned k n s (turns k n l p))
    rw [item_run hK hl' hp, item_step hK (hl s List.mem_cons_self) (turns_ok hl' hp)]
theorem run_len {k : Nm} {n : Nat} : ∀ {l : List Int} {w : List Int}, w.length = n → (run k n w l).length = n
  | [], _, h => h
  | s :: l, w, h => run_len (l := l) (w := stepped k n w s) (stepped_len k n w s)
theorem map_item {k : Nm} {n : Nat} {u : List Int} (h : u.length = n) : (startL k n).map (item k n u) = u := by
  apply List.ext_getElem?
  intro i
  rw [List.getElem?_map]
  by_cases hi : i < n
  · rw [startL_get k n i hi, List.getElem?_eq_getElem (by omega)]
    show some (item k n u (off k + (i : Int))) = some u[i]
    congr 1
    by_cases hk : k = .mi
    · subst hk
      rw [item_mi]
      show u.getD ((1 + (i : Int)).natAbs - 1) 0 * sg (1 + (i : Int)) = u[i]
      have e : (1 + (i : Int)).natAbs - 1 = i := by omega
      rw [e, sg_pos (by omega), Int.mul_one, List.getD_eq_getElem?_getD, List.getElem?_eq_getElem (by omega)]
      rfl
    · rw [item_nm hk]
      have e0 : off k = 0 := if_neg hk
      have e1 : (0 + (i : Int)) % (n : Int) = (i : Int) := by
        rw [Int.zero_add]
        exact Int.emod_eq_of_lt (by omega) (by omega)
      rw [e0, e1, Int.toNat_natCast, List.getD_eq_getElem?_getD, List.getElem?_eq_getElem (by omega)]
      show u[i] + (0 + (i : Int)) - (i : Int) = u[i]
      omega
  · rw [List.getElem?_eq_none (by rw [startL_len]; omega), List.getElem?_eq_none (by omega)]
    rfl
theorem run_eq_iff {k : Nm} {n : Nat} {w : List Int} {l m : List Int} (hK : okK k n = true) (g : Good k n w) (hl : ∀ s ∈ l, okS k n s) (hm : ∀ s ∈ m, okS k n s) :
    run k n w l = run k n w m ↔ ∀ p ∈ startL k n, turns k n l p = turns k n m p := by
  constructor
  · intro e p hp
    have ho := startL_okP hp
    refine g.inj _ _ (turns_ok hl ho) (turns_ok hm ho) ?_
    rw [← item_run hK hl ho, ← item_run hK hm ho, e]
  · intro h
    rw [← map_item (run_len (l := l) g.len), ← map_item (run_len (l := m) g.len)]
    apply List.map_congr_left
    intro p hp
    have ho := startL_okP hp
    rw [item_run hK hl ho, item_run hK hm ho, h p hp]
theorem run_snoc (k : Nm) (n : Nat) (w l : List Int) (s : Int) : run k n w (l ++ [s]) = stepped k n (run k n w l) s := by
  unfold run
  rw [List.foldl_append]
  rfl
/-- the two ways by turns: after how many steps they agree -/
def lw (k : Nm) (n : Nat) (a b : Int) : Nat → Nat → List Int → List Int → Option Nat
  | 0, _, _, _ => none
  | f + 1, t, xs, ys =>
    if stepped k n xs (if t % 2 = 1 then a else b) = stepped k n ys (if t % 2 = 1 then b else a) then some t
    else lw k n a b f (t + 1) (stepped k n xs (if t % 2 = 1 then a else b)) (stepped k n ys (if t % 2 = 1 then b else a))
theorem lw_any {k : Nm} {n : Nat} {w : List Int} {a b : Int} (hK : okK k n = true) (g : Good k n w) (ha : okS k n a) (hb : okS k n b) : ∀ (f t : Nat) (l m : List Int), (∀ s ∈ l, okS k n s) → (∀ s ∈ m, okS k n s) →
    lw k n a b f t (run k n w l) (run k n w m) = lw k n a b f t (run k n (startL k n) l) (run k n (startL k n) m)
  | 0, _, _, _, _, _ => rfl
  | f + 1, t, l, m, hl, hm => by
    have g0 : Good k n (startL k n) := good_start (okK_le hK).1
    have h1 : ∀ s ∈ l ++ [if t % 2 = 1 then a else b], okS k n s := by
      intro s hs
      rcases List.mem_append.mp hs with h | h
      · exact hl s h
      · rw [List.mem_singleton.mp h]; split <;> assumption
    have h2 : ∀ s ∈ m ++ [if t % 2 = 1 then b else a], okS k n s := by
      intro s hs
      rcases List.mem_append.mp hs with h | h
      · exact hm s h
      · rw [List.mem_singleton.mp h]; split <;> assumption
    unfold lw
    rw [← run_snoc, ← run_snoc, ← run_snoc, ← run_snoc]
    have ih := lw_any hK g ha hb f (t + 1) _ _ h1 h2
    rw [ih]
    have e : (run k n w (l ++ [if t % 2 = 1 then a else b]) = run k n w (m ++ [if t % 2 = 1 then b else a])) ↔ (run k n (startL k n) (l ++ [if t % 2 = 1 then a else b]) = run k n (startL k n) (m ++ [if t % 2 = 1 then b else a])) :=
      (run_eq_iff hK g h1 h2).trans (run_eq_iff hK g0 h1 h2).symm
    by_cases q : run k n w (l ++ [if t % 2 = 1 then a else b]) = run k n w (m ++ [if t % 2 = 1 then b else a])
    · rw [if_pos q, if_pos (e.mp q)]
    · rw [if_neg q, if_neg (fun z => q (e.mpr z))]
/-- what wait tells -/
def waitN (k : Nm) (n : Nat) (a b : Int) : Option Nat :=
  if k = .mi ∧ a + b = 1 then some 4
  else if k = .ri then (if n = 2 then none else some (if (if (n : Int) - (if a - b < 0 then -(a - b) else a - b) < (if a - b < 0 then -(a - b) else a - b) then (n : Int) - (if a - b < 0 then -(a - b) else a - b) else (if a - b < 0 then -(a - b) else a - b)) = 1 then 3 else 2))
  else some (if (if a - b < 0 then -(a - b) else a - b) = 1 then 3 else 2)
def allK : List (Nm × Nat) := [(.pl, 1), (.pl, 2), (.pl, 3), (.pl, 4), (.pl, 5), (.pl, 6), (.pl, 7), (.mi, 1), (.mi, 2), (.mi, 3), (.mi, 4), (.mi, 5), (.ri, 2), (.ri, 3), (.ri, 4), (.ri, 5)]
theorem okK_mem {k : Nm} {n : Nat} (h : okK k n = true) : (k, n) ∈ allK := by
  cases k with
  | pl =>
    have := of_decide_eq_true h
    have : n = 1 ∨ n = 2 ∨ n = 3 ∨ n = 4 ∨ n = 5 ∨ n = 6 ∨ n = 7 := by omega
    rcases this with rfl | rfl | rfl | rfl | rfl | rfl | rfl <;> decide
  | mi =>
    have := of_decide_eq_true h
    have : n = 1 ∨ n = 2 ∨ n = 3 ∨ n = 4 ∨ n = 5 := by omega
    rcases this with rfl | rfl | rfl | rfl | rfl <;> decide
  | ri =>
    have := of_decide_eq_true h
    have : n = 2 ∨ n = 3 ∨ n = 4 ∨ n = 5 := by omega
    rcases this with rfl | rfl | rfl | rfl <;> decide
def chk1 (k : Nm) (n : Nat) : Bool := (List.range n).all fun (a : Nat) => (List.range n).all fun (b : Nat) => (a == b) || (decide (many k n ≤ (a : Int)) || decide (many k n ≤ (b : Int))) || decide (lw k n (a : Int) (b : Int) 12 1 (startL k n) (startL k n) = waitN k n (a : Int) (b : Int))
theorem chk_all : (allK.all fun q => chk1 q.1 q.2) = true := by decide +kernel
theorem many_le (k : Nm) (n : Nat) : many k n ≤ (n : Int) := by unfold many; split <;> omega
theorem wait_right {k : Nm} {n : Nat} {w : List Int} {a b : Int} (hK : okK k n = true) (g : Good k n w) (ha : okS k n a) (hb : okS k n b) (hab : a ≠ b) : lw k n a b 12 1 w w = waitN k n a b := by
  have e := lw_any hK g ha hb 12 1 [] [] (fun _ h => by cases h) (fun _ h => by cases h)
  show lw k n a b 12 1 (run k n w []) (run k n w []) = _
  rw [e]
  show lw k n a b 12 1 (startL k n) (startL k n) = _
  have c := List.all_eq_true.mp chk_all (k, n) (okK_mem hK)
  have hl := many_le k n
  obtain ⟨a1, a2⟩ := ha
  obtain ⟨b1, b2⟩ := hb
  obtain ⟨x, rfl⟩ : ∃ x : Nat, a = (x : Int) := ⟨a.toNat, by omega⟩
  obtain ⟨y, rfl⟩ : ∃ y : Nat, b = (y : Int) := ⟨b.toNat, by omega⟩
  have c1 := List.all_eq_true.mp (List.all_eq_true.mp c x (List.mem_range.mpr (by omega))) y (List.mem_range.mpr (by omega))
  have hxy : (x == y) = false := by
    cases q : (x == y) with
    | false => rfl
    | true => exact absurd (congrArg Int.ofNat (eq_of_beq q)) hab
  rw [hxy, decide_eq_false (by omega : ¬ many k n ≤ (x : Int)), decide_eq_false (by omega : ¬ many k n ≤ (y : Int))] at c1
  exact of_decide_eq_true (by simpa using c1)
end Sv

/-! Calls by what a def is told to keep; == of own classes either way; repr of None: by the verifier. -/
namespace Sv
open PySem PySem.Spec PyProof.Rows L2
/-- the module's name x is a def that keeps sp -/
structure Gd (P : Program) (w : World) (K : PySem.W.Frag) (mg : Str → Option Value) (base : Heap) (x : Str) (ps : List Str) (k : Nat) (sp : Sp) : Prop where
  ex : ∃ (f : Addr) (fd : FuncData), FnOk P w K mg base CX0 k f fd ps sp ∧ mg x = some (.ref f) ∧ PySem.W.keepIn K (.ref f) = true ∧ Binds K fd ps []
/-- the class at C has a method m that keeps sp -/
structure Md (P : Program) (w : World) (K : PySem.W.Frag) (mg : Str → Option Value) (base : Heap) (C : Addr) (m : Str) (ps : List Str) (k : Nat) (sp : Sp) : Prop where
  ex : ∃ (f : Addr) (fd : FuncData), FnOk P w K mg base CX0 k f fd ps sp ∧ Meth K C m f ∧ Binds K fd ps []
/-- the module's name x is a class at C, made by an __init__ that keeps sp -/
structure Cd (P : Program) (w : World) (K : PySem.W.Frag) (mg : Str → Option Value) (base : Heap) (x : Str) (C : Addr) (ps : List Str) (k : Nat) (sp : Sp) : Prop where
  ex : ∃ (f : Addr) (fd : FuncData), FnOk P w K mg base CX0 k f fd ps sp ∧ mg x = some (.ref C) ∧ Mk K C f ∧ Binds K fd ps []
/-- .. called by keywords alone: ks the written names, gV puts self and the values in the parameters' order -/
structure CdK (P : Program) (w : World) (K : PySem.W.Frag) (mg : Str → Option Value) (base : Heap) (x : Str) (C : Addr) (ps ks : List Str) (gV : List V → List V → List V) (k : Nat) (sp : Sp) : Prop where
  ex : ∃ (f : Addr) (fd : FuncData) (g : List Value → List Value → List Value), FnOk P w K mg base CX0 k f fd ps sp ∧ mg x = some (.ref C) ∧ Mk K C f ∧ KBn K fd ps 1 ks g gV
structure GdK (P : Program) (w : World) (K : PySem.W.Frag) (mg : Str → Option Value) (base : Heap) (x : Str) (ps ks : List Str) (gV : List V → List V → List V) (k : Nat) (sp : Sp) : Prop where
  ex : ∃ (f : Addr) (fd : FuncData) (g : List Value → List Value → List Value), FnOk P w K mg base CX0 k f fd ps sp ∧ mg x = some (.ref f) ∧ PySem.W.keepIn K (.ref f) = true ∧ KBn K fd ps 0 ks g gV
section
variable {X : Cx} {k : Nat} {C : Addr} {ps ks : List Str} {sp : Sp} {x m : Str} {p pos apos : Pos} {e o : Expr} {es : List Expr} {kws : List Keyword} {t tk : TA} {ta : TE} {gV : List V → List V → List V}
theorem pe_callG (G : Gd X.prog X.w X.K X.mg X.base x ps k sp) (hr : Room k X.A) (hg : Gl X x)
    (ha : PA X (e :: es) t) (hdb : (x == ("__debug__" : Str)) = false := by decide) (he : starEach (e :: es) X.env = (false, eval e X.env) :: starEach es X.env := by rfl) (hpl : (backTo pos (starEach es X.env)).any (·.1) = false := by rfl) :
    PE X (.Call (.Name x p) (e :: es) [] pos) (tCall sp [] E0 t) := by
  obtain ⟨f, fd, F, gm, kp, b⟩ := G.ex
  exact pe_call F hr hg gm kp b .nil pass0 ha hdb he hpl
theorem pe_methG0 {pl : Sem Bool} (c : Cls X.K C) (M : Md X.prog X.w X.K X.mg X.base C m ps k sp) (hr : Room k X.A) (he : PE X o ta)
    (ht : eval (.Call (.Attribute o m apos) [] [] pos) X.env = (do
      let ov ← eval o X.env
      standAt apos.atName
      let (f, first) ← holding [ov] (getMethod ov m pl)
      callWith pos f first (backTo pos (starEach [] X.env)) (backToKw pos (keywordEach [] X.env))) := by rfl) :
    PE X (.Call (.Attribute o m apos) [] [] pos) (tMeth C m sp [] E0 ta tNil) := by
  obtain ⟨f, fd, F, hm, b⟩ := M.ex
  exact pe_meth0 he c hm F hr b .nil pass0 ht
theorem pe_makeG (G : Cd X.prog X.w X.K X.mg X.base x C ps k sp) (hr : Room (k + 1) X.A) (hg : Gl X x)
    (ha : PA X (e :: es) t) (hdb : (x == ("__debug__" : Str)) = false := by decide) (he : starEach (e :: es) X.env = (false, eval e X.env) :: starEach es X.env := by rfl) (hpl : (backTo pos (starEach es X.env)).any (·.1) = false := by rfl) :
    PE X (.Call (.Name x p) (e :: es) [] pos) (tMake C sp [] E0 t) := by
  obtain ⟨f, fd, F, gm, M, b⟩ := G.ex
  exact pe_make M F hr hg gm b .nil pass0 ha hdb he hpl
theorem pe_makeKG (G : CdK X.prog X.w X.K X.mg X.base x C ps ks gV k sp) (hr : Room (k + 1) X.A) (hg : Gl X x) (hkw : PK X kws tk)
    (hall : (backToKw pos (keywordEach kws X.env)).all (·.1.isSome) = true := by rfl) (hks : (backToKw pos (keywordEach kws X.env)).filterMap (·.1) = ks := by rfl) (hdb : (x == ("__debug__" : Str)) = false := by decide)
    (hpl : ((backTo pos (starEach [] X.env)).any (·.1) || (backToKw pos (keywordEach kws X.env)).any (·.1.isNone)) = false := by rfl) :
    PE X (.Call (.Name x p) [] kws pos) (tMakeK C 0 ks.length sp gV E0 tNil tk) := by
  obtain ⟨f, fd, g, F, gm, M, b⟩ := G.ex
  exact pe_makeK0 M F hr hg gm b pass0 hkw hall hks hdb hpl
/-- f(k = v, ..) -/
theorem pe_callKG (G : GdK X.prog X.w X.K X.mg X.base x ps ks gV k sp) (hr : Room k X.A) (hg : Gl X x) (hkw : PK X kws tk)
    (hall : (backToKw pos (keywordEach kws X.env)).all (·.1.isSome) = true := by rfl) (hks : (backToKw pos (keywordEach kws X.env)).filterMap (·.1) = ks := by rfl) (hdb : (x == ("__debug__" : Str)) = false := by decide)
    (hpl : ((backTo pos (starEach [] X.env)).any (·.1) || (backToKw pos (keywordEach kws X.env)).any (·.1.isNone)) = false := by rfl) :
    PE X (.Call (.Name x p) [] kws pos) (tCallN 0 ks.length sp gV E0 tNil tk) := by
  obtain ⟨f, fd, g, F, gm, kp, b⟩ := G.ex
  refine ⟨fun pins s σ H Q I h => ?_⟩
  refine wpAny_Call_Name_kw (ld_glob I hg gm ?_ hdb)
  refine PySem.W.callWith_KW0 (h₀ := X.base) I.ok.mod.kin kp hall ?_ hpl
  refine thn (hkw.run pos pins s σ H _ I h) fun ws s2 ⟨zs, H2, I2, rz, l1, l2, q2⟩ => ⟨I2.kIn, ?_⟩
  rw [hks]
  exact run_fnN (us := []) (vs := []) F hr b pass0 I2 .nil rz rfl l2 q2
/-- a def's body keeps its promise; nothing is raised -/
theorem okN {P : Program} {w : World} {K : PySem.W.Frag} {mg : Str → Option Value} {base : Heap} {x qual : Str} {params : Arguments} {body : List Stmt} {scope : Scope} {dvs : List V} {kws : List (Str × V)} {f : Addr} {fd : FuncData} {N ps : List Str} {k : Nat} {sp : Sp}
    (F : FunD K x qual params body scope dvs kws f fd) (S : FnScope N ps scope) (len : ∀ vs H Q E, sp vs H Q E → vs.length = ps.length)
    (hbody : ∀ (cdv : Value) (A : Around) (outer : List Env) (s : Shared) (H : Hp) (vs : List V) (Q : VK) (E : XK), Room k (A.deeper (envOfC qual scope s.heap.objs.size f cdv)) → sp vs H Q E →
      ∃ t, PSs (cxOf CX0 P w K mg base N qual scope f cdv A outer s H E).nox body t ∧ t { nx := fun _ H' => Q .non H', rt := Q } (start N vs) H) : FnOk P w K mg base CX0 (k + 1) f fd ps sp :=
  F.ok S len fun cdv A outer s H vs Q E hr h => let ⟨t, p, q⟩ := hbody cdv A outer s H vs Q E hr h; ⟨t, p.nox, q⟩
/-! ### == by an own __eq__, both answers -/
def rOwnEq (K : PySem.W.Frag) (C : Addr) (sp : Sp) : R2 := fun x y H Q => ∃ a b dx fs, x = .ref a ∧ y = .ref b ∧ H a = some (.ins C dx fs) ∧
  ((∃ dy gs, H b = some (.ins C dy gs)) ∨ ((∃ ys, H b = some (.tup ys)) ∧ PySem.W.notFirst K C (.type "tuple") = true)) ∧ sp [x, y] H Q E0
theorem op_own_eq (M : Md X.prog X.w X.K X.mg X.base C "__eq__" ps k sp) (hr : Room k X.A) : OpR X (compareOp .Eq) (rOwnEq X.K C sp) := by
  obtain ⟨f, fd, F, hm, bd⟩ := M.ex
  intro pins s σ H x y v u Q I rx ry h
  obtain ⟨a, b, dx, fs, rfl, rfl, ha, hb, q⟩ := h
  cases (show v = Value.ref a from rx)
  cases (show u = Value.ref b from ry)
  obtain ⟨mA, J, _⟩ := ins_get I.hok ha
  obtain ⟨od, J, _⟩ := J.look
  obtain ⟨m, hF⟩ := I.fr
  have r2 : Vals [V.ref a, V.ref b] [Value.ref a, Value.ref b] := .cons rfl (.cons rfl .nil)
  have run : wpAny (model X.prog X.w) X.A (call (.ref f) [.ref a, .ref b]) (PySem.W.CmpBack (EP X pins σ Q)) X.xe s := by
    refine wpAny_mono (run_fn F hr bd .nil pass0 I r2 q) (fun w s' z => ?_) fun _ _ z => z
    obtain ⟨z', H', I', rz, qz⟩ := z
    exact SlX.cmpback rz ⟨z', H', I', rz, qz⟩
  show wpAny (model X.prog X.w) X.A (richCompare .Eq (.ref a) (.ref b)) (EP X pins σ Q) X.xe s
  rcases hb with ⟨dy, gs, hb⟩ | ⟨⟨ys, hb⟩, hn⟩
  · obtain ⟨mB, J', _⟩ := ins_get I.hok hb
    obtain ⟨od', J', _⟩ := J'.look
    exact PySem.W.cmp_K (op := .Eq) (tb := .ref C) hr.units0 hF I.ok.mod.kin J J'.type (by simp [PySem.W.notFirst]) hm.at_ hm.fn run
  · obtain ⟨_, its, _, o, ho, hc, _⟩ := (show ObjOk X.prog X.w H s.heap b (.tup ys) from I.hok b _ hb)
    exact PySem.W.cmp_K (op := .Eq) (tb := .type "tuple") hr.units0 hF I.ok.mod.kin J (fun A' Q' E' s' k' q' => wpAny_typeOf ⟨o, k' _ _ ho, hc⟩ q') hn hm.at_ hm.fn run
/-! ### repr of a whole number or of None -/
def vOf : Option Nat → V
  | some n => .int n
  | none => .non
def rpr : V → Str
  | .int i => toString i
  | _ => "None"
theorem call_reprN : CallR X (.builtin "repr") (fun xs H Q => ((∃ i, xs = [.int i] ∧ i.natAbs.log2 < 1920) ∨ xs = [.non]) ∧ ∀ z, xs = [z] → Q (.str (rpr z)) H) := by
  intro pins s σ H xs us Q I r h
  obtain ⟨h, q⟩ := h
  rcases h with ⟨i, rfl, hz⟩ | rfl
  · obtain ⟨u, rfl, t, rfl⟩ := vals1 r
    exact PySem.P.repr_of_int hz ⟨.str _, H, I.tok _, ⟨_, rfl⟩, q _ rfl⟩
  · obtain ⟨u, rfl, hu⟩ := vals1 r
    cases (show u = Value.none from hu)
    exact PySem.P.repr_of_none ⟨.str _, H, I.tok _, ⟨_, rfl⟩, q _ rfl⟩
/-! ### ** of great numbers -/
theorem op_powX : OpR X (binaryOp .Pow) (rI (fun i j => 0 ≤ j ∧ (Builtin.Int.intBits i : Int) * j ≤ 2 ^ 27) fun i j => .int (i ^ j.toNat)) := opI fun _ _ _ _ _ _ _ hc q => pow_int hc.1 hc.2 q
end
/-! ### heaps -/
theorem Same.tup {K : PySem.W.Frag} {H H' : Hp} {a : Addr} {xs : List V} (e : Same H H') (h : SqT K H a xs) : SqT K H' a xs := by
  rcases h with (h | ⟨o, h⟩) | h
  · exact .inl (.inl (e _ _ h))
  · exact .inl (.inr ⟨o, e _ _ h⟩)
  · exact .inr h
theorem Same.upd {H : Hp} {p : Addr} {o : HO} (h : H p = none) : Same H (upd H p o) := fun b x e => by
  rw [upd_ne (ne_of_none e h)]
  exact e
/-- all but g is as it was -/
def SameX (g : Addr) (H H' : Hp) : Prop := ∀ b o, H b = some o → b ≠ g → H' b = some o
theorem Same.x {H H' : Hp} (g : Addr) (e : Same H H') : SameX g H H' := fun b o h _ => e b o h
theorem SameX.refl (g : Addr) (H : Hp) : SameX g H H := fun _ _ h _ => h
theorem SameX.trans {g : Addr} {H H1 H2 : Hp} (a : SameX g H H1) (b : SameX g H1 H2) : SameX g H H2 := fun c o h n => b c o (a c o h n) n
theorem SameX.upd {g : Addr} {H : Hp} {o : HO} : SameX g H (L2.upd H g o) := fun b x e n => by
  rw [upd_ne n]
  exact e
theorem SameX.free {g : Addr} {H H' : Hp} {o : HO} (e : SameX g H H') (hg : H g = some o) {l : Addr} {u : HO} (h' : H' g = some u) (h : H' l = none) : H l = none := by
  cases q : H l with
  | none => rfl
  | some x =>
    by_cases hl : l = g
    · rw [hl, h'] at h
      cases h
    · rw [e l x q hl] at h
      cases h
theorem SameX.seq {K : PySem.W.Frag} {g : Addr} {H H' : Hp} {a : Addr} {xs : List V} (e : SameX g H H') (n : a ≠ g) (h : SqL K H a xs) : SqL K H' a xs := by
  rcases h with (h | ⟨o, h⟩) | h
  · exact .inl (.inl (e _ _ h n))
  · exact .inl (.inr ⟨o, e _ _ h n⟩)
  · exact .inr h
theorem SameX.tup {K : PySem.W.Frag} {g : Addr} {H H' : Hp} {a : Addr} {xs : List V} (e : SameX g H H') (n : a ≠ g) (h : SqT K H a xs) : SqT K H' a xs := by
  rcases h with (h | ⟨o, h⟩) | h
  · exact .inl (.inl (e _ _ h n))
  · exact .inl (.inr ⟨o, e _ _ h n⟩)
  · exact .inr h
/-! ### data of whole numbers and texts -/
theorem dp_ints {K : PySem.W.Frag} {H : Hp} : ∀ xs : List Int, DpAll K H (xs.map V.int) (xs.map PyData.int)
  | [] => .nil
  | x :: xs => .cons (.int x) (dp_ints xs)
theorem eqv_ints : ∀ xs ys : List Int, PyData.eqvAll (xs.map PyData.int) (ys.map PyData.int) = decide (xs = ys)
  | [], [] => rfl
  | [], y :: ys => rfl
  | x :: xs, [] => rfl
  | x :: xs, y :: ys => by
    rw [List.map_cons, List.map_cons, PyData.eqvAll, eqv_ints xs ys]
    show ((x == y) && decide (xs = ys)) = decide (x :: xs = y :: ys)
    rw [Bool.eq_iff_iff]
    simp
theorem shaped_ints (xs : List Int) : SeqAt.shaped (.list (xs.map PyData.int)) = true := PySem.W.ke_shaped_ints xs
end Sv

namespace Sv
open PySem PySem.Spec PyProof.Rows L2
/-! ### the text by places -/
def top (i : Nat) : Stmt := PySem.Challenge.pw_seamlayers_k02_orders_told_apart.main.body.getD i (.Pass ⟨0, 0, 0, 0⟩)
abbrev s_InvalidKind___init__ : Stmt := inClass (top 3) 0
abbrev s_InvalidOrder___init__ : Stmt := inClass (top 4) 0
abbrev s_InvalidNumber___init__ : Stmt := inClass (top 5) 0
abbrev s_Kind___init__ : Stmt := inClass (top 11) 0
abbrev s_Kind___eq__ : Stmt := inClass (top 11) 1
abbrev s_Kind_name : Stmt := inClass (top 11) 2
abbrev s_Kind_size : Stmt := inClass (top 11) 3
abbrev s_Kind_steps : Stmt := inClass (top 11) 4
abbrev s_Kind_start : Stmt := inClass (top 11) 5
abbrev s_is_whole : Stmt := top 7
abbrev s_are_whole : Stmt := top 8
abbrev s_check_kind : Stmt := top 12
abbrev s_count_crossings : Stmt := top 15
abbrev s_has_order_form : Stmt := top 16
abbrev s_is_told_order : Stmt := top 17
abbrev s_check_orders : Stmt := top 19
abbrev s_is_order : Stmt := top 21
abbrev s_crossings : Stmt := top 22
abbrev s__law_hash : Stmt := top 24
abbrev s__law_random : Stmt := top 25
abbrev s__law_cell : Stmt := top 26
abbrev s__law_generator : Stmt := top 27
abbrev s__law_kind : Stmt := top 28
abbrev s__law_many : Stmt := top 29
abbrev s__law_start : Stmt := top 30
abbrev s__law_item : Stmt := top 31
abbrev s__law_turned : Stmt := top 32
abbrev s__law_stepped : Stmt := top 33
abbrev s__law_is_crossed : Stmt := top 34
abbrev s__law_falls : Stmt := top 35
abbrev s__law_least : Stmt := top 36
abbrev s__law_made : Stmt := top 37
abbrev s__law_crossings : Stmt := top 38
abbrev s__law_row : Stmt := top 39
abbrev s__law_is_order : Stmt := top 40
abbrev s__law_bent : Stmt := top 41
abbrev s__law_right : Stmt := top 42
abbrev s_law : Stmt := top 43
abbrev FnP (K : PySem.W.Frag) (x qual : Str) (st : Stmt) (f : Addr) (fd : FuncData) : Prop := FunD K x qual (defArgs st) (defBody st) (defScope st) [] [] f fd
theorem sc_InvalidKind___init__ : FnScope ["self", "value"] ["self", "value"] (defScope s_InvalidKind___init__) := ⟨rfl, rfl, rfl, by decide +kernel, rfl, by decide +kernel, by decide +kernel⟩
theorem sc_InvalidOrder___init__ : FnScope ["self", "value"] ["self", "value"] (defScope s_InvalidOrder___init__) := ⟨rfl, rfl, rfl, by decide +kernel, rfl, by decide +kernel, by decide +kernel⟩
theorem sc_InvalidNumber___init__ : FnScope ["self", "value"] ["self", "value"] (defScope s_InvalidNumber___init__) := ⟨rfl, rfl, rfl, by decide +kernel, rfl, by decide +kernel, by decide +kernel⟩
theorem sc_Kind___init__ : FnScope ["self", "name", "size", "least", "most"] ["self", "name", "size"] (defScope s_Kind___init__) := ⟨rfl, rfl, rfl, by decide +kernel, rfl, by decide +kernel, by decide +kernel⟩
theorem sc_Kind___eq__ : FnScope ["self", "other"] ["self", "other"] (defScope s_Kind___eq__) := ⟨rfl, rfl, rfl, by decide +kernel, rfl, by decide +kernel, by decide +kernel⟩
theorem sc_Kind_name : FnScope ["self"] ["self"] (defScope s_Kind_name) := ⟨rfl, rfl, rfl, by decide +kernel, rfl, by decide +kernel, by decide +kernel⟩
theorem sc_Kind_size : FnScope ["self"] ["self"] (defScope s_Kind_size) := ⟨rfl, rfl, rfl, by decide +kernel, rfl, by decide +kernel, by decide +kernel⟩
theorem sc_Kind_steps : FnScope ["self"] ["self"] (defScope s_Kind_steps) := ⟨rfl, rfl, rfl, by decide +kernel, rfl, by decide +kernel, by decide +kernel⟩
theorem sc_Kind_start : FnScope ["self"] ["self"] (defScope s_Kind_start) := ⟨rfl, rfl, rfl, by decide +kernel, rfl, by decide +kernel, by decide +kernel⟩
theorem sc_is_whole : FnScope ["value"] ["value"] (defScope s_is_whole) := ⟨rfl, rfl, rfl, by decide +kernel, rfl, by decide +kernel, by decide +kernel⟩
theorem sc_are_whole : FnScope ["values", "value"] ["values"] (defScope s_are_whole) := ⟨rfl, rfl, rfl, by decide +kernel, rfl, by decide +kernel, by decide +kernel⟩
theorem sc_check_kind : FnScope ["kind"] ["kind"] (defScope s_check_kind) := ⟨rfl, rfl, rfl, by decide +kernel, rfl, by decide +kernel, by decide +kernel⟩
theorem sc_count_crossings : FnScope ["kind", "order", "name", "size", "many", "first", "second", "item"] ["kind", "order"] (defScope s_count_crossings) := ⟨rfl, rfl, rfl, by decide +kernel, rfl, by decide +kernel, by decide +kernel⟩
theorem sc_has_order_form : FnScope ["kind", "value", "size", "name", "item"] ["kind", "value"] (defScope s_has_order_form) := ⟨rfl, rfl, rfl, by decide +kernel, rfl, by decide +kernel, by decide +kernel⟩
theorem sc_is_told_order : FnScope ["kind", "value"] ["kind", "value"] (defScope s_is_told_order) := ⟨rfl, rfl, rfl, by decide +kernel, rfl, by decide +kernel, by decide +kernel⟩
theorem sc_check_orders : FnScope ["kind", "orders", "order"] ["kind", "orders"] (defScope s_check_orders) := ⟨rfl, rfl, rfl, by decide +kernel, rfl, by decide +kernel, by decide +kernel⟩
theorem sc_is_order : FnScope ["kind", "value"] ["kind", "value"] (defScope s_is_order) := ⟨rfl, rfl, rfl, by decide +kernel, rfl, by decide +kernel, by decide +kernel⟩
theorem sc_crossings : FnScope ["kind", "order"] ["kind", "order"] (defScope s_crossings) := ⟨rfl, rfl, rfl, by decide +kernel, rfl, by decide +kernel, by decide +kernel⟩
theorem sc__law_hash : FnScope ["_law_seed", "_law_index", "_law_mixed"] ["_law_seed", "_law_index"] (defScope s__law_hash) := ⟨rfl, rfl, rfl, by decide +kernel, rfl, by decide +kernel, by decide +kernel⟩
theorem sc__law_random : FnScope ["_law_generator_here", "_law_bound", "_law_drawn", "_law_turn"] ["_law_generator_here", "_law_bound"] (defScope s__law_random) := ⟨rfl, rfl, rfl, by decide +kernel, rfl, by decide +kernel, by decide +kernel⟩
theorem sc__law_cell : FnScope ["_law_script", "_law_index"] ["_law_script", "_law_index"] (defScope s__law_cell) := ⟨rfl, rfl, rfl, by decide +kernel, rfl, by decide +kernel, by decide +kernel⟩
theorem sc__law_generator : FnScope ["_law_script", "_law_index", "_law_seed"] ["_law_script", "_law_index"] (defScope s__law_generator) := ⟨rfl, rfl, rfl, by decide +kernel, rfl, by decide +kernel, by decide +kernel⟩
theorem sc__law_kind : FnScope ["_law_generator_here", "_law_name", "_law_size", "_law_great", "_law_chosen"] ["_law_generator_here"] (defScope s__law_kind) := ⟨rfl, rfl, rfl, by decide +kernel, rfl, by decide +kernel, by decide +kernel⟩
theorem sc__law_many : FnScope ["_law_told"] ["_law_told"] (defScope s__law_many) := ⟨rfl, rfl, rfl, by decide +kernel, rfl, by decide +kernel, by decide +kernel⟩
theorem sc__law_start : FnScope ["_law_told"] ["_law_told"] (defScope s__law_start) := ⟨rfl, rfl, rfl, by decide +kernel, rfl, by decide +kernel, by decide +kernel⟩
theorem sc__law_item : FnScope ["_law_told", "_law_order", "_law_place"] ["_law_told", "_law_order", "_law_place"] (defScope s__law_item) := ⟨rfl, rfl, rfl, by decide +kernel, rfl, by decide +kernel, by decide +kernel⟩
theorem sc__law_turned : FnScope ["_law_told", "_law_step", "_law_place", "_law_apart"] ["_law_told", "_law_step", "_law_place"] (defScope s__law_turned) := ⟨rfl, rfl, rfl, by decide +kernel, rfl, by decide +kernel, by decide +kernel⟩
theorem sc__law_stepped : FnScope ["_law_told", "_law_order", "_law_step", "_law_place"] ["_law_told", "_law_order", "_law_step"] (defScope s__law_stepped) := ⟨rfl, rfl, rfl, by decide +kernel, rfl, by decide +kernel, by decide +kernel⟩
theorem sc__law_is_crossed : FnScope ["_law_told", "_law_order", "_law_step", "_law_low"] ["_law_told", "_law_order", "_law_step"] (defScope s__law_is_crossed) := ⟨rfl, rfl, rfl, by decide +kernel, rfl, by decide +kernel, by decide +kernel⟩
theorem sc__law_falls : FnScope ["_law_told", "_law_order", "_law_step"] ["_law_told", "_law_order"] (defScope s__law_falls) := ⟨rfl, rfl, rfl, by decide +kernel, rfl, by decide +kernel, by decide +kernel⟩
theorem sc__law_least : FnScope ["_law_told", "_law_order", "_law_found", "_law_left", "_law_steps"] ["_law_told", "_law_order"] (defScope s__law_least) := ⟨rfl, rfl, rfl, by decide +kernel, rfl, by decide +kernel, by decide +kernel⟩
theorem sc__law_made : FnScope ["_law_told", "_law_row_here", "_law_found", "_law_step"] ["_law_told", "_law_row_here"] (defScope s__law_made) := ⟨rfl, rfl, rfl, by decide +kernel, rfl, by decide +kernel, by decide +kernel⟩
theorem sc__law_crossings : FnScope ["_law_told", "_law_order"] ["_law_told", "_law_order"] (defScope s__law_crossings) := ⟨rfl, rfl, rfl, by decide +kernel, rfl, by decide +kernel, by decide +kernel⟩
theorem sc__law_row : FnScope ["_law_generator_here", "_law_told", "_law_most", "_law_turn"] ["_law_generator_here", "_law_told", "_law_most"] (defScope s__law_row) := ⟨rfl, rfl, rfl, by decide +kernel, rfl, by decide +kernel, by decide +kernel⟩
theorem sc__law_is_order : FnScope ["_law_told", "_law_value", "_law_size", "_law_item_here"] ["_law_told", "_law_value"] (defScope s__law_is_order) := ⟨rfl, rfl, rfl, by decide +kernel, rfl, by decide +kernel, by decide +kernel⟩
theorem sc__law_bent : FnScope ["_law_generator_here", "_law_told", "_law_order", "_law_at", "_law_by", "_law_size", "_law_changed", "_law_found", "_law_moved", "_law_turned_here", "_law_less", "_law_item_here", "_law_place"] ["_law_generator_here", "_law_told", "_law_order"] (defScope s__law_bent) := ⟨rfl, rfl, rfl, by decide +kernel, rfl, by decide +kernel, by decide +kernel⟩
theorem sc__law_right : FnScope ["_law_generator_here", "_law_told", "_law_kind_here", "_law_order", "_law_value", "_law_kept"] ["_law_generator_here"] (defScope s__law_right) := ⟨rfl, rfl, rfl, by decide +kernel, rfl, by decide +kernel, by decide +kernel⟩
theorem sc_law : FnScope ["_law_script", "_law_index", "_law_ring", "_law_size", "_law_value"] ["_law_script"] (defScope s_law) := ⟨rfl, rfl, rfl, by decide +kernel, rfl, by decide +kernel, by decide +kernel⟩
/-- what the module's names are -/
structure Tx (K : PySem.W.Frag) (mg : Str → Option Value) : Prop where
  m_int : mg "int" = none
  m_str : mg "str" = none
  m_bool : mg "bool" = none
  m_range : mg "range" = none
  m_list : mg "list" = none
  m_abs : mg "abs" = none
  m_max : mg "max" = none
  m_min : mg "min" = none
  m_sum : mg "sum" = none
  m_len : mg "len" = none
  m_repr : mg "repr" = none
  m_isinstance : mg "isinstance" = none
  m_all : mg "all" = none
  m_sorted : mg "sorted" = none
  m_enumerate : mg "enumerate" = none
  m_tuple : mg "tuple" = none
  m_reversed : mg "reversed" = none
section
variable {P : Program} {w : World} {K : PySem.W.Frag} {mg : Str → Option Value} {base : Heap} {f : Addr} {fd : FuncData}
/-! ### drawing -/
def spHash : Sp := fun vs H Q _ => ∃ a b : Int, vs = [.int a, .int b] ∧ (-(2 ^ 64) < b ∧ b < 2 ^ 64) ∧ ∀ z : Int, Q (.int z) H
theorem ok_hash (T : Tx K mg) (F : FnP K "_law_hash" "_law_hash" s__law_hash f fd) : FnOk P w K mg base CX0 1 f fd ["_law_seed", "_law_index"] spHash := by
  refine okN F sc__law_hash (fun vs H Q E h => ?_) (fun cdv A outer s H vs Q E hr h => ?_)
  · obtain ⟨a, b, rfl, _⟩ := h
    rfl
  · obtain ⟨a, b, rfl, hb, q⟩ := h
    refine ⟨_, (pss_cons (ps_set (i := 2) sc__law_hash.nd rfl (by first | exact Or.inl rfl | exact Or.inr rfl) (pe_op op_mod (pe_callTy call_int1 (by rfl) T.m_int (by decide +kernel) (pa_cons (pe_op op_add (pe_op op_add (pe_op op_add (pe_op op_mul (pv 0) pe_int) (pe_op op_mul (pe_op op_mul pe_int (pv 1)) (pv 1))) (pe_op op_mul pe_int (pv 1))) pe_int) pa_nil)) pe_int))
      (pss_cons (ps_set (i := 2) sc__law_hash.nd rfl (by first | exact Or.inl rfl | exact Or.inr rfl) (pe_op op_mod (pe_callTy call_int1 (by rfl) T.m_int (by decide +kernel) (pa_cons (pe_op op_add (pe_op op_add (pe_op op_mul (pv 2) (pv 2)) (pe_op op_mul pe_int (pv 1))) pe_int) pa_nil)) pe_int))
      (pss_one (ps_ret (pe_op op_mod (pe_callTy call_int1 (by rfl) T.m_int (by decide +kernel) (pa_cons (pe_op op_mul (pv 2) pe_int) pa_nil)) pe_int))))), ?_⟩
    refine ⟨_, rfl, _, _, rfl, rfl, .inr ⟨by decide, by decide⟩, _, rfl, _, _, rfl, rfl, .inl ⟨by decide, by decide⟩, _, rfl, _, _, rfl, rfl, .inr hb, _, _, rfl, rfl, _, rfl, _, _, rfl, rfl, .inl ⟨by decide, by decide⟩, _, _, rfl, rfl, _, _, rfl, rfl, .inl ⟨_, rfl, ?_⟩⟩
    refine ⟨_, _, rfl, rfl, (by show (0 : Int) < 2147483629; decide), ?_⟩
    have h1 := Int.emod_nonneg (a * 1140671 + 27644437 * b * b + 131 * b + 19) (by decide : (2147483629 : Int) ≠ 0)
    have h2 := Int.emod_lt_of_pos (a * 1140671 + 27644437 * b * b + 131 * b + 19) (by decide : (0 : Int) < 2147483629)
    refine ⟨_, rfl, _, rfl, _, _, rfl, rfl, .inl ⟨by omega, by omega⟩, _, rfl, _, _, rfl, rfl, .inl ⟨by decide, by decide⟩, _, _, rfl, rfl, _, _, rfl, rfl, .inl ⟨_, rfl, ?_⟩⟩
    refine ⟨_, _, rfl, rfl, (by show (0 : Int) < 2147483587; decide), ?_⟩
    refine ⟨_, rfl, _, _, rfl, rfl, .inr ⟨by decide, by decide⟩, .inl ⟨_, rfl, ?_⟩⟩
    refine ⟨_, _, rfl, rfl, (by show (0 : Int) < 2147483647; decide), ?_⟩
    exact q _
/-- a generator stands at g: its first number a, the second b, the third c -/
def GenAt (H : Hp) (g : Addr) (a b c : Int) : Prop := H g = some (.lst [.int a, .int b, .int c])
def spRandom : Sp := fun vs H Q _ => ∃ (g : Addr) (a b c n : Int), vs = [.ref g, .int n] ∧ GenAt H g a b c ∧ (0 < n ∧ n < 2 ^ 29) ∧ (0 ≤ c ∧ c ≤ 1000000) ∧
  ∀ (r a' c' : Int) (H' : Hp), 0 ≤ r → r < n → 0 ≤ c' → c' ≤ c + 1 → GenAt H' g a' b c' → SameX g H H' → Q (.int r) H'
theorem bits_small {n : Int} (h0 : 0 < n) (h1 : n < 2 ^ 29) : (1 : Int) + ((Builtin.Int.intBits n : Nat) : Int) / 30 = 1 := by
  have h : Builtin.Int.intBits n ≤ 29 := intBits_le (by omega)
  omega
theorem ok_random (T : Tx K mg) (F : FnP K "_law_random" "_law_random" s__law_random f fd) (c_law_hash : Gd P w K mg base "_law_hash" ["_law_seed", "_law_index"] 1 spHash) : FnOk P w K mg base CX0 2 f fd ["_law_generator_here", "_law_bound"] spRandom := by
  refine okN F sc__law_random (fun vs H Q E h => ?_) (fun cdv A outer s H vs Q E hr h => ?_)
  · obtain ⟨g, a, b, c, n, rfl, _⟩ := h
    rfl
  · obtain ⟨g, a, b, c, n, rfl, hg, ⟨n0, n1⟩, ⟨c0, c1⟩, q⟩ := h
    refine ⟨_, (pss_cons (ps_if (pt_cmpR op_gt (pe_ix ix_list (pv 0) pe_int (fun _ _ => rfl)) pe_int (nomark _)) (pss_cons (ps_set (i := 2) sc__law_random.nd rfl (by first | exact Or.inl rfl | exact Or.inr rfl) (pe_op op_mod (pe_callTy call_int1 (by rfl) T.m_int (by decide +kernel) (pa_cons (pe_ix ix_list (pv 0) pe_int (fun _ _ => rfl)) pa_nil)) (pv 1)))
      (pss_cons (ps_asg (pe_op op_fdiv (pe_ix ix_list (pv 0) pe_int (fun _ _ => rfl)) (pv 1)) (pg_sub (pv 0) pe_int set_list))
      (pss_one (ps_ret (pv 2))))) pss_nil)
      (pss_cons (ps_set (i := 2) sc__law_random.nd rfl (by first | exact Or.inl rfl | exact Or.inr rfl) pe_int)
      (pss_cons (ps_for PassesOwn.never rfl (pi_range1 (by rfl) T.m_range (pa_cons (pe_op op_add pe_int (pe_op op_fdiv (pe_bits (pv 1)) pe_int)) pa_nil)) (pg_name (i := 3) sc__law_random.nd rfl (Or.inl rfl)) (pss_cons (ps_asg (pe_op op_add (pe_ix ix_list (pv 0) pe_int (fun _ _ => rfl)) pe_int) (pg_sub (pv 0) pe_int set_list))
      (pss_one (ps_set (i := 2) sc__law_random.nd rfl (by first | exact Or.inl rfl | exact Or.inr rfl) (pe_op op_add (pe_op op_mul (pv 2) pe_int) (pe_callG c_law_hash (hr.mono (by decide)) (by rfl) (pa_cons (pe_ix ix_list (pv 0) pe_int (fun _ _ => rfl)) (pa_cons (pe_ix ix_list (pv 0) pe_int (fun _ _ => rfl)) pa_nil))))))))
      (pss_one (ps_ret (pe_op op_mod (pe_callTy call_int1 (by rfl) T.m_int (by decide +kernel) (pa_cons (pv 2) pa_nil)) (pv 1))))))), ?_⟩
    have hL : SqL K H g [.int a, .int b, .int c] := SqL.of hg
    refine ⟨_, rfl, g, _, 0, _, rfl, rfl, hL, atI_nat (j := 0) rfl, _, _, rfl, rfl, _, rfl, ?_⟩
    refine ite2 (fun hpos => ?_) (fun hneg => ?_)
    · refine ⟨_, rfl, g, _, 0, _, rfl, rfl, hL, atI_nat (j := 0) rfl, .inl ⟨_, rfl, ?_⟩⟩
      refine ⟨_, rfl, _, _, rfl, rfl, n0, ?_⟩
      refine ⟨_, rfl, g, _, 0, _, rfl, rfl, hL, atI_nat (j := 0) rfl, _, rfl, _, _, rfl, rfl, ⟨n0, by omega⟩, ?_⟩
      refine ⟨_, rfl, g, _, 0, 0, rfl, rfl, hg, rfl, ?_⟩
      refine ⟨_, rfl, ?_⟩
      exact q (a % n) (a / n) c _ (Int.emod_nonneg _ (by omega)) (Int.emod_lt_of_pos _ n0) c0 (by omega) upd_same SameX.upd
    · refine ⟨_, rfl, _, rfl, _, _, rfl, rfl, ⟨by decide, by decide⟩, _, _, rfl, rfl, 1, (by show [V.int (1 + ((Builtin.Int.intBits n : Nat) : Int) / 30)] = _; rw [bits_small n0 n1]), by decide, by decide, ?_⟩
      refine for_range (n := 1) (fun i σ H2 => ∃ (d : Int) (v : Option V), σ = [some (.ref g), some (.int n), some (.int d), v] ∧ GenAt H2 g a b (c + (i : Int)) ∧ SameX g H H2) ⟨0, none, rfl, (by show H g = _; rw [hg]; simp), SameX.refl g H⟩ ?_ ?_
      · rintro i σ H2 hi ⟨d, v, rfl, hg2, sx⟩
        refine ⟨_, rfl, g, _, 2, _, rfl, rfl, SqL.of hg2, atI_nat (j := 2) rfl, _, _, rfl, rfl, ?_⟩
        refine ⟨_, rfl, g, _, 2, 2, rfl, rfl, hg2, rfl, ?_⟩
        refine ⟨_, rfl, _, _, rfl, rfl, .inr ⟨by decide, by decide⟩, ?_⟩
        refine ⟨_, rfl, g, _, 1, _, rfl, rfl, SqL.of upd_same, atI_nat (j := 1) rfl, _, rfl, g, _, 2, _, rfl, rfl, SqL.of upd_same, atI_nat (j := 2) rfl, _, _, rfl, ⟨by omega, by omega⟩, fun z => ?_⟩
        refine ⟨_, _, rfl, rfl, ?_⟩
        refine ⟨_, _, rfl, ?_, sx.trans SameX.upd⟩
        show L2.upd H2 g _ g = _
        rw [upd_same]
        have e : c + (i : Int) + 1 = c + ((i + 1 : Nat) : Int) := by omega
        rw [← e]
        rfl
      · rintro σ H2 ⟨d, v, rfl, hg2, sx⟩
        refine ⟨_, rfl, .inl ⟨_, rfl, ?_⟩⟩
        refine ⟨_, rfl, _, _, rfl, rfl, n0, ?_⟩
        exact q (d % n) a _ H2 (Int.emod_nonneg _ (by omega)) (Int.emod_lt_of_pos _ n0) (by omega) (by omega) hg2 sx
/-! ### the script's cells, the generator -/
def spCell (K : PySem.W.Frag) : Sp := fun vs H Q _ => ∃ (a : Addr) (ns : List Int) (i : Nat), vs = [.ref a, .int i] ∧ SqL K H a (ns.map V.int) ∧ ∀ (z : Int) (H' : Hp), Same H H' → Q (.int z) H'
theorem cut_one (ns : List Int) : cutV (ns.map V.int) none (some 1) = (ns.take 1).map V.int := by
  unfold cutV
  rw [show HT.sIx (ns.map V.int).length (ns.map V.int).length (some 1) = min 1 (ns.map V.int).length from HT.sIx_nat _ _ 1, HT.sIx_none]
  cases ns with
  | nil => rfl
  | cons x r =>
    rw [show min 1 (List.map V.int (x :: r)).length = 1 by simp]
    rfl
theorem ok_cell (T : Tx K mg) (F : FnP K "_law_cell" "_law_cell" s__law_cell f fd) : FnOk P w K mg base CX0 1 f fd ["_law_script", "_law_index"] (spCell K) := by
  refine okN F sc__law_cell (fun vs H Q E h => ?_) (fun cdv A outer s H vs Q E hr h => ?_)
  · obtain ⟨a, ns, i, rfl, _⟩ := h
    rfl
  · obtain ⟨a, ns, i, rfl, hS, q⟩ := h
    refine ⟨_, (pss_cons (ps_if (pt_cmpR op_lt (pv 1) (pe_callB call_len_seq (by rfl) T.m_len (by decide +kernel) (pa_cons (pv 0) pa_nil)) (nomark _)) (pss_one (ps_ret (pe_ix ix_list (pv 0) (pv 1) (fun _ _ => rfl)))) pss_nil)
      (pss_one (ps_ret (pe_op op_mod (pe_callB (cr_sum rfl) (by rfl) T.m_sum (by decide +kernel) (pa_cons (pe_slice sl_list (pv 0) po_none (po_some pe_int)) pa_nil)) pe_int)))), ?_⟩
    refine ⟨_, rfl, _, rfl, a, _, rfl, .inl hS, _, _, rfl, rfl, _, rfl, ?_⟩
    refine ite2 (fun hlt => ?_) (fun hge => ?_)
    · have hi : i < ns.length := by
        have := of_decide_eq_true hlt
        rw [List.length_map] at this
        omega
      refine ⟨_, rfl, _, rfl, a, _, (i : Int), .int ns[i], rfl, rfl, hS, atI_nat (j := i) ?_, q _ _ (Same.refl _)⟩
      rw [List.getElem?_map, List.getElem?_eq_getElem hi]
      rfl
    · refine ⟨_, rfl, 1, rfl, a, _, rfl, hS, fun p np => ?_⟩
      refine ⟨p, ns.take 1, rfl, SqL.of (by rw [upd_same, cut_one]), ?_⟩
      refine ⟨_, _, rfl, rfl, (by show (0 : Int) < 1000003; decide), ?_⟩
      exact q _ _ (Same.upd np)
def spGen (K : PySem.W.Frag) : Sp := fun vs H Q _ => ∃ (s : Addr) (ns : List Int) (i : Nat), vs = [.ref s, .int i] ∧ SqL K H s (ns.map V.int) ∧ i ≤ 10 ∧
  ∀ (g : Addr) (a b : Int) (H' : Hp), H g = none → Same H H' → GenAt H' g a b (1000 * (i : Int)) → Q (.ref g) H'
theorem ok_generator (T : Tx K mg) (F : FnP K "_law_generator" "_law_generator" s__law_generator f fd) (c_law_cell : Gd P w K mg base "_law_cell" ["_law_script", "_law_index"] 1 (spCell K)) : FnOk P w K mg base CX0 2 f fd ["_law_script", "_law_index"] (spGen K) := by
  refine okN F sc__law_generator (fun vs H Q E h => ?_) (fun cdv A outer s H vs Q E hr h => ?_)
  · obtain ⟨a, ns, i, rfl, _⟩ := h
    rfl
  · obtain ⟨a, ns, i, rfl, hS, hi, q⟩ := h
    refine ⟨_, (pss_cons (ps_set (i := 2) sc__law_generator.nd rfl (by first | exact Or.inl rfl | exact Or.inr rfl) (pe_callG c_law_cell (hr.mono (by decide)) (by rfl) (pa_cons (pv 0) (pa_cons (pv 1) pa_nil))))
      (pss_one (ps_ret (pe_lst (pa_cons (pe_op op_mod (pe_callTy call_int1 (by rfl) T.m_int (by decide +kernel) (pa_cons (pe_callB (call_max2 rfl) (by rfl) T.m_max (by decide +kernel) (pa_cons (pe_op op_sub (pv 2) (pe_op op_powX pe_int pe_int)) (pa_cons pe_int pa_nil))) pa_nil)) (pe_op op_powX (pe_op op_powX pe_int pe_int) pe_int)) (pa_cons (pe_op op_mod (pe_callTy call_int1 (by rfl) T.m_int (by decide +kernel) (pa_cons (pv 2) pa_nil)) pe_int) (pa_cons (pe_op op_mul pe_int (pv 1)) pa_nil))))))), ?_⟩
    refine ⟨_, rfl, _, rfl, a, ns, i, rfl, hS, fun z H1 s1 => ?_⟩
    refine ⟨_, rfl, 10, 18, rfl, rfl, ⟨by decide, by decide +kernel⟩, _, _, rfl, rfl, _, _, rfl, .inl ⟨_, rfl, ?_⟩⟩
    refine ⟨10, 60, rfl, rfl, ⟨by decide, by decide +kernel⟩, _, 10, rfl, rfl, ⟨by decide, by decide +kernel⟩, _, _, rfl, rfl, (by show (0 : Int) < (10 ^ (Int.toNat 60)) ^ (Int.toNat 10); decide +kernel), ?_⟩
    refine ⟨_, rfl, .inl ⟨_, rfl, ?_⟩⟩
    refine ⟨_, _, rfl, rfl, (by show (0 : Int) < 2147483647; decide), _, rfl, _, _, rfl, rfl, .inl ⟨by decide, by decide⟩, (by show 3 ≤ sizeLine; decide), fun g ng => ?_⟩
    exact q g _ _ _ (s1.free ng) (s1.trans (Same.upd ng)) upd_same
/-! ### a kind drawn -/
/-- the tuple of a kind's name and size -/
def Told (K : PySem.W.Frag) (H : Hp) (t : Addr) (k : Nm) (n : Nat) : Prop := SqT K H t [.str k.s, .int (n : Int)]
def spKind : Sp := fun vs H Q _ => ∃ (g : Addr) (a b c : Int), vs = [.ref g] ∧ GenAt H g a b c ∧ (0 ≤ c ∧ c ≤ 900000) ∧
  ∀ (t : Addr) (k : Nm) (n : Nat) (a' c' : Int) (H' : Hp), okK k n = true → 0 ≤ c' → c' ≤ c + 6 → GenAt H' g a' b c' → SameX g H H' → H t = none → t ≠ g → H' t = some (.tup [.str k.s, .int (n : Int)]) → Q (.ref t) H'
def names3 : List V := [.str "plain", .str "mirror", .str "ring"]
theorem nm_of {r : Int} (h0 : 0 ≤ r) (h1 : r < 3) : ∃ k : Nm, atI names3 r = some (.str k.s) := by
  have : r = 0 ∨ r = 1 ∨ r = 2 := by omega
  rcases this with rfl | rfl | rfl
  · exact ⟨.pl, rfl⟩
  · exact ⟨.mi, rfl⟩
  · exact ⟨.ri, rfl⟩
def nmIx : Nm → Nat | .pl => 0 | .mi => 1 | .ri => 2
theorem nm_ix (k : Nm) : names3[nmIx k]? = some (.str k.s) := by cases k <;> rfl
theorem nm_first (k : Nm) : ∀ (m : Nat) (z : V), m < nmIx k → names3[m]? = some z → eqV z (.str k.s) = false := by
  intro m z hm hz
  cases k with
  | pl => cases hm
  | mi =>
    have e : m = 0 := by
      have : nmIx .mi = 1 := rfl
      omega
    subst e
    have ez : z = .str "plain" := (Option.some.inj hz).symm
    subst ez
    decide +kernel
  | ri =>
    have e : m = 0 ∨ m = 1 := by
      have : nmIx .ri = 2 := rfl
      omega
    rcases e with rfl | rfl
    · have ez : z = .str "plain" := (Option.some.inj hz).symm
      subst ez
      decide +kernel
    · have ez : z = .str "mirror" := (Option.some.inj hz).symm
      subst ez
      decide +kernel
theorem eqV_self (x : Str) : eqV (.str x) (.str x) = true := by
  show (x == x) = true
  exact beq_self_eq_true x
theorem size_of (k : Nm) {x1 x2 x3 : Int} (h1 : 1 ≤ x1 ∧ x1 ≤ 7) (h2 : 1 ≤ x2 ∧ x2 ≤ 5) (h3 : 2 ≤ x3 ∧ x3 ≤ 5) : ∃ n : Nat, ([.int x1, .int x2, .int x3] : List V)[nmIx k]? = some (.int (n : Int)) ∧ okK k n = true := by
  cases k with
  | pl =>
    refine ⟨x1.toNat, ?_, decide_eq_true (by omega)⟩
    rw [Int.toNat_of_nonneg (by omega)]
    rfl
  | mi =>
    refine ⟨x2.toNat, ?_, decide_eq_true (by omega)⟩
    rw [Int.toNat_of_nonneg (by omega)]
    rfl
  | ri =>
    refine ⟨x3.toNat, ?_, decide_eq_true (by omega)⟩
    rw [Int.toNat_of_nonneg (by omega)]
    rfl
theorem GenAt.upd {H : Hp} {g : Addr} {a b c : Int} (h : GenAt H g a b c) {p : Addr} {o : HO} (n : H p = none) : GenAt (L2.upd H p o) g a b c := by
  show L2.upd H p o g = _
  rw [upd_ne (ne_of_none h n)]
  exact h
theorem ok_kind (T : Tx K mg) (F : FnP K "_law_kind" "_law_kind" s__law_kind f fd) (c_law_random : Gd P w K mg base "_law_random" ["_law_generator_here", "_law_bound"] 2 spRandom) : FnOk P w K mg base CX0 3 f fd ["_law_generator_here"] spKind := by
  refine okN F sc__law_kind (fun vs H Q E h => ?_) (fun cdv A outer s H vs Q E hr h => ?_)
  · obtain ⟨g, a, b, c, rfl, _⟩ := h
    rfl
  · obtain ⟨g, a, b, c, rfl, hg, ⟨c0, c1⟩, q⟩ := h
    refine ⟨_, (pss_cons (ps_set (i := 1) sc__law_kind.nd rfl (by first | exact Or.inl rfl | exact Or.inr rfl) (pe_ix ix_list (pe_lst (pa_cons pe_str (pa_cons pe_str (pa_cons pe_str pa_nil)))) (pe_callG c_law_random (hr.mono (by decide)) (by rfl) (pa_cons (pv 0) (pa_cons pe_int pa_nil))) (fun _ _ => rfl)))
      (pss_cons (ps_set (i := 2) sc__law_kind.nd rfl (by first | exact Or.inl rfl | exact Or.inr rfl) (pe_lst (pa_cons (pe_op op_add pe_int (pe_callG c_law_random (hr.mono (by decide)) (by rfl) (pa_cons (pv 0) (pa_cons pe_int pa_nil)))) (pa_cons (pe_op op_add pe_int (pe_callG c_law_random (hr.mono (by decide)) (by rfl) (pa_cons (pv 0) (pa_cons pe_int pa_nil)))) (pa_cons (pe_op op_add pe_int (pe_callG c_law_random (hr.mono (by decide)) (by rfl) (pa_cons (pv 0) (pa_cons pe_int pa_nil)))) pa_nil)))))
      (pss_cons (ps_set (i := 3) sc__law_kind.nd rfl (by first | exact Or.inl rfl | exact Or.inr rfl) (pe_lst (pa_cons (pe_op op_add pe_int (pe_callG c_law_random (hr.mono (by decide)) (by rfl) (pa_cons (pv 0) (pa_cons pe_int pa_nil)))) (pa_cons pe_int (pa_cons pe_int pa_nil)))))
      (pss_cons (ps_set (i := 4) sc__law_kind.nd rfl (by first | exact Or.inl rfl | exact Or.inr rfl) (pe_ifExp (pt_cmpR op_eq (pe_callG c_law_random (hr.mono (by decide)) (by rfl) (pa_cons (pv 0) (pa_cons pe_int pa_nil))) pe_int (nomark _)) (pv 3) (pv 2)))
      (pss_one (ps_ret (pe_tup (pa_cons (pv 1) (pa_cons (pe_ix ix_list (pv 4) (pe_bm PySem.F.plainAttrs_list PySem.F.slot_list_index PySem.F.type_list_index mt_index (pe_lst (pa_cons pe_str (pa_cons pe_str (pa_cons pe_str pa_nil)))) (pa_cons (pv 1) pa_nil)) (fun _ _ => rfl)) pa_nil))))))))), ?_⟩
    -- the name
    refine ⟨(by show 3 ≤ sizeLine; decide), fun l1 n1 => ?_⟩
    have f0 : Same H (L2.upd H l1 (.lst names3)) := Same.upd n1
    refine ⟨_, rfl, g, a, b, c, 3, rfl, hg.upd n1, ⟨by decide, by decide⟩, ⟨c0, by omega⟩, fun r1 a1 c2 H1 p0 p1 p2 p3 g1 x1 => ?_⟩
    have l1g : l1 ≠ g := (ne_of_none hg n1).symm
    obtain ⟨k, hk⟩ := nm_of p0 p1
    have e1 : H1 l1 = some (.lst names3) := x1 _ _ upd_same l1g
    refine ⟨l1, names3, r1, .str k.s, rfl, rfl, SqL.of e1, hk, ?_⟩
    have s1 : SameX g H H1 := (Same.x g f0).trans x1
    -- the sizes
    refine ⟨_, rfl, g, a1, b, c2, 5, rfl, g1, ⟨by decide, by decide⟩, ⟨p2, by omega⟩, fun r2 a2 c3 H2 q0 q1 q2 q3 g2 x2 => ?_⟩
    refine ⟨_, _, rfl, rfl, _, rfl, g, a2, b, c3, 4, rfl, g2, ⟨by decide, by decide⟩, ⟨q2, by omega⟩, fun r3 a3 c4 H3 t0 t1 t2 t3 g3 x3 => ?_⟩
    refine ⟨_, _, rfl, rfl, _, rfl, g, a3, b, c4, 3, rfl, g3, ⟨by decide, by decide⟩, ⟨t2, by omega⟩, fun r4 a4 c5 H4 u0 u1 u2 u3 g4 x4 => ?_⟩
    refine ⟨_, _, rfl, rfl, (by show 3 ≤ sizeLine; decide), fun l2 n2 => ?_⟩
    have s4 : SameX g H H4 := ((s1.trans x2).trans x3).trans x4
    -- the great ones
    refine ⟨_, rfl, g, a4, b, c5, 2, rfl, g4.upd n2, ⟨by decide, by decide⟩, ⟨u2, by omega⟩, fun r5 a5 c6 H5 v0 v1 v2 v3 g5 x5 => ?_⟩
    refine ⟨_, _, rfl, rfl, (by show 3 ≤ sizeLine; decide), fun l3 n3 => ?_⟩
    have l2g : l2 ≠ g := (ne_of_none g4 n2).symm
    have e2 : H5 l2 = some (.lst [.int (1 + r2), .int (1 + r3), .int (2 + r4)]) := x5 _ _ upd_same l2g
    have s5 : SameX g H H5 := (s4.trans (Same.x g (Same.upd n2))).trans x5
    have l3g : l3 ≠ g := (ne_of_none g5 n3).symm
    -- which
    refine ⟨_, rfl, g, a5, b, c6, 8, rfl, g5.upd n3, ⟨by decide, by decide⟩, ⟨v2, by omega⟩, fun r6 a6 c7 H6 w0 w1 w2 w3 g6 x6 => ?_⟩
    have s6 : SameX g H H6 := (s5.trans (Same.x g (Same.upd n3))).trans x6
    have e3 : H6 l3 = some (.lst [.int (6 + r5), .int 5, .int 5]) := x6 _ _ upd_same l3g
    have e2' : H6 l2 = some (.lst [.int (1 + r2), .int (1 + r3), .int (2 + r4)]) := x6 _ _ (by rw [upd_ne (ne_of_none e2 n3)]; exact e2) l2g
    refine ⟨rfl, _, rfl, ite2 (fun _ => ?_) (fun _ => ?_)⟩
    · obtain ⟨n, hn, hok⟩ := size_of k (x1 := 6 + r5) (x2 := 5) (x3 := 5) ⟨by omega, by omega⟩ ⟨by omega, by omega⟩ ⟨by omega, by omega⟩
      refine ⟨_, rfl, _, rfl, _, rfl, (by show 3 ≤ sizeLine; decide), fun l5 n5 => ?_⟩
      refine ⟨.inl ⟨rfl, _, SqL.of upd_same⟩, _, rfl, l5, names3, .str k.s, nmIx k, .str k.s, rfl, rfl, SqL.of upd_same, rfl, rfl, nm_ix k, eqV_self _, nm_first k, ?_⟩
      refine ⟨l3, _, _, _, rfl, rfl, SqL.of (by rw [upd_ne (ne_of_none e3 n5)]; exact e3), atI_nat hn, (by show 2 ≤ sizeLine; decide), fun t nt => ?_⟩
      have g7 : GenAt (L2.upd H6 l5 (.lst names3)) g a6 b c7 := g6.upd n5
      have s7 : SameX g H (L2.upd H6 l5 (.lst names3)) := s6.trans (Same.x g (Same.upd n5))
      exact q t k n a6 c7 _ hok w2 (by omega) (g7.upd nt) (s7.trans (Same.x g (Same.upd nt))) (s7.free hg g7 nt) (ne_of_none g7 nt).symm upd_same
    · obtain ⟨n, hn, hok⟩ := size_of k (x1 := 1 + r2) (x2 := 1 + r3) (x3 := 2 + r4) ⟨by omega, by omega⟩ ⟨by omega, by omega⟩ ⟨by omega, by omega⟩
      refine ⟨_, rfl, _, rfl, _, rfl, (by show 3 ≤ sizeLine; decide), fun l5 n5 => ?_⟩
      refine ⟨.inl ⟨rfl, _, SqL.of upd_same⟩, _, rfl, l5, names3, .str k.s, nmIx k, .str k.s, rfl, rfl, SqL.of upd_same, rfl, rfl, nm_ix k, eqV_self _, nm_first k, ?_⟩
      refine ⟨l2, _, _, _, rfl, rfl, SqL.of (by rw [upd_ne (ne_of_none e2' n5)]; exact e2'), atI_nat hn, (by show 2 ≤ sizeLine; decide), fun t nt => ?_⟩
      have g7 : GenAt (L2.upd H6 l5 (.lst names3)) g a6 b c7 := g6.upd n5
      have s7 : SameX g H (L2.upd H6 l5 (.lst names3)) := s6.trans (Same.x g (Same.upd n5))
      exact q t k n a6 c7 _ hok w2 (by omega) (g7.upd nt) (s7.trans (Same.x g (Same.upd nt))) (s7.free hg g7 nt) (ne_of_none g7 nt).symm upd_same
end
end Sv

namespace Sv
open PySem PySem.Spec PyProof.Rows L2
section
variable {P : Program} {w : World} {K : PySem.W.Frag} {mg : Str → Option Value} {base : Heap} {f : Addr} {fd : FuncData}
theorem qI {Q : VK} {i j : Int} {H : Hp} (h : Q (.int j) H) (e : i = j) : Q (.int i) H := by
  subst e
  exact h
theorem qB {Q : VK} {i j : Bool} {H : Hp} (h : Q (.bl j) H) (e : i = j) : Q (.bl i) H := by
  subst e
  exact h
theorem is_mi {k : Nm} (h : decide (V.str k.s = V.str "mirror") = true) : k = .mi := by rw [s_mi] at h; exact of_decide_eq_true h
theorem not_mi {k : Nm} (h : ¬ decide (V.str k.s = V.str "mirror") = true) : k ≠ .mi := fun e => h (by rw [s_mi, e]; rfl)
theorem off_dec (k : Nm) : (if decide (V.str k.s = V.str "mirror") = true then (1 : Int) else 0) = off k := by
  rw [s_mi]
  cases k <;> rfl
theorem many_dec (k : Nm) (n : Nat) : (n : Int) - (if decide (V.str k.s = V.str "plain") = true then (1 : Int) else 0) = many k n := by
  rw [s_pl]
  cases k <;> rfl
theorem rg_start (k : Nm) (n : Nat) : rgV (off k) ((n : Int) + off k) = (startL k n).map V.int := by
  unfold rgV startL
  rw [List.map_map]
  have e : ((n : Int) + off k - off k).toNat = n := by omega
  rw [e]
  rfl
theorem map_getD {ws : List Int} {i : Nat} (h : i < ws.length) : (ws.map V.int)[i]? = some (.int (ws.getD i 0)) := by
  rw [List.getElem?_map, List.getD_eq_getElem?_getD, List.getElem?_eq_getElem h]
  rfl
theorem abs_eq (p : Int) : (if p < 0 then -p else p) = (p.natAbs : Int) := by split <;> omega
def spMany (K : PySem.W.Frag) : Sp := fun vs H Q _ => ∃ (t : Addr) (k : Nm) (n : Nat), vs = [.ref t] ∧ Told K H t k n ∧ Q (.int (many k n)) H
theorem ok_many (T : Tx K mg) (F : FnP K "_law_many" "_law_many" s__law_many f fd) : FnOk P w K mg base CX0 1 f fd ["_law_told"] (spMany K) := by
  refine okN F sc__law_many (fun vs H Q E h => ?_) (fun cdv A outer s H vs Q E hr h => ?_)
  · obtain ⟨t, k, n, rfl, _⟩ := h
    rfl
  · obtain ⟨t, k, n, rfl, hT, q⟩ := h
    refine ⟨_, (pss_one (ps_ret (pe_op op_sub (pe_ix ix_tup (pv 0) pe_int (fun _ _ => rfl)) (pe_callTy call_int1 (by rfl) T.m_int (by decide +kernel) (pa_cons (pe_cmpR op_eq (pe_ix ix_tup (pv 0) pe_int (fun _ _ => rfl)) pe_str (nomark _)) pa_nil))))), ?_⟩
    refine ⟨_, rfl, t, _, 1, _, rfl, rfl, hT, atI_nat (j := 1) rfl, _, rfl, t, _, 0, _, rfl, rfl, hT, atI_nat (j := 0) rfl, rfl, .inr ⟨_, rfl, _, _, rfl, rfl, ?_⟩⟩
    exact qI q (many_dec k n)
def spStart (K : PySem.W.Frag) : Sp := fun vs H Q _ => ∃ (t : Addr) (k : Nm) (n : Nat), vs = [.ref t] ∧ Told K H t k n ∧ n ≤ 100 ∧ ∀ q, H q = none → Q (.ref q) (L2.upd H q (.lst ((startL k n).map V.int)))
theorem ok_start (T : Tx K mg) (F : FnP K "_law_start" "_law_start" s__law_start f fd) : FnOk P w K mg base CX0 1 f fd ["_law_told"] (spStart K) := by
  refine okN F sc__law_start (fun vs H Q E h => ?_) (fun cdv A outer s H vs Q E hr h => ?_)
  · obtain ⟨t, k, n, rfl, _⟩ := h
    rfl
  · obtain ⟨t, k, n, rfl, hT, hn, q⟩ := h
    refine ⟨_, (pss_one (ps_ret (pe_listRg rfl (by rfl) T.m_list (prg_2 (by rfl) T.m_range (pe_callTy call_int1 (by rfl) T.m_int (by decide +kernel) (pa_cons (pe_cmpR op_eq (pe_ix ix_tup (pv 0) pe_int (fun _ _ => rfl)) pe_str (nomark _)) pa_nil)) (pe_op op_add (pe_ix ix_tup (pv 0) pe_int (fun _ _ => rfl)) (pe_callTy call_int1 (by rfl) T.m_int (by decide +kernel) (pa_cons (pe_cmpR op_eq (pe_ix ix_tup (pv 0) pe_int (fun _ _ => rfl)) pe_str (nomark _)) pa_nil))))))), ?_⟩
    refine ⟨_, rfl, t, _, 0, _, rfl, rfl, hT, atI_nat (j := 0) rfl, rfl, .inr ⟨_, rfl, _, rfl, t, _, 1, _, rfl, rfl, hT, atI_nat (j := 1) rfl, _, rfl, t, _, 0, _, rfl, rfl, hT, atI_nat (j := 0) rfl, rfl, .inr ⟨_, rfl, _, _, rfl, rfl, _, _, rfl, rfl, ?_, fun l nl => ?_⟩⟩⟩
    · have e := off_dec k
      have h0 : 0 ≤ off k ∧ off k ≤ 1 := by unfold off; split <;> omega
      rw [e]
      exact RgOk.of_le h0.1 (by omega) (by omega) (by omega)
    · have e := off_dec k
      rw [e, rg_start]
      exact q l nl
def spItem (K : PySem.W.Frag) : Sp := fun vs H Q _ => ∃ (t o : Addr) (p : Int) (k : Nm) (n : Nat) (ws : List Int), vs = [.ref t, .ref o, .int p] ∧ Told K H t k n ∧ SqL K H o (ws.map V.int) ∧ ws.length = n ∧ 1 ≤ n ∧ okP k n p ∧ Q (.int (item k n ws p)) H
theorem ok_item (T : Tx K mg) (F : FnP K "_law_item" "_law_item" s__law_item f fd) : FnOk P w K mg base CX0 1 f fd ["_law_told", "_law_order", "_law_place"] (spItem K) := by
  refine okN F sc__law_item (fun vs H Q E h => ?_) (fun cdv A outer s H vs Q E hr h => ?_)
  · obtain ⟨t, o, p, k, n, ws, rfl, _⟩ := h
    rfl
  · obtain ⟨t, o, p, k, n, ws, rfl, hT, hO, hl, hn, hp, q⟩ := h
    refine ⟨_, (pss_cons (ps_if (pt_cmpR op_eq (pe_ix ix_tup (pv 0) pe_int (fun _ _ => rfl)) pe_str (nomark _)) (pss_one (ps_ret (pe_op op_mul (pe_ix ix_list (pv 1) (pe_op op_sub (pe_callB call_abs (by rfl) T.m_abs (by decide +kernel) (pa_cons (pv 2) pa_nil)) pe_int) (fun _ _ => rfl)) (pe_ifExp (pt_cmpR op_gt (pv 2) pe_int (nomark _)) pe_int (pe_un un_neg pe_int))))) pss_nil)
      (pss_one (ps_ret (pe_op op_sub (pe_op op_add (pe_ix ix_list (pv 1) (pe_op op_mod (pe_callTy call_int1 (by rfl) T.m_int (by decide +kernel) (pa_cons (pv 2) pa_nil)) (pe_ix ix_tup (pv 0) pe_int (fun _ _ => rfl))) (fun _ _ => rfl)) (pv 2)) (pe_op op_mod (pe_callTy call_int1 (by rfl) T.m_int (by decide +kernel) (pa_cons (pv 2) pa_nil)) (pe_ix ix_tup (pv 0) pe_int (fun _ _ => rfl))))))), ?_⟩
    refine ⟨_, rfl, t, _, 0, _, rfl, rfl, hT, atI_nat (j := 0) rfl, rfl, _, rfl, ite2 (fun hk => ?_) (fun hk => ?_)⟩
    · have ek := is_mi hk
      subst ek
      obtain ⟨p0, p1⟩ := hp rfl
      have hi : p.natAbs - 1 < ws.length := by omega
      refine ⟨_, rfl, _, rfl, _, rfl, _, _, rfl, rfl, o, _, _, _, rfl, rfl, hO, at_of ?_ (map_getD hi), _, rfl, _, _, rfl, rfl, _, rfl, ite2 (fun hp => ?_) (fun hp => ?_)⟩
      · rw [abs_eq]
        omega
      · refine ⟨_, _, rfl, rfl, .inr ⟨by decide, by decide⟩, qI q ?_⟩
        rw [item_mi, sg_pos (of_decide_eq_true hp)]
      · refine ⟨_, rfl, _, _, rfl, rfl, .inr ⟨by decide, by decide⟩, qI q ?_⟩
        have : ¬ (0 : Int) < p := fun z => hp (decide_eq_true z)
        rw [item_mi, sg_neg (by omega)]
    · have ek := not_mi hk
      have hn' : (0 : Int) < (n : Int) := by omega
      have hm1 : 0 ≤ p % (n : Int) := Int.emod_nonneg p (by omega)
      have hm2 : p % (n : Int) < (n : Int) := Int.emod_lt_of_pos p hn'
      have hi : (p % (n : Int)).toNat < ws.length := by omega
      refine ⟨_, rfl, _, rfl, .inl ⟨_, rfl, _, rfl, t, _, 1, _, rfl, rfl, hT, atI_nat (j := 1) rfl, _, _, rfl, rfl, hn', o, _, _, _, rfl, rfl, hO, at_of (Int.toNat_of_nonneg hm1).symm (map_getD hi), _, rfl, _, _, rfl, rfl, _, rfl, .inl ⟨_, rfl, _, rfl, t, _, 1, _, rfl, rfl, hT, atI_nat (j := 1) rfl, _, _, rfl, rfl, hn', _, _, rfl, rfl, qI q ?_⟩⟩⟩
      rw [item_nm ek]
def spTurned (K : PySem.W.Frag) : Sp := fun vs H Q _ => ∃ (t : Addr) (s p : Int) (k : Nm) (n : Nat), vs = [.ref t, .int s, .int p] ∧ Told K H t k n ∧ 1 ≤ n ∧ ∀ H', Same H H' → Q (.int (turned k n s p)) H'
theorem ok_turned (T : Tx K mg) (F : FnP K "_law_turned" "_law_turned" s__law_turned f fd) : FnOk P w K mg base CX0 1 f fd ["_law_told", "_law_step", "_law_place"] (spTurned K) := by
  refine okN F sc__law_turned (fun vs H Q E h => ?_) (fun cdv A outer s H vs Q E hr h => ?_)
  · obtain ⟨t, s, p, k, n, rfl, _⟩ := h
    rfl
  · obtain ⟨t, z, p, k, n, rfl, hT, hn, q⟩ := h
    refine ⟨_, (pss_cons (ps_if (pt_cmpR op_eq (pe_ix ix_tup (pv 0) pe_int (fun _ _ => rfl)) pe_str (nomark _)) (pss_cons (ps_if (pt_cmpR op_eq (pv 1) pe_int (nomark _)) (pss_one (ps_ret (pe_ifExp (pt_cmpR op_eq (pe_callB call_abs (by rfl) T.m_abs (by decide +kernel) (pa_cons (pv 2) pa_nil)) pe_int (nomark _)) (pe_un un_neg (pv 2)) (pv 2)))) pss_nil)
      (pss_cons (ps_if (pt_cmpR op_in_seq (pe_callB call_abs (by rfl) T.m_abs (by decide +kernel) (pa_cons (pv 2) pa_nil)) (pe_lst (pa_cons (pv 1) (pa_cons (pe_op op_add (pv 1) pe_int) pa_nil))) (by with_unfolding_all rfl)) (pss_one (ps_ret (pe_op op_mul (pe_op op_sub (pe_op op_add (pe_op op_mul pe_int (pv 1)) pe_int) (pe_callB call_abs (by rfl) T.m_abs (by decide +kernel) (pa_cons (pv 2) pa_nil))) (pe_ifExp (pt_cmpR op_gt (pv 2) pe_int (nomark _)) pe_int (pe_un un_neg pe_int))))) pss_nil)
      (pss_one (ps_ret (pv 2))))) pss_nil)
      (pss_cons (ps_set (i := 3) sc__law_turned.nd rfl (by first | exact Or.inl rfl | exact Or.inr rfl) (pe_op op_mod (pe_callTy call_int1 (by rfl) T.m_int (by decide +kernel) (pa_cons (pe_op op_sub (pv 2) (pv 1)) pa_nil)) (pe_ix ix_tup (pv 0) pe_int (fun _ _ => rfl))))
      (pss_one (ps_ret (pe_ifExp (pt_cmpR op_eq (pv 3) pe_int (nomark _)) (pe_op op_add (pv 2) pe_int) (pe_ifExp (pt_cmpR op_eq (pv 3) pe_int (nomark _)) (pe_op op_sub (pv 2) pe_int) (pv 2))))))), ?_⟩
    refine ⟨_, rfl, t, _, 0, _, rfl, rfl, hT, atI_nat (j := 0) rfl, rfl, _, rfl, ite2 (fun hk => ?_) (fun hk => ?_)⟩
    · have ek := is_mi hk
      subst ek
      have q' := q H (Same.refl H)
      refine ⟨_, rfl, rfl, _, rfl, ite2 (fun h0 => ?_) (fun h0 => ?_)⟩
      · have e0 : z = 0 := V.int.inj (of_decide_eq_true h0)
        refine ⟨_, rfl, _, rfl, rfl, _, rfl, ite2 (fun h1 => ?_) (fun h1 => ?_)⟩
        · have e1 : (if p < 0 then -p else p) = 1 := V.int.inj (of_decide_eq_true h1)
          rw [abs_eq] at e1
          refine ⟨_, rfl, _, rfl, qI q' ?_⟩
          rw [turned_mi, if_pos e0, if_pos (by omega)]
        · have e1 : ¬ (if p < 0 then -p else p) = 1 := fun e => h1 (decide_eq_true (congrArg V.int e))
          rw [abs_eq] at e1
          refine ⟨_, rfl, qI q' ?_⟩
          rw [turned_mi, if_pos e0, if_neg (by omega)]
      · have e0 : ¬ z = 0 := fun e => h0 (decide_eq_true (congrArg V.int e))
        refine ⟨_, rfl, _, rfl, _, rfl, _, rfl, _, _, rfl, rfl, (by show 2 ≤ sizeLine; decide), fun l nl => ?_⟩
        refine ⟨l, _, rfl, .inl (SqL.of upd_same), rfl, rfl, _, rfl, ite2 (fun h1 => ?_) (fun h1 => ?_)⟩
        · have e1 : ((z == (if p < 0 then -p else p)) || ((z + 1 == (if p < 0 then -p else p)) || false)) = true := h1
          have e2 : (p.natAbs : Int) = z ∨ (p.natAbs : Int) = z + 1 := by
            rw [abs_eq] at e1
            simp at e1
            omega
          refine ⟨_, rfl, _, _, rfl, rfl, .inl ⟨by decide, by decide⟩, _, _, rfl, rfl, _, rfl, _, rfl, _, _, rfl, rfl, _, rfl, _, _, rfl, rfl, _, rfl, ite2 (fun hp => ?_) (fun hp => ?_)⟩
          · refine ⟨_, _, rfl, rfl, .inr ⟨by decide, by decide⟩, qI (q _ (Same.upd nl)) ?_⟩
            rw [turned_mi, if_neg e0, if_pos e2, sg_pos (of_decide_eq_true hp), abs_eq]
          · refine ⟨_, rfl, _, _, rfl, rfl, .inr ⟨by decide, by decide⟩, qI (q _ (Same.upd nl)) ?_⟩
            have : ¬ (0 : Int) < p := fun z => hp (decide_eq_true z)
            rw [turned_mi, if_neg e0, if_pos e2, abs_eq]
            unfold sg
            rw [if_neg this]
        · have e1 : ¬ ((z == (if p < 0 then -p else p)) || ((z + 1 == (if p < 0 then -p else p)) || false)) = true := h1
          have e2 : ¬ ((p.natAbs : Int) = z ∨ (p.natAbs : Int) = z + 1) := by
            rw [abs_eq] at e1
            simp at e1
            omega
          refine ⟨_, rfl, qI (q _ (Same.upd nl)) ?_⟩
          rw [turned_mi, if_neg e0, if_neg e2]
    · have ek := not_mi hk
      have q' := q H (Same.refl H)
      have hn' : (0 : Int) < (n : Int) := by omega
      refine ⟨_, rfl, _, rfl, _, _, rfl, rfl, .inl ⟨_, rfl, _, rfl, t, _, 1, _, rfl, rfl, hT, atI_nat (j := 1) rfl, _, _, rfl, rfl, hn', ?_⟩⟩
      refine ⟨_, rfl, rfl, _, rfl, ite2 (fun h0 => ?_) (fun h0 => ?_)⟩
      · have e0 : (p - z) % (n : Int) = 0 := V.int.inj (of_decide_eq_true h0)
        refine ⟨_, rfl, _, _, rfl, rfl, qI q' ?_⟩
        rw [turned_nm ek, if_pos e0]
      · have e0 : ¬ (p - z) % (n : Int) = 0 := fun e => h0 (decide_eq_true (congrArg V.int e))
        refine ⟨_, rfl, rfl, _, rfl, ite2 (fun h1 => ?_) (fun h1 => ?_)⟩
        · have e1 : (p - z) % (n : Int) = 1 := V.int.inj (of_decide_eq_true h1)
          refine ⟨_, rfl, _, _, rfl, rfl, qI q' ?_⟩
          rw [turned_nm ek, if_neg e0, if_pos e1]
        · have e1 : ¬ (p - z) % (n : Int) = 1 := fun e => h1 (decide_eq_true (congrArg V.int e))
          refine ⟨_, rfl, qI q' ?_⟩
          rw [turned_nm ek, if_neg e0, if_neg e1]
def spStepped (K : PySem.W.Frag) : Sp := fun vs H Q _ => ∃ (t o : Addr) (s : Int) (k : Nm) (n : Nat) (ws : List Int), vs = [.ref t, .ref o, .int s] ∧ Told K H t k n ∧ SqL K H o (ws.map V.int) ∧ ws.length = n ∧ okK k n = true ∧ okS k n s ∧
  ∀ (q : Addr) (H' : Hp), Same H H' → H q = none → H' q = some (.lst ((stepped k n ws s).map V.int)) → Q (.ref q) H'
theorem ok_stepped (T : Tx K mg) (F : FnP K "_law_stepped" "_law_stepped" s__law_stepped f fd) (c_law_start : Gd P w K mg base "_law_start" ["_law_told"] 1 (spStart K))
    (c_law_item : Gd P w K mg base "_law_item" ["_law_told", "_law_order", "_law_place"] 1 (spItem K)) (c_law_turned : Gd P w K mg base "_law_turned" ["_law_told", "_law_step", "_law_place"] 1 (spTurned K)) :
    FnOk P w K mg base CX0 2 f fd ["_law_told", "_law_order", "_law_step"] (spStepped K) := by
  refine okN F sc__law_stepped (fun vs H Q E h => ?_) (fun cdv A outer s H vs Q E hr h => ?_)
  · obtain ⟨t, o, s, k, n, ws, rfl, _⟩ := h
    rfl
  · obtain ⟨t, o, z, k, n, ws, rfl, hT, hO, hl, hK, hs, q⟩ := h
    have hn := okK_le hK
    refine ⟨_, (pss_one (ps_ret (pe_lc (own := [(("_law_place" : Str), 3)]) (g := (gName 3)) (tt := tYes) rfl sc__law_stepped.nd (pi_list (pe_callG c_law_start (hr.mono (by decide)) (by rfl) (pa_cons (pv 0) pa_nil))) (blkOk_by (own := [(("_law_place" : Str), 3)]) (N := ["_law_told", "_law_order", "_law_step", "_law_place"]) (sc := defScope s__law_stepped) (by decide +kernel)) (fun _ _ _ _ _ => (pg_name (i := 3) sc__law_stepped.nd rfl (Or.inl rfl))) (fun _ _ _ _ _ => pts_nil) (fun _ _ _ _ _ => (pe_callG c_law_item (hr.mono (by decide)) (by rfl) (pa_cons (pv 0) (pa_cons (pv 1) (pa_cons (pe_callG c_law_turned (hr.mono (by decide)) (by rfl) (pa_cons (pv 0) (pa_cons (pv 2) (pa_cons (pv 3) pa_nil)))) pa_nil)))))))), ?_⟩
    refine ⟨_, rfl, t, k, n, rfl, hT, by omega, fun l nl => ?_⟩
    refine ⟨l, rfl, ⟨_, SqL.of upd_same⟩, fun D nD => ?_⟩
    have f0 : Same H (L2.upd H l (.lst ((startL k n).map V.int))) := Same.upd nl
    refine lc_list (K := K) (a := l) (xs := (startL k n).map V.int) (fun i H2 => H2 D = some (.lst (((stepped k n ws z).take i).map V.int)) ∧ Same (L2.upd H l (.lst ((startL k n).map V.int))) H2) ⟨upd_same, Same.upd nD⟩ (fun i H2 _ h2 => h2.2.seq (SqL.of upd_same)) ?_ ?_
    · rintro i x H2 hi ⟨hD, s2⟩
      have hin : i < n := by
        have := (List.getElem?_eq_some_iff.mp hi).1
        rw [List.length_map, startL_len] at this
        exact this
      rw [List.getElem?_map, startL_get k n i hin] at hi
      have ex : x = .int (off k + (i : Int)) := (Option.some.inj hi).symm
      subst ex
      have hp : okP k n (off k + (i : Int)) := startL_okP (List.mem_of_getElem? (startL_get k n i hin))
      refine ⟨rfl, ?_⟩
      refine ⟨_, rfl, _, rfl, _, rfl, _, rfl, _, rfl, t, z, _, k, n, rfl, Same.tup (f0.trans s2) hT, hn.1, fun H3 s3 => ?_⟩
      refine ⟨t, o, _, k, n, ws, rfl, Same.tup ((f0.trans s2).trans s3) hT, ((f0.trans s2).trans s3).seq hO, hl, hn.1, turned_ok hs hp, ?_⟩
      refine ⟨_, s3 _ _ hD, ?_, ?_, fun b y e => ?_⟩
      · rw [List.length_map, List.length_take]
        exact Nat.lt_of_le_of_lt (Nat.min_le_left _ _) (small1000 (by omega))
      · rw [upd_same]
        have g : (stepped k n ws z)[i]? = some (item k n ws (turned k n z (off k + (i : Int)))) := by
          unfold stepped
          rw [List.getElem?_map, startL_get k n i hin]
          rfl
        rw [List.take_add_one, g, List.map_append]
        rfl
      · rw [upd_ne (ne_of_none e nD)]
        exact s3 _ _ (s2 _ _ e)
    · rintro H2 ⟨hD, s2⟩
      rw [List.length_map, startL_len, List.take_of_length_le (by rw [stepped_len]; omega)] at hD
      exact q D H2 (f0.trans s2) (f0.free nD) hD
def spCrossed (K : PySem.W.Frag) : Sp := fun vs H Q _ => ∃ (t o : Addr) (s : Int) (k : Nm) (n : Nat) (ws : List Int), vs = [.ref t, .ref o, .int s] ∧ Told K H t k n ∧ SqL K H o (ws.map V.int) ∧ ws.length = n ∧ okK k n = true ∧ okS k n s ∧
  ∀ (H' : Hp), Same H H' → Q (.bl (crossed k n ws s)) H'
theorem ok_crossed (T : Tx K mg) (F : FnP K "_law_is_crossed" "_law_is_crossed" s__law_is_crossed f fd)
    (c_law_item : Gd P w K mg base "_law_item" ["_law_told", "_law_order", "_law_place"] 1 (spItem K)) (c_law_turned : Gd P w K mg base "_law_turned" ["_law_told", "_law_step", "_law_place"] 1 (spTurned K)) :
    FnOk P w K mg base CX0 2 f fd ["_law_told", "_law_order", "_law_step"] (spCrossed K) := by
  refine okN F sc__law_is_crossed (fun vs H Q E h => ?_) (fun cdv A outer s H vs Q E hr h => ?_)
  · obtain ⟨t, o, s, k, n, ws, rfl, _⟩ := h
    rfl
  · obtain ⟨t, o, z, k, n, ws, rfl, hT, hO, hl, hK, hs, q⟩ := h
    have hn := okK_le hK
    refine ⟨_, (pss_cons (ps_set (i := 3) sc__law_is_crossed.nd rfl (by first | exact Or.inl rfl | exact Or.inr rfl) (pe_ifExp (pt_cmpR op_ne (pe_ix ix_tup (pv 0) pe_int (fun _ _ => rfl)) pe_str (nomark _)) (pv 2) (pe_ifExp (pt_cmpR op_gt (pv 2) pe_int (nomark _)) (pv 2) (pe_un un_neg pe_int))))
      (pss_one (ps_ret (pe_cmpR op_gt (pe_callG c_law_item (hr.mono (by decide)) (by rfl) (pa_cons (pv 0) (pa_cons (pv 1) (pa_cons (pv 3) pa_nil)))) (pe_callG c_law_item (hr.mono (by decide)) (by rfl) (pa_cons (pv 0) (pa_cons (pv 1) (pa_cons (pe_callG c_law_turned (hr.mono (by decide)) (by rfl) (pa_cons (pv 0) (pa_cons (pv 2) (pa_cons (pv 3) pa_nil)))) pa_nil)))) (nomark _))))), ?_⟩
    refine ⟨_, rfl, t, _, 0, _, rfl, rfl, hT, atI_nat (j := 0) rfl, rfl, _, rfl, ite2 (fun hk => ?_) (fun hk => ?_)⟩
    · have ek : k ≠ .mi := by
        intro e
        subst e
        exact absurd hk (by decide +kernel)
      have el : z = low k z := by unfold low; rw [if_neg ek]
      refine ⟨_, rfl, ?_⟩
      have hp : okP k n z := by have := low_okP hs; rw [← el] at this; exact this
      refine ⟨_, rfl, _, rfl, _, rfl, t, o, z, k, n, ws, rfl, hT, hO, hl, hn.1, hp, ?_⟩
      refine ⟨_, rfl, _, rfl, _, rfl, _, rfl, _, rfl, t, z, z, k, n, rfl, hT, hn.1, fun H3 s3 => ?_⟩
      refine ⟨t, o, _, k, n, ws, rfl, Same.tup s3 hT, s3.seq hO, hl, hn.1, turned_ok hs hp, _, _, rfl, rfl, qB (q H3 s3) ?_⟩
      unfold crossed
      rw [← el]
    · have ek : k = .mi := by
        cases k with
        | mi => rfl
        | pl => exact absurd (by decide +kernel) hk
        | ri => exact absurd (by decide +kernel) hk
      subst ek
      refine ⟨_, rfl, _, _, rfl, rfl, _, rfl, ite2 (fun hz => ?_) (fun hz => ?_)⟩
      · have el : z = low .mi z := (if_pos (of_decide_eq_true hz)).symm
        refine ⟨_, rfl, ?_⟩
        have hp : okP .mi n z := by have := low_okP hs; rw [← el] at this; exact this
        refine ⟨_, rfl, _, rfl, _, rfl, t, o, z, .mi, n, ws, rfl, hT, hO, hl, hn.1, hp, ?_⟩
        refine ⟨_, rfl, _, rfl, _, rfl, _, rfl, _, rfl, t, z, z, .mi, n, rfl, hT, hn.1, fun H3 s3 => ?_⟩
        refine ⟨t, o, _, .mi, n, ws, rfl, Same.tup s3 hT, s3.seq hO, hl, hn.1, turned_ok hs hp, _, _, rfl, rfl, qB (q H3 s3) ?_⟩
        unfold crossed
        rw [← el]
      · have el : -1 = low .mi z := (if_neg (fun h => hz (decide_eq_true h))).symm
        refine ⟨_, rfl, ?_⟩
        have hp : okP .mi n (-1) := by have := low_okP hs; rw [← el] at this; exact this
        refine ⟨_, rfl, _, rfl, _, rfl, t, o, -1, .mi, n, ws, rfl, hT, hO, hl, hn.1, hp, ?_⟩
        refine ⟨_, rfl, _, rfl, _, rfl, _, rfl, _, rfl, t, z, -1, .mi, n, rfl, hT, hn.1, fun H3 s3 => ?_⟩
        refine ⟨t, o, _, .mi, n, ws, rfl, Same.tup s3 hT, s3.seq hO, hl, hn.1, turned_ok hs hp, _, _, rfl, rfl, qB (q H3 s3) ?_⟩
        unfold crossed
        rw [← el]
end
end Sv

namespace Sv
open PySem PySem.Spec PyProof.Rows L2
section
variable {P : Program} {w : World} {K : PySem.W.Frag} {mg : Str → Option Value} {base : Heap} {f : Addr} {fd : FuncData}
theorem many_nn {k : Nm} {n : Nat} (hK : okK k n = true) : 0 ≤ many k n ∧ many k n ≤ 7 := by
  have := okK_le hK
  unfold many
  split <;> omega
theorem Same.gen {H H' : Hp} {g : Addr} {a b c : Int} (s : L2.Same H H') (h : GenAt H g a b c) : GenAt H' g a b c := s _ _ h
def spRow (K : PySem.W.Frag) : Sp := fun vs H Q _ => ∃ (g t : Addr) (a b c : Int) (k : Nm) (n m : Nat), vs = [.ref g, .ref t, .int (m : Int)] ∧ GenAt H g a b c ∧ (0 ≤ c ∧ c ≤ 800000) ∧ Told K H t k n ∧ t ≠ g ∧ okK k n = true ∧ m ≤ 1000 ∧
  ∀ (q : Addr) (xs : List Int) (a' c' : Int) (H' : Hp), (∀ x ∈ xs, okS k n x) → xs.length ≤ m → 0 ≤ c' → c' ≤ c + 1 + m → GenAt H' g a' b c' → SameX g H H' → H q = none → q ≠ g → H' q = some (.lst (xs.map V.int)) → Q (.ref q) H'
theorem ok_row (T : Tx K mg) (F : FnP K "_law_row" "_law_row" s__law_row f fd) (c_law_many : Gd P w K mg base "_law_many" ["_law_told"] 1 (spMany K))
    (c_law_random : Gd P w K mg base "_law_random" ["_law_generator_here", "_law_bound"] 2 spRandom) : FnOk P w K mg base CX0 3 f fd ["_law_generator_here", "_law_told", "_law_most"] (spRow K) := by
  refine okN F sc__law_row (fun vs H Q E h => ?_) (fun cdv A outer s H vs Q E hr h => ?_)
  · obtain ⟨g, t, a, b, c, k, n, m, rfl, _⟩ := h
    rfl
  · obtain ⟨g, t, a, b, c, k, n, m, rfl, hg, ⟨c0, c1⟩, hT, htg, hK, hm, q⟩ := h
    have hmn := many_nn hK
    refine ⟨_, (pss_cons (ps_if (pt_cmpR op_eq (pe_callG c_law_many (hr.mono (by decide)) (by rfl) (pa_cons (pv 1) pa_nil)) pe_int (nomark _)) (pss_one (ps_ret (pe_lst pa_nil))) pss_nil)
      (pss_one (ps_ret (pe_lc (own := [(("_law_turn" : Str), 3)]) (g := (gName 3)) (tt := tYes) rfl sc__law_row.nd (pi_range1 (by rfl) T.m_range (pa_cons (pe_callG c_law_random (hr.mono (by decide)) (by rfl) (pa_cons (pv 0) (pa_cons (pe_op op_add (pv 2) pe_int) pa_nil))) pa_nil)) (blkOk_by (own := [(("_law_turn" : Str), 3)]) (N := ["_law_generator_here", "_law_told", "_law_most", "_law_turn"]) (sc := defScope s__law_row) (by decide +kernel)) (fun _ _ _ _ _ => (pg_name (i := 3) sc__law_row.nd rfl (Or.inl rfl))) (fun _ _ _ _ _ => pts_nil) (fun _ _ _ _ _ => (pe_callG c_law_random (hr.mono (by decide)) (by rfl) (pa_cons (pv 0) (pa_cons (pe_callG c_law_many (hr.mono (by decide)) (by rfl) (pa_cons (pv 1) pa_nil)) pa_nil)))))))), ?_⟩
    refine ⟨_, rfl, t, k, n, rfl, hT, rfl, _, rfl, ite2 (fun h0 => ?_) (fun h0 => ?_)⟩
    · refine ⟨Nat.zero_le _, fun l nl => ?_⟩
      exact q l [] a c _ (fun x hx => by cases hx) (Nat.zero_le _) c0 (by omega) (hg.upd nl) (Same.x g (Same.upd nl)) nl (ne_of_none hg nl).symm upd_same
    · have hm0 : 0 < many k n := by
        have : ¬ many k n = 0 := fun e => h0 (decide_eq_true (congrArg V.int e))
        omega
      refine ⟨_, rfl, _, rfl, _, _, rfl, rfl, g, a, b, c, _, rfl, hg, ⟨by omega, by omega⟩, ⟨c0, by omega⟩, fun r a1 c2 H1 p0 p1 p2 p3 g1 x1 => ?_⟩
      refine ⟨r, rfl, by omega, by omega, fun D nD => ?_⟩
      have nDg : D ≠ g := (ne_of_none g1 nD).symm
      refine lc_range (lo := 0) (n := r.toNat) (fun i H2 => ∃ (xs : List Int) (a' c' : Int), H2 D = some (.lst (xs.map V.int)) ∧ xs.length = i ∧ (∀ x ∈ xs, okS k n x) ∧ (0 ≤ c' ∧ c' ≤ c + 1 + i) ∧ GenAt H2 g a' b c' ∧ SameX g H1 H2)
        ⟨[], a1, c2, upd_same, rfl, (fun x hx => by cases hx), ⟨p2, by omega⟩, g1.upd nD, Same.x g (Same.upd nD)⟩ ?_ ?_
      · rintro i H2 hi ⟨xs, a', c', hD, hl, hx, ⟨d0, d1⟩, g2, x2⟩
        refine ⟨rfl, ?_⟩
        refine ⟨_, rfl, _, rfl, t, k, n, rfl, x2.tup htg (x1.tup htg hT), g, a', b, c', _, rfl, g2, ⟨hm0, by omega⟩, ⟨d0, by omega⟩, fun z a3 c4 H3 q0 q1 q2 q3 g3 x3 => ?_⟩
        have hD3 : H3 D = some (.lst (xs.map V.int)) := x3 _ _ hD nDg
        refine ⟨_, hD3, ?_, xs ++ [z], a3, c4, ?_, ?_, ?_, ⟨q2, by omega⟩, ?_, ?_⟩
        · rw [List.length_map]
          exact small1000 (by omega)
        · rw [upd_same, List.map_append]
          rfl
        · rw [List.length_append, hl]
          rfl
        · intro y hy
          rcases List.mem_append.mp hy with h | h
          · exact hx y h
          · rw [List.mem_singleton.mp h]
            exact ⟨q0, q1⟩
        · show L2.upd H3 D _ g = _
          rw [upd_ne nDg.symm]
          exact g3
        · intro y o e ny
          rw [upd_ne (ne_of_none e nD)]
          exact x3 _ _ (x2 _ _ e ny) ny
      · rintro H2 ⟨xs, a', c', hD, hl, hx, ⟨d0, d1⟩, g2, x2⟩
        exact q D xs a' c' H2 hx (by omega) d0 (by omega) g2 (x1.trans x2) (x1.free hg g1 nD) nDg hD
def spGained (K : PySem.W.Frag) : Sp := fun vs H Q _ => ∃ (t o : Addr) (s : Int) (k : Nm) (n : Nat) (ws : List Int), vs = [.ref t, .ref o, .int s] ∧ Told K H t k n ∧ SqL K H o (ws.map V.int) ∧ ws.length = n ∧ okK k n = true ∧ okS k n s ∧
  ∀ (q : Addr) (H' : Hp), Same H H' → (q = o ∨ H q = none) → SqL K H' q ((gained k n ws s).map V.int) → Q (.ref q) H'
def spOrder (K : PySem.W.Frag) : Sp := fun vs H Q _ => ∃ (g t : Addr) (a b c : Int) (k : Nm) (n m : Nat), vs = [.ref g, .ref t, .int (m : Int)] ∧ GenAt H g a b c ∧ (0 ≤ c ∧ c ≤ 800000) ∧ Told K H t k n ∧ t ≠ g ∧ okK k n = true ∧ m ≤ 1000 ∧
  ∀ (q : Addr) (ws : List Int) (a' c' : Int) (H' : Hp), Good k n ws → 0 ≤ c' → c' ≤ c + 1 + m → GenAt H' g a' b c' → SameX g H H' → q ≠ g → SqL K H' q (ws.map V.int) → Q (.ref q) H'
/-! ### both ways by turns -/
def spWait (K : PySem.W.Frag) : Sp := fun vs H Q _ => ∃ (t o : Addr) (a b : Int) (k : Nm) (n : Nat) (ws : List Int), vs = [.ref t, .ref o, .int a, .int b] ∧ Told K H t k n ∧ SqL K H o (ws.map V.int) ∧ ws.length = n ∧ okK k n = true ∧ okS k n a ∧ okS k n b ∧
  ∀ (H' : Hp), Same H H' → Q (vOf (lw k n a b 12 1 ws ws)) H'
theorem ix_two (x y : Int) (i : Nat) : atI ([.int x, .int y] : List V) ((1 + (i : Int)) % 2) = some (.int (if (1 + i) % 2 = 1 then y else x)) := by
  by_cases h : (1 + i) % 2 = 1
  · rw [if_pos h, show (1 + (i : Int)) % 2 = ((1 : Nat) : Int) by omega]
    rfl
  · rw [if_neg h, show (1 + (i : Int)) % 2 = ((0 : Nat) : Int) by omega]
    rfl
theorem eqv_l (xs ys : List Int) : PyData.eqv (.list (xs.map PyData.int)) (.list (ys.map PyData.int)) = decide (xs = ys) := by
  rw [PyData.eqv]
  exact eqv_ints xs ys
theorem lw_hit {k : Nm} {n : Nat} {a b : Int} {f t : Nat} {xs ys : List Int} (h : stepped k n xs (if t % 2 = 1 then a else b) = stepped k n ys (if t % 2 = 1 then b else a)) : lw k n a b (f + 1) t xs ys = some t := by
  unfold lw
  rw [if_pos h]
theorem lw_miss {k : Nm} {n : Nat} {a b : Int} {f t : Nat} {xs ys : List Int} (h : ¬ stepped k n xs (if t % 2 = 1 then a else b) = stepped k n ys (if t % 2 = 1 then b else a)) :
    lw k n a b (f + 1) t xs ys = lw k n a b f (t + 1) (stepped k n xs (if t % 2 = 1 then a else b)) (stepped k n ys (if t % 2 = 1 then b else a)) := by
  show (if _ then _ else _) = _
  rw [if_neg h]
end
end Sv

namespace Sv
open PySem PySem.Spec PyProof.Rows L2
theorem iteP {c A B : Prop} [Decidable c] (h : c) (a : A) : if c then A else B := by
  rw [if_pos h]
  exact a
theorem iteN {c A B : Prop} [Decidable c] (h : ¬ c) (b : B) : if c then A else B := by
  rw [if_neg h]
  exact b
/-! ### what stands of the class Kind -/
theorem nms : ¬ (("_name" : Str) = "_size") := by decide +kernel
def flds (k : Nm) (n : Nat) : List (Str × V) := putF "_size" (.int (n : Int)) (putF "_name" (.str k.s) [])
theorem flds_eq (k : Nm) (n : Nat) : flds k n = ([("_name", V.str k.s), ("_size", V.int (n : Int))] : List (Str × V)) := by
  show (if ("_name" : Str) = "_size" then [(("_name" : Str), V.int (n : Int))] else (("_name" : Str), V.str k.s) :: putF "_size" (V.int (n : Int)) []) = ([("_name", V.str k.s), ("_size", V.int (n : Int))] : List (Str × V))
  rw [if_neg nms]
  all_goals rfl
theorem flds_name (k : Nm) (n : Nat) : (flds k n).lookup ("_name" : Str) = some (.str k.s) := by
  unfold flds
  rw [lookup_putF, if_neg nms, lookup_putF, if_pos rfl]
theorem flds_size (k : Nm) (n : Nat) : (flds k n).lookup ("_size" : Str) = some (.int (n : Int)) := by
  unfold flds
  rw [lookup_putF, if_pos rfl]
theorem flds_no (k : Nm) (n : Nat) {m : Str} (h1 : ¬ m = "_size") (h2 : ¬ m = "_name") : (flds k n).lookup m = none := by
  unfold flds
  rw [lookup_putF, if_neg h1, lookup_putF, if_neg h2]
  all_goals rfl
structure Tk (K : PySem.W.Frag) (w : World) (mg : Str → Option Value) (C D : Addr) : Prop extends Tx K mg where
  cl : Cls K C
  nN : NoAttr K C "_name"
  nS : NoAttr K C "_size"
  gC : mg "Kind" = some (.ref C)
  gD : mg "SIZES" = some (.ref D)
  ha : PySem.W.findIn K (.ref C) "__class__" = some (some (.builtin "object.__class__"))
  hn : PySem.W.specialIn K (.builtin "object.__class__") "__get__" = some (some (.builtin "getset_descriptor.__get__"))
  htk : PySem.W.takesIn K (.builtin "object.__class__") = some true
  hm : PySem.W.mroIn K C (.type "object") = some true
  me : PySem.W.kitOne K (.ref C) (.ref C) = some true
  nt : PySem.W.kitOne K (.type "tuple") (.ref C) = some false
  nf : PySem.W.notFirst K C (.type "tuple") = true
  kd : ∃ es n, KDict K w D es n
  gCb : mg "combinations" = some (.type "itertools.combinations")
  sz : ∀ k : Nm, ∃ (t : Addr) (lo hi : Int), PySem.W.nsIn K D k.s = some (some (.ref t)) ∧ (∀ H, SqT K H t [.int lo, .int hi]) ∧ ∀ n : Nat, okK k n = true → lo ≤ (n : Int) ∧ (n : Int) ≤ hi
/-- a Kind stands at p -/
def KAt (C : Addr) (H : Hp) (p : Addr) (k : Nm) (n : Nat) : Prop := ∃ dx, H p = some (.ins C dx (flds k n))
section
variable {P : Program} {w : World} {K : PySem.W.Frag} {mg : Str → Option Value} {base : Heap} {f C D : Addr} {fd : FuncData}
def spIsWhole : Sp := fun vs H Q _ => ∃ i : Int, vs = [.int i] ∧ Q (.bl true) H
theorem ok_is_whole (T : Tk K w mg C D) (F : FnP K "is_whole" "is_whole" s_is_whole f fd) : FnOk P w K mg base CX0 1 f fd ["value"] spIsWhole := by
  refine okN F sc_is_whole (fun vs H Q E h => ?_) (fun cdv A outer s H vs Q E hr h => ?_)
  · obtain ⟨i, rfl, _⟩ := h
    rfl
  · obtain ⟨i, rfl, q⟩ := h
    refine ⟨_, (pss_one (ps_ret (pe_and (pe_callB call_isi (by rfl) T.m_isinstance (by decide +kernel) (pa_cons (pv 0) (pa_cons (pe_bltn (v := .ty "int") (by rfl) T.m_int (by decide +kernel) rfl) pa_nil))) (pe_one (pe_not (pe_callB call_isi (by rfl) T.m_isinstance (by decide +kernel) (pa_cons (pv 0) (pa_cons (pe_bltn (v := .ty "bool") (by rfl) T.m_bool (by decide +kernel) rfl) pa_nil)))))))), ?_⟩
    refine ⟨_, rfl, .int i, .ty "int", .type "int", .type "int", true, rfl, .ty _, .base (.int i), kit_ty (by decide +kernel), true, rfl, ?_⟩
    refine ⟨_, rfl, .int i, .ty "bool", .type "int", .type "bool", false, rfl, .ty _, .base (.int i), kit_ty (by decide +kernel), false, rfl, q⟩
def spInit (C : Addr) : Sp := fun vs H Q _ => ∃ (p dx : Addr) (k : Nm) (n : Nat), vs = [.ref p, .str k.s, .int (n : Int)] ∧ okK k n = true ∧ H p = some (.ins C dx []) ∧
  ∀ H' : Hp, H' p = some (.ins C dx (flds k n)) → (∀ b o, H b = some o → b ≠ p → H' b = some o) → Q .non H'
theorem ok_init (T : Tk K w mg C D) (F : FnP K "__init__" "Kind.__init__" s_Kind___init__ f fd) (c_is_whole : Gd P w K mg base "is_whole" ["value"] 1 spIsWhole) : FnOk P w K mg base CX0 2 f fd ["self", "name", "size"] (spInit C) := by
  refine okN F sc_Kind___init__ (fun vs H Q E h => ?_) (fun cdv A outer s H vs Q E hr h => ?_)
  · obtain ⟨p, dx, k, n, rfl, _⟩ := h
    rfl
  · obtain ⟨p, dx, k, n, rfl, hK, hp, q⟩ := h
    obtain ⟨es, nn, kd⟩ := T.kd
    obtain ⟨t, lo, hi, hns, hsq, hb⟩ := T.sz k
    obtain ⟨b1, b2⟩ := hb n hK
    refine ⟨_, (pss_cons (ps_if (pt_not (PW.pt (pw_and (pt_val (pe_callB call_isi (by rfl) T.m_isinstance (by decide +kernel) (pa_cons (pv 1) (pa_cons (pe_bltn (v := .ty "str") (by rfl) T.m_str (by decide +kernel) rfl) pa_nil)))) (pw_and1 (pt_cmpR (op_in_kd kd) (pv 1) (pe_glob (v := .ref D) (by rfl) T.gD rfl) (by rfl)))))) (pss_one ps_never) pss_nil)
      (pss_cons (ps_asg (pe_ix ix_kdict (pe_glob (v := .ref D) (by rfl) T.gD rfl) (pv 1) (fun _ _ => rfl)) (pg_tup rfl (pgs_cons (pg_name (i := 3) sc_Kind___init__.nd rfl (Or.inl rfl)) (pgs_cons (pg_name (i := 4) sc_Kind___init__.nd rfl (Or.inl rfl)) pgs_nil))))
      (pss_cons (ps_if (pt_not (PW.pt (pw_and (pt_val (pe_callG c_is_whole (hr.mono (by decide)) (by rfl) (pa_cons (pv 2) pa_nil))) (pw_and1 (pt_chain op_le op_le (pv 3) (pv 2) (pv 4)))))) (pss_one ps_never) pss_nil)
      (pss_cons (ps_fld (pv 0) (pv 1) (by rfl))
      (pss_one (ps_fld (pv 0) (pv 2) (by rfl))))))), ?_⟩
    refine ⟨_, rfl, .str k.s, .ty "str", .type "str", .type "str", true, rfl, .ty _, .base (.str _), kit_ty (by decide +kernel), true, rfl, ?_⟩
    refine ⟨_, rfl, k.s, some (.ref t), rfl, rfl, hns, true, rfl, ?_⟩
    refine ⟨_, rfl, D, k.s, .ref t, rfl, rfl, ⟨es, nn, _, kd.at_, kd.lit, hns, rfl⟩, t, _, rfl, hsq H, rfl, _, _, rfl, _, _, rfl, rfl, ?_⟩
    refine ⟨_, rfl, _, rfl, true, rfl, ?_⟩
    refine ⟨_, rfl, _, rfl, _, _, rfl, rfl, _, rfl, ?_⟩
    refine iteP (decide_eq_true b1) ?_
    refine ⟨_, rfl, _, _, rfl, rfl, _, rfl, ?_⟩
    refine iteN ?_ ?_
    · rw [decide_eq_true b2]
      decide
    refine ⟨_, rfl, _, rfl, p, C, dx, [], rfl, hp, T.cl, T.nN, (by show 0 < 1000; decide), _, rfl, _, rfl, p, C, dx, _, rfl, upd_same, T.cl, T.nS, (by show 1 < 1000; decide), ?_⟩
    refine q _ upd_same fun b o e hb => ?_
    rw [upd_ne hb, upd_ne hb]
    exact e
def spName (C : Addr) : Sp := fun vs H Q _ => ∃ (p : Addr) (k : Nm) (n : Nat), vs = [.ref p] ∧ KAt C H p k n ∧ Q (.str k.s) H
theorem ok_name (T : Tk K w mg C D) (F : FnP K "name" "Kind.name" s_Kind_name f fd) : FnOk P w K mg base CX0 1 f fd ["self"] (spName C) := by
  refine okN F sc_Kind_name (fun vs H Q E h => ?_) (fun cdv A outer s H vs Q E hr h => ?_)
  · obtain ⟨p, k, n, rfl, _⟩ := h
    rfl
  · obtain ⟨p, k, n, rfl, ⟨dx, hp⟩, q⟩ := h
    refine ⟨_, (pss_one (ps_ret (pe_fld (pv 0) (by rfl)))), ?_⟩
    exact ⟨_, rfl, p, C, dx, _, _, rfl, hp, T.cl, T.nN, flds_name k n, q⟩
def spSize (C : Addr) : Sp := fun vs H Q _ => ∃ (p : Addr) (k : Nm) (n : Nat), vs = [.ref p] ∧ KAt C H p k n ∧ Q (.int (n : Int)) H
theorem ok_size (T : Tk K w mg C D) (F : FnP K "size" "Kind.size" s_Kind_size f fd) : FnOk P w K mg base CX0 1 f fd ["self"] (spSize C) := by
  refine okN F sc_Kind_size (fun vs H Q E h => ?_) (fun cdv A outer s H vs Q E hr h => ?_)
  · obtain ⟨p, k, n, rfl, _⟩ := h
    rfl
  · obtain ⟨p, k, n, rfl, ⟨dx, hp⟩, q⟩ := h
    refine ⟨_, (pss_one (ps_ret (pe_fld (pv 0) (by rfl)))), ?_⟩
    exact ⟨_, rfl, p, C, dx, _, _, rfl, hp, T.cl, T.nS, flds_size k n, q⟩
def spSteps (C : Addr) : Sp := fun vs H Q _ => ∃ (p : Addr) (k : Nm) (n : Nat), vs = [.ref p] ∧ KAt C H p k n ∧ Q (.int (many k n)) H
theorem ok_steps (T : Tk K w mg C D) (F : FnP K "steps" "Kind.steps" s_Kind_steps f fd) : FnOk P w K mg base CX0 1 f fd ["self"] (spSteps C) := by
  refine okN F sc_Kind_steps (fun vs H Q E h => ?_) (fun cdv A outer s H vs Q E hr h => ?_)
  · obtain ⟨p, k, n, rfl, _⟩ := h
    rfl
  · obtain ⟨p, k, n, rfl, ⟨dx, hp⟩, q⟩ := h
    refine ⟨_, (pss_cons (ps_if (pt_cmpR op_eq (pe_fld (pv 0) (by rfl)) pe_str (nomark _)) (pss_one (ps_ret (pe_op op_sub (pe_fld (pv 0) (by rfl)) pe_int))) pss_nil)
      (pss_one (ps_ret (pe_fld (pv 0) (by rfl))))), ?_⟩
    refine ⟨_, rfl, p, C, dx, _, _, rfl, hp, T.cl, T.nN, flds_name k n, rfl, _, rfl, ite2 (fun hk => ?_) (fun hk => ?_)⟩
    · rw [s_pl] at hk
      refine ⟨_, rfl, p, C, dx, _, _, rfl, hp, T.cl, T.nS, flds_size k n, _, _, rfl, rfl, qI q ?_⟩
      unfold many
      rw [if_pos (of_decide_eq_true hk)]
    · rw [s_pl] at hk
      refine ⟨_, rfl, p, C, dx, _, _, rfl, hp, T.cl, T.nS, flds_size k n, qI q ?_⟩
      unfold many
      rw [if_neg (fun e => hk (decide_eq_true e))]
      omega
def spStartM (C : Addr) : Sp := fun vs H Q _ => ∃ (p : Addr) (k : Nm) (n : Nat), vs = [.ref p] ∧ KAt C H p k n ∧ n ≤ 100 ∧ ∀ q, H q = none → Q (.ref q) (L2.upd H q (.lst ((startL k n).map V.int)))
theorem rg_start0 {k : Nm} (hk : k ≠ .mi) (n : Nat) : rgV 0 (n : Int) = (startL k n).map V.int := by
  have h := rg_start k n
  have e0 : off k = 0 := if_neg hk
  rw [e0, Int.add_zero] at h
  exact h
theorem ok_startM (T : Tk K w mg C D) (F : FnP K "start" "Kind.start" s_Kind_start f fd) : FnOk P w K mg base CX0 1 f fd ["self"] (spStartM C) := by
  refine okN F sc_Kind_start (fun vs H Q E h => ?_) (fun cdv A outer s H vs Q E hr h => ?_)
  · obtain ⟨p, k, n, rfl, _⟩ := h
    rfl
  · obtain ⟨p, k, n, rfl, ⟨dx, hp⟩, hn, q⟩ := h
    refine ⟨_, (pss_cons (ps_if (pt_cmpR op_eq (pe_fld (pv 0) (by rfl)) pe_str (nomark _)) (pss_one (ps_ret (pe_listRg rfl (by rfl) T.m_list (prg_2 (by rfl) T.m_range pe_int (pe_op op_add (pe_fld (pv 0) (by rfl)) pe_int))))) pss_nil)
      (pss_one (ps_ret (pe_listRg rfl (by rfl) T.m_list (prg_1 (by rfl) T.m_range (pe_fld (pv 0) (by rfl))))))), ?_⟩
    refine ⟨_, rfl, p, C, dx, _, _, rfl, hp, T.cl, T.nN, flds_name k n, rfl, _, rfl, ite2 (fun hk => ?_) (fun hk => ?_)⟩
    · have ek := is_mi hk
      subst ek
      refine ⟨_, rfl, p, C, dx, _, _, rfl, hp, T.cl, T.nS, flds_size _ n, _, _, rfl, rfl, _, _, rfl, rfl, RgOk.of_le (by decide) (by omega) (by decide) (by omega), fun l nl => ?_⟩
      have e := rg_start .mi n
      rw [show off .mi = 1 from rfl] at e
      rw [e]
      exact q l nl
    · have ek := not_mi hk
      refine ⟨_, rfl, p, C, dx, _, _, rfl, hp, T.cl, T.nS, flds_size _ n, _, rfl, RgOk.of_le (by decide) (by omega) (by decide) (by omega), fun l nl => ?_⟩
      rw [rg_start0 ek]
      exact q l nl
def spEqK (C : Addr) : Sp := fun vs H Q _ => ∃ (p o : Addr) (k : Nm) (n : Nat), vs = [.ref p, .ref o] ∧ KAt C H p k n ∧
  ((∃ (j : Nm) (m : Nat), KAt C H o j m ∧ Q (.bl (decide (k = j ∧ n = m))) H) ∨ ((∃ ys, H o = some (.tup ys)) ∧ Q (.bl false) H))
theorem ok_eqK (T : Tk K w mg C D) (F : FnP K "__eq__" "Kind.__eq__" s_Kind___eq__ f fd) : FnOk P w K mg base CX0 1 f fd ["self", "other"] (spEqK C) := by
  refine okN F sc_Kind___eq__ (fun vs H Q E h => ?_) (fun cdv A outer s H vs Q E hr h => ?_)
  · obtain ⟨p, o, k, n, rfl, _⟩ := h
    rfl
  · obtain ⟨p, o, k, n, rfl, ⟨dx, hp⟩, h⟩ := h
    refine ⟨_, (pss_one (ps_ret (pe_and (pe_callB call_isi (by rfl) T.m_isinstance (by decide +kernel) (pa_cons (pv 1) (pa_cons (pe_glob (v := .ref C) (by rfl) T.gC rfl) pa_nil))) (pe_and (pe_cmpR op_eq (pe_fld (pv 0) (by rfl)) (pe_fld (pv 1) (by rfl)) (nomark _)) (pe_one (pe_cmpR op_eq (pe_fld (pv 0) (by rfl)) (pe_fld (pv 1) (by rfl)) (nomark _))))))), ?_⟩
    rcases h with ⟨j, m, ⟨dy, ho⟩, q⟩ | ⟨⟨ys, ho⟩, q⟩
    · refine ⟨_, rfl, .ref o, .ref C, .ref C, .ref C, true, rfl, .own C, .base (.ins ho T.cl T.ha T.hn T.htk T.hm), T.me, true, rfl, ?_⟩
      refine ⟨_, rfl, p, C, dx, _, _, rfl, hp, T.cl, T.nN, flds_name k n, _, rfl, o, C, dy, _, _, rfl, ho, T.cl, T.nN, flds_name j m, rfl, _, rfl, ite2 (fun hk => ?_) (fun hk => ?_)⟩
      · have ek : k = j := s_inj.mp (V.str.inj (of_decide_eq_true hk))
        refine ⟨_, rfl, p, C, dx, _, _, rfl, hp, T.cl, T.nS, flds_size k n, _, rfl, o, C, dy, _, _, rfl, ho, T.cl, T.nS, flds_size j m, rfl, qB q ?_⟩
        rw [Bool.eq_iff_iff]
        simp [ek]
        omega
      · have ek : ¬ k = j := fun e => hk (by rw [e]; exact decide_eq_true rfl)
        exact qB q (decide_eq_false (fun e => ek e.1)).symm
    · exact ⟨_, rfl, .ref o, .ref C, .type "tuple", .ref C, false, rfl, .own C, .base (.tup ho), T.nt, false, rfl, q⟩
def spCk (C : Addr) : Sp := fun vs H Q _ => ∃ (p : Addr) (k : Nm) (n : Nat), vs = [.ref p] ∧ KAt C H p k n ∧ Q .non H
theorem ok_check_kind (T : Tk K w mg C D) (F : FnP K "check_kind" "check_kind" s_check_kind f fd) : FnOk P w K mg base CX0 1 f fd ["kind"] (spCk C) := by
  refine okN F sc_check_kind (fun vs H Q E h => ?_) (fun cdv A outer s H vs Q E hr h => ?_)
  · obtain ⟨p, k, n, rfl, _⟩ := h
    rfl
  · obtain ⟨p, k, n, rfl, ⟨dx, hp⟩, q⟩ := h
    refine ⟨_, (pss_one (ps_if (pt_not (pt_val (pe_callB call_isi (by rfl) T.m_isinstance (by decide +kernel) (pa_cons (pv 0) (pa_cons (pe_glob (v := .ref C) (by rfl) T.gC rfl) pa_nil))))) (pss_one ps_never) pss_nil)), ?_⟩
    exact ⟨_, rfl, .ref p, .ref C, .ref C, .ref C, true, rfl, .own C, .base (.ins hp T.cl T.ha T.hn T.htk T.hm), T.me, true, rfl, q⟩
def spIsStep (C : Addr) : Sp := fun vs H Q _ => ∃ (p : Addr) (k : Nm) (n : Nat) (i : Int), vs = [.ref p, .int i] ∧ KAt C H p k n ∧ okS k n i ∧ Q (.bl true) H
def spCkS (C : Addr) : Sp := fun vs H Q _ => ∃ (p : Addr) (k : Nm) (n : Nat) (i : Int), vs = [.ref p, .int i] ∧ KAt C H p k n ∧ okS k n i ∧ Q .non H
def spWaitOf (C : Addr) : Sp := fun vs H Q _ => ∃ (p : Addr) (k : Nm) (n : Nat) (a b : Int), vs = [.ref p, .int a, .int b] ∧ KAt C H p k n ∧ Q (vOf (waitN k n a b)) H
def spWaitP (C : Addr) : Sp := fun vs H Q _ => ∃ (p : Addr) (k : Nm) (n : Nat) (a b : Int), vs = [.ref p, .int a, .int b] ∧ KAt C H p k n ∧ okS k n a ∧ okS k n b ∧ a ≠ b ∧ Q (vOf (waitN k n a b)) H
end
end Sv

/-! What the program's own functions of orders compute, as plain functions of lists, by the verifier. -/
namespace Sv
open PySem L2
def exch (k : Nm) (n : Nat) (w : List Int) (s : Nat) : Int × Int :=
  if k = .pl then (w.getD s 0, w.getD (s + 1) 0)
  else if k = .ri then (if s + 1 = n then (w.getD s 0, w.getD 0 0 + (n : Int)) else (w.getD s 0, w.getD (s + 1) 0))
  else if s = 0 then (-(w.getD 0 0), w.getD 0 0) else (w.getD (s - 1) 0, w.getD s 0)
def crossP (k : Nm) (n : Nat) (w : List Int) (s : Nat) : Bool := decide ((exch k n w s).2 < (exch k n w s).1)
def after (k : Nm) (n : Nat) (w : List Int) (s : Nat) : List Int :=
  if k = .pl then (w.set s (exch k n w s).2).set (s + 1) (exch k n w s).1
  else if k = .ri ∧ s + 1 = n then (w.set s (exch k n w s).2).set 0 ((exch k n w s).1 - (n : Int))
  else if k = .ri then (w.set s (exch k n w s).2).set (s + 1) (exch k n w s).1
  else if s = 0 then w.set 0 (exch k n w s).1
  else (w.set (s - 1) (exch k n w s).2).set s (exch k n w s).1
def fallsP (k : Nm) (n : Nat) (w : List Int) : List Int := ((List.range (many k n).toNat).filter (crossP k n w)).map fun (s : Nat) => (s : Int)
def itemP (k : Nm) (n : Nat) (w : List Int) (p : Int) : Int :=
  if k = .mi then (if 0 < p then w.getD (p - 1).toNat 0 else -(w.getD (-p - 1).toNat 0)) else w.getD (p % (n : Int)).toNat 0 + p - p % (n : Int)
def prodP (k : Nm) (n : Nat) (w u : List Int) : List Int := u.map (itemP k n w)
def invPos (k : Nm) (n : Nat) (x : Int) : Nat := if k = .mi then x.natAbs - 1 else (x % (n : Int)).toNat
def invVal (k : Nm) (n : Nat) (i : Nat) (x : Int) : Int := if k = .mi then (if 0 < x then (i : Int) + 1 else -(i : Int) - 1) else (i : Int) - x + x % (n : Int)
def invUpTo (k : Nm) (n : Nat) (w : List Int) : Nat → List Int
  | 0 => startL k n
  | i + 1 => (invUpTo k n w i).set (invPos k n (w.getD i 0)) (invVal k n i (w.getD i 0))
def invP (k : Nm) (n : Nat) (w : List Int) : List Int := invUpTo k n w w.length
def rowPairs (w : List Int) (b : Nat) : List (Int × Int) := (List.range b).map fun a => (w.getD a 0, w.getD b 0)
def pairsTo (w : List Int) : Nat → List (Int × Int)
  | 0 => []
  | b + 1 => pairsTo w b ++ rowPairs w b
def pairsL (w : List Int) : List (Int × Int) := pairsTo w w.length
def absI (x : Int) : Int := if x < 0 then -x else x
def crP (k : Nm) (n : Nat) (w : List Int) : Int :=
  if k = .ri then ((pairsL w).map fun q => absI ((q.2 - q.1) / (n : Int))).sum
  else if k = .mi then (((pairsL w).filter fun q => decide (q.2 < q.1)).length : Int) + ((w.filter fun x => decide (x < 0)).length : Int) + (((pairsL w).filter fun q => decide (q.1 + q.2 < 0)).length : Int)
  else (((pairsL w).filter fun q => decide (q.2 < q.1)).length : Int)
/-- the form of an order, as sorted lists see it -/
def Form (k : Nm) (n : Nat) (w : List Int) : Prop := w.length = n ∧ match k with
  | .pl => w.Perm (startL .pl n)
  | .mi => (w.map absI).Perm (startL .mi n)
  | .ri => w.sum = (n : Int) * ((n : Int) - 1) / 2 ∧ (w.map fun x => x % (n : Int)).Perm (startL .ri n)
theorem startL_sorted (k : Nm) (n : Nat) : (startL k n).Pairwise (· ≤ ·) := by
  unfold startL
  rw [List.pairwise_map]
  refine List.Pairwise.imp ?_ (List.pairwise_lt_range (n := n))
  intro a b h
  omega
theorem sorted_start {k : Nm} {n : Nat} {xs ys : List Int} (h : ys.Perm xs) (hs : ys.Pairwise (· ≤ ·)) (hx : xs.Perm (startL k n)) : ys = startL k n :=
  List.Perm.eq_of_pairwise (fun _ _ _ _ a b => Int.le_antisymm a b) hs (startL_sorted k n) (h.trans hx)
end Sv

namespace Sv
open PySem PySem.Spec PyProof.Rows L2
/-! itertools.combinations of a list by two -/
namespace Cm
theorem slotI : Slot "itertools.combinations" "__iter__" "itertools.combinations.__iter__" := .of (owner := "itertools.combinations") (n := "__iter__") (by rw [typeLookup_type, builtinLookup_eq_fast]; kernel_rfl) (by decide +kernel) (by decide +kernel) (by decide +kernel) (by first | exact .inl (by decide +kernel) | exact .inr (by decide +kernel)) (by rw [isSubtype_type]; kernel_rfl)
theorem slotN : Slot "itertools.combinations" "__next__" "itertools.combinations.__next__" := .of (owner := "itertools.combinations") (n := "__next__") (by rw [typeLookup_type, builtinLookup_eq_fast]; kernel_rfl) (by decide +kernel) (by decide +kernel) (by decide +kernel) (by first | exact .inl (by decide +kernel) | exact .inr (by decide +kernel)) (by rw [isSubtype_type]; kernel_rfl)
theorem slotInit : Slot "itertools.combinations" "__init__" "object.__init__" := .of (owner := "object") (n := "__init__") (by rw [typeLookup_type, builtinLookup_eq_fast]; kernel_rfl) (by decide +kernel) (by decide +kernel) (by decide +kernel) (by first | exact .inl (by decide +kernel) | exact .inr (by decide +kernel)) (by rw [isSubtype_type]; kernel_rfl)
theorem entI : entryFor table "itertools.combinations.__iter__" = some Builtin.«dict_keyiterator.__iter__» := entryFor_alias (id' := "dict_keyiterator.__iter__") (by kernel_rfl) (by first | rfl | decide +kernel | (unfold String.splitOn; simp +decide [String.splitOnAux])) (by decide +kernel) (by kernel_rfl)
theorem entN : entryFor table "itertools.combinations.__next__" = some Builtin.«itertools.combinations.__next__» := entryFor_of_tree (by kernel_rfl)
theorem entW : entryFor table "itertools.combinations.__new__" = some Builtin.«itertools.combinations.__new__» := entryFor_of_tree (by kernel_rfl)
theorem mro : mroOf (.type "itertools.combinations") = pure [.type "itertools.combinations", .type "object"] := by
  rw [mroOf_type]
  kernel_rfl
theorem lookNew : typeLookup (.type "itertools.combinations") "__new__" = pure (some (.builtin "itertools.combinations.__new__")) := by
  rw [typeLookup_type, builtinLookup_eq_fast]
  kernel_rfl
theorem called : TypeCalled "itertools.combinations" "itertools.combinations.__new__" "object.__init__" := ⟨by decide +kernel, by decide +kernel, ⟨_, _, mro⟩, madeBy_type mro lookNew (by decide +kernel), by decide +kernel, by rw [isSubtype_type]; kernel_rfl, slotInit⟩
theorem tCall (a b : Value) : checkTypeCall "itertools.combinations" ⟨[a, b], []⟩ = pure () := by kernel_rfl
theorem nCall (a b : Value) : checkBuiltinCall "itertools.combinations.__new__" ⟨[.type "itertools.combinations", a, b], []⟩ = pure () := by kernel_rfl
theorem sub : isSubtype (.type "itertools.combinations") (.type "itertools.combinations") = pure true := by
  rw [isSubtype_type]
  kernel_rfl
theorem argsI (a : Value) : argsOk "itertools.combinations.__iter__" ⟨[a], []⟩ := by
  unfold argsOk
  kernel_rfl
theorem argsN (a : Value) : argsOk "itertools.combinations.__next__" ⟨[a], []⟩ := by
  unfold argsOk
  kernel_rfl
/-- the iterator: the pool at pt, a flag, what was handed out last, the two places -/
def IsC (h : Heap) (c pt : Addr) (fl : Int) (old : Value) (a b : Nat) : Prop :=
  h.get? c = some { cls := .type "itertools.combinations", data := .fields #[.ref pt, rawInt fl, old, rawInt a, rawInt b] }
open AutoSeq1 (wpAny_loadPart')
theorem bindEq (x y : Value) : Builtin.Itertools.itBindNamed "combinations" ["iterable", "r"] 2 2 [x, y] [] = pure [some x, some y] := by kernel_rfl
set_option maxHeartbeats 1000000 in
theorem meetsNew (l : Addr) (o : Obj) (items : Array Value) (n : Nat) (t : Tok) (hc : o.cls = .type "list") (hd : o.data = .seq items n) (hsz : items.size ≤ sizeLine := by size_fits) :
    Meets (Builtin.«itertools.combinations.__new__» ⟨[.type "itertools.combinations", .ref l, .int 2 t], []⟩) fun _ R s => s.heap.get? l = some o ∧
      ∀ h' : Heap, (∀ b o', s.heap.get? b = some o' → h'.get? b = some o') → R (.ok (.ret (.ref (h'.push { cls := .type "tuple", data := .seq items }).objs.size)))
        { s with heap := (h'.push { cls := .type "tuple", data := .seq items }).push { cls := .type "itertools.combinations", data := .fields #[.ref h'.objs.size, rawInt (if 2 > items.size then 2 else 0), .none, rawInt 0, rawInt 1] } } :=
  .of_wp fun prog w A R s h => by
    obtain ⟨hp, g, d, tk, os⟩ := s
    obtain ⟨ht, h⟩ := h
    have hsub : isSubtype (Value.type "itertools.combinations") (Value.type ("itertools." ++ "combinations")) = pure true := sub
    have hbd := bindEq (.ref l) (.int 2 t)
    have hT : Shared.TypeIs ⟨hp, g, d, tk, os⟩ (.ref l) "list" := ⟨o, ht, hc⟩
    wp_walk using wpAny_loadPart' ht, wpAny_typeOf hT, wpAny_collect_seq (hsz := hsz) l (.inl rfl) ht hc hd
    intro h' hk
    have ea : items.toList.toArray = items := by simp
    have hnt : ∀ (Q : Value → Shared → Prop) (E : Value → Shared → Prop) (s : Shared), Q (.ref s.heap.objs.size) { s with heap := s.heap.push { cls := .type "tuple", data := .seq items } } → wpAny (model prog w) A.in1 (newTuple items.toList) Q E s := fun Q E s q => by
      show wpAny _ _ (newObj (.type "tuple") (.seq items.toList.toArray)) _ _ _
      rw [ea]
      exact wpAny_newObj_type q hsz
    have hnr : ∀ (p : Value) (k : Nat) (Q : Value → Shared → Prop) (E : Value → Shared → Prop) (s : Shared), Q (.ref s.heap.objs.size) { s with heap := s.heap.push { cls := .type "itertools.combinations", data := .fields #[p, rawInt (if 2 > k then 2 else 0), .none, rawInt 0, rawInt 1] } } →
        wpAny (model prog w) A.in1 (Builtin.Itertools.itNewRecord (.type "itertools.combinations") ([p, rawInt (if Int.toNat 2 > k then 2 else 0), Value.none] ++ List.map (fun i => rawInt ((i : Nat) : Int)) (List.range (Int.toNat 2)))) Q E s := fun p k Q E s q => by
      have ed : typeHasDict (.type "itertools.combinations") = false := by kernel_rfl
      unfold Builtin.Itertools.itNewRecord
      rw [ed]
      exact wpAny_newObj_type q (by show 5 ≤ sizeLine + 2; decide)
    wp_walk using hnt, hnr
    exact ⟨_, rfl, h h' hk⟩
section
variable {prog : Program} {w : World} {A : Around} {E : Value → Shared → Prop} {s : Shared}
theorem callC {l : Addr} {items : Array Value} {t : Tok} {Q : Value → Shared → Prop} (hl : s.heap.IsList l items)
    (h : ∀ h' : Heap, (∀ b o', s.heap.get? b = some o' → h'.get? b = some o') →
      Q (.ref (h'.push { cls := .type "tuple", data := .seq items }).objs.size) { s with heap := (h'.push { cls := .type "tuple", data := .seq items }).push { cls := .type "itertools.combinations", data := .fields #[.ref h'.objs.size, rawInt (if 2 > items.size then 2 else 0), .none, rawInt 0, rawInt 1] } })
    (hsz : items.size ≤ sizeLine := by size_fits) : wpAny (model prog w) A (call (.type "itertools.combinations") [.ref l, .int 2 t]) Q E s := by
  obtain ⟨o, ho, hc, n, hd⟩ := hl
  exact callType_new called (by decide) (tCall _ _) (nCall _ _) (fun obj => F.args_object_init_3 obj _ _) entW (meetsNew l o items n t hc hd hsz) ⟨ho, fun h' hk => ⟨⟨_, Heap.get?_push_size _ rfl, rfl⟩, h h' hk⟩⟩
theorem iterC {c pt : Addr} {fl : Int} {old : Value} {a b : Nat} {Q : Value → Shared → Prop} (hc : IsC s.heap c pt fl old a b) (h : Q (.ref c) s) : wpAny (model prog w) A (pyIter (.ref c)) Q E s := by
  have hT : s.TypeIs (.ref c) "itertools.combinations" := ⟨_, hc, rfl⟩
  refine wpAny_pyIter_slot hT slotI (wpAny_call_entry slotI hT entI ?_ (argsI _))
  show wpAny _ _ (ret (.ref c)) _ _ s
  exact wpAny_pure ⟨_, rfl, "itertools.combinations", _, hT, slotN.lookup, h⟩
set_option maxHeartbeats 1000000 in
theorem nextFirst {c pt : Addr} {old : Value} {a b n : Nat} {items : Array Value} {Q : Option Value → Shared → Prop} (hc : IsC s.heap c pt 0 old a b) (hp : s.heap.get? pt = some { cls := .type "tuple", data := .seq items n }) (hne : c ≠ pt)
    (hQ : ∀ h', IsC h' c pt 1 (.ref s.heap.objs.size) a b → h'.get? s.heap.objs.size = some { cls := .type "tuple", data := .seq #[items.getD a .none, items.getD b .none] } → (∀ q o, q ≠ c → s.heap.get? q = some o → h'.get? q = some o) → Q (some (.ref s.heap.objs.size)) { s with heap := h' }) :
    wpAny (model prog w) A (pyNext (.ref c)) Q E s := by
  have hT : s.TypeIs (.ref c) "itertools.combinations" := ⟨_, hc, rfl⟩
  unfold pyNext
  refine wpAny_bind (wpAny_attempt (wpAny_callSpecial?_slot (name := Str.ofString "__next__") hT slotN (wpAny_call_entry slotN hT entN ?_ (argsN _))))
  obtain ⟨hp', g, d, tk, os⟩ := s
  replace hc : hp'.get? c = some { cls := .type "itertools.combinations", data := .fields #[.ref pt, rawInt 0, old, rawInt a, rawInt b] } := hc
  replace hp : hp'.get? pt = some { cls := .type "tuple", data := .seq items n } := hp
  wp_walk
  have e0 : (hp'.update c (Obj.mapFields fun x => x.setIfInBounds 1 (rawInt 1))).objs.size = hp'.objs.size := Heap.size_after_update ..
  rw [e0]
  refine ⟨_, rfl, wpAny_pure (hQ _ ?_ ?_ fun q o hq e => ?_)⟩
  · have q1 := Heap.get?_update_self (Obj.mapFields fun x => x.setIfInBounds 1 (rawInt 1)) hc rfl
    have q2 := Heap.get?_push_of_some { cls := .type "tuple", data := .seq #[items.getD a .none, items.getD b .none] } q1
    exact Heap.get?_update_self (Obj.mapFields fun x => x.setIfInBounds 2 (Value.ref hp'.objs.size)) q2 rfl
  · refine (Heap.get?_update_other _ _ (Nat.ne_of_lt (Heap.lt_size hc))).trans ?_
    rw [← e0]
    exact Heap.get?_push_size _ rfl
  · refine (Heap.get?_update_other _ _ (Ne.symm hq)).trans (Heap.get?_push_of_some _ ?_)
    exact (Heap.get?_update_other _ _ (Ne.symm hq)).trans e
theorem findMid {b n : Nat} (a : Nat) (h : b + 1 < n) : ((List.range [a, b].length).reverse.find? fun i => [a, b].getD i 0 != i + n - [a, b].length) = some 1 := by
  have e : (b != 1 + n - 2) = true := by simp; omega
  show (([1, 0] : List Nat).find? fun i => [a, b].getD i 0 != i + n - 2) = some 1
  rw [List.find?_cons, show ([a, b].getD 1 0 != 1 + n - 2) = true from e]
theorem findLow {a b n : Nat} (h : b + 1 = n) (h2 : a + 2 < n) : ((List.range [a, b].length).reverse.find? fun i => [a, b].getD i 0 != i + n - [a, b].length) = some 0 := by
  have e : (b != 1 + n - 2) = false := by simp; omega
  have e2 : (a != 0 + n - 2) = true := by simp; omega
  show (([1, 0] : List Nat).find? fun i => [a, b].getD i 0 != i + n - 2) = some 0
  rw [List.find?_cons, show ([a, b].getD 1 0 != 1 + n - 2) = false from e, List.find?_cons, show ([a, b].getD 0 0 != 0 + n - 2) = true from e2]
theorem findNone {a b n : Nat} (h : b + 1 = n) (h2 : a + 2 = n) : ((List.range [a, b].length).reverse.find? fun i => [a, b].getD i 0 != i + n - [a, b].length) = none := by
  have e : (b != 1 + n - 2) = false := by simp; omega
  have e2 : (a != 0 + n - 2) = false := by simp; omega
  show (([1, 0] : List Nat).find? fun i => [a, b].getD i 0 != i + n - 2) = none
  rw [List.find?_cons, show ([a, b].getD 1 0 != 1 + n - 2) = false from e, List.find?_cons, show ([a, b].getD 0 0 != 0 + n - 2) = false from e2, List.find?_nil]
/-- the pair behind a pair -/
def nx (n : Nat) (p : Nat × Nat) : Option (Nat × Nat) := if p.2 + 1 < n then some (p.1, p.2 + 1) else if p.1 + 2 < n then some (p.1 + 1, p.1 + 2) else none
set_option maxHeartbeats 1000000 in
theorem nextMore {c pt : Addr} {old : Value} {a b a' b' n : Nat} {items : Array Value} {Q : Option Value → Shared → Prop} (hc : IsC s.heap c pt 1 old a b) (hp : s.heap.get? pt = some { cls := .type "tuple", data := .seq items n }) (hne : c ≠ pt)
    (hlt : a < b) (hb : b < items.size) (hx : nx items.size (a, b) = some (a', b'))
    (hQ : ∀ h', IsC h' c pt 1 (.ref s.heap.objs.size) a' b' → h'.get? s.heap.objs.size = some { cls := .type "tuple", data := .seq #[items.getD a' .none, items.getD b' .none] } → (∀ q o, q ≠ c → s.heap.get? q = some o → h'.get? q = some o) → Q (some (.ref s.heap.objs.size)) { s with heap := h' }) :
    wpAny (model prog w) A (pyNext (.ref c)) Q E s := by
  have hT : s.TypeIs (.ref c) "itertools.combinations" := ⟨_, hc, rfl⟩
  unfold pyNext
  refine wpAny_bind (wpAny_attempt (wpAny_callSpecial?_slot (name := Str.ofString "__next__") hT slotN (wpAny_call_entry slotN hT entN ?_ (argsN _))))
  obtain ⟨hp', g, d, tk, os⟩ := s
  replace hc : hp'.get? c = some { cls := .type "itertools.combinations", data := .fields #[.ref pt, rawInt 1, old, rawInt a, rawInt b] } := hc
  replace hp : hp'.get? pt = some { cls := .type "tuple", data := .seq items n } := hp
  unfold nx at hx
  wp_walk
  have hfin : ∀ (h2 : Heap), h2.get? c = some { cls := .type "itertools.combinations", data := .fields #[.ref pt, rawInt 1, old, rawInt a', rawInt b'] } → h2.objs.size = hp'.objs.size → (∀ q o, q ≠ c → hp'.get? q = some o → h2.get? q = some o) →
      Q (some (.ref hp'.objs.size)) { heap := (h2.push { cls := .type "tuple", data := .seq #[items.getD a' .none, items.getD b' .none] }).update c (Obj.mapFields fun x => x.setIfInBounds 2 (Value.ref hp'.objs.size)), gens := g, drawn := d, toks := tk, os := os } := fun h2 g1 g2 g3 => by
    refine hQ _ ?_ ?_ fun q o hq e => ?_
    · have q2 := Heap.get?_push_of_some { cls := .type "tuple", data := .seq #[items.getD a' .none, items.getD b' .none] } g1
      exact Heap.get?_update_self (Obj.mapFields fun x => x.setIfInBounds 2 (Value.ref hp'.objs.size)) q2 rfl
    · refine (Heap.get?_update_other _ _ (Nat.ne_of_lt (Heap.lt_size hc))).trans ?_
      show (h2.push _).get? hp'.objs.size = _
      rw [← g2]
      exact Heap.get?_push_size _ rfl
    · exact (Heap.get?_update_other _ _ (Ne.symm hq)).trans (Heap.get?_push_of_some _ (g3 q o hq e))
  split
  · rename_i next heq
    have h2 : (match ([a, b].length |> List.range).reverse.find? (fun i => [a, b].getD i 0 != i + items.size - [a, b].length) with
      | none => none
      | some i => some ([a, b].take i ++ ([a, b].length - i |> List.range).map fun k => [a, b].getD i 0 + 1 + k)) = some next := heq
    have en : next = [a', b'] := by
      by_cases z : b + 1 < items.size
      · rw [if_pos z] at hx
        cases hx
        rw [show (([a, b].length |> List.range).reverse.find? (fun i => [a, b].getD i 0 != i + items.size - [a, b].length)) = some 1 from findMid a z] at h2
        cases h2
        rfl
      · rw [if_neg z] at hx
        by_cases z2 : a + 2 < items.size
        · rw [if_pos z2] at hx
          cases hx
          rw [show (([a, b].length |> List.range).reverse.find? (fun i => [a, b].getD i 0 != i + items.size - [a, b].length)) = some 0 from findLow (by omega) z2] at h2
          cases h2
          rfl
        · rw [if_neg z2] at hx
          cases hx
    subst en
    wp_walk
    have e0 : (hp'.update c (Obj.mapFields fun fs => fs.extract 0 3 ++ (List.map (fun (n : Nat) => rawInt n) [a', b']).toArray)).objs.size = hp'.objs.size := Heap.size_after_update ..
    rw [e0]
    refine ⟨_, rfl, wpAny_pure (hfin _ ?_ e0 fun q o hq e => (Heap.get?_update_other _ _ (Ne.symm hq)).trans e)⟩
    exact Heap.get?_update_self (Obj.mapFields fun fs => fs.extract 0 3 ++ (List.map (fun (n : Nat) => rawInt n) [a', b']).toArray) hc rfl
  · rename_i heq
    exfalso
    have h2 : (match ([a, b].length |> List.range).reverse.find? (fun i => [a, b].getD i 0 != i + items.size - [a, b].length) with
      | none => none
      | some i => some ([a, b].take i ++ ([a, b].length - i |> List.range).map fun k => [a, b].getD i 0 + 1 + k)) = none := heq
    by_cases z : b + 1 < items.size
    · rw [show (([a, b].length |> List.range).reverse.find? (fun i => [a, b].getD i 0 != i + items.size - [a, b].length)) = some 1 from findMid a z] at h2
      cases h2
    · rw [if_neg z] at hx
      by_cases z2 : a + 2 < items.size
      · rw [show (([a, b].length |> List.range).reverse.find? (fun i => [a, b].getD i 0 != i + items.size - [a, b].length)) = some 0 from findLow (by omega) z2] at h2
        cases h2
      · rw [if_neg z2] at hx
        cases hx
set_option maxHeartbeats 1000000 in
theorem stopAt {c : Addr} {h0 : Heap} {R : Fin → Shared → Prop} {E1 : Value → Shared → Prop} (hh : A.handled = none) (eb : Heap.ExtBut c h0 s.heap)
    (hE : ∀ (e : Value) (h' : Heap), Heap.ExtBut c h0 h' → (∃ o, h'.get? (match e with | .ref a => a | _ => 0) = some o ∧ o.cls = .type "StopIteration" ∧ ∃ a, e = .ref a) → E1 e { s with heap := h' }) :
    wpAny (model prog w) A (Builtin.Itertools.itStop : Sem Fin) R E1 s := by
  unfold Builtin.Itertools.itStop
  show wpAny _ _ (newExc (.type "StopIteration") [] >>= _) _ _ _
  refine wpAny_bind ?_
  simp only [newExc, newTuple]
  refine wpAny_bind (wpAny_newObj_type ?_ (by size_fits))
  refine wpAny_bind (m := firstArgMember _ _) (wpAny_of_eq (a := Value.none) (by first | rfl | (simp only [firstArgMember]; rfl)) ?_)
  refine wpAny_newObj_type ?_ (by size_fits)
  simp only [raiseNew]
  refine wpAny_bind (wpAny_handled ?_)
  rw [hh]
  refine wpAny_bind (wpAny_pure (wpAny_throw ?_))
  exact hE _ _ ((eb.push _).push _) ⟨_, Heap.get?_push_size _ rfl, rfl, _, rfl⟩
set_option maxHeartbeats 1000000 in
theorem nextEnd {c pt : Addr} {old : Value} {a b n : Nat} {items : Array Value} {Q : Option Value → Shared → Prop} (hh : A.handled = none) (hc : IsC s.heap c pt 1 old a b) (hp : s.heap.get? pt = some { cls := .type "tuple", data := .seq items n }) (hne : c ≠ pt)
    (hlt : a < b) (hb : b < items.size) (hx : nx items.size (a, b) = none) (hQ : ∀ h', Heap.ExtBut c s.heap h' → Q none { s with heap := h' }) : wpAny (model prog w) A (pyNext (.ref c)) Q E s := by
  have hT : s.TypeIs (.ref c) "itertools.combinations" := ⟨_, hc, rfl⟩
  unfold pyNext
  refine wpAny_bind (wpAny_attempt (wpAny_callSpecial?_slot (name := Str.ofString "__next__") hT slotN (wpAny_call_entry slotN hT entN ?_ (argsN _))))
  obtain ⟨hp', g, d, tk, os⟩ := s
  replace hc : hp'.get? c = some { cls := .type "itertools.combinations", data := .fields #[.ref pt, rawInt 1, old, rawInt a, rawInt b] } := hc
  replace hp : hp'.get? pt = some { cls := .type "tuple", data := .seq items n } := hp
  unfold nx at hx
  have z1 : ¬ b + 1 < items.size := fun z => by
    rw [if_pos z] at hx
    cases hx
  rw [if_neg z1] at hx
  have z2 : ¬ a + 2 < items.size := fun z => by
    rw [if_pos z] at hx
    cases hx
  wp_walk
  split
  · rename_i next heq
    exfalso
    have h2 : (match ([a, b].length |> List.range).reverse.find? (fun i => [a, b].getD i 0 != i + items.size - [a, b].length) with
      | none => none
      | some i => some ([a, b].take i ++ ([a, b].length - i |> List.range).map fun k => [a, b].getD i 0 + 1 + k)) = some next := heq
    rw [show (([a, b].length |> List.range).reverse.find? (fun i => [a, b].getD i 0 != i + items.size - [a, b].length)) = none from findNone (by omega) (by omega)] at h2
    cases h2
  · refine wpAny_bind (wpAny_setField hc rfl (by show 1 < 5; decide) ?_)
    refine stopAt (c := c) (h0 := hp') hh (Heap.SameBut.update ..).extBut fun e h' eb hs => ?_
    obtain ⟨o, ho, hcl, ad, rfl⟩ := hs
    refine wpAny_bind (wpAny_isInstance (T := "StopIteration") (b := true) ⟨o, ho, hcl⟩ isSubtype_stop ?_)
    exact wpAny_pure (hQ _ eb)
set_option maxHeartbeats 1000000 in
theorem nextNone {c pt : Addr} {old : Value} {a b n : Nat} {items : Array Value} {Q : Option Value → Shared → Prop} (hh : A.handled = none) (hc : IsC s.heap c pt 2 old a b) (hp : s.heap.get? pt = some { cls := .type "tuple", data := .seq items n }) (hne : c ≠ pt)
    (hQ : ∀ h', Heap.ExtBut c s.heap h' → Q none { s with heap := h' }) : wpAny (model prog w) A (pyNext (.ref c)) Q E s := by
  have hT : s.TypeIs (.ref c) "itertools.combinations" := ⟨_, hc, rfl⟩
  unfold pyNext
  refine wpAny_bind (wpAny_attempt (wpAny_callSpecial?_slot (name := Str.ofString "__next__") hT slotN (wpAny_call_entry slotN hT entN ?_ (argsN _))))
  obtain ⟨hp', g, d, tk, os⟩ := s
  replace hc : hp'.get? c = some { cls := .type "itertools.combinations", data := .fields #[.ref pt, rawInt 2, old, rawInt a, rawInt b] } := hc
  replace hp : hp'.get? pt = some { cls := .type "tuple", data := .seq items n } := hp
  have hst : ∀ (R : Fin → Shared → Prop) (E1 : Value → Shared → Prop) (s : Shared), s.heap = hp' → (∀ (e : Value) (h' : Heap), Heap.ExtBut c hp' h' → (∃ o, h'.get? (match e with | .ref a => a | _ => 0) = some o ∧ o.cls = .type "StopIteration" ∧ ∃ a, e = .ref a) → E1 e { s with heap := h' }) → wpAny (model prog w) A.in1 (Builtin.Itertools.itStop : Sem Fin) R E1 s := fun R E1 s es hE => by
    refine stopAt (c := c) (h0 := hp') hh ?_ hE
    rw [es]
    exact fun _ _ _ e => e
  wp_walk using hst
  case a => rfl
  case a =>
    intro e h' eb hs
    obtain ⟨o, ho, hcl, ad, rfl⟩ := hs
    refine wpAny_bind (wpAny_isInstance (T := "StopIteration") (b := true) ⟨o, ho, hcl⟩ isSubtype_stop ?_)
    exact wpAny_pure (hQ _ eb)
end
/-- the pairs in their order -/
def prs (n : Nat) : Nat → Option (Nat × Nat)
  | 0 => if 2 ≤ n then some (0, 1) else none
  | i + 1 => (prs n i).bind (nx n)
theorem prs_ok {n : Nat} : ∀ {i a b : Nat}, prs n i = some (a, b) → a < b ∧ b < n
  | 0, a, b, h => by
    unfold prs at h
    by_cases z : 2 ≤ n
    · rw [if_pos z] at h
      cases h
      omega
    · rw [if_neg z] at h
      cases h
  | i + 1, a, b, h => by
    unfold prs at h
    cases e : prs n i with
    | none =>
      rw [e] at h
      cases h
    | some p =>
      obtain ⟨x, y⟩ := p
      rw [e] at h
      have ih := prs_ok e
      replace h : nx n (x, y) = some (a, b) := h
      unfold nx at h
      by_cases z : y + 1 < n
      · rw [if_pos z] at h
        cases h
        omega
      · rw [if_neg z] at h
        by_cases z2 : x + 2 < n
        · rw [if_pos z2] at h
          cases h
          omega
        · rw [if_neg z2] at h
          cases h
end Cm
/-- the pairs of the items xs, each a new tuple -/
def Itcm (xs : List V) : It :=
  ⟨fun i _ => ∃ p, Cm.prs xs.length i = some p, fun i H v H' => ∃ (T a b : Nat) (x y : V), Cm.prs xs.length i = some (a, b) ∧ xs[a]? = some x ∧ xs[b]? = some y ∧ v = .ref T ∧ H T = none ∧ H' = L2.upd H T (.tup [x, y]), fun i _ => Cm.prs xs.length i = none⟩
def CmSt (items : Array Value) (c pt n : Nat) (i : Nat) (h : Heap) : Prop :=
  h.get? pt = some { cls := .type "tuple", data := .seq items n } ∧ c ≠ pt ∧ (match i with
    | 0 => Cm.IsC h c pt (if 2 > items.size then 2 else 0) .none 0 1
    | k + 1 => ∃ a b old, Cm.prs items.size k = some (a, b) ∧ Cm.IsC h c pt 1 old a b)
theorem CmSt.ex {items : Array Value} {c pt n i : Nat} {h : Heap} (st : CmSt items c pt n i h) : ∃ fl old a b, Cm.IsC h c pt fl old a b := by
  obtain ⟨_, _, q⟩ := st
  cases i with
  | zero => exact ⟨_, _, _, _, q⟩
  | succ k =>
    obtain ⟨a, b, old, _, q⟩ := q
    exact ⟨_, _, _, _, q⟩
theorem turn_comb {P : Program} {w : World} {K : PySem.W.Frag} {tg : Expr} {xs : List V} {items : Array Value} {c pt n : Addr} (rv : Vals xs items.toList) : Turn P w K tg (Itcm xs) [c, pt] c (fun i h => CmSt items c pt n i h) where
  mem := by simp
  obj := fun i h st b hb => by
    have e' : b = c ∨ b = pt := by simpa using hb
    rcases e' with z | z
    · obtain ⟨fl, old, x, y, q⟩ := st.ex
      rw [z]
      exact ⟨_, q, fun v q => nomatch q⟩
    · rw [z]
      exact ⟨_, st.1, fun v q => nomatch q⟩
  keep := fun i h h' st k => by
    obtain ⟨h1, h2, q⟩ := st
    refine ⟨k pt (by simp) _ h1, h2, ?_⟩
    cases i with
    | zero => exact k c (by simp) _ q
    | succ j =>
      obtain ⟨a, b, old, e, q⟩ := q
      exact ⟨a, b, old, e, k c (by simp) _ q⟩
  item := by
    intro X hP hw hK hcm i pins s σ H E I hf st hg
    subst hP hw hK
    obtain ⟨⟨a, b⟩, hpr⟩ := hg
    have hl : xs.length = items.size := by
      have := rv.length
      simpa using this
    obtain ⟨hab, hbn⟩ := Cm.prs_ok hpr
    obtain ⟨x, hx⟩ : ∃ x, xs[a]? = some x := ⟨xs[a], List.getElem?_eq_getElem (by omega)⟩
    obtain ⟨y, hy⟩ : ∃ y, xs[b]? = some y := ⟨xs[b], List.getElem?_eq_getElem (by omega)⟩
    obtain ⟨u, hu, ru⟩ := rv.get hx
    obtain ⟨v, hv, rw2⟩ := rv.get hy
    have eu : items.getD a .none = u := by
      rw [Array.getD_eq_getD_getElem?, ← Array.getElem?_toList, hu]
      rfl
    have ev : items.getD b .none = v := by
      rw [Array.getD_eq_getD_getElem?, ← Array.getElem?_toList, hv]
      rfl
    obtain ⟨fl0, old0, x0, y0, q0⟩ := st.ex
    have hcl : c < s.heap.objs.size := Heap.lt_size q0
    obtain ⟨hpool, hne, q⟩ := st
    have fin : ∀ h', Cm.IsC h' c pt 1 (.ref s.heap.objs.size) a b → h'.get? s.heap.objs.size = some { cls := .type "tuple", data := .seq #[items.getD a .none, items.getD b .none] } → (∀ q o, q ≠ c → s.heap.get? q = some o → h'.get? q = some o) →
        ∃ u, (some (Value.ref s.heap.objs.size) : Option Value) = some u ∧ wpAny (model X.prog X.w) X.A (letOwnedTupleGo tg (.ref c) u) (fun _ s2 => ∃ x H', Inv X pins σ H' s2 ∧ RelV x u ∧ (Itcm xs).yld i H x H' ∧ CmSt items c pt n (i + 1) s2.heap ∧ ∀ b ∈ [c, pt], H' b = none) E { s with heap := h' } := fun h' g1 g2 g3 => by
      rw [eu, ev] at g2
      have new : ObjOk X.prog X.w (L2.upd H s.heap.objs.size (.tup [x, y])) h' s.heap.objs.size (.tup [x, y]) :=
        ⟨by show 2 ≤ sizeLine; decide, [u, v], .cons ru (.cons rw2 .nil), ⟨_, g2, rfl, _, rfl⟩⟩
      have I1 : Inv X pins σ (L2.upd H s.heap.objs.size (.tup [x, y])) { s with heap := h' } :=
        I.turnedNew (t' := s.toks) (ch := [c, pt]) (fun b ob hb q => g3 b ob (fun z => hb (by simp [z])) q) hf (Nat.le_refl _) new
      refine ⟨_, rfl, go_of (s := { s with heap := h' }) (n := "itertools.combinations") g1 rfl rfl (by decide) ⟨.ref s.heap.objs.size, _, I1, rfl, ⟨s.heap.objs.size, a, b, x, y, hpr, hx, hy, rfl, I.hok.fresh (Nat.le_refl _), rfl⟩, ⟨g3 pt _ (Ne.symm hne) hpool, hne, a, b, _, by rw [← hl]; exact hpr, g1⟩, fun z hz => ?_⟩⟩
      have hz' : z < s.heap.objs.size := by
        have e' : z = c ∨ z = pt := by simpa using hz
        rcases e' with k | k
        · rw [k]; exact hcl
        · rw [k]; exact Heap.lt_size hpool
      rw [L2.upd_ne (Nat.ne_of_lt hz')]
      exact (hf z hz).1
    cases i with
    | zero =>
      unfold Cm.prs at hpr
      by_cases z : 2 ≤ xs.length
      · rw [if_pos z] at hpr
        cases hpr
        rw [if_neg (by omega)] at q
        exact Cm.nextFirst q hpool hne fin
      · rw [if_neg z] at hpr
        cases hpr
    | succ k =>
      obtain ⟨a0, b0, old, e, q⟩ := q
      obtain ⟨l1, l2⟩ := Cm.prs_ok e
      have hpr' := hpr
      unfold Cm.prs at hpr'
      rw [hl, e] at hpr'
      exact Cm.nextMore q hpool hne l1 l2 hpr' fin
  done := by
    intro X hP hw hK hcm i pins s σ H E I hf st hg
    subst hP hw hK
    replace hg : Cm.prs xs.length i = none := hg
    have hl : xs.length = items.size := by
      have := rv.length
      simpa using this
    obtain ⟨hpool, hne, q⟩ := st
    have fin : ∀ h', Heap.ExtBut c s.heap h' → (none : Option Value) = none ∧ Inv X pins σ H { s with heap := h' } := fun h' eb =>
      ⟨rfl, I.turnedL (t' := s.toks) (ch := [c, pt]) (fun b o hb e => eb b o (fun z => hb (by simp [z])) e) hf⟩
    cases i with
    | zero =>
      unfold Cm.prs at hg
      by_cases z : 2 ≤ xs.length
      · rw [if_pos z] at hg
        cases hg
      · rw [if_pos (by omega)] at q
        exact Cm.nextNone (I.ok.hd hcm) q hpool hne fin
    | succ k =>
      obtain ⟨a0, b0, old, e, q⟩ := q
      obtain ⟨l1, l2⟩ := Cm.prs_ok e
      unfold Cm.prs at hg
      rw [hl, e] at hg
      exact Cm.nextEnd (I.ok.hd hcm) q hpool hne l1 l2 hg fin
  self := fun A i s Q E st h => let ⟨_, _, _, _, q⟩ := st.ex; Cm.iterC q h
def iCmb (K : PySem.W.Frag) (ta : TA) : TI := fun σ H R => ta σ H fun vs H1 => ∃ a xs, vs = [.ref a, .int 2] ∧ SqL K H1 a xs ∧ R (Itcm xs) H1
theorem pi_comb {X : Cx} {tg e e2 : Expr} {ta : TA} {p pos : Pos} (hg : Gl X "combinations") (hm : X.mg "combinations" = some (.type "itertools.combinations")) (ha : PA X [e, e2] ta)
    (hs : starEach [e, e2] X.env = (false, eval e X.env) :: starEach [e2] X.env := by rfl) (hpl : (backTo pos (starEach [e2] X.env)).any (·.1) = false := by rfl) :
    PI X tg (.Call (.Name "combinations" p) [e, e2] [] pos) (iCmb X.K ta) := by
  refine ⟨fun pins s σ H R I h => ?_⟩
  refine Call_ (ld_glob I hg hm (PyProof.Rows.callWith_type1 (thn (ha.run pos pins s σ H _ I h) fun us s1 ⟨vs, H1, I1, r1, q1⟩ => ?_) hs hpl))
  obtain ⟨a, xs, ex, hq, q⟩ := q1
  subst ex
  cases r1 with
  | cons r rr =>
    cases rr with
    | cons r' rr =>
      cases rr
      cases r
      obtain ⟨t, rfl⟩ := r'
      obtain ⟨its, rv, p', hz⟩ := I1.list hq
      have hlen := rv.length
      refine Cm.callC p'.isList (fun h' hk => ?_) (by simp only [List.size_toArray]; omega)
      have e1 : (h'.push { cls := .type "tuple", data := .seq its.toArray }).objs.size = h'.objs.size + 1 := Heap.size_push ..
      have g1 : ((h'.push { cls := .type "tuple", data := .seq its.toArray }).push { cls := .type "itertools.combinations", data := .fields #[.ref h'.objs.size, rawInt (if 2 > its.toArray.size then 2 else 0), .none, rawInt 0, rawInt 1] }).get? (h'.push { cls := .type "tuple", data := .seq its.toArray }).objs.size = _ := Heap.get?_push_size _ rfl
      have I2 : Inv X pins σ H1 { s1 with heap := h' } := I1.kept (t' := s1.toks) hk
      have I3 : Inv X pins σ H1 { s1 with heap := (h'.push { cls := .type "tuple", data := .seq its.toArray }).push { cls := .type "itertools.combinations", data := .fields #[.ref h'.objs.size, rawInt (if 2 > its.toArray.size then 2 else 0), .none, rawInt 0, rawInt 1] } } :=
        I2.kept (t' := s1.toks) fun b o e => Heap.get?_push_of_some _ (Heap.get?_push_of_some _ e)
      refine Cm.iterC (pt := h'.objs.size) g1 ⟨_, [_, h'.objs.size], _, Itcm xs, H1, rfl, I3, turn_comb (n := 0) (items := its.toArray) (by simpa using rv), ⟨Heap.get?_push_of_some _ (Heap.get?_push_size _ rfl), by rw [e1]; exact Nat.succ_ne_self _, g1⟩, fun b hb => ?_, q⟩
      have hle : h'.objs.size ≤ b := by
        have e' : b = (h'.push { cls := .type "tuple", data := .seq its.toArray }).objs.size ∨ b = h'.objs.size := by simpa using hb
        rcases e' with z | z
        · rw [z, e1]; exact Nat.le_succ _
        · rw [z]; exact Nat.le_refl _
      exact I2.fpOk hle (I2.hok.fresh hle)
end Sv

/-! Spreads: a row in which each step exchanges two neighbours, by the verifier. -/
namespace Sv
open PySem L2
def sprd (k : Nm) (n : Nat) (w : List Int) : List Int :=
  match k with
  | .pl => w
  | .mi => -(w.getD 0 0) :: w
  | .ri => w ++ [w.getD 0 0 + (n : Int)]
def swpS (l : List Int) (s : Nat) : List Int := (l.set s (l.getD (s + 1) 0)).set (s + 1) (l.getD s 0)
/-- a step done on a spread -/
def exIn (k : Nm) (l : List Int) (s : Nat) : List Int :=
  match k with
  | .pl => swpS l s
  | .mi => if s = 1 then (swpS l s).set 0 (-((swpS l s).getD 1 0)) else swpS l s
  | .ri => if s = 0 then (swpS l s).set (l.length - 1) ((swpS l s).getD 0 0 + ((l.length - 1 : Nat) : Int))
    else if s + 1 = l.length - 1 then (swpS l s).set 0 ((swpS l s).getD (l.length - 1) 0 - ((l.length - 1 : Nat) : Int)) else swpS l s
theorem swpS_len (l : List Int) (s : Nat) : (swpS l s).length = l.length := by unfold swpS; simp
theorem sprd_len {k : Nm} {n : Nat} {w : List Int} (hl : w.length = n) (hn : 1 ≤ n) : (sprd k n w).length = (many k n).toNat + 1 := by
  unfold sprd many
  cases k <;> simp <;> omega
theorem exIn_len (k : Nm) (l : List Int) (s : Nat) : (exIn k l s).length = l.length := by
  unfold exIn
  cases k
  · exact swpS_len l s
  · by_cases h : s = 1 <;> simp [h, swpS_len]
  · by_cases h : s = 0
    · simp [h, swpS_len]
    · by_cases h2 : s + 1 = l.length - 1 <;> simp [h, h2, swpS_len]
theorem sprd_at {k : Nm} {n : Nat} {w : List Int} {s : Nat} (hl : w.length = n) (hK : okK k n = true) (hs : okS k n (s : Int)) :
    exch k n w s = ((sprd k n w).getD s 0, (sprd k n w).getD (s + 1) 0) := by
  obtain ⟨_, hs⟩ := hs
  unfold many at hs
  unfold exch sprd
  cases k
  · rfl
  · rw [if_neg (by decide), if_neg (by decide)]
    cases s with
    | zero => rfl
    | succ j => rfl
  · rw [if_neg (by decide), if_pos rfl]
    have h1 : s < w.length := by rw [if_neg (by decide)] at hs; omega
    by_cases e : s + 1 = n
    · rw [if_pos e]
      simp only [List.getD_eq_getElem?_getD]
      rw [List.getElem?_append_left h1, List.getElem?_append_right (by omega), show s + 1 - w.length = 0 by omega]
      rfl
    · rw [if_neg e]
      simp only [List.getD_eq_getElem?_getD]
      rw [List.getElem?_append_left h1, List.getElem?_append_left (by omega)]
theorem ext_getDS {a b : List Int} (h : a.length = b.length) (g : ∀ i, i < a.length → a.getD i 0 = b.getD i 0) : a = b := by
  refine List.ext_getElem h fun i h1 h2 => ?_
  have := g i h1
  rw [List.getD_eq_getElem?_getD, List.getD_eq_getElem?_getD, List.getElem?_eq_getElem h1, List.getElem?_eq_getElem h2] at this
  exact this
theorem getD_setS (l : List Int) (i j : Nat) (x : Int) (h : i < l.length) : (l.set i x).getD j 0 = if j = i then x else l.getD j 0 := by
  rw [List.getD_eq_getElem?_getD, List.getElem?_set, List.getD_eq_getElem?_getD]
  by_cases e : j = i
  · subst e; simp [h]
  · rw [if_neg (Ne.symm e), if_neg e]
theorem after_lenS (k : Nm) (n : Nat) (w : List Int) (s : Nat) : (after k n w s).length = w.length := by
  unfold after
  repeat' split
  all_goals simp
theorem swpS_getD {l : List Int} {s : Nat} (h : s + 1 < l.length) (j : Nat) : (swpS l s).getD j 0 = if j = s + 1 then l.getD s 0 else if j = s then l.getD (s + 1) 0 else l.getD j 0 := by
  unfold swpS
  rw [getD_setS _ _ _ _ (by rw [List.length_set]; exact h), getD_setS _ _ _ _ (by omega)]
theorem getD_consS (x : Int) (l : List Int) (j : Nat) : (x :: l).getD j 0 = if j = 0 then x else l.getD (j - 1) 0 := by
  cases j with
  | zero => rfl
  | succ j => rfl
theorem getD_snocS (l : List Int) (x : Int) (j : Nat) (h : j ≤ l.length) : (l ++ [x]).getD j 0 = if j = l.length then x else l.getD j 0 := by
  rw [List.getD_eq_getElem?_getD]
  by_cases e : j = l.length
  · rw [List.getElem?_append_right (by omega), if_pos e, e, Nat.sub_self]; rfl
  · rw [List.getElem?_append_left (by omega), if_neg e, List.getD_eq_getElem?_getD]
theorem exIn_sprd {k : Nm} {n : Nat} {w : List Int} {s : Nat} (hl : w.length = n) (hK : okK k n = true) (hs : okS k n (s : Int)) : exIn k (sprd k n w) s = sprd k n (after k n w s) := by
  have hn := okK_le hK
  have hL := sprd_len (k := k) hl hn.1
  have hA : (after k n w s).length = n := (after_lenS k n w s).trans hl
  have hL2 := sprd_len (k := k) hA hn.1
  refine ext_getDS (by rw [exIn_len, hL, hL2]) fun j hj => ?_
  rw [exIn_len, hL] at hj
  obtain ⟨_, hs⟩ := hs
  have hsn : s < n := by unfold many at hs; split at hs <;> omega
  cases k
  · have h1 : s + 1 < n := by unfold many at hs; rw [if_pos rfl] at hs; omega
    show (swpS w s).getD j 0 = (after .pl n w s).getD j 0
    rw [swpS_getD (by omega)]
    unfold after exch
    simp only [if_true]
    rw [getD_setS _ _ _ _ (by rw [List.length_set]; omega), getD_setS _ _ _ _ (by omega)]
  · have hj' : j ≤ n := by unfold many at hj; rw [if_neg (by decide)] at hj; omega
    show (exIn .mi (-(w.getD 0 0) :: w) s).getD j 0 = (-((after .mi n w s).getD 0 0) :: after .mi n w s).getD j 0
    have hA2 : ∀ i, (after .mi n w s).getD i 0 = if s = 0 then (if i = 0 then -(w.getD 0 0) else w.getD i 0) else if i = s then w.getD (s - 1) 0 else if i = s - 1 then w.getD s 0 else w.getD i 0 := fun i => by
      unfold after exch
      by_cases e : s = 0
      · subst e
        simp only [reduceCtorEq, if_false, false_and, if_true]
        exact getD_setS _ _ _ _ (by omega)
      · simp only [reduceCtorEq, if_false, false_and, if_neg e]
        rw [getD_setS _ _ _ _ (by rw [List.length_set]; omega), getD_setS _ _ _ _ (by omega)]
    have hS : ∀ i, (swpS (-(w.getD 0 0) :: w) s).getD i 0 = if i = s + 1 then (-(w.getD 0 0) :: w).getD s 0 else if i = s then (-(w.getD 0 0) :: w).getD (s + 1) 0 else (-(w.getD 0 0) :: w).getD i 0 := fun i => swpS_getD (by simp; omega) i
    rw [getD_consS, hA2 0]
    unfold exIn
    dsimp only
    by_cases e1 : s = 1
    · subst e1
      rw [if_pos rfl, getD_setS _ _ _ _ (by rw [swpS_len]; simp)]
      rw [hS 1, hS j]
      simp only [getD_consS, hA2]
      by_cases j0 : j = 0
      · subst j0; simp
      · by_cases j1 : j = 1
        · subst j1; simp
        · by_cases j2 : j = 2
          · subst j2; simp
          · simp [j0, j1, j2, show ¬ j - 1 = 1 by omega, show ¬ j - 1 = 0 by omega]
    · rw [if_neg e1, hS j]
      simp only [getD_consS, hA2]
      by_cases e0 : s = 0
      · subst e0
        by_cases j0 : j = 0
        · subst j0; simp
        · by_cases j1 : j = 1
          · subst j1; simp
          · simp [j0, j1, show ¬ j - 1 = 0 by omega]
      · by_cases j0 : j = 0
        · subst j0
          simp [e0, show ¬ 0 = s by omega, show ¬ 0 = s - 1 by omega]
        · by_cases ja : j = s + 1
          · subst ja; simp [e0]
          · by_cases jb : j = s
            · subst jb; simp [e0, show ¬ j - 1 = j by omega]
            · simp [e0, j0, ja, jb, show ¬ j - 1 = s by omega, show ¬ j - 1 = s - 1 by omega]
  · have hj' : j ≤ n := by unfold many at hj; rw [if_neg (by decide)] at hj; omega
    have hn2 : 2 ≤ n := by have := of_decide_eq_true hK; omega
    show (exIn .ri (w ++ [w.getD 0 0 + (n : Int)]) s).getD j 0 = (after .ri n w s ++ [(after .ri n w s).getD 0 0 + (n : Int)]).getD j 0
    have hA2 : ∀ i, (after .ri n w s).getD i 0 = if s + 1 = n then (if i = 0 then w.getD s 0 - (n : Int) else if i = s then w.getD 0 0 + (n : Int) else w.getD i 0) else if i = s + 1 then w.getD s 0 else if i = s then w.getD (s + 1) 0 else w.getD i 0 := fun i => by
      unfold after exch
      by_cases e : s + 1 = n
      · simp only [reduceCtorEq, if_false, if_pos e, if_true, true_and]
        rw [getD_setS _ _ _ _ (by rw [List.length_set]; omega), getD_setS _ _ _ _ (by omega)]
      · simp only [reduceCtorEq, if_false, true_and, if_neg e, if_true]
        rw [getD_setS _ _ _ _ (by rw [List.length_set]; omega), getD_setS _ _ _ _ (by omega)]
    have hlen : (w ++ [w.getD 0 0 + (n : Int)]).length = n + 1 := by simp; omega
    have hS : ∀ i, (swpS (w ++ [w.getD 0 0 + (n : Int)]) s).getD i 0 = if i = s + 1 then (w ++ [w.getD 0 0 + (n : Int)]).getD s 0 else if i = s then (w ++ [w.getD 0 0 + (n : Int)]).getD (s + 1) 0 else (w ++ [w.getD 0 0 + (n : Int)]).getD i 0 := fun i => swpS_getD (by omega) i
    have hw : ∀ i, i ≤ n → (w ++ [w.getD 0 0 + (n : Int)]).getD i 0 = if i = n then w.getD 0 0 + (n : Int) else w.getD i 0 := fun i hi => by
      rw [getD_snocS _ _ _ (by omega), hl]
    rw [getD_snocS _ _ _ (by omega), hA]
    unfold exIn
    dsimp only
    rw [hlen, Nat.add_sub_cancel]
    by_cases e0 : s = 0
    · subst e0
      rw [if_pos rfl, getD_setS _ _ _ _ (by rw [swpS_len]; omega), hS 0, hS j, hw 0 (by omega), hw (0 + 1) (by omega), hw j hj', hA2 0, hA2 j]
      by_cases jn : j = n
      · subst jn
        simp [show ¬ 0 + 1 = j by omega, show ¬ 1 = j by omega]
      · by_cases j1 : j = 1
        · subst j1; simp [show ¬ 1 = n by omega, show ¬ 0 = n by omega]
        · by_cases j0 : j = 0
          · subst j0; simp [show ¬ 1 = n by omega, show ¬ 0 = n by omega]
          · simp [jn, j1, j0, show ¬ 1 = n by omega]
    · rw [if_neg e0]
      by_cases e1 : s + 1 = n
      · rw [if_pos e1, getD_setS _ _ _ _ (by rw [swpS_len]; omega), hS n, hS j, hw s (by omega), hw (s + 1) (by omega), hw j hj', hA2 0, hA2 j]
        by_cases j0 : j = 0
        · subst j0
          simp [e1, show ¬ 0 = n by omega, show ¬ s = n by omega]
        · by_cases jn : j = n
          · subst jn
            simp [e1, j0, show ¬ s = j by omega]
          · by_cases js : j = s
            · subst js
              simp [e1, j0, jn]
            · simp [e1, j0, jn, js]
      · rw [if_neg e1, hS j, hw s (by omega), hw (s + 1) (by omega), hw j hj', hA2 0, hA2 j]
        by_cases jn : j = n
        · subst jn
          simp [e1, show ¬ j = s + 1 by omega, show ¬ j = s by omega, show ¬ 0 = s by omega]
        · by_cases ja : j = s + 1
          · subst ja
            simp [e1, jn, show ¬ s = n by omega]
          · by_cases jb : j = s
            · subst jb
              simp [e1, jn]
            · simp [e1, jn, ja, jb]
theorem crossP_sprd {k : Nm} {n : Nat} {w : List Int} {s : Nat} (hl : w.length = n) (hK : okK k n = true) (hs : okS k n (s : Int)) : crossP k n w s = decide ((sprd k n w).getD (s + 1) 0 < (sprd k n w).getD s 0) := by
  unfold crossP
  rw [sprd_at hl hK hs]
end Sv

/-! The program's functions of orders are the law's: by the verifier. -/
namespace Sv
open PySem L2
theorem ext_getD {n : Nat} {a b : List Int} (ha : a.length = n) (hb : b.length = n) (h : ∀ i, i < n → a.getD i 0 = b.getD i 0) : a = b := by
  apply List.ext_getElem?
  intro i
  by_cases hi : i < n
  · have := h i hi
    rw [List.getD_eq_getElem?_getD, List.getD_eq_getElem?_getD, List.getElem?_eq_getElem (by omega), List.getElem?_eq_getElem (by omega)] at this
    rw [List.getElem?_eq_getElem (by omega), List.getElem?_eq_getElem (by omega)]
    exact congrArg some this
  · rw [List.getElem?_eq_none (by omega), List.getElem?_eq_none (by omega)]
theorem getD_set (w : List Int) (a i : Nat) (x : Int) : (w.set a x).getD i 0 = if i = a ∧ a < w.length then x else w.getD i 0 := by
  rw [List.getD_eq_getElem?_getD, List.getD_eq_getElem?_getD, List.getElem?_set]
  by_cases h : a = i
  · subst h
    by_cases h2 : a < w.length
    · simp [h2]
    · simp [h2]
  · rw [if_neg h, if_neg (fun z => h z.1.symm)]
theorem itemP_eq {k : Nm} {n : Nat} {w : List Int} {p : Int} (hp : okP k n p) : itemP k n w p = item k n w p := by
  unfold itemP item
  by_cases hk : k = .mi
  · rw [if_pos hk, if_pos hk]
    obtain ⟨h0, _⟩ := hp hk
    by_cases h : 0 < p
    · rw [if_pos h, sg_pos h, show (p - 1).toNat = p.natAbs - 1 by omega]
      omega
    · rw [if_neg h, sg_neg (by omega), show (-p - 1).toNat = p.natAbs - 1 by omega]
      omega
  · rw [if_neg hk, if_neg hk]
theorem item_in {k : Nm} (hk : k ≠ .mi) {n : Nat} {w : List Int} {i : Nat} (h : i < n) : item k n w (i : Int) = w.getD i 0 := by
  rw [item_nm hk, Int.emod_eq_of_lt (by omega) (by omega)]
  simp only [Int.toNat_natCast]
  omega
theorem after_len (k : Nm) (n : Nat) (w : List Int) (s : Nat) : (after k n w s).length = w.length := by
  unfold after
  repeat' split
  all_goals simp
theorem mod_near {n : Nat} {a : Int} (h1 : -(n : Int) < a) (h2 : a < (n : Int)) : a % (n : Int) = if a < 0 then a + n else a := by
  split
  · rw [← Int.add_emod_right]
    exact Int.emod_eq_of_lt (by omega) (by omega)
  · exact Int.emod_eq_of_lt (by omega) h2
theorem step_of {k : Nm} {n : Nat} {s : Int} (h : okS k n s) : ∃ t : Nat, s = (t : Int) := ⟨s.toNat, by have := h.1; omega⟩
theorem exch_mi0 (n : Nat) (w : List Int) : exch .mi n w 0 = (-(w.getD 0 0), w.getD 0 0) := rfl
theorem exch_mis {n : Nat} {w : List Int} {s : Nat} (h : s ≠ 0) : exch .mi n w s = (w.getD (s - 1) 0, w.getD s 0) := by
  unfold exch
  rw [if_neg (by decide), if_neg (by decide), if_neg h]
theorem exch_ril {n : Nat} {w : List Int} {s : Nat} (h : s + 1 = n) : exch .ri n w s = (w.getD s 0, w.getD 0 0 + (n : Int)) := by
  unfold exch
  rw [if_neg (by decide), if_pos rfl, if_pos h]
theorem after_mi0 (n : Nat) (w : List Int) : after .mi n w 0 = w.set 0 (-(w.getD 0 0)) := by
  unfold after
  rw [if_neg (by decide), if_neg (fun z => by cases z.1), if_neg (by decide), if_pos rfl]
  rfl
theorem after_mis {n : Nat} {w : List Int} {s : Nat} (h : s ≠ 0) : after .mi n w s = (w.set (s - 1) (w.getD s 0)).set s (w.getD (s - 1) 0) := by
  unfold after
  rw [if_neg (by decide), if_neg (fun z => by cases z.1), if_neg (by decide), if_neg h, exch_mis h]
theorem after_ril {n : Nat} {w : List Int} {s : Nat} (h : s + 1 = n) : after .ri n w s = (w.set s (w.getD 0 0 + (n : Int))).set 0 (w.getD s 0 - (n : Int)) := by
  unfold after
  rw [if_neg (by decide), if_pos ⟨rfl, h⟩, exch_ril h]
theorem after_in {k : Nm} {n : Nat} {w : List Int} {s : Nat} (hk : k ≠ .mi) (h : s + 1 < n) : after k n w s = (w.set s (w.getD (s + 1) 0)).set (s + 1) (w.getD s 0) := by
  unfold after exch
  by_cases hp : k = .pl
  · rw [if_pos hp, if_pos hp]
  · have hr : k = .ri := by cases k <;> simp_all
    rw [if_neg hp, if_neg hp, if_neg (fun z => by omega), if_pos hr, if_pos hr, if_neg (by omega)]
theorem after_eq {k : Nm} {n : Nat} {w : List Int} {s : Nat} (hK : okK k n = true) (hs : okS k n (s : Int)) (hl : w.length = n) : after k n w s = stepped k n w (s : Int) := by
  refine ext_getD (by rw [after_len]; exact hl) (stepped_len _ _ _ _) fun i hi => ?_
  rw [stepped_getD k n w _ i hi]
  by_cases hk : k = .mi
  · subst hk
    have h2 := okS_mi hs
    have e : off .mi + (i : Int) = (i : Int) + 1 := by show (1 : Int) + _ = _; omega
    rw [e, turned_mi' n _ _ (by omega) h2.1]
    by_cases h0 : s = 0
    · subst h0
      rw [after_mi0, if_pos (by rfl), getD_set]
      by_cases hi0 : i = 0
      · subst hi0
        rw [if_pos ⟨rfl, by omega⟩, if_pos (by omega), item_mi, sg_neg (by omega)]
        show -(w.getD 0 0) = w.getD 0 0 * -1
        omega
      · rw [if_neg (by omega), if_neg (by omega), item_mi, sg_pos (by omega), show ((i : Int) + 1).natAbs - 1 = i by omega]
        omega
    · rw [after_mis h0, if_neg (by omega), getD_set, getD_set, List.length_set]
      by_cases h1 : i = s
      · subst h1
        rw [if_pos ⟨rfl, by omega⟩, if_neg (by omega), if_pos (by omega), item_mi, sg_pos (by omega), show ((i : Int)).natAbs - 1 = i - 1 by omega]
        omega
      · rw [if_neg (by omega)]
        by_cases h3 : i = s - 1
        · rw [if_pos ⟨h3, by omega⟩, if_pos (by omega), item_mi, sg_pos (by omega), show ((s : Int) + 1).natAbs - 1 = s by omega]
          omega
        · rw [if_neg (by omega), if_neg (by omega), if_neg (by omega), if_neg (by omega), if_neg (by omega), item_mi, sg_pos (by omega), show ((i : Int) + 1).natAbs - 1 = i by omega]
          omega
  · have h2 := okS_two hK hk hs
    have e : off k + (i : Int) = (i : Int) := by unfold off; rw [if_neg hk]; omega
    have hsn : s < n := by
      obtain ⟨_, h⟩ := hs
      unfold many at h
      split at h <;> omega
    rw [e, turned_nm hk, mod_near (a := (i : Int) - (s : Int)) (by omega) (by omega)]
    by_cases hp : k = .pl ∨ s + 1 < n
    · have hs1 : s + 1 < n := by
        rcases hp with rfl | h
        · obtain ⟨_, h⟩ := hs
          unfold many at h
          rw [if_pos rfl] at h
          omega
        · exact h
      rw [after_in hk hs1, getD_set, getD_set, List.length_set]
      by_cases h1 : i = s
      · subst h1
        rw [if_neg (by omega), if_pos ⟨rfl, by omega⟩, if_pos (by split <;> omega)]
        have := item_in hk (w := w) (i := i + 1) hs1
        exact this.symm
      · by_cases h3 : i = s + 1
        · subst h3
          rw [if_pos ⟨rfl, by omega⟩, if_neg (by split <;> omega), if_pos (by split <;> omega)]
          have := item_in hk (w := w) (i := s) hsn
          rw [← this]
          congr 1
          omega
        · rw [if_neg (by omega), if_neg (by omega), if_neg (by split <;> omega), if_neg (by split <;> omega)]
          exact (item_in hk hi).symm
    · have hr : k = .ri := by cases k <;> simp_all
      subst hr
      have hs1 : s + 1 = n := by
        have : ¬ s + 1 < n := fun z => hp (.inr z)
        omega
      rw [after_ril hs1, getD_set, getD_set, List.length_set]
      by_cases h1 : i = s
      · subst h1
        rw [if_neg (by omega), if_pos ⟨rfl, by omega⟩, if_pos (by split <;> omega), item_nm hk]
        have e1 : ((i : Int) + 1) = (n : Int) := by omega
        rw [e1, Int.emod_self]
        show w.getD 0 0 + (n : Int) = w.getD 0 0 + (n : Int) - 0
        omega
      · by_cases h3 : i = 0
        · subst h3
          rw [if_pos ⟨rfl, by omega⟩, if_neg (by split <;> omega), if_pos (by split <;> omega), item_nm hk, mod_near (by omega) (by omega), if_pos (by omega), show ((((0 : Nat) : Int) - 1 + (n : Int))).toNat = s by omega]
          omega
        · rw [if_neg (by omega), if_neg (by omega), if_neg (by split <;> omega), if_neg (by split <;> omega)]
          exact (item_in hk hi).symm
theorem cross_eq {k : Nm} {n : Nat} {w : List Int} {s : Nat} (hK : okK k n = true) (hs : okS k n (s : Int)) (hl : w.length = n) : crossP k n w s = crossed k n w (s : Int) := by
  unfold crossP crossed
  by_cases hk : k = .mi
  · subst hk
    have h2 := okS_mi hs
    unfold exch low
    rw [if_neg (by decide), if_neg (by decide), if_pos rfl]
    by_cases h0 : s = 0
    · subst h0
      rw [if_pos rfl, if_neg (by omega), turned_mi' n _ _ (by omega) (by omega), if_pos (by rfl), if_pos (by omega), item_mi, item_mi, sg_pos (by omega), sg_neg (by omega)]
      show decide (w.getD 0 0 < -(w.getD 0 0)) = decide (w.getD 0 0 * 1 < w.getD 0 0 * -1)
      congr 1
      rw [Int.mul_one, Int.mul_neg, Int.mul_one]
    · rw [if_neg h0, if_pos (by omega), turned_mi' n _ _ (by omega) (by omega), if_neg (by omega), if_pos rfl, item_mi, item_mi, sg_pos (by omega), sg_pos (by omega), Int.mul_one, Int.mul_one, show ((s : Int) + 1).natAbs - 1 = s by omega, show ((s : Int)).natAbs - 1 = s - 1 by omega]
  · have h2 := okS_two hK hk hs
    have hsn : s < n := by
      obtain ⟨_, h⟩ := hs
      unfold many at h
      split at h <;> omega
    have el : low k (s : Int) = (s : Int) := by unfold low; rw [if_neg hk]
    rw [el, turned_nm hk, if_pos (by rw [Int.sub_self]; rfl), item_in hk hsn]
    by_cases hp : k = .pl ∨ s + 1 < n
    · have hs1 : s + 1 < n := by
        rcases hp with rfl | h
        · obtain ⟨_, h⟩ := hs
          unfold many at h
          rw [if_pos rfl] at h
          omega
        · exact h
      have := item_in hk (w := w) (i := s + 1) hs1
      rw [show ((s : Int) + 1) = ((s + 1 : Nat) : Int) by omega, this]
      unfold exch
      by_cases hp : k = .pl
      · rw [if_pos hp]
      · have hr : k = .ri := by cases k <;> simp_all
        rw [if_neg hp, if_pos hr, if_neg (by omega)]
    · have hr : k = .ri := by cases k <;> simp_all
      subst hr
      have hs1 : s + 1 = n := by
        have : ¬ s + 1 < n := fun z => hp (.inr z)
        omega
      unfold exch
      rw [if_neg (by decide), if_pos rfl, if_pos hs1, item_nm hk, show ((s : Int) + 1) = (n : Int) by omega, Int.emod_self]
      show decide (w.getD 0 0 + (n : Int) < w.getD s 0) = decide (w.getD 0 0 + (n : Int) - 0 < w.getD s 0)
      rw [Int.sub_zero]
/-! ### sums over pairs -/
def sumP (f : Int → Int → Int) : List Int → Int
  | [] => 0
  | x :: w => (w.map (f x)).sum + sumP f w
theorem sum_perm {xs ys : List Int} (h : xs.Perm ys) : xs.sum = ys.sum := by
  induction h with
  | nil => rfl
  | cons x _ ih => rw [List.sum_cons, List.sum_cons, ih]
  | swap x y l => rw [List.sum_cons, List.sum_cons, List.sum_cons, List.sum_cons]; omega
  | trans _ _ a b => rw [a, b]
theorem swap_perm (l r : List Int) (x y : Int) : (l ++ x :: y :: r).Perm (l ++ y :: x :: r) := List.Perm.append_left l (List.Perm.swap y x r)
theorem sumP_swap (f : Int → Int → Int) (x y : Int) (r : List Int) : ∀ l : List Int, sumP f (l ++ y :: x :: r) = sumP f (l ++ x :: y :: r) + f y x - f x y
  | [] => by
    show ((x :: r).map (f y)).sum + ((r.map (f x)).sum + sumP f r) = ((y :: r).map (f x)).sum + ((r.map (f y)).sum + sumP f r) + f y x - f x y
    rw [List.map_cons, List.map_cons, List.sum_cons, List.sum_cons]
    omega
  | a :: l => by
    show ((l ++ y :: x :: r).map (f a)).sum + sumP f (l ++ y :: x :: r) = ((l ++ x :: y :: r).map (f a)).sum + sumP f (l ++ x :: y :: r) + f y x - f x y
    rw [sumP_swap f x y r l, sum_perm ((swap_perm l r x y).map (f a))]
    omega
theorem sumP_snoc (f : Int → Int → Int) (x : Int) : ∀ w : List Int, sumP f (w ++ [x]) = sumP f w + (w.map fun a => f a x).sum
  | [] => rfl
  | a :: w => by
    show ((w ++ [x]).map (f a)).sum + sumP f (w ++ [x]) = (w.map (f a)).sum + sumP f w + ((a :: w).map fun a => f a x).sum
    rw [sumP_snoc f x w, List.map_append, List.sum_append, List.map_cons, List.map_cons, List.map_nil, List.sum_cons, List.sum_cons, List.sum_nil]
    omega
theorem pairsTo_sum (g : Int × Int → Int) (w : List Int) : ∀ b : Nat, b ≤ w.length → ((pairsTo w b).map g).sum = sumP (fun x y => g (x, y)) (w.take b)
  | 0, _ => rfl
  | b + 1, h => by
    have e : w.take (b + 1) = w.take b ++ [w.getD b 0] := by
      rw [List.take_add_one, List.getD_eq_getElem?_getD, List.getElem?_eq_getElem (by omega)]
      rfl
    rw [e, sumP_snoc, ← pairsTo_sum g w b (by omega)]
    show ((pairsTo w b ++ rowPairs w b).map g).sum = _
    rw [List.map_append, List.sum_append]
    congr 1
    unfold rowPairs
    rw [List.map_map]
    congr 1
    apply List.ext_getElem?
    intro i
    rw [List.getElem?_map, List.getElem?_map, List.getElem?_take]
    by_cases hi : i < b
    · rw [List.getElem?_range hi, if_pos hi, List.getElem?_eq_getElem (by omega)]
      show some (g (w.getD i 0, w.getD b 0)) = some (g (w[i], w.getD b 0))
      rw [List.getD_eq_getElem?_getD (i := i), List.getElem?_eq_getElem (by omega)]
      rfl
    · rw [if_neg hi, List.getElem?_eq_none (by rw [List.length_range]; omega)]
      rfl
theorem pairsL_sum (g : Int × Int → Int) (w : List Int) : ((pairsL w).map g).sum = sumP (fun x y => g (x, y)) w := by
  have := pairsTo_sum g w w.length (Nat.le_refl _)
  rw [List.take_length] at this
  exact this
theorem filter_sum {α : Type} (p : α → Bool) : ∀ l : List α, ((l.filter p).length : Int) = (l.map fun x => if p x then (1 : Int) else 0).sum
  | [] => rfl
  | a :: l => by
    rw [List.map_cons, List.sum_cons, ← filter_sum p l, List.filter_cons]
    by_cases h : p a = true
    · rw [if_pos h, if_pos h, List.length_cons]
      omega
    · rw [if_neg h, if_neg h]
      omega
def fLt (x y : Int) : Int := if y < x then 1 else 0
def fNg (x y : Int) : Int := if x + y < 0 then 1 else 0
def gNg (x : Int) : Int := if x < 0 then 1 else 0
def fRi (n : Nat) (x y : Int) : Int := absI ((y - x) / (n : Int))
theorem dec_if {p : Prop} [Decidable p] : (if decide p = true then (1 : Int) else 0) = if p then 1 else 0 := by
  by_cases h : p <;> simp [h]
theorem crP_pl (n : Nat) (w : List Int) : crP .pl n w = sumP fLt w := by
  unfold crP
  rw [if_neg (by decide), if_neg (by decide), filter_sum, pairsL_sum]
  congr 1
  funext x y
  exact dec_if
theorem crP_mi (n : Nat) (w : List Int) : crP .mi n w = sumP fLt w + (w.map gNg).sum + sumP fNg w := by
  unfold crP
  rw [if_neg (by decide), if_pos rfl, filter_sum, filter_sum, filter_sum, pairsL_sum, pairsL_sum]
  congr 1
  · congr 1
    · congr 1
      funext x y
      exact dec_if
    · congr 1
      apply List.map_congr_left
      intro x _
      exact dec_if
  · congr 1
    funext x y
    exact dec_if
theorem crP_ri (n : Nat) (w : List Int) : crP .ri n w = sumP (fRi n) w := by
  unfold crP
  rw [if_pos rfl, pairsL_sum]
  rfl
end Sv

/-! Crossings change by one at a step; forms stay; what no step crosses is the start: by the verifier. -/
namespace Sv
open PySem L2
theorem startL_nodup (k : Nm) (n : Nat) : (startL k n).Nodup := by
  unfold startL
  rw [List.nodup_iff_pairwise_ne, List.pairwise_map]
  refine List.Pairwise.imp ?_ (List.pairwise_lt_range (n := n))
  intro a b h
  omega
theorem split2 {w : List Int} {s : Nat} (h : s + 1 < w.length) : ∃ l x y r, w = l ++ x :: y :: r ∧ l.length = s := by
  refine ⟨w.take s, w[s], w[s + 1], w.drop (s + 2), ?_, by rw [List.length_take]; omega⟩
  rw [← List.drop_eq_getElem_cons, ← List.drop_eq_getElem_cons, List.take_append_drop]
theorem getD_l {l r : List Int} {x : Int} : (l ++ x :: r).getD l.length 0 = x := by
  rw [List.getD_eq_getElem?_getD, List.getElem?_append_right (Nat.le_refl _), Nat.sub_self]
  rfl
theorem getD_l1 {l r : List Int} {x y : Int} : (l ++ x :: y :: r).getD (l.length + 1) 0 = y := by
  rw [List.getD_eq_getElem?_getD, List.getElem?_append_right (by omega), show l.length + 1 - l.length = 1 by omega]
  rfl
theorem set_l {l r : List Int} {x y a b : Int} : ((l ++ x :: y :: r).set l.length a).set (l.length + 1) b = l ++ a :: b :: r := by
  rw [List.set_append_right _ _ (Nat.le_refl _), Nat.sub_self, List.set_append_right _ _ (by omega), show l.length + 1 - l.length = 1 by omega]
  rfl
theorem nodup_mid {l r : List Int} {x y : Int} (h : (l ++ x :: y :: r).Nodup) : x ≠ y := by
  have := (List.nodup_append.mp h).2.1
  rw [List.nodup_cons] at this
  intro e
  exact this.1 (e ▸ List.mem_cons_self)
theorem lt_swap {x y : Int} (h : x ≠ y) : fLt y x - fLt x y = if y < x then -1 else 1 := by
  unfold fLt
  repeat' split
  all_goals omega
theorem ng_swap (x y : Int) : fNg y x = fNg x y := by
  unfold fNg
  rw [Int.add_comm]
theorem ri_swap {n : Nat} {x y : Int} (hn : 2 ≤ n ∧ n ≤ 7) (h : x % (n : Int) ≠ y % (n : Int)) : fRi n y x - fRi n x y = if y < x then -1 else 1 := by
  unfold fRi absI
  rcases upto7 hn with rfl | rfl | rfl | rfl | rfl | rfl <;> (repeat' split) <;> omega
theorem ri_turn1 {n : Nat} {x a : Int} (hn : 2 ≤ n ∧ n ≤ 7) (h : x % (n : Int) ≠ a % (n : Int)) : fRi n (x - n) a = fRi n a x := by
  unfold fRi absI
  rcases upto7 hn with rfl | rfl | rfl | rfl | rfl | rfl <;> (repeat' split) <;> omega
theorem ri_turn2 {n : Nat} {x a : Int} (hn : 2 ≤ n ∧ n ≤ 7) (h : x % (n : Int) ≠ a % (n : Int)) : fRi n a (x + n) = fRi n x a := by
  unfold fRi absI
  rcases upto7 hn with rfl | rfl | rfl | rfl | rfl | rfl <;> (repeat' split) <;> omega
theorem ri_turn3 {n : Nat} {x y : Int} (hn : 2 ≤ n ∧ n ≤ 7) (h : x % (n : Int) ≠ y % (n : Int)) : fRi n (y - n) (x + n) - fRi n x y = if x + n < y then -1 else 1 := by
  unfold fRi absI
  rcases upto7 hn with rfl | rfl | rfl | rfl | rfl | rfl <;> (repeat' split) <;> omega
theorem mi_turn1 {x a : Int} (h : absI x ≠ absI a) : fLt (-x) a + fNg (-x) a = fLt x a + fNg x a := by
  unfold absI at h
  unfold fLt fNg
  (repeat' split at h) <;> (repeat' split) <;> omega
theorem sum_congr2 {f g f' g' : Int → Int} : ∀ {m : List Int}, (∀ a ∈ m, f a + g a = f' a + g' a) → (m.map f).sum + (m.map g).sum = (m.map f').sum + (m.map g').sum
  | [], _ => rfl
  | a :: m, h => by
    have h1 := sum_congr2 (m := m) fun b hb => h b (List.mem_cons_of_mem _ hb)
    have h2 := h a List.mem_cons_self
    simp only [List.map_cons, List.sum_cons]
    omega
theorem pl_ne {n : Nat} {l r : List Int} {x y : Int} (h : Form .pl n (l ++ x :: y :: r)) : x ≠ y := nodup_mid (h.2.nodup_iff.mpr (startL_nodup _ _))
theorem mi_ne {n : Nat} {l r : List Int} {x y : Int} (h : Form .mi n (l ++ x :: y :: r)) : absI x ≠ absI y := by
  have : ((l ++ x :: y :: r).map absI).Nodup := h.2.nodup_iff.mpr (startL_nodup _ _)
  rw [List.map_append, List.map_cons, List.map_cons] at this
  exact nodup_mid this
theorem ri_ne {n : Nat} {l r : List Int} {x y : Int} (h : Form .ri n (l ++ x :: y :: r)) : x % (n : Int) ≠ y % (n : Int) := by
  have : ((l ++ x :: y :: r).map fun x => x % (n : Int)).Nodup := h.2.2.nodup_iff.mpr (startL_nodup _ _)
  rw [List.map_append, List.map_cons, List.map_cons] at this
  exact nodup_mid this
/-- a ring's list, its first and last item apart -/
theorem splitE {w : List Int} {n : Nat} (hn : 2 ≤ n) (hl : w.length = n) : ∃ x m y, w = x :: (m ++ [y]) ∧ m.length + 2 = n := by
  cases w with
  | nil => simp at hl; omega
  | cons x w =>
    rcases List.eq_nil_or_concat w with rfl | ⟨m, y, rfl⟩
    · simp at hl; omega
    · refine ⟨x, m, y, by simp, ?_⟩
      simp at hl
      omega
theorem E_first {x y : Int} {m : List Int} : (x :: (m ++ [y])).getD 0 0 = x := rfl
theorem E_last {x y : Int} {m : List Int} : (x :: (m ++ [y])).getD (m.length + 1) 0 = y := by
  show (m ++ [y]).getD m.length 0 = y
  exact getD_l
theorem E_set {x y a b : Int} {m : List Int} : ((x :: (m ++ [y])).set (m.length + 1) a).set 0 b = b :: (m ++ [a]) := by
  show b :: (m ++ [y]).set m.length a = _
  rw [List.set_append_right _ _ (Nat.le_refl _), Nat.sub_self]
  rfl
theorem ri_all {n : Nat} {x y : Int} {m : List Int} (h : Form .ri n (x :: (m ++ [y]))) : (∀ a ∈ m, x % (n : Int) ≠ a % (n : Int) ∧ y % (n : Int) ≠ a % (n : Int)) ∧ x % (n : Int) ≠ y % (n : Int) := by
  have : ((x :: (m ++ [y])).map fun x => x % (n : Int)).Nodup := h.2.2.nodup_iff.mpr (startL_nodup _ _)
  rw [List.map_cons, List.map_append, List.nodup_cons, List.nodup_append] at this
  obtain ⟨h1, h2, h3, h4⟩ := this
  refine ⟨fun a ha => ⟨fun e => h1 ?_, fun e => ?_⟩, fun e => h1 ?_⟩
  · rw [e]
    exact List.mem_append_left _ (List.mem_map_of_mem ha)
  · exact h4 _ (List.mem_map_of_mem ha) _ (List.mem_cons_self) e.symm
  · rw [e]
    exact List.mem_append_right _ (List.mem_cons_self)
theorem mi_all {n : Nat} {x : Int} {m : List Int} (h : Form .mi n (x :: m)) : (∀ a ∈ m, absI x ≠ absI a) ∧ x ≠ 0 := by
  have h0 := h.2
  have : ((x :: m).map absI).Nodup := h0.nodup_iff.mpr (startL_nodup _ _)
  rw [List.map_cons, List.nodup_cons] at this
  refine ⟨fun a ha e => this.1 (by rw [e]; exact List.mem_map_of_mem ha), fun e => ?_⟩
  have : absI x ∈ startL .mi n := h0.mem_iff.mp (by rw [List.map_cons]; exact List.mem_cons_self)
  obtain ⟨i, _, e2⟩ := mem_startL this
  rw [e] at e2
  have : (0 : Int) = 1 + (i : Int) := e2
  omega
theorem bool_if {c : Prop} [Decidable c] {b : Bool} (h : b = decide c) : (if b = true then (-1 : Int) else 1) = if c then -1 else 1 := by
  subst h
  by_cases hc : c <;> simp [hc]
/-- a swap of two items that stand together -/
theorem swap_in {k : Nm} {n : Nat} {l r : List Int} {x y : Int} (hK : okK k n = true) (hF : Form k n (l ++ x :: y :: r)) :
    crP k n (l ++ y :: x :: r) = crP k n (l ++ x :: y :: r) + (if y < x then -1 else 1) ∧ Form k n (l ++ y :: x :: r) := by
  have pm := swap_perm l r x y
  refine ⟨?_, ?_⟩
  · cases k with
    | pl =>
      have := lt_swap (pl_ne hF)
      rw [crP_pl, crP_pl, sumP_swap]
      omega
    | mi =>
      have h1 := mi_ne hF
      have h2 : x ≠ y := fun e => h1 (by rw [e])
      have := lt_swap h2
      rw [crP_mi, crP_mi, sumP_swap, sumP_swap fNg, ng_swap x y, sum_perm (pm.symm.map gNg)]
      omega
    | ri =>
      have h2 := of_decide_eq_true hK
      have := ri_swap ⟨h2.1, by omega⟩ (ri_ne hF)
      rw [crP_ri, crP_ri, sumP_swap]
      omega
  · obtain ⟨hl, hf⟩ := hF
    refine ⟨by rw [← hl]; exact pm.symm.length_eq, ?_⟩
    cases k with
    | pl => exact pm.symm.trans hf
    | mi => exact (pm.symm.map absI).trans hf
    | ri => exact ⟨by rw [← hf.1]; exact sum_perm pm.symm, (pm.symm.map _).trans hf.2⟩
theorem step_in {k : Nm} {n : Nat} {w : List Int} {s : Nat} (hk : k ≠ .mi) (h : s + 1 < n) : crossP k n w s = decide (w.getD (s + 1) 0 < w.getD s 0) := by
  unfold crossP exch
  by_cases hp : k = .pl
  · rw [if_pos hp]
  · have hr : k = .ri := by cases k <;> simp_all
    rw [if_neg hp, if_pos hr, if_neg (by omega)]
theorem cr_step {k : Nm} {n : Nat} {w : List Int} {s : Nat} (hK : okK k n = true) (hs : okS k n (s : Int)) (hF : Form k n w) :
    crP k n (after k n w s) = crP k n w + (if crossP k n w s = true then -1 else 1) ∧ Form k n (after k n w s) := by
  have hl := hF.1
  by_cases hk : k = .mi
  · subst hk
    have h2 := okS_mi hs
    by_cases h0 : s = 0
    · subst h0
      rw [after_mi0, bool_if (c := w.getD 0 0 < -(w.getD 0 0)) (by unfold crossP; rw [exch_mi0])]
      cases w with
      | nil => simp at hl; omega
      | cons x m =>
        obtain ⟨ha, hx⟩ := mi_all hF
        show crP .mi n (-x :: m) = crP .mi n (x :: m) + (if x < -x then -1 else 1) ∧ Form .mi n (-x :: m)
        refine ⟨?_, ?_⟩
        · rw [crP_mi, crP_mi]
          simp only [sumP, List.map_cons, List.sum_cons]
          have := sum_congr2 (f := fLt (-x)) (g := fNg (-x)) (f' := fLt x) (g' := fNg x) (m := m) fun a h => mi_turn1 (ha a h)
          have e : gNg (-x) = gNg x + (if x < -x then -1 else 1) := by
            unfold gNg
            repeat' split
            all_goals omega
          omega
        · refine ⟨hl, ?_⟩
          have e : absI (-x) = absI x := by
            unfold absI
            repeat' split
            all_goals omega
          show ((-x :: m).map absI).Perm _
          rw [List.map_cons, e]
          exact hF.2
    · obtain ⟨l, x, y, r, rfl, e⟩ := split2 (w := w) (s := s - 1) (by omega)
      have es : s = l.length + 1 := by omega
      subst es
      rw [after_mis h0, Nat.add_sub_cancel, getD_l, getD_l1, set_l, bool_if (c := y < x) (by unfold crossP; rw [exch_mis h0, Nat.add_sub_cancel, getD_l, getD_l1])]
      exact swap_in hK hF
  · have h2 := okS_two hK hk hs
    have hsn : s < n := by
      obtain ⟨_, h⟩ := hs
      unfold many at h
      split at h <;> omega
    by_cases hs1 : s + 1 < n
    · obtain ⟨l, x, y, r, rfl, e⟩ := split2 (w := w) (s := s) (by omega)
      subst e
      rw [after_in hk hs1, getD_l, getD_l1, set_l, bool_if (c := y < x) (by rw [step_in hk hs1, getD_l, getD_l1])]
      exact swap_in hK hF
    · have hr : k = .ri := by
        cases k with
        | mi => exact absurd rfl hk
        | pl =>
          obtain ⟨_, h⟩ := hs
          unfold many at h
          rw [if_pos rfl] at h
          omega
        | ri => rfl
      subst hr
      have he : s + 1 = n := by omega
      obtain ⟨x, m, y, rfl, em⟩ := splitE h2.1 hl
      have es : s = m.length + 1 := by omega
      subst es
      obtain ⟨ha, hxy⟩ := ri_all hF
      rw [after_ril he, E_first, E_last, E_set, bool_if (c := x + (n : Int) < y) (by unfold crossP; rw [exch_ril he, E_first, E_last])]
      refine ⟨?_, ?_⟩
      · rw [crP_ri, crP_ri]
        show ((m ++ [x + (n : Int)]).map (fRi n (y - n))).sum + sumP (fRi n) (m ++ [x + (n : Int)]) = ((m ++ [y]).map (fRi n x)).sum + sumP (fRi n) (m ++ [y]) + _
        rw [sumP_snoc, sumP_snoc]
        simp only [List.map_append, List.map_cons, List.map_nil, List.sum_append, List.sum_cons, List.sum_nil]
        have h3 := ri_turn3 h2 hxy
        have e1 : m.map (fRi n (y - n)) = m.map (fun a => fRi n a y) := List.map_congr_left fun a h => ri_turn1 h2 (ha a h).2
        have e2 : m.map (fun a => fRi n a (x + n)) = m.map (fRi n x) := List.map_congr_left fun a h => ri_turn2 h2 (ha a h).1
        rw [e1, e2]
        omega
      · obtain ⟨_, hsum, hp⟩ := hF
        refine ⟨by simp at hl ⊢; omega, ?_, ?_⟩
        · rw [← hsum]
          simp only [List.sum_cons, List.sum_append, List.sum_nil]
          omega
        · refine List.Perm.trans ?_ hp
          simp only [List.map_cons, List.map_append, List.map_nil, Int.add_emod_right, Int.sub_emod_right]
          refine List.Perm.trans (List.perm_append_comm (l₁ := (y % (n : Int)) :: _) (l₂ := [x % (n : Int)])) ?_
          refine List.Perm.cons _ ?_
          exact (List.perm_append_comm (l₁ := [y % (n : Int)]))
/-! ### what no step crosses -/
theorem adj_le {w : List Int} (h : ∀ i, i + 1 < w.length → w.getD i 0 ≤ w.getD (i + 1) 0) : ∀ j i, i ≤ j → j < w.length → w.getD i 0 ≤ w.getD j 0
  | 0, i, hi, hj => by
    have : i = 0 := by omega
    subst this
    exact Int.le_refl _
  | j + 1, i, hi, hj => by
    by_cases e : i = j + 1
    · subst e
      exact Int.le_refl _
    · exact Int.le_trans (adj_le h j i (by omega) (by omega)) (h j hj)
theorem sorted_adj {w : List Int} (h : ∀ i, i + 1 < w.length → w.getD i 0 ≤ w.getD (i + 1) 0) : w.Pairwise (· ≤ ·) := by
  rw [List.pairwise_iff_getElem]
  intro i j hi hj hij
  have := adj_le h j i (by omega) hj
  rw [List.getD_eq_getElem?_getD, List.getD_eq_getElem?_getD, List.getElem?_eq_getElem hi, List.getElem?_eq_getElem hj] at this
  exact this
theorem form_start {k : Nm} {n : Nat} (hK : okK k n = true) : Form k n (startL k n) := by
  refine ⟨startL_len _ _, ?_⟩
  cases k with
  | pl => exact List.Perm.refl _
  | mi =>
    have e : (startL .mi n).map absI = startL .mi n := by
      unfold startL
      rw [List.map_map]
      apply List.map_congr_left
      intro i _
      show absI (1 + (i : Int)) = 1 + (i : Int)
      unfold absI
      rw [if_neg (by omega)]
    show ((startL .mi n).map absI).Perm _
    rw [e]
  | ri =>
    have h2 := of_decide_eq_true hK
    have : n = 2 ∨ n = 3 ∨ n = 4 ∨ n = 5 := by omega
    rcases this with rfl | rfl | rfl | rfl
    · exact ⟨rfl, List.Perm.refl _⟩
    · exact ⟨rfl, List.Perm.refl _⟩
    · exact ⟨rfl, List.Perm.refl _⟩
    · exact ⟨rfl, List.Perm.refl _⟩
theorem nofall {k : Nm} {n : Nat} {w : List Int} (hK : okK k n = true) (hF : Form k n w) (h : ∀ s : Nat, okS k n (s : Int) → crossP k n w s = false) : w = startL k n := by
  have hl := hF.1
  have hn := okK_le hK
  cases k with
  | pl =>
    refine sorted_start (List.Perm.refl _) (sorted_adj fun i hi => ?_) hF.2
    have := h i ⟨by omega, by unfold many; rw [if_pos rfl]; omega⟩
    rw [step_in (by decide) (by omega)] at this
    have := of_decide_eq_false this
    omega
  | mi =>
    have hs : w.Pairwise (· ≤ ·) := sorted_adj fun i hi => by
      have := h (i + 1) ⟨by omega, by unfold many; rw [if_neg (by decide)]; omega⟩
      unfold crossP at this
      rw [exch_mis (by omega)] at this
      have := of_decide_eq_false this
      rw [Nat.add_sub_cancel] at this
      omega
    have h0 := h 0 ⟨by omega, by unfold many; rw [if_neg (by decide)]; omega⟩
    unfold crossP at h0
    rw [exch_mi0] at h0
    have h0 := of_decide_eq_false h0
    have e : w.map absI = w := by
      have : ∀ a ∈ w, absI a = a := by
        intro a ha
        cases w with
        | nil => cases ha
        | cons x m =>
          have hx : 0 ≤ x := by
            have : ¬ x < -x := h0
            omega
          have hxa : x ≤ a := by
            rcases List.mem_cons.mp ha with rfl | hm
            · exact Int.le_refl _
            · exact (List.pairwise_cons.mp hs).1 a hm
          unfold absI
          rw [if_neg (by omega)]
      rw [List.map_congr_left this, List.map_id']
    have hp := hF.2
    change (w.map absI).Perm _ at hp
    rw [e] at hp
    exact sorted_start (List.Perm.refl _) hs hp
  | ri =>
    have h2 := of_decide_eq_true hK
    have hi : ∀ i, i + 1 < n → w.getD i 0 < w.getD (i + 1) 0 := fun i hi => by
      have := h i ⟨by omega, by unfold many; rw [if_neg (by decide)]; omega⟩
      rw [step_in (by decide) (by omega)] at this
      have := of_decide_eq_false this
      obtain ⟨l, x, y, r, rfl, e⟩ := split2 (w := w) (s := i) (by omega)
      subst e
      have hne := ri_ne hF
      rw [getD_l, getD_l1] at this ⊢
      have : x ≠ y := fun e => hne (by rw [e])
      omega
    have hz := h (n - 1) ⟨by omega, by unfold many; rw [if_neg (by decide)]; omega⟩
    unfold crossP at hz
    rw [exch_ril (by omega)] at hz
    have hz := of_decide_eq_false hz
    have hsum := hF.2.1
    have hz : w.getD (n - 1) 0 < w.getD 0 0 + (n : Int) := by
      obtain ⟨x, m, y, rfl, em⟩ := splitE h2.1 hl
      obtain ⟨_, hxy⟩ := ri_all hF
      have e1 : n - 1 = m.length + 1 := by omega
      rw [e1, E_first, E_last] at hz ⊢
      have : y ≠ x + (n : Int) := fun e => hxy (by rw [e, Int.add_emod_right])
      omega
    clear h hF hK
    have : n = 2 ∨ n = 3 ∨ n = 4 ∨ n = 5 := by omega
    rcases this with rfl | rfl | rfl | rfl
    · obtain ⟨a, b, rfl⟩ : ∃ a b, w = [a, b] := by
        match w, hl with
        | [a, b], _ => exact ⟨a, b, rfl⟩
      have i0 := hi 0 (by omega)
      simp at hsum hz i0
      show [a, b] = [0, 1]
      rw [show a = 0 by omega, show b = 1 by omega]
    · obtain ⟨a, b, c, rfl⟩ : ∃ a b c, w = [a, b, c] := by
        match w, hl with
        | [a, b, c], _ => exact ⟨a, b, c, rfl⟩
      have i0 := hi 0 (by omega)
      have i1 := hi 1 (by omega)
      simp at hsum hz i0 i1
      show [a, b, c] = [0, 1, 2]
      rw [show a = 0 by omega, show b = 1 by omega, show c = 2 by omega]
    · obtain ⟨a, b, c, d, rfl⟩ : ∃ a b c d, w = [a, b, c, d] := by
        match w, hl with
        | [a, b, c, d], _ => exact ⟨a, b, c, d, rfl⟩
      have i0 := hi 0 (by omega)
      have i1 := hi 1 (by omega)
      have i2 := hi 2 (by omega)
      simp at hsum hz i0 i1 i2
      show [a, b, c, d] = [0, 1, 2, 3]
      rw [show a = 0 by omega, show b = 1 by omega, show c = 2 by omega, show d = 3 by omega]
    · obtain ⟨a, b, c, d, e, rfl⟩ : ∃ a b c d e, w = [a, b, c, d, e] := by
        match w, hl with
        | [a, b, c, d, e], _ => exact ⟨a, b, c, d, e, rfl⟩
      have i0 := hi 0 (by omega)
      have i1 := hi 1 (by omega)
      have i2 := hi 2 (by omega)
      have i3 := hi 3 (by omega)
      simp at hsum hz i0 i1 i2 i3
      show [a, b, c, d, e] = [0, 1, 2, 3, 4]
      rw [show a = 0 by omega, show b = 1 by omega, show c = 2 by omega, show d = 3 by omega, show e = 4 by omega]
end Sv

/-! Orders that rows make; opposites: by the verifier. -/
namespace Sv
open PySem L2
def Ord (k : Nm) (n : Nat) (w : List Int) : Prop := ∃ l, (∀ s ∈ l, okS k n s) ∧ w = run k n (startL k n) l
theorem cr_stepI {k : Nm} {n : Nat} {w : List Int} {s : Int} (hK : okK k n = true) (hs : okS k n s) (hF : Form k n w) :
    crP k n (stepped k n w s) = crP k n w + (if crossed k n w s = true then -1 else 1) ∧ Form k n (stepped k n w s) := by
  obtain ⟨t, rfl⟩ := step_of hs
  have := cr_step hK hs hF
  rw [after_eq hK hs hF.1, cross_eq hK hs hF.1] at this
  exact this
theorem Ord.start (k : Nm) (n : Nat) : Ord k n (startL k n) := ⟨[], (fun s h => by cases h), rfl⟩
theorem Ord.step {k : Nm} {n : Nat} {w : List Int} {s : Int} (h : Ord k n w) (hs : okS k n s) : Ord k n (stepped k n w s) := by
  obtain ⟨l, hl, rfl⟩ := h
  refine ⟨l ++ [s], fun t ht => ?_, (run_snoc _ _ _ _ _).symm⟩
  rcases List.mem_append.mp ht with h | h
  · exact hl t h
  · rw [List.mem_singleton.mp h]
    exact hs
theorem run_form {k : Nm} {n : Nat} (hK : okK k n = true) : ∀ {l w : List Int}, (∀ s ∈ l, okS k n s) → Form k n w → Form k n (run k n w l) ∧ crP k n (run k n w l) ≤ crP k n w + (l.length : Int)
  | [], w, _, h => ⟨h, by show crP k n w ≤ crP k n w + 0; omega⟩
  | s :: l, w, hl, h => by
    have h1 := cr_stepI hK (hl s List.mem_cons_self) h
    have h2 := run_form hK (l := l) (fun t ht => hl t (List.mem_cons_of_mem _ ht)) h1.2
    refine ⟨h2.1, ?_⟩
    have h3 := h2.2
    have h4 := h1.1
    show crP k n (run k n (stepped k n w s) l) ≤ _
    rw [List.length_cons]
    split at h4 <;> omega
theorem cr_start {k : Nm} {n : Nat} (hK : okK k n = true) : crP k n (startL k n) = 0 := by
  have hn := okK_le hK
  have : n = 1 ∨ n = 2 ∨ n = 3 ∨ n = 4 ∨ n = 5 ∨ n = 6 ∨ n = 7 := by omega
  rcases this with rfl | rfl | rfl | rfl | rfl | rfl | rfl <;> cases k <;> (revert hK; decide +kernel)
theorem Ord.form {k : Nm} {n : Nat} {w : List Int} (hK : okK k n = true) (h : Ord k n w) : Form k n w := by
  obtain ⟨l, hl, rfl⟩ := h
  exact (run_form hK hl (form_start hK)).1
theorem sumP_nn {f : Int → Int → Int} (hf : ∀ x y, 0 ≤ f x y) : ∀ w : List Int, 0 ≤ sumP f w
  | [] => Int.le_refl _
  | x :: w => by
    have h1 := sumP_nn hf w
    have h2 : ∀ m : List Int, 0 ≤ (m.map (f x)).sum := by
      intro m
      induction m with
      | nil => exact Int.le_refl _
      | cons a m ih =>
        rw [List.map_cons, List.sum_cons]
        have := hf x a
        omega
    have h3 := h2 w
    show 0 ≤ (w.map (f x)).sum + sumP f w
    omega
theorem cr_nn (k : Nm) (n : Nat) (w : List Int) : 0 ≤ crP k n w := by
  cases k with
  | pl =>
    rw [crP_pl]
    exact sumP_nn (fun x y => by unfold fLt; split <;> omega) w
  | mi =>
    rw [crP_mi]
    have h1 := sumP_nn (f := fLt) (fun x y => by unfold fLt; split <;> omega) w
    have h2 := sumP_nn (f := fNg) (fun x y => by unfold fNg; split <;> omega) w
    have h3 : ∀ m : List Int, 0 ≤ (m.map gNg).sum := by
      intro m
      induction m with
      | nil => exact Int.le_refl _
      | cons a m ih =>
        rw [List.map_cons, List.sum_cons]
        have : 0 ≤ gNg a := by unfold gNg; split <;> omega
        omega
    have h4 := h3 w
    omega
  | ri =>
    rw [crP_ri]
    exact sumP_nn (fun x y => by unfold fRi absI; split <;> omega) w
theorem mem_fallsP {k : Nm} {n : Nat} {w : List Int} {s : Int} (hK : okK k n = true) (hl : w.length = n) : s ∈ fallsP k n w ↔ okS k n s ∧ crossed k n w s = true := by
  unfold fallsP
  rw [List.mem_map]
  constructor
  · rintro ⟨t, ht, rfl⟩
    obtain ⟨h1, h2⟩ := List.mem_filter.mp ht
    have hs : okS k n (t : Int) := by
      have := List.mem_range.mp h1
      exact ⟨by omega, by omega⟩
    rw [cross_eq hK hs hl] at h2
    exact ⟨hs, h2⟩
  · rintro ⟨hs, hc⟩
    obtain ⟨t, rfl⟩ := step_of hs
    refine ⟨t, List.mem_filter.mpr ⟨List.mem_range.mpr ?_, ?_⟩, rfl⟩
    · have := hs.2
      omega
    · rw [cross_eq hK hs hl]
      exact hc
theorem falls_nil {k : Nm} {n : Nat} {w : List Int} (hK : okK k n = true) (hF : Form k n w) (h : fallsP k n w = []) : w = startL k n := by
  refine nofall hK hF fun s hs => ?_
  cases e : crossP k n w s with
  | false => rfl
  | true =>
    rw [cross_eq hK hs hF.1] at e
    have := (mem_fallsP hK hF.1).mpr ⟨hs, e⟩
    rw [h] at this
    cases this
theorem step_step {k : Nm} {n : Nat} {w : List Int} {s : Int} (hK : okK k n = true) (hs : okS k n s) (hl : w.length = n) : stepped k n (stepped k n w s) s = w := by
  rw [← map_item (k := k) (u := stepped k n (stepped k n w s) s) (stepped_len _ _ _ _)]
  have e : (startL k n).map (item k n (stepped k n (stepped k n w s) s)) = (startL k n).map (item k n w) := by
    apply List.map_congr_left
    intro p hp
    have ho := startL_okP hp
    rw [item_step hK hs ho, item_step hK hs (turned_ok hs ho), turned_inv hK hs ho]
  rw [e, map_item hl]
theorem run_append (k : Nm) (n : Nat) (w l m : List Int) : run k n w (l ++ m) = run k n (run k n w l) m := List.foldl_append
theorem run_rev {k : Nm} {n : Nat} (hK : okK k n = true) : ∀ {l w : List Int}, (∀ s ∈ l, okS k n s) → w.length = n → run k n (run k n w l) l.reverse = w
  | [], _, _, _ => rfl
  | s :: l, w, hl, h => by
    rw [List.reverse_cons, run_snoc]
    show stepped k n (run k n (run k n (stepped k n w s) l) l.reverse) s = w
    rw [run_rev hK (fun t ht => hl t (List.mem_cons_of_mem _ ht)) (stepped_len _ _ _ _), step_step hK (hl s List.mem_cons_self) h]
theorem item_runS {k : Nm} {n : Nat} (hK : okK k n = true) {l : List Int} {p : Int} (hl : ∀ s ∈ l, okS k n s) (hp : okP k n p) : item k n (run k n (startL k n) l) p = turns k n l p := by
  rw [item_run hK hl hp, item_start (okK_le hK).1 (turns_ok hl hp)]
theorem turns_snoc (k : Nm) (n : Nat) (s p : Int) : ∀ l : List Int, turns k n (l ++ [s]) p = turns k n l (turned k n s p)
  | [] => rfl
  | t :: l => by
    show turned k n t (turns k n (l ++ [s]) p) = turned k n t (turns k n l (turned k n s p))
    rw [turns_snoc k n s p l]
theorem rev_ok {k : Nm} {n : Nat} {l : List Int} (hl : ∀ s ∈ l, okS k n s) : ∀ s ∈ l.reverse, okS k n s := fun s h => hl s (List.mem_reverse.mp h)
theorem turns_rev {k : Nm} {n : Nat} (hK : okK k n = true) : ∀ {l : List Int} {p : Int}, (∀ s ∈ l, okS k n s) → okP k n p → turns k n l.reverse (turns k n l p) = p
  | [], _, _, _ => rfl
  | s :: l, p, hl, hp => by
    have hl' : ∀ t ∈ l, okS k n t := fun t ht => hl t (List.mem_cons_of_mem _ ht)
    rw [List.reverse_cons, turns_snoc]
    show turns k n l.reverse (turned k n s (turned k n s (turns k n l p))) = p
    rw [turned_inv hK (hl s List.mem_cons_self) (turns_ok hl' hp), turns_rev hK hl' hp]
theorem item_off {k : Nm} {n : Nat} {w : List Int} {i : Nat} (hi : i < n) : item k n w (off k + (i : Int)) = w.getD i 0 := by
  by_cases hk : k = .mi
  · subst hk
    show item .mi n w (1 + (i : Int)) = _
    rw [item_mi, sg_pos (by omega), show (1 + (i : Int)).natAbs - 1 = i by omega]
    omega
  · have e : off k = 0 := if_neg hk
    rw [e, Int.zero_add, item_in hk hi]
theorem form_okP {k : Nm} {n : Nat} {w : List Int} (hF : Form k n w) : ∀ x ∈ w, okP k n x := by
  intro x hx hk
  subst hk
  have : absI x ∈ startL .mi n := hF.2.mem_iff.mp (List.mem_map_of_mem hx)
  obtain ⟨i, hi, e⟩ := mem_startL this
  have e : absI x = 1 + (i : Int) := e
  unfold absI at e
  split at e <;> omega
theorem mem_getD {w : List Int} {i : Nat} (h : i < w.length) : w.getD i 0 ∈ w := by
  rw [List.getD_eq_getElem?_getD, List.getElem?_eq_getElem h]
  exact List.getElem_mem _
/-- each place is hit -/
theorem pos_hit {k : Nm} {n : Nat} {w : List Int} (hK : okK k n = true) (hF : Form k n w) {j : Nat} (hj : j < n) : ∃ i, i < n ∧ invPos k n (w.getD i 0) = j := by
  have hl := hF.1
  have hm : off k + (j : Int) ∈ startL k n := List.mem_of_getElem? (startL_get k n j hj)
  have fin : ∀ x ∈ w, invPos k n x = j → ∃ i, i < n ∧ invPos k n (w.getD i 0) = j := by
    intro x hx e
    obtain ⟨i, hi, ei⟩ := List.getElem_of_mem hx
    refine ⟨i, by omega, ?_⟩
    rw [List.getD_eq_getElem?_getD, List.getElem?_eq_getElem hi]
    show invPos k n w[i] = j
    rw [ei, e]
  cases k with
  | pl =>
    have hx := hF.2.mem_iff.mpr hm
    have e0 : off .pl + (j : Int) = (j : Int) := by show (0 : Int) + _ = _; omega
    rw [e0] at hx
    refine fin _ hx ?_
    show ((j : Int) % (n : Int)).toNat = j
    rw [Int.emod_eq_of_lt (by omega) (by omega)]
    rfl
  | mi =>
    obtain ⟨x, hx, e⟩ := List.mem_map.mp (hF.2.mem_iff.mpr hm)
    refine fin x hx ?_
    show x.natAbs - 1 = j
    have e : absI x = 1 + (j : Int) := e
    unfold absI at e
    split at e <;> omega
  | ri =>
    obtain ⟨x, hx, e⟩ := List.mem_map.mp (hF.2.2.mem_iff.mpr hm)
    refine fin x hx ?_
    have e : x % (n : Int) = 0 + (j : Int) := e
    show (x % (n : Int)).toNat = j
    omega
theorem inv_upto {k : Nm} {n : Nat} {w v : List Int} (hn : 1 ≤ n) (hv : v.length = n) (ho : ∀ i, i < n → okP k n (w.getD i 0)) (h : ∀ i, i < n → item k n v (w.getD i 0) = off k + (i : Int)) :
    ∀ i, i ≤ n → (invUpTo k n w i).length = n ∧ ∀ j, (∃ i', i' < i ∧ invPos k n (w.getD i' 0) = j) → (invUpTo k n w i).getD j 0 = v.getD j 0
  | 0, _ => ⟨startL_len _ _, fun j hj => by obtain ⟨i', h', _⟩ := hj; omega⟩
  | i + 1, hi => by
    obtain ⟨l1, h1⟩ := inv_upto hn hv ho h i (by omega)
    refine ⟨by show ((invUpTo k n w i).set _ _).length = n; rw [List.length_set, l1], fun j hj => ?_⟩
    show ((invUpTo k n w i).set (invPos k n (w.getD i 0)) (invVal k n i (w.getD i 0))).getD j 0 = v.getD j 0
    rw [getD_set]
    split
    · rename_i hc
      obtain ⟨rfl, _⟩ := hc
      have hh := h i (by omega)
      have hp := ho i (by omega)
      generalize w.getD i 0 = x at hh hp ⊢
      by_cases hk : k = .mi
      · subst hk
        obtain ⟨p0, p1⟩ := hp rfl
        rw [item_mi] at hh
        have hh : v.getD (x.natAbs - 1) 0 * sg x = 1 + (i : Int) := hh
        show (if 0 < x then (i : Int) + 1 else -(i : Int) - 1) = v.getD (x.natAbs - 1) 0
        by_cases hx : 0 < x
        · rw [sg_pos hx] at hh
          rw [if_pos hx]
          omega
        · rw [sg_neg (by omega)] at hh
          rw [if_neg hx]
          omega
      · rw [item_nm hk] at hh
        have e0 : off k = 0 := if_neg hk
        unfold invVal invPos
        rw [if_neg hk, if_neg hk]
        omega
    · rename_i hc
      refine h1 j ?_
      obtain ⟨i', hi', e⟩ := hj
      by_cases ee : i' = i
      · subst ee
        exfalso
        apply hc
        refine ⟨e.symm, ?_⟩
        rw [l1]
        have hp := ho i' (by omega)
        generalize w.getD i' 0 = x at hp ⊢
        unfold invPos
        by_cases hk : k = .mi
        · rw [if_pos hk]
          have := hp hk
          omega
        · rw [if_neg hk]
          have h1 := Int.emod_nonneg x (show (n : Int) ≠ 0 by omega)
          have h2 := Int.emod_lt_of_pos x (show (0 : Int) < n by omega)
          omega
      · exact ⟨i', by omega, e⟩
theorem inv_run {k : Nm} {n : Nat} {l : List Int} (hK : okK k n = true) (hl : ∀ s ∈ l, okS k n s) : invP k n (run k n (startL k n) l) = run k n (startL k n) l.reverse := by
  have hF := (run_form hK hl (form_start hK)).1
  have hn := okK_le hK
  have hlen := hF.1
  have ho : ∀ i, i < n → okP k n ((run k n (startL k n) l).getD i 0) := fun i hi => form_okP hF _ (mem_getD (by omega))
  have hv : (run k n (startL k n) l.reverse).length = n := run_len (startL_len _ _)
  have h := inv_upto hn.1 hv ho (fun i hi => by
    have hp := startL_okP (List.mem_of_getElem? (startL_get k n i hi))
    rw [← item_off hi, item_runS hK hl hp, item_runS hK (rev_ok hl) (turns_ok hl hp), turns_rev hK hl hp]) n (Nat.le_refl _)
  unfold invP
  rw [hlen]
  refine ext_getD h.1 hv fun j hj => h.2 j ?_
  obtain ⟨i, hi, e⟩ := pos_hit hK hF hj
  exact ⟨i, hi, e⟩
theorem Ord.inv {k : Nm} {n : Nat} {w : List Int} (hK : okK k n = true) (h : Ord k n w) : Ord k n (invP k n w) ∧ invP k n (invP k n w) = w := by
  obtain ⟨l, hl, rfl⟩ := h
  rw [inv_run hK hl, inv_run hK (rev_ok hl), List.reverse_reverse]
  exact ⟨⟨_, rev_ok hl, rfl⟩, rfl⟩
/-- a least row, by taking falls away -/
theorem least_ex {k : Nm} {n : Nat} (hK : okK k n = true) : ∀ (m : Nat) (w : List Int), Form k n w → crP k n w ≤ (m : Int) → ∃ l, (∀ s ∈ l, okS k n s) ∧ w = run k n (startL k n) l ∧ (l.length : Int) = crP k n w
  | 0, w, hF, hm => by
    by_cases hf : fallsP k n w = []
    · have e := falls_nil hK hF hf
      refine ⟨[], (fun s h => by cases h), e, ?_⟩
      rw [e, cr_start hK]
      rfl
    · obtain ⟨s, r, es⟩ := List.exists_cons_of_ne_nil hf
      have hs := (mem_fallsP hK hF.1).mp (by rw [es]; exact List.mem_cons_self)
      have := (cr_stepI hK hs.1 hF).1
      rw [if_pos hs.2] at this
      have := cr_nn k n (stepped k n w s)
      omega
  | m + 1, w, hF, hm => by
    by_cases hf : fallsP k n w = []
    · have e := falls_nil hK hF hf
      refine ⟨[], (fun s h => by cases h), e, ?_⟩
      rw [e, cr_start hK]
      rfl
    · obtain ⟨s, r, es⟩ := List.exists_cons_of_ne_nil hf
      have hs := (mem_fallsP hK hF.1).mp (by rw [es]; exact List.mem_cons_self)
      have h1 := cr_stepI hK hs.1 hF
      rw [if_pos hs.2] at h1
      obtain ⟨l, hl, e, c⟩ := least_ex hK m _ h1.2 (by omega)
      refine ⟨l ++ [s], fun t ht => ?_, ?_, ?_⟩
      · rcases List.mem_append.mp ht with h | h
        · exact hl t h
        · rw [List.mem_singleton.mp h]
          exact hs.1
      · rw [run_snoc, ← e, step_step hK hs.1 hF.1]
      · rw [List.length_append, List.length_singleton]
        omega
theorem form_ord {k : Nm} {n : Nat} {w : List Int} (hK : okK k n = true) (hF : Form k n w) : Ord k n w := by
  obtain ⟨l, hl, e, _⟩ := least_ex hK (crP k n w).toNat w hF (by omega)
  exact ⟨l, hl, e⟩
theorem cr_inv_le {k : Nm} {n : Nat} {w : List Int} (hK : okK k n = true) (hF : Form k n w) : crP k n (invP k n w) ≤ crP k n w := by
  obtain ⟨l, hl, e, c⟩ := least_ex hK (crP k n w).toNat w hF (by omega)
  have e2 : invP k n w = run k n (startL k n) l.reverse := by rw [e, inv_run hK hl]
  have := (run_form hK (rev_ok hl) (form_start hK)).2
  rw [← e2, cr_start hK, List.length_reverse] at this
  omega
theorem cr_inv {k : Nm} {n : Nat} {w : List Int} (hK : okK k n = true) (h : Ord k n w) : crP k n (invP k n w) = crP k n w := by
  have h1 := cr_inv_le hK (h.form hK)
  have h2 := cr_inv_le hK ((h.inv hK).1.form hK)
  rw [(h.inv hK).2] at h2
  omega
/-- a step from ahead -/
def aheadL (k : Nm) (n : Nat) (w : List Int) (s : Int) : List Int := w.map (turned k n s)
theorem prod_ahead {k : Nm} {n : Nat} {w : List Int} {s : Int} (hK : okK k n = true) (hs : okS k n s) (hF : Form k n w) : w.map (item k n (stepped k n (startL k n) s)) = aheadL k n w s := by
  apply List.map_congr_left
  intro p hp
  have ho := form_okP hF p hp
  rw [item_step hK hs ho, item_start (okK_le hK).1 (turned_ok hs ho)]
theorem prodP_eq {k : Nm} {n : Nat} {w u : List Int} (hF : Form k n w) : prodP k n u w = w.map (item k n u) := by
  unfold prodP
  apply List.map_congr_left
  intro p hp
  exact itemP_eq (form_okP hF p hp)
theorem ahead_run {k : Nm} {n : Nat} {l : List Int} {s : Int} (hK : okK k n = true) (hs : okS k n s) (hl : ∀ s ∈ l, okS k n s) : aheadL k n (run k n (startL k n) l) s = run k n (startL k n) (s :: l) := by
  have hcons : ∀ t ∈ s :: l, okS k n t := fun t ht => by
    rcases List.mem_cons.mp ht with rfl | h
    · exact hs
    · exact hl t h
  have e1 : (startL k n).map (item k n (run k n (startL k n) (s :: l))) = run k n (startL k n) (s :: l) := map_item (run_len (startL_len _ _))
  have e2 : (startL k n).map (item k n (run k n (startL k n) l)) = run k n (startL k n) l := map_item (run_len (startL_len _ _))
  rw [← e1]
  unfold aheadL
  conv => lhs; rw [← e2]
  rw [List.map_map]
  apply List.map_congr_left
  intro p hp
  have ho := startL_okP hp
  show turned k n s (item k n (run k n (startL k n) l) p) = _
  rw [item_runS hK hl ho, item_runS hK hcons ho]
  rfl
theorem ahead_len (k : Nm) (n : Nat) (w : List Int) (s : Int) : (aheadL k n w s).length = w.length := List.length_map _
theorem ahead_ahead {k : Nm} {n : Nat} {w : List Int} {s : Int} (hK : okK k n = true) (hs : okS k n s) (hF : Form k n w) : aheadL k n (aheadL k n w s) s = w := by
  unfold aheadL
  rw [List.map_map]
  have : w.map (turned k n s ∘ turned k n s) = w.map id := List.map_congr_left fun p hp => turned_inv hK hs (form_okP hF p hp)
  rw [this, List.map_id]
theorem ahead_cr {k : Nm} {n : Nat} {w : List Int} {s : Int} (hK : okK k n = true) (hs : okS k n s) (h : Ord k n w) :
    Ord k n (aheadL k n w s) ∧ crP k n (aheadL k n w s) = crP k n w + (if crossed k n (invP k n w) s = true then -1 else 1) := by
  obtain ⟨l, hl, rfl⟩ := h
  have hcons : ∀ t ∈ s :: l, okS k n t := fun t ht => by
    rcases List.mem_cons.mp ht with rfl | h
    · exact hs
    · exact hl t h
  have hO : Ord k n (run k n (startL k n) (s :: l)) := ⟨_, hcons, rfl⟩
  rw [ahead_run hK hs hl]
  refine ⟨hO, ?_⟩
  rw [← cr_inv hK hO, inv_run hK hcons, List.reverse_cons, run_snoc]
  have hO2 : Ord k n (run k n (startL k n) l) := ⟨_, hl, rfl⟩
  have h1 := (cr_stepI hK hs ((hO2.inv hK).1.form hK)).1
  rw [inv_run hK hl] at h1
  rw [h1, inv_run hK hl, ← inv_run hK hl, cr_inv hK hO2]
end Sv

/-! Opposites laid upon noughts, products by items at places, by the verifier. -/
namespace Sv
open PySem L2
def invZ (k : Nm) (n : Nat) (w : List Int) : Nat → List Int
  | 0 => List.replicate n 0
  | i + 1 => (invZ k n w i).set (invPos k n (w.getD i 0)) (invVal k n i (w.getD i 0))
theorem invZ_len (k : Nm) (n : Nat) (w : List Int) : ∀ i, (invZ k n w i).length = n
  | 0 => List.length_replicate
  | i + 1 => by
    show ((invZ k n w i).set _ _).length = n
    rw [List.length_set]
    exact invZ_len k n w i
theorem invU_len (k : Nm) (n : Nat) (w : List Int) : ∀ i, (invUpTo k n w i).length = n
  | 0 => startL_len k n
  | i + 1 => by
    show ((invUpTo k n w i).set _ _).length = n
    rw [List.length_set]
    exact invU_len k n w i
theorem invZ_same (k : Nm) (n : Nat) (w : List Int) {j : Nat} (hj : j < n) : ∀ i, (∃ m, m < i ∧ invPos k n (w.getD m 0) = j) → (invZ k n w i).getD j 0 = (invUpTo k n w i).getD j 0
  | 0, h => by
    obtain ⟨m, hm, _⟩ := h
    omega
  | i + 1, h => by
    show ((invZ k n w i).set _ _).getD j 0 = ((invUpTo k n w i).set _ _).getD j 0
    by_cases e : invPos k n (w.getD i 0) = j
    · have h1 : invPos k n (w.getD i 0) < (invZ k n w i).length := by rw [invZ_len]; omega
      have h2 : invPos k n (w.getD i 0) < (invUpTo k n w i).length := by rw [invU_len]; omega
      rw [getD_setS _ _ _ _ h1, getD_setS _ _ _ _ h2, if_pos e.symm, if_pos e.symm]
    · have ih := invZ_same k n w hj i (by
        obtain ⟨m, hm, em⟩ := h
        refine ⟨m, ?_, em⟩
        by_cases z : m = i
        · subst z; exact absurd em e
        · omega)
      rw [List.getD_eq_getElem?_getD, List.getElem?_set_ne e, List.getD_eq_getElem?_getD, List.getElem?_set_ne e]
      rw [List.getD_eq_getElem?_getD, List.getD_eq_getElem?_getD] at ih
      exact ih
theorem form_cover {k : Nm} {n : Nat} {w : List Int} (hF : Form k n w) {j : Nat} (hj : j < n) : ∃ m, m < w.length ∧ invPos k n (w.getD m 0) = j := by
  obtain ⟨hl, h⟩ := hF
  have get : ∀ x, x ∈ w → ∃ m, m < w.length ∧ w.getD m 0 = x := fun x hx => by
    obtain ⟨m, hm, e⟩ := List.mem_iff_getElem.mp hx
    exact ⟨m, hm, by rw [List.getD_eq_getElem?_getD, List.getElem?_eq_getElem hm]; exact e⟩
  cases k with
  | pl =>
    have hm : (j : Int) ∈ w := h.mem_iff.mpr (by
      unfold startL off
      exact List.mem_map.mpr ⟨j, List.mem_range.mpr hj, by simp⟩)
    obtain ⟨m, hm, e⟩ := get _ hm
    refine ⟨m, hm, ?_⟩
    rw [e]
    unfold invPos
    rw [if_neg (by decide), Int.emod_eq_of_lt (by omega) (by omega)]
    omega
  | mi =>
    have hm : ((j : Int) + 1) ∈ w.map absI := h.mem_iff.mpr (by
      unfold startL off
      exact List.mem_map.mpr ⟨j, List.mem_range.mpr hj, by simp; omega⟩)
    obtain ⟨x, hx, e⟩ := List.mem_map.mp hm
    obtain ⟨m, hm, e2⟩ := get _ hx
    refine ⟨m, hm, ?_⟩
    rw [e2]
    unfold invPos
    rw [if_pos rfl]
    unfold absI at e
    split at e <;> omega
  | ri =>
    have hm : (j : Int) ∈ w.map (fun x => x % (n : Int)) := h.2.mem_iff.mpr (by
      unfold startL off
      exact List.mem_map.mpr ⟨j, List.mem_range.mpr hj, by simp⟩)
    obtain ⟨x, hx, e⟩ := List.mem_map.mp hm
    obtain ⟨m, hm, e2⟩ := get _ hx
    refine ⟨m, hm, ?_⟩
    rw [e2]
    unfold invPos
    rw [if_neg (by decide)]
    omega
theorem invZ_eq {k : Nm} {n : Nat} {w : List Int} (hF : Form k n w) : invZ k n w n = invP k n w := by
  unfold invP
  rw [hF.1]
  refine ext_getDS (by rw [invZ_len, invU_len]) fun j hj => ?_
  rw [invZ_len] at hj
  obtain ⟨m, hm, e⟩ := form_cover hF hj
  exact invZ_same k n w hj n ⟨m, by rw [hF.1] at hm; exact hm, e⟩
/-- places that may be asked -/
def okQ (k : Nm) (n : Nat) (x : Int) : Prop := match k with
  | .pl => 0 ≤ x ∧ x < n
  | .mi => x ≠ 0 ∧ x.natAbs ≤ n
  | .ri => True
theorem okQ_okP {k : Nm} {n : Nat} {x : Int} (h : okQ k n x) : okP k n x := fun e => by
  subst e
  exact h
theorem form_okQ {k : Nm} {n : Nat} {w : List Int} (hF : Form k n w) : ∀ x ∈ w, okQ k n x := fun x hx => by
  cases k with
  | pl =>
    have h := hF.2.mem_iff.mp hx
    obtain ⟨i, hi, e⟩ := mem_startL h
    have e2 : off .pl = 0 := rfl
    show 0 ≤ x ∧ x < n
    omega
  | mi => exact form_okP hF x hx rfl
  | ri => exact True.intro
theorem itemP_pl {n : Nat} {w : List Int} {x : Int} (h : okQ .pl n x) : itemP .pl n w x = w.getD x.toNat 0 := by
  obtain ⟨h1, h2⟩ := h
  unfold itemP
  rw [if_neg (by decide), Int.emod_eq_of_lt h1 h2]
  omega
theorem invPos_pl {n : Nat} {x : Int} (h : okQ .pl n x) : invPos .pl n x = x.toNat := by
  obtain ⟨h1, h2⟩ := h
  unfold invPos
  rw [if_neg (by decide), Int.emod_eq_of_lt h1 h2]
theorem invVal_pl {n i : Nat} {x : Int} (h : okQ .pl n x) : invVal .pl n i x = (i : Int) := by
  obtain ⟨h1, h2⟩ := h
  unfold invVal
  rw [if_neg (by decide), Int.emod_eq_of_lt h1 h2]
  omega
end Sv

namespace Sv
open PySem PySem.Spec PyProof.Rows L2
def rLenK (K : PySem.W.Frag) : List V → Hp → VK → Prop := fun xs H Q => ∃ p ys, xs = [.ref p] ∧ (SqL K H p ys ∨ SqT K H p ys) ∧ Q (.int ys.length) H
structure Rd (P : Program) (w : World) (K : PySem.W.Frag) (mg : Str → Option Value) (base : Heap) (x : Str) (k : Nat) (sp : Sp) : Prop where
  ex : ∃ f : Addr, FnR P w K mg base CX0 k f sp ∧ mg x = some (.ref f) ∧ PySem.W.keepIn K (.ref f) = true
theorem pe_callRG {X : Cx} {k : Nat} {sp : Sp} {x : Str} {p pos : Pos} {e : Expr} {es : List Expr} {t : TA} (G : Rd X.prog X.w X.K X.mg X.base x k sp) (hr : Room k X.A) (hg : Gl X x)
    (ha : PA X (e :: es) t) (hdb : (x == ("__debug__" : Str)) = false := by decide) (he : starEach (e :: es) X.env = (false, eval e X.env) :: starEach es X.env := by rfl) (hpl : (backTo pos (starEach es X.env)).any (·.1) = false := by rfl) :
    PE X (.Call (.Name x p) (e :: es) [] pos) (tCall sp [] E0 t) := by
  obtain ⟨f, F, gm, kp⟩ := G.ex
  refine ⟨fun pins s σ H Q I h => ?_⟩
  refine wpAny_Call_Name_kw (ld_glob I hg gm ?_ hdb)
  refine PySem.W.callWith_K (h₀ := X.base) I.ok.mod.kin kp (thn (ha.run pos pins s σ H _ I h) fun us s1 ⟨vs, H1, I1, r, q⟩ => ⟨I1.kIn, ?_⟩) he hpl
  have q' : sp (vs ++ []) H1 Q E0 := q
  rw [List.append_nil] at q'
  exact wpAny_call (run_fnR F hr pass0 I1 r q')
/-- a change at a place of a list, by an index that is a Nat -/
theorem ixN_nat {n i : Nat} (h : i < n) : ixN n (i : Int) = some i := by
  unfold ixN
  rw [if_pos (by omega), if_pos (by omega), Int.toNat_natCast]
theorem set_map (ws : List Int) (i : Nat) (x : Int) : (ws.map V.int).set i (.int x) = (ws.set i x).map V.int := by rw [List.map_set]
theorem Same_updD {H H2 : Hp} {D : Addr} {o : HO} (e : Same H H2) (nD : H D = none) : Same H (L2.upd H2 D o) := fun b y eb => by
  rw [upd_ne (ne_of_none eb nD)]
  exact e _ _ eb
theorem same_free {H H2 : Hp} (e : Same H H2) {l : Addr} (h : H2 l = none) : H l = none := e.free h
theorem push_int (H : Hp) (D : Addr) (xs : List Int) (x : Int) : L2.upd H D (.lst (xs.map V.int ++ [V.int x])) D = some (.lst ((xs ++ [x]).map V.int)) := by
  rw [upd_same, List.map_append]
  rfl
theorem at_map {ws : List Int} {i : Nat} {x : V} (h : (ws.map V.int)[i]? = some x) : i < ws.length ∧ x = .int (ws.getD i 0) := by
  have hi : i < ws.length := by
    have := (List.getElem?_eq_some_iff.mp h).1
    rw [List.length_map] at this
    exact this
  refine ⟨hi, ?_⟩
  rw [map_getD hi] at h
  exact (Option.some.inj h).symm
theorem SameX.to {l : Addr} {H0 H H' : Hp} (s : Same H0 H) (n : H0 l = none) (x : SameX l H H') : Same H0 H' := fun b y e => x b y (s b y e) (ne_of_none e n)
section
variable {P : Program} {w : World} {K : PySem.W.Frag} {mg : Str → Option Value} {base : Heap} {f C D : Addr} {fd : FuncData}
/-- three arguments: a kind, an order, a step -/
structure KOS (K : PySem.W.Frag) (C : Addr) (H : Hp) (p o : Addr) (k : Nm) (n : Nat) (ws : List Int) (s : Nat) : Prop where
  kat : KAt C H p k n
  ord : SqL K H o (ws.map V.int)
  len : ws.length = n
  ok : okK k n = true
  st : okS k n (s : Int)
theorem KOS.keep {H H' : Hp} {p o : Addr} {k : Nm} {n : Nat} {ws : List Int} {s : Nat} (h : KOS K C H p o k n ws s) (e : Same H H') : KOS K C H' p o k n ws s :=
  ⟨let ⟨dx, z⟩ := h.kat; ⟨dx, e _ _ z⟩, e.seq h.ord, h.len, h.ok, h.st⟩
theorem st_pl {n : Nat} {s : Nat} (h : okS .pl n (s : Int)) : s + 1 < n := by
  obtain ⟨_, h⟩ := h
  unfold many at h
  rw [if_pos rfl] at h
  omega
theorem st_np {k : Nm} {n : Nat} {s : Nat} (hk : k ≠ .pl) (h : okS k n (s : Int)) : s < n := by
  obtain ⟨_, h⟩ := h
  unfold many at h
  rw [if_neg hk] at h
  omega
structure KO (K : PySem.W.Frag) (C : Addr) (H : Hp) (p o : Addr) (k : Nm) (n : Nat) (ws : List Int) : Prop where
  kat : KAt C H p k n
  ord : SqL K H o (ws.map V.int)
  len : ws.length = n
  ok : okK k n = true
theorem KAt.keep {H H' : Hp} {p : Addr} {k : Nm} {n : Nat} (h : KAt C H p k n) (e : Same H H') : KAt C H' p k n := let ⟨dx, z⟩ := h; ⟨dx, e _ _ z⟩
theorem KO.keep {H H' : Hp} {p o : Addr} {k : Nm} {n : Nat} {ws : List Int} (h : KO K C H p o k n ws) (e : Same H H') : KO K C H' p o k n ws := ⟨h.kat.keep e, e.seq h.ord, h.len, h.ok⟩
theorem KO.st {H : Hp} {p o : Addr} {k : Nm} {n : Nat} {ws : List Int} {s : Nat} (h : KO K C H p o k n ws) (hs : okS k n (s : Int)) : KOS K C H p o k n ws s := ⟨h.kat, h.ord, h.len, h.ok, hs⟩
theorem noM {k : Nm} {n : Nat} {m : Str} (h1 : ¬ m = "_size" := by decide +kernel) (h2 : ¬ m = "_name" := by decide +kernel) : (flds k n).lookup m = none := flds_no _ _ h1 h2
theorem cut_tail (x : Int) (ws : List Int) : cutV ((x :: ws).map V.int) (some 1) none = ws.map V.int := by
  unfold cutV
  rw [HT.sIx_none]
  have e : HT.sIx ((x :: ws).map V.int).length 0 (some 1) = 1 := by
    have := HT.sIx_nat ((x :: ws).map V.int).length 0 1
    rw [show ((1 : Nat) : Int) = 1 from rfl] at this
    rw [this, List.length_map, List.length_cons]
    omega
  rw [e, List.map_cons, List.drop_succ_cons, List.drop_zero, List.length_cons, Nat.add_sub_cancel, List.take_length]
theorem cut_init (x : Int) (ws : List Int) : cutV ((ws ++ [x]).map V.int) none (some (-1)) = ws.map V.int := by
  unfold cutV
  rw [HT.sIx_none]
  have e : HT.sIx ((ws ++ [x]).map V.int).length ((ws ++ [x]).map V.int).length (some (-1)) = ws.length := by
    unfold HT.sIx
    dsimp only
    rw [if_pos (by omega), List.length_map, List.length_append, List.length_singleton]
    omega
  rw [e, List.drop_zero, Nat.sub_zero, List.map_append, List.take_append_of_le_length (by rw [List.length_map]; omega), List.take_of_length_le (by rw [List.length_map]; omega)]
def spSpread (K : PySem.W.Frag) (C : Addr) : Sp := fun vs H Q _ => ∃ (p o : Addr) (k : Nm) (n : Nat) (ws : List Int), vs = [.ref p, .ref o] ∧ KO K C H p o k n ws ∧
  ∀ q H', Same H H' → H q = none → H' q = some (.lst ((sprd k n ws).map V.int)) → Q (.ref q) H'
/-- three arguments: a name, a spread, a step -/
def spExIn (K : PySem.W.Frag) : Sp := fun vs H Q _ => ∃ (l : Addr) (k : Nm) (n : Nat) (ws : List Int) (s : Nat), vs = [.str k.s, .ref l, .int (s : Int)] ∧ H l = some (.lst ((sprd k n ws).map V.int)) ∧ ws.length = n ∧ okK k n = true ∧ okS k n (s : Int) ∧
  ∀ H', SameX l H H' → H' l = some (.lst ((sprd k n (after k n ws s)).map V.int)) → Q .non H'
def spOrdIn (K : PySem.W.Frag) (C : Addr) : Sp := fun vs H Q _ => ∃ (p l : Addr) (k : Nm) (n : Nat) (ws : List Int), vs = [.ref p, .ref l] ∧ KAt C H p k n ∧ H l = some (.lst ((sprd k n ws).map V.int)) ∧ ws.length = n ∧ okK k n = true ∧
  ∀ q H', Same H H' → H q = none → H' q = some (.lst (ws.map V.int)) → Q (.ref q) H'
def spCrossP (K : PySem.W.Frag) (C : Addr) : Sp := fun vs H Q _ => ∃ (p o : Addr) (k : Nm) (n : Nat) (ws : List Int) (s : Nat), vs = [.ref p, .ref o, .int (s : Int)] ∧ KOS K C H p o k n ws s ∧
  ∀ H', Same H H' → Q (.bl (crossP k n ws s)) H'
def spAfter (K : PySem.W.Frag) (C : Addr) : Sp := fun vs H Q _ => ∃ (p o : Addr) (k : Nm) (n : Nat) (ws : List Int) (s : Nat), vs = [.ref p, .ref o, .int (s : Int)] ∧ KOS K C H p o k n ws s ∧
  ∀ q H', Same H H' → H q = none → H' q = some (.lst ((after k n ws s).map V.int)) → Q (.ref q) H'
end
end Sv

namespace Sv
open PySem PySem.Spec PyProof.Rows L2
section
variable {P : Program} {w : World} {K : PySem.W.Frag} {mg : Str → Option Value} {base : Heap} {f C D : Addr} {fd : FuncData}
def spAreWhole (K : PySem.W.Frag) : Sp := fun vs H Q _ => ∃ (o : Addr) (ws : List Int), vs = [.ref o] ∧ SqL K H o (ws.map V.int) ∧ ws.length ≤ 100 ∧ ∀ H', Same H H' → Q (.bl true) H'
theorem ok_are_whole (T : Tk K w mg C D) (F : FnP K "are_whole" "are_whole" s_are_whole f fd) : FnOk P w K mg base CX0 2 f fd ["values"] (spAreWhole K) := by
  refine okN F sc_are_whole (fun vs H Q E h => ?_) (fun cdv A outer s H vs Q E hr h => ?_)
  · obtain ⟨o, ws, rfl, _⟩ := h
    rfl
  · obtain ⟨o, ws, rfl, hO, hl, q⟩ := h
    refine ⟨_, (pss_cons (ps_for PassesOwn.never rfl (pi_list (pv 0)) (pg_name (i := 1) sc_are_whole.nd rfl (Or.inl rfl)) (pss_one (ps_if (PW.pt (pw_or (pt_not (pt_val (pe_callB call_isi (by rfl) T.m_isinstance (by decide +kernel) (pa_cons (pv 1) (pa_cons (pe_bltn (v := .ty "int") (by rfl) T.m_int (by decide +kernel) rfl) pa_nil))))) (pw_or1 (pt_val (pe_callB call_isi (by rfl) T.m_isinstance (by decide +kernel) (pa_cons (pv 1) (pa_cons (pe_bltn (v := .ty "bool") (by rfl) T.m_bool (by decide +kernel) rfl) pa_nil))))))) (pss_one (ps_ret pe_bl)) pss_nil)))
      (pss_one (ps_ret pe_bl))), ?_⟩
    refine ⟨_, rfl, o, rfl, ⟨_, hO⟩, ?_⟩
    refine for_list (K := K) (a := o) (xs := ws.map V.int) (fun i σ H2 => ∃ (v : Option V), σ = [some (.ref o), v] ∧ Same H H2) ⟨none, rfl, Same.refl _⟩ (fun i σ H2 _ h2 => by obtain ⟨_, _, s2⟩ := h2; exact s2.seq hO) ?_ ?_
    · rintro i x σ H2 hi ⟨v, rfl, s2⟩
      obtain ⟨hj, rfl⟩ := at_map hi
      refine ⟨_, rfl, .int (ws.getD i 0), .ty "int", .type "int", .type "int", true, rfl, .ty _, .base (.int _), kit_ty (by decide +kernel), true, rfl, iteN (by decide) ?_⟩
      refine ⟨_, rfl, .int (ws.getD i 0), .ty "bool", .type "int", .type "bool", false, rfl, .ty _, .base (.int _), kit_ty (by decide +kernel), false, rfl, iteN (by decide) ?_⟩
      exact ⟨_, rfl, s2⟩
    · rintro σ H2 ⟨v, rfl, s2⟩
      exact q H2 s2
def spFallsOf (K : PySem.W.Frag) (C : Addr) : Sp := fun vs H Q _ => ∃ (p o : Addr) (k : Nm) (n : Nat) (ws : List Int), vs = [.ref p, .ref o] ∧ KO K C H p o k n ws ∧
  ∀ q H', Same H H' → H q = none → H' q = some (.lst ((fallsP k n ws).map V.int)) → Q (.ref q) H'
def spItemAt (K : PySem.W.Frag) (C : Addr) : Sp := fun vs H Q _ => ∃ (p o : Addr) (k : Nm) (n : Nat) (ws : List Int) (x : Int), vs = [.ref p, .ref o, .int x] ∧ KO K C H p o k n ws ∧ okP k n x ∧ Q (.int (itemP k n ws x)) H
def spProd (K : PySem.W.Frag) (C : Addr) : Sp := fun vs H Q _ => ∃ (p o u : Addr) (k : Nm) (n : Nat) (ws us : List Int), vs = [.ref p, .ref o, .ref u] ∧ KO K C H p o k n ws ∧ SqL K H u (us.map V.int) ∧ us.length ≤ 100 ∧ (∀ x ∈ us, okQ k n x) ∧
  ∀ q H', Same H H' → H q = none → H' q = some (.lst ((prodP k n ws us).map V.int)) → Q (.ref q) H'
theorem invPos_lt {k : Nm} {n : Nat} {x : Int} (hn : 1 ≤ n) (h : okP k n x) : invPos k n x < n := by
  unfold invPos
  split
  · rename_i e
    have := h e
    omega
  · have h1 := Int.emod_nonneg x (show (n : Int) ≠ 0 by omega)
    have h2 := Int.emod_lt_of_pos x (show (0 : Int) < n by omega)
    omega
theorem invUpTo_len (k : Nm) (n : Nat) (ws : List Int) : ∀ i, (invUpTo k n ws i).length = n
  | 0 => startL_len _ _
  | i + 1 => by
    show ((invUpTo k n ws i).set _ _).length = n
    rw [List.length_set, invUpTo_len k n ws i]
def spOpp (K : PySem.W.Frag) (C : Addr) : Sp := fun vs H Q _ => ∃ (p o : Addr) (k : Nm) (n : Nat) (ws : List Int), vs = [.ref p, .ref o] ∧ KO K C H p o k n ws ∧ Form k n ws ∧
  ∀ q H', Same H H' → H q = none → H' q = some (.lst ((invP k n ws).map V.int)) → Q (.ref q) H'
theorem rep_flat : ∀ n : Nat, (List.replicate n [V.int 0]).flatten = (List.replicate n (0 : Int)).map V.int
  | 0 => rfl
  | n + 1 => by
    rw [List.replicate_succ, List.flatten_cons, rep_flat n, List.replicate_succ]
    rfl
def spHeadsOf (K : PySem.W.Frag) (C : Addr) : Sp := fun vs H Q _ => ∃ (p o : Addr) (k : Nm) (n : Nat) (ws : List Int), vs = [.ref p, .ref o] ∧ KO K C H p o k n ws ∧ Form k n ws ∧
  ∀ q H', Same H H' → H q = none → H' q = some (.lst ((fallsP k n (invP k n ws)).map V.int)) → Q (.ref q) H'
def spAhead (K : PySem.W.Frag) (C : Addr) : Sp := fun vs H Q _ => ∃ (p o : Addr) (k : Nm) (n : Nat) (ws : List Int) (s : Nat), vs = [.ref p, .ref o, .int (s : Int)] ∧ KOS K C H p o k n ws s ∧ (∀ x ∈ ws, okQ k n x) ∧
  ∀ q H', Same H H' → H q = none → H' q = some (.lst ((prodP k n (after k n (startL k n) s) ws).map V.int)) → Q (.ref q) H'
end
end Sv

/-! The pairs of combinations as a list, and how they stand to the pairs counted before, by the verifier. -/
namespace Sv
open PySem PySem.Spec PyProof.Rows L2
def ixC (n : Nat) : List (Nat × Nat) := (List.range n).flatMap fun a => (List.range (n - 1 - a)).map fun d => (a, a + 1 + d)
def ixP (n : Nat) : List (Nat × Nat) := (List.range n).flatMap fun b => (List.range b).map fun a => (a, b)
def cmbL (w : List Int) : List (Int × Int) := (ixC w.length).map fun p => (w.getD p.1 0, w.getD p.2 0)
theorem pairsTo_ix (w : List Int) : ∀ b, pairsTo w b = (ixP b).map fun p => (w.getD p.1 0, w.getD p.2 0)
  | 0 => rfl
  | b + 1 => by
    show pairsTo w b ++ rowPairs w b = _
    unfold ixP
    rw [List.range_succ, List.flatMap_append, List.map_append, pairsTo_ix w b]
    unfold ixP rowPairs
    simp [List.flatMap_cons, List.map_map, Function.comp_def]
theorem ix_perm : ∀ n, n ≤ 7 → (ixC n).Perm (ixP n) := by
  intro n hn
  have : n = 0 ∨ n = 1 ∨ n = 2 ∨ n = 3 ∨ n = 4 ∨ n = 5 ∨ n = 6 ∨ n = 7 := by omega
  rcases this with rfl | rfl | rfl | rfl | rfl | rfl | rfl | rfl <;> decide +kernel
theorem cmb_perm {w : List Int} (h : w.length ≤ 7) : (cmbL w).Perm (pairsL w) := by
  unfold pairsL cmbL
  rw [pairsTo_ix]
  exact (ix_perm _ h).map _
theorem prs_fin : ∀ n : Fin 8, (ixC n.val).length ≤ 21 ∧ ∀ i : Fin 22, i.val ≤ (ixC n.val).length → Cm.prs n.val i.val = (ixC n.val)[i.val]? := by decide +kernel
theorem prs_all (n : Nat) (hn : n ≤ 7) : (ixC n).length ≤ 21 ∧ ∀ i, i ≤ 21 → i ≤ (ixC n).length → Cm.prs n i = (ixC n)[i]? :=
  let h := prs_fin ⟨n, by omega⟩
  ⟨h.1, fun i hi => h.2 ⟨i, by omega⟩⟩
theorem cmb_len {w : List Int} (h : w.length ≤ 7) : (cmbL w).length ≤ 21 := by
  unfold cmbL
  rw [List.length_map]
  exact (prs_all _ h).1
/-- the i-th pair in a new tuple -/
def YCmb (ps : List (Int × Int)) : Nat → Hp → V → Hp → Prop := fun i H v H' => ∃ (t : Addr) (q : Int × Int), v = .ref t ∧ H t = none ∧ H' = L2.upd H t (.tup [.int q.1, .int q.2]) ∧ ps[i]? = some q
theorem walk_comb {w : List Int} (h : w.length ≤ 7) : Walk (Itcm (w.map V.int)) (cmbL w).length (fun _ => True) (YCmb (cmbL w)) := by
  obtain ⟨hz, hp⟩ := prs_all _ h
  have hl : (cmbL w).length = (ixC w.length).length := by unfold cmbL; rw [List.length_map]
  have hm : (w.map V.int).length = w.length := List.length_map ..
  refine ⟨fun i H hi _ => ?_, fun H _ => ?_, fun i H v H' hi _ y => ?_⟩
  · refine ⟨(ixC w.length)[i]'(by omega), ?_⟩
    rw [hm, hp i (by omega) (by omega)]
    exact List.getElem?_eq_getElem _
  · show Cm.prs (w.map V.int).length (cmbL w).length = none
    rw [hm, hp _ (by omega) (by omega), hl]
    exact List.getElem?_eq_none (Nat.le_refl _)
  · obtain ⟨T, a, b, x, y, h1, h2, h3, h4, h5, h6⟩ := y
    rw [hm, hp i (by omega) (by omega)] at h1
    have ea : x = .int (w.getD a 0) := by
      rw [List.getElem?_map] at h2
      rw [List.getD_eq_getElem?_getD]
      cases e : w[a]? with
      | none => rw [e] at h2; cases h2
      | some z => rw [e] at h2; cases h2; rfl
    have eb : y = .int (w.getD b 0) := by
      rw [List.getElem?_map] at h3
      rw [List.getD_eq_getElem?_getD]
      cases e : w[b]? with
      | none => rw [e] at h3; cases h3
      | some z => rw [e] at h3; cases h3; rfl
    subst ea eb
    refine ⟨T, (w.getD a 0, w.getD b 0), h4, h5, h6, ?_⟩
    unfold cmbL
    rw [List.getElem?_map, h1]
    rfl
theorem filter_len_permC {α : Type} {xs ys : List α} (h : xs.Perm ys) (f : α → Bool) : (xs.filter f).length = (ys.filter f).length := (h.filter f).length_eq
theorem sum_permC : ∀ {xs ys : List Int}, xs.Perm ys → xs.sum = ys.sum := fun h => by
  induction h with
  | nil => rfl
  | cons x _ ih => simp [ih]
  | swap x y l => simp; omega
  | trans _ _ a b => exact a.trans b
/-- crossings, by the pairs in the other order -/
theorem crP_cmb {k : Nm} {n : Nat} {w : List Int} (h : w.length ≤ 7) : crP k n w =
    if k = .ri then ((cmbL w).map fun q => absI ((q.2 - q.1) / (n : Int))).sum
    else if k = .mi then (((cmbL w).filter fun q => decide (q.2 < q.1)).length : Int) + ((w.filter fun x => decide (x < 0)).length : Int) + (((cmbL w).filter fun q => decide (q.1 + q.2 < 0)).length : Int)
    else (((cmbL w).filter fun q => decide (q.2 < q.1)).length : Int) := by
  have p := cmb_perm h
  unfold crP
  rw [filter_len_permC p, filter_len_permC p, sum_permC (p.map _)]
end Sv

namespace Sv
open PySem PySem.Spec PyProof.Rows L2
/-- a walk with any block -/
theorem it_gen {J : It} {n : Nat} {G : Hp → Prop} {Y : Nat → Hp → V → Hp → Prop} (w : Walk J n G Y) {B : (Hp → Prop) → V → Hp → Prop} {H0 : Hp} {Nx : Hp → Prop} (Pv : Nat → Hp → Prop) (h0 : Pv 0 H0) (hG : ∀ i H, i ≤ n → Pv i H → G H)
    (hs : ∀ i x H H', i < n → Pv i H → Y i H x H' → B (Pv (i + 1)) x H') (hd : ∀ H, Pv n H → Nx H) :
    ∃ W : Nat → Nat → Hp → Prop, (∃ m, W 0 m H0) ∧ ∀ i m H, W i m H → (J.stop i H ∧ Nx H) ∨ (J.go i H ∧ ∃ N : Hp → Prop, (∀ H', N H' → ∃ m', m' < m ∧ W (i + 1) m' H') ∧ ∀ x H', J.yld i H x H' → B N x H') := by
  refine ⟨fun i m H => m = n - i ∧ i ≤ n ∧ Pv i H, ⟨n, by simp, Nat.zero_le _, h0⟩, ?_⟩
  rintro i m H ⟨rfl, hi, p⟩
  have q := hG i H hi p
  by_cases hlt : i < n
  · refine .inr ⟨w.goes i H hlt q, Pv (i + 1), fun H' p' => ⟨n - (i + 1), by omega, rfl, hlt, p'⟩, fun x H' y => hs i x H H' hlt p (w.yields i H x H' hlt q y)⟩
  · have e : i = n := by omega
    subst e
    exact .inl ⟨w.stops H q, hd H p⟩
def PairsAt (H : Hp) : List Addr → List (Int × Int) → Prop
  | [], [] => True
  | t :: ts, q :: ps => H t = some (.tup [.int q.1, .int q.2]) ∧ PairsAt H ts ps
  | _, _ => False
theorem PairsAt.keep {H H' : Hp} (e : Same H H') : ∀ {ts : List Addr} {ps : List (Int × Int)}, PairsAt H ts ps → PairsAt H' ts ps
  | [], [], _ => trivial
  | t :: ts, q :: ps, h => ⟨e _ _ h.1, h.2.keep e⟩
theorem PairsAt.snoc {H : Hp} {t : Addr} {a b : Int} (ht : H t = some (.tup [.int a, .int b])) : ∀ {ts : List Addr} {ps : List (Int × Int)}, PairsAt H ts ps → PairsAt H (ts ++ [t]) (ps ++ [(a, b)])
  | [], [], _ => ⟨ht, trivial⟩
  | u :: ts, q :: ps, h => ⟨h.1, PairsAt.snoc ht h.2⟩
theorem PairsAt.len {H : Hp} : ∀ {ts : List Addr} {ps : List (Int × Int)}, PairsAt H ts ps → ts.length = ps.length
  | [], [], _ => rfl
  | t :: ts, q :: ps, h => congrArg (· + 1) h.2.len
theorem PairsAt.get {H : Hp} : ∀ {ts : List Addr} {ps : List (Int × Int)} {i : Nat} {x : V}, PairsAt H ts ps → (ts.map V.ref)[i]? = some x → ∃ t q, x = .ref t ∧ ps[i]? = some q ∧ H t = some (.tup [.int q.1, .int q.2])
  | [], [], i, x, _, e => by simp at e
  | t :: ts, q :: ps, 0, x, h, e => ⟨t, q, (Option.some.inj e).symm, rfl, h.1⟩
  | t :: ts, q :: ps, i + 1, x, h, e => PairsAt.get (ts := ts) (ps := ps) (i := i) h.2 e
theorem PairsAt.updL {H : Hp} {L : Addr} {xs ys : List V} (hL : H L = some (.lst xs)) : ∀ {ts : List Addr} {ps : List (Int × Int)}, PairsAt H ts ps → PairsAt (L2.upd H L (.lst ys)) ts ps
  | [], [], _ => trivial
  | t :: ts, q :: ps, h => by
    have n : t ≠ L := fun e => by
      have h1 := h.1
      rw [e, hL] at h1
      cases h1
    exact ⟨by rw [upd_ne n]; exact h.1, PairsAt.updL hL h.2⟩
theorem take_succ {α : Type} {ps : List α} {i : Nat} {q : α} (h : ps[i]? = some q) : ps.take (i + 1) = ps.take i ++ [q] := by
  rw [List.take_add_one, h]
  rfl
theorem pairsTo_len (w : List Int) : ∀ b : Nat, b ≤ 7 → (pairsTo w b).length ≤ 7 * b
  | 0, _ => Nat.le_refl _
  | b + 1, h => by
    have := pairsTo_len w b (by omega)
    show (pairsTo w b ++ rowPairs w b).length ≤ _
    rw [List.length_append]
    have : (rowPairs w b).length = b := by unfold rowPairs; rw [List.length_map, List.length_range]
    omega
theorem rowPairs_get (w : List Int) {b j : Nat} (h : j < b) : (rowPairs w b)[j]? = some (w.getD j 0, w.getD b 0) := by
  unfold rowPairs
  rw [List.getElem?_map, List.getElem?_range h]
  rfl
theorem rowPairs_len (w : List Int) (b : Nat) : (rowPairs w b).length = b := by unfold rowPairs; rw [List.length_map, List.length_range]
theorem sqL_ty {K : PySem.W.Frag} {H : Hp} {a : Addr} {xs : List V} (h : SqL K H a xs) : TyX K H (.ref a) (.type "list") := by
  rcases h with (h | ⟨o, h⟩) | ⟨o, its, n, h, c, _⟩
  · exact .base (.lst h)
  · exact .base (.frz h)
  · exact .kList h c
section
variable {P : Program} {w : World} {K : PySem.W.Frag} {mg : Str → Option Value} {base : Heap} {f C D : Addr} {fd : FuncData}
def spCount (K : PySem.W.Frag) (C : Addr) : Sp := fun vs H Q _ => ∃ (p o : Addr) (k : Nm) (n : Nat) (ws : List Int), vs = [.ref p, .ref o] ∧ KO K C H p o k n ws ∧ ∀ H', Same H H' → Q (.int (crP k n ws)) H'
theorem ok_count_crossings (T : Tk K w mg C D) (F : FnP K "count_crossings" "count_crossings" s_count_crossings f fd) (c_m_name : Md P w K mg base C "name" ["self"] 1 (spName C)) : FnOk P w K mg base CX0 2 f fd ["kind", "order"] (spCount K C) := by
  refine okN F sc_count_crossings (fun vs H Q E h => ?_) (fun cdv A outer s H vs Q E hr h => ?_)
  · obtain ⟨p, o, k, n, ws, rfl, _⟩ := h
    rfl
  · obtain ⟨p, o, k, n, ws, rfl, hh, q⟩ := h
    obtain ⟨dx, hp⟩ := id hh.kat
    have hl := hh.len
    have hn := okK_le hh.ok
    have h7 : ws.length ≤ 7 := by omega
    have hc := cmb_len h7
    rw [crP_cmb h7] at q
    have hlI : ((ws.map V.int).length : Int) = (n : Int) := by rw [List.length_map, hl]
    have tl : ∀ (i : Nat) (f : Int × Int → Bool), (((cmbL ws).take i).filter f).length < sizeLine := fun i f => by
      have := List.length_filter_le f ((cmbL ws).take i)
      rw [List.length_take] at this
      exact small1000 (by omega)
    refine ⟨_, (pss_cons (ps_set (i := 2) sc_count_crossings.nd rfl (by first | exact Or.inl rfl | exact Or.inr rfl) (pe_methG0 T.cl c_m_name (hr.mono (by decide)) (pv 0)))
      (pss_cons (ps_if (pt_cmpR op_eq (pv 2) pe_str (nomark _)) (pss_cons (ps_set (i := 3) sc_count_crossings.nd rfl (by first | exact Or.inl rfl | exact Or.inr rfl) (pe_callB call_len_seq (by rfl) T.m_len (by decide +kernel) (pa_cons (pv 1) pa_nil)))
      (pss_one (ps_ret (pe_callB (cr_sum rfl) (by rfl) T.m_sum (by decide +kernel) (pa_cons (pe_lc (own := [(("first" : Str), 5), (("second" : Str), 6)]) (g := (gTup K 2 (gCons (gName 5) (gCons (gName 6) gNil)))) (tt := tYes) rfl sc_count_crossings.nd (pi_comb (by rfl) T.gCb (pa_cons (pv 1) (pa_cons pe_int pa_nil))) (blkOk_by (own := [(("first" : Str), 5), (("second" : Str), 6)]) (N := ["kind", "order", "name", "size", "many", "first", "second", "item"]) (sc := defScope s_count_crossings) (by decide +kernel)) (fun _ _ _ _ _ => (pg_tup rfl (pgs_cons (pg_name (i := 5) sc_count_crossings.nd rfl (Or.inl rfl)) (pgs_cons (pg_name (i := 6) sc_count_crossings.nd rfl (Or.inl rfl)) pgs_nil)))) (fun _ _ _ _ _ => pts_nil) (fun _ _ _ _ _ => (pe_callB call_abs (by rfl) T.m_abs (by decide +kernel) (pa_cons (pe_op op_fdiv (pe_op op_sub (pv 6) (pv 5)) (pv 3)) pa_nil)))) pa_nil))))) pss_nil)
      (pss_cons (ps_set (i := 4) sc_count_crossings.nd rfl (by first | exact Or.inl rfl | exact Or.inr rfl) (pe_callB call_len_seq (by rfl) T.m_len (by decide +kernel) (pa_cons (pe_lc (own := [(("first" : Str), 5), (("second" : Str), 6)]) (g := (gTup K 2 (gCons (gName 5) (gCons (gName 6) gNil)))) rfl sc_count_crossings.nd (pi_comb (by rfl) T.gCb (pa_cons (pv 1) (pa_cons pe_int pa_nil))) (blkOk_by (own := [(("first" : Str), 5), (("second" : Str), 6)]) (N := ["kind", "order", "name", "size", "many", "first", "second", "item"]) (sc := defScope s_count_crossings) (by decide +kernel)) (fun _ _ _ _ _ => (pg_tup rfl (pgs_cons (pg_name (i := 5) sc_count_crossings.nd rfl (Or.inl rfl)) (pgs_cons (pg_name (i := 6) sc_count_crossings.nd rfl (Or.inl rfl)) pgs_nil)))) (fun _ _ _ _ _ => pts_one (pt_cmpR op_gt (pv 5) (pv 6) (nomark _))) (fun _ _ _ _ _ => (pv 5))) pa_nil)))
      (pss_cons (ps_if (pt_cmpR op_eq (pv 2) pe_str (nomark _)) (pss_cons (ps_aug (i := 4) sc_count_crossings.nd rfl (.inl rfl) (pe_callB call_len_seq (by rfl) T.m_len (by decide +kernel) (pa_cons (pe_lc (own := [(("item" : Str), 7)]) (g := (gName 7)) rfl sc_count_crossings.nd (pi_list (pv 1)) (blkOk_by (own := [(("item" : Str), 7)]) (N := ["kind", "order", "name", "size", "many", "first", "second", "item"]) (sc := defScope s_count_crossings) (by decide +kernel)) (fun _ _ _ _ _ => (pg_name (i := 7) sc_count_crossings.nd rfl (Or.inl rfl))) (fun _ _ _ _ _ => pts_one (pt_cmpR op_lt (pv 7) pe_int (nomark _))) (fun _ _ _ _ _ => (pv 7))) pa_nil)) ip_add)
      (pss_one (ps_aug (i := 4) sc_count_crossings.nd rfl (.inl rfl) (pe_callB call_len_seq (by rfl) T.m_len (by decide +kernel) (pa_cons (pe_lc (own := [(("first" : Str), 5), (("second" : Str), 6)]) (g := (gTup K 2 (gCons (gName 5) (gCons (gName 6) gNil)))) rfl sc_count_crossings.nd (pi_comb (by rfl) T.gCb (pa_cons (pv 1) (pa_cons pe_int pa_nil))) (blkOk_by (own := [(("first" : Str), 5), (("second" : Str), 6)]) (N := ["kind", "order", "name", "size", "many", "first", "second", "item"]) (sc := defScope s_count_crossings) (by decide +kernel)) (fun _ _ _ _ _ => (pg_tup rfl (pgs_cons (pg_name (i := 5) sc_count_crossings.nd rfl (Or.inl rfl)) (pgs_cons (pg_name (i := 6) sc_count_crossings.nd rfl (Or.inl rfl)) pgs_nil)))) (fun _ _ _ _ _ => pts_one (pt_cmpR op_lt (pe_op op_add (pv 5) (pv 6)) pe_int (nomark _))) (fun _ _ _ _ _ => (pv 5))) pa_nil)) ip_add))) pss_nil)
      (pss_one (ps_ret (pv 4))))))), ?_⟩
    refine ⟨_, rfl, p, dx, _, rfl, hp, noM, p, k, n, rfl, hh.kat, ?_⟩
    refine ⟨_, rfl, rfl, _, rfl, ite2 (fun hk => ?_) (fun hk => ?_)⟩
    · rw [s_ri] at hk
      have ek := of_decide_eq_true hk
      subst ek
      refine ⟨_, rfl, o, _, rfl, .inl hh.ord, ?_⟩
      rw [hlI]
      refine ⟨_, rfl, o, ws.map V.int, rfl, hh.ord, fun D2 nD => ?_⟩
      refine lc_it (walk_comb h7) (fun i H3 => H3 D2 = some (.lst ((((cmbL ws).take i).map fun q => absI ((q.2 - q.1) / (n : Int))).map V.int)) ∧ Same H H3) ⟨upd_same, Same.upd nD⟩ (fun _ _ _ _ => trivial) ?_ ?_
      · rintro i x H3 H4 hi ⟨hD, s3⟩ ⟨t, qq, rfl, nt, rfl, eq⟩
        have hD4 := (upd_ne (o := .tup [.int qq.1, .int qq.2]) (ne_of_none hD nt)).trans hD
        have s4 := s3.trans (Same.upd (o := .tup [.int qq.1, .int qq.2]) nt)
        refine ⟨t, _, rfl, SqT.of upd_same, rfl, _, _, rfl, _, _, rfl, rfl, rfl, ?_⟩
        refine ⟨_, rfl, _, rfl, _, _, rfl, rfl, _, rfl, _, _, rfl, rfl, ⟨by omega, by omega⟩, _, rfl, ?_⟩
        refine ⟨_, hD4, ?_, ?_, Same_updD s4 nD⟩
        · rw [List.length_map, List.length_map, List.length_take]
          exact small1000 (by omega)
        · rw [upd_same, take_succ eq, List.map_append, List.map_append]
          rfl
      · rintro H3 ⟨hD, s3⟩
        rw [List.take_of_length_le (Nat.le_refl _)] at hD
        exact ⟨D2, _, rfl, SqL.of hD, q H3 s3⟩
    · rw [s_ri] at hk
      have ek : k ≠ .ri := fun e => hk (decide_eq_true e)
      refine ⟨_, rfl, o, ws.map V.int, rfl, hh.ord, fun D2 nD => ?_⟩
      refine lc_it (walk_comb h7) (fun i H3 => ∃ acc, H3 D2 = some (.lst acc) ∧ acc.length = (((cmbL ws).take i).filter fun q => decide (q.2 < q.1)).length ∧ Same H H3) ⟨[], upd_same, rfl, Same.upd nD⟩ (fun _ _ _ _ => trivial) ?_ ?_
      · rintro i x H3 H4 hi ⟨acc, hD, la, s3⟩ ⟨t, qq, rfl, nt, rfl, eq⟩
        have hD4 := (upd_ne (o := .tup [.int qq.1, .int qq.2]) (ne_of_none hD nt)).trans hD
        have s4 := s3.trans (Same.upd (o := .tup [.int qq.1, .int qq.2]) nt)
        refine ⟨t, _, rfl, SqT.of upd_same, rfl, _, _, rfl, _, _, rfl, rfl, rfl, ?_⟩
        rw [take_succ eq, List.filter_append]
        refine ⟨_, rfl, _, rfl, _, _, rfl, rfl, _, rfl, ite2 (fun hc => ?_) (fun hc => ?_)⟩
        · refine ⟨_, rfl, acc, hD4, ?_, acc ++ [.int qq.1], upd_same, ?_, Same_updD s4 nD⟩
          · rw [la]
            exact tl _ _
          · rw [List.length_append, List.length_append, la, List.filter_cons, if_pos hc]
            rfl
        · refine ⟨acc, hD4, ?_, s4⟩
          rw [List.length_append, la, List.filter_cons, if_neg hc]
          rfl
      · rintro H3 ⟨acc, hD, la, s3⟩
        rw [List.take_of_length_le (Nat.le_refl _)] at la
        refine ⟨D2, _, rfl, .inl (SqL.of hD), ?_⟩
        refine ⟨_, rfl, rfl, _, rfl, ite2 (fun hk2 => ?_) (fun hk2 => ?_)⟩
        · have em := is_mi hk2
          subst em
          refine ⟨_, rfl, ?_⟩
          refine ⟨_, rfl, o, rfl, ⟨_, s3.seq hh.ord⟩, fun D3 nD3 => ?_⟩
          refine lc_list (K := K) (a := o) (xs := ws.map V.int) (fun i H4 => ∃ acc, H4 D3 = some (.lst acc) ∧ acc.length = ((ws.take i).filter fun x => decide (x < 0)).length ∧ Same H3 H4) ⟨[], upd_same, rfl, Same.upd nD3⟩ (fun i H4 _ h4 => by obtain ⟨_, _, _, s4⟩ := h4; exact (s3.trans s4).seq hh.ord) ?_ ?_
          · rintro i x H4 hi ⟨acc4, hD4, la4, s4⟩
            obtain ⟨hj, rfl⟩ := at_map hi
            refine ⟨rfl, ?_⟩
            have eq : ws[i]? = some (ws.getD i 0) := by rw [List.getD_eq_getElem?_getD, List.getElem?_eq_getElem hj]; rfl
            rw [take_succ eq, List.filter_append]
            refine ⟨_, rfl, _, _, rfl, rfl, _, rfl, ite2 (fun hc => ?_) (fun hc => ?_)⟩
            · refine ⟨_, rfl, acc4, hD4, ?_, acc4 ++ [.int (ws.getD i 0)], upd_same, ?_, Same_updD s4 nD3⟩
              · have := List.length_filter_le (fun x : Int => decide (x < 0)) (ws.take i)
                rw [List.length_take] at this
                exact small1000 (by omega)
              · rw [List.length_append, List.length_append, la4, List.filter_cons, if_pos hc]
                rfl
            · refine ⟨acc4, hD4, ?_, s4⟩
              rw [List.length_append, la4, List.filter_cons, if_neg hc]
              rfl
          · rintro H4 ⟨acc4, hD4, la4, s4⟩
            rw [List.length_map, List.take_of_length_le (Nat.le_refl _)] at la4
            refine ⟨D3, _, rfl, .inl (SqL.of hD4), ?_⟩
            have s34 := s3.trans s4
            refine ⟨_, _, rfl, rfl, ?_⟩
            refine ⟨_, rfl, ?_⟩
            refine ⟨_, rfl, o, ws.map V.int, rfl, s34.seq hh.ord, fun D4 nD4 => ?_⟩
            refine lc_it (walk_comb h7) (fun i H5 => ∃ acc, H5 D4 = some (.lst acc) ∧ acc.length = (((cmbL ws).take i).filter fun q => decide (q.1 + q.2 < 0)).length ∧ Same H4 H5) ⟨[], upd_same, rfl, Same.upd nD4⟩ (fun _ _ _ _ => trivial) ?_ ?_
            · rintro i x H5 H6 hi ⟨acc5, hD5, la5, s5⟩ ⟨t, qq, rfl, nt, rfl, eq⟩
              have hD6 := (upd_ne (o := .tup [.int qq.1, .int qq.2]) (ne_of_none hD5 nt)).trans hD5
              have s6 := s5.trans (Same.upd (o := .tup [.int qq.1, .int qq.2]) nt)
              refine ⟨t, _, rfl, SqT.of upd_same, rfl, _, _, rfl, _, _, rfl, rfl, rfl, ?_⟩
              rw [take_succ eq, List.filter_append]
              refine ⟨_, rfl, _, rfl, _, _, rfl, rfl, _, _, rfl, rfl, _, rfl, ite2 (fun hc => ?_) (fun hc => ?_)⟩
              · refine ⟨_, rfl, acc5, hD6, ?_, acc5 ++ [.int qq.1], upd_same, ?_, Same_updD s6 nD4⟩
                · rw [la5]
                  exact tl _ _
                · rw [List.length_append, List.length_append, la5, List.filter_cons, if_pos hc]
                  rfl
              · refine ⟨acc5, hD6, ?_, s6⟩
                rw [List.length_append, la5, List.filter_cons, if_neg hc]
                rfl
            · rintro H5 ⟨acc5, hD5, la5, s5⟩
              rw [List.take_of_length_le (Nat.le_refl _)] at la5
              refine ⟨D4, _, rfl, .inl (SqL.of hD5), ?_⟩
              refine ⟨_, _, rfl, rfl, ?_⟩
              refine ⟨_, rfl, ?_⟩
              have e := q H5 (s34.trans s5)
              rw [if_neg ek, if_pos rfl, ← la, ← la4, ← la5] at e
              exact e
        · have em := not_mi hk2
          refine ⟨_, rfl, ?_⟩
          have e := q H3 s3
          rw [if_neg ek, if_neg em, ← la] at e
          exact e
theorem dp_list {H : Hp} {a : Addr} {xs : List Int} (h : SqL K H a (xs.map V.int)) : Dp K H (.ref a) (.list (xs.map PyData.int)) := Dp.lst h (dp_ints _)
def spForm (K : PySem.W.Frag) (C : Addr) : Sp := fun vs H Q _ => ∃ (p o : Addr) (k : Nm) (n : Nat) (ws : List Int), vs = [.ref p, .ref o] ∧ KO K C H p o k n ws ∧ Form k n ws ∧ ∀ H', Same H H' → Q (.bl true) H'
theorem ok_has_order_form (T : Tk K w mg C D) (F : FnP K "has_order_form" "has_order_form" s_has_order_form f fd) (c_m_name : Md P w K mg base C "name" ["self"] 1 (spName C)) (c_m_size : Md P w K mg base C "size" ["self"] 1 (spSize C)) (c_m_start : Md P w K mg base C "start" ["self"] 1 (spStartM C))
    (c_are_whole : Gd P w K mg base "are_whole" ["values"] 2 (spAreWhole K)) : FnOk P w K mg base CX0 3 f fd ["kind", "value"] (spForm K C) := by
  refine okN F sc_has_order_form (fun vs H Q E h => ?_) (fun cdv A outer s H vs Q E hr h => ?_)
  · obtain ⟨p, o, k, n, ws, rfl, _⟩ := h
    rfl
  · obtain ⟨p, o, k, n, ws, rfl, hh, hF, q⟩ := h
    obtain ⟨dx, hp⟩ := id hh.kat
    have hl := hh.len
    have hn := okK_le hh.ok
    refine ⟨_, (pss_cons (ps_set (i := 2) sc_has_order_form.nd rfl (by first | exact Or.inl rfl | exact Or.inr rfl) (pe_methG0 T.cl c_m_size (hr.mono (by decide)) (pv 0)))
      (pss_cons (ps_if (pt_not (PW.pt (pw_and (pt_val (pe_callB call_isi (by rfl) T.m_isinstance (by decide +kernel) (pa_cons (pv 1) (pa_cons (pe_bltn (v := .ty "list") (by rfl) T.m_list (by decide +kernel) rfl) pa_nil)))) (pw_and (pt_cmpR op_eq (pe_callB call_len_seq (by rfl) T.m_len (by decide +kernel) (pa_cons (pv 1) pa_nil)) (pv 2) (nomark _)) (pw_and1 (pt_val (pe_callG c_are_whole (hr.mono (by decide)) (by rfl) (pa_cons (pv 1) pa_nil)))))))) (pss_one (ps_ret pe_bl)) pss_nil)
      (pss_cons (ps_set (i := 3) sc_has_order_form.nd rfl (by first | exact Or.inl rfl | exact Or.inr rfl) (pe_methG0 T.cl c_m_name (hr.mono (by decide)) (pv 0)))
      (pss_cons (ps_if (pt_cmpR op_eq (pv 3) pe_str (nomark _)) (pss_one (ps_ret (pe_cmpR (op_eqD hr.units) (pe_callB cr_sortedI (by rfl) T.m_sorted (by decide +kernel) (pa_cons (pv 1) pa_nil)) (pe_methG0 T.cl c_m_start (hr.mono (by decide)) (pv 0)) (nomark _)))) pss_nil)
      (pss_cons (ps_if (pt_cmpR op_eq (pv 3) pe_str (nomark _)) (pss_one (ps_ret (pe_cmpR (op_eqD hr.units) (pe_callB cr_sortedI (by rfl) T.m_sorted (by decide +kernel) (pa_cons (pe_lc (own := [(("item" : Str), 4)]) (g := (gName 4)) (tt := tYes) rfl sc_has_order_form.nd (pi_list (pv 1)) (blkOk_by (own := [(("item" : Str), 4)]) (N := ["kind", "value", "size", "name", "item"]) (sc := defScope s_has_order_form) (by decide +kernel)) (fun _ _ _ _ _ => (pg_name (i := 4) sc_has_order_form.nd rfl (Or.inl rfl))) (fun _ _ _ _ _ => pts_nil) (fun _ _ _ _ _ => (pe_callB call_abs (by rfl) T.m_abs (by decide +kernel) (pa_cons (pv 4) pa_nil)))) pa_nil)) (pe_methG0 T.cl c_m_start (hr.mono (by decide)) (pv 0)) (nomark _)))) pss_nil)
      (pss_one (ps_ret (pe_and (pe_cmpR op_eq (pe_callB (cr_sum rfl) (by rfl) T.m_sum (by decide +kernel) (pa_cons (pv 1) pa_nil)) (pe_op op_fdiv (pe_op op_mul (pv 2) (pe_op op_sub (pv 2) pe_int)) pe_int) (nomark _)) (pe_one (pe_cmpR (op_eqD hr.units) (pe_callB cr_sortedI (by rfl) T.m_sorted (by decide +kernel) (pa_cons (pe_lc (own := [(("item" : Str), 4)]) (g := (gName 4)) (tt := tYes) rfl sc_has_order_form.nd (pi_list (pv 1)) (blkOk_by (own := [(("item" : Str), 4)]) (N := ["kind", "value", "size", "name", "item"]) (sc := defScope s_has_order_form) (by decide +kernel)) (fun _ _ _ _ _ => (pg_name (i := 4) sc_has_order_form.nd rfl (Or.inl rfl))) (fun _ _ _ _ _ => pts_nil) (fun _ _ _ _ _ => (pe_op op_mod (pv 4) (pv 2)))) pa_nil)) (pe_methG0 T.cl c_m_start (hr.mono (by decide)) (pv 0)) (nomark _))))))))))), ?_⟩
    refine ⟨_, rfl, p, dx, _, rfl, hp, noM, p, k, n, rfl, hh.kat, ?_⟩
    refine ⟨_, rfl, .ref o, .ty "list", .type "list", .type "list", true, rfl, .ty _, sqL_ty hh.ord, kit_ty (by decide +kernel), true, rfl, ?_⟩
    refine ⟨_, rfl, o, _, rfl, .inl hh.ord, _, rfl, rfl, _, rfl, ?_⟩
    refine iteP (decide_eq_true (by rw [List.length_map, hl])) ?_
    refine ⟨_, rfl, o, ws, rfl, hh.ord, by omega, fun H1 s1 => ⟨true, rfl, ?_⟩⟩
    have hp1 := s1 _ _ hp
    have k1 := hh.kat.keep s1
    refine ⟨_, rfl, p, dx, _, rfl, hp1, noM, p, k, n, rfl, k1, ?_⟩
    refine ⟨_, rfl, rfl, _, rfl, ite2 (fun hk => ?_) (fun hk => ?_)⟩
    · rw [s_pl] at hk
      have ek := of_decide_eq_true hk
      subst ek
      refine ⟨_, rfl, o, ws, rfl, s1.seq hh.ord, fun ys a hy hs na => ?_⟩
      have u1 := Same.upd (o := .lst (ys.map V.int)) na
      refine ⟨_, rfl, p, dx, _, rfl, u1 _ _ hp1, noM, p, .pl, n, rfl, k1.keep u1, by omega, fun b nb => ?_⟩
      have u2 := Same.upd (o := .lst ((startL .pl n).map V.int)) nb
      refine ⟨_, _, dp_list (SqL.of (u2 _ _ upd_same)), dp_list (SqL.of upd_same), shaped_ints _, shaped_ints _, qB (q _ ((s1.trans u1).trans u2)) ?_⟩
      rw [eqv_l]
      exact decide_eq_true (sorted_start hy hs hF.2)
    · rw [s_pl] at hk
      have ek : k ≠ .pl := fun e => hk (decide_eq_true e)
      refine ⟨_, rfl, rfl, _, rfl, ite2 (fun hk => ?_) (fun hk => ?_)⟩
      · have em := is_mi hk
        subst em
        refine ⟨_, rfl, o, rfl, ⟨_, s1.seq hh.ord⟩, fun L nL => ?_⟩
        refine lc_list (K := K) (a := o) (xs := ws.map V.int) (fun i H2 => H2 L = some (.lst (((ws.take i).map absI).map V.int)) ∧ Same H1 H2) ⟨upd_same, Same.upd nL⟩ (fun i H2 _ h2 => (s1.trans h2.2).seq hh.ord) ?_ ?_
        · rintro i x H2 hi ⟨hD, s2⟩
          obtain ⟨hj, rfl⟩ := at_map hi
          refine ⟨rfl, ?_⟩
          have eq : ws[i]? = some (ws.getD i 0) := by rw [List.getD_eq_getElem?_getD, List.getElem?_eq_getElem hj]; rfl
          refine ⟨_, rfl, _, rfl, _, hD, ?_, ?_, Same_updD s2 nL⟩
          · rw [List.length_map, List.length_map, List.length_take]
            exact small1000 (by omega)
          · rw [upd_same, take_succ eq, List.map_append, List.map_append]
            rfl
        · rintro H2 ⟨hD, s2⟩
          rw [List.length_map, List.take_of_length_le (Nat.le_refl _)] at hD
          refine ⟨L, ws.map absI, rfl, SqL.of hD, fun ys a hy hs na => ?_⟩
          have u1 := (s1.trans s2).trans (Same.upd (o := .lst (ys.map V.int)) na)
          refine ⟨_, rfl, p, dx, _, rfl, u1 _ _ hp, noM, p, .mi, n, rfl, hh.kat.keep u1, by omega, fun b nb => ?_⟩
          have u2 := Same.upd (o := .lst ((startL .mi n).map V.int)) nb
          refine ⟨_, _, dp_list (SqL.of (u2 _ _ upd_same)), dp_list (SqL.of upd_same), shaped_ints _, shaped_ints _, qB (q _ (u1.trans u2)) ?_⟩
          rw [eqv_l]
          exact decide_eq_true (sorted_start hy hs hF.2)
      · have em := not_mi hk
        have er : k = .ri := by cases k <;> simp_all
        subst er
        refine ⟨_, rfl, o, ws, rfl, s1.seq hh.ord, ?_⟩
        refine ⟨_, rfl, _, rfl, _, _, rfl, rfl, _, _, rfl, rfl, .inl ⟨by omega, by omega⟩, _, _, rfl, rfl, ⟨by decide, by decide⟩, rfl, _, rfl, iteP (decide_eq_true (congrArg V.int hF.2.1)) ?_⟩
        refine ⟨_, rfl, o, rfl, ⟨_, s1.seq hh.ord⟩, fun L nL => ?_⟩
        refine lc_list (K := K) (a := o) (xs := ws.map V.int) (fun i H2 => H2 L = some (.lst (((ws.take i).map fun x => x % (n : Int)).map V.int)) ∧ Same H1 H2) ⟨upd_same, Same.upd nL⟩ (fun i H2 _ h2 => (s1.trans h2.2).seq hh.ord) ?_ ?_
        · rintro i x H2 hi ⟨hD, s2⟩
          obtain ⟨hj, rfl⟩ := at_map hi
          refine ⟨rfl, ?_⟩
          have eq : ws[i]? = some (ws.getD i 0) := by rw [List.getD_eq_getElem?_getD, List.getElem?_eq_getElem hj]; rfl
          refine ⟨_, rfl, _, rfl, _, _, rfl, rfl, (by omega), _, hD, ?_, ?_, Same_updD s2 nL⟩
          · rw [List.length_map, List.length_map, List.length_take]
            exact small1000 (by omega)
          · rw [upd_same, take_succ eq, List.map_append, List.map_append]
            rfl
        · rintro H2 ⟨hD, s2⟩
          rw [List.length_map, List.take_of_length_le (Nat.le_refl _)] at hD
          refine ⟨L, ws.map fun x => x % (n : Int), rfl, SqL.of hD, fun ys a hy hs na => ?_⟩
          have u1 := (s1.trans s2).trans (Same.upd (o := .lst (ys.map V.int)) na)
          refine ⟨_, rfl, p, dx, _, rfl, u1 _ _ hp, noM, p, .ri, n, rfl, hh.kat.keep u1, by omega, fun b nb => ?_⟩
          have u2 := Same.upd (o := .lst ((startL .ri n).map V.int)) nb
          refine ⟨_, _, dp_list (SqL.of (u2 _ _ upd_same)), dp_list (SqL.of upd_same), shaped_ints _, shaped_ints _, qB (q _ (u1.trans u2)) ?_⟩
          rw [eqv_l]
          exact decide_eq_true (sorted_start hy hs hF.2.2)
def spTold (K : PySem.W.Frag) (C : Addr) : Sp := fun vs H Q _ => ∃ (p o : Addr) (k : Nm) (n : Nat) (ws : List Int), vs = [.ref p, .ref o] ∧ KO K C H p o k n ws ∧ Form k n ws ∧ crP k n ws ≤ 60 ∧ ∀ H', Same H H' → Q (.bl true) H'
theorem ok_is_told_order (T : Tk K w mg C D) (F : FnP K "is_told_order" "is_told_order" s_is_told_order f fd) (gM : ∃ t, mg "MOST_CROSSINGS" = some (.int 60 t)) (c_has_order_form : Gd P w K mg base "has_order_form" ["kind", "value"] 3 (spForm K C))
    (c_count_crossings : Gd P w K mg base "count_crossings" ["kind", "order"] 2 (spCount K C)) (c_m_name : Md P w K mg base C "name" ["self"] 1 (spName C)) : FnOk P w K mg base CX0 4 f fd ["kind", "value"] (spTold K C) := by
  obtain ⟨tM, gM⟩ := gM
  refine okN F sc_is_told_order (fun vs H Q E h => ?_) (fun cdv A outer s H vs Q E hr h => ?_)
  · obtain ⟨p, o, k, n, ws, rfl, _⟩ := h
    rfl
  · obtain ⟨p, o, k, n, ws, rfl, hh, hF, h6, q⟩ := h
    refine ⟨_, (pss_cons (ps_if (pt_not (pt_val (pe_callG c_has_order_form (hr.mono (by decide)) (by rfl) (pa_cons (pv 0) (pa_cons (pv 1) pa_nil))))) (pss_one (ps_ret pe_bl)) pss_nil)
      (pss_one (ps_ret (pe_or (pe_cmpR op_ne (pe_methG0 T.cl c_m_name (hr.mono (by decide)) (pv 0)) pe_str (nomark _)) (pe_one (pe_cmpR op_le (pe_callG c_count_crossings (hr.mono (by decide)) (by rfl) (pa_cons (pv 0) (pa_cons (pv 1) pa_nil))) (pe_glob (v := .int 60) (by rfl) gM ⟨_, rfl⟩) (nomark _))))))), ?_⟩
    refine ⟨_, rfl, _, rfl, p, o, k, n, ws, rfl, hh, hF, fun H1 s1 => ⟨true, rfl, iteN (by decide) ?_⟩⟩
    obtain ⟨dx, hp⟩ := (hh.keep s1).kat
    refine ⟨_, rfl, p, dx, _, rfl, hp, noM, p, k, n, rfl, ⟨dx, hp⟩, rfl, _, rfl, ite2 (fun _ => q H1 s1) (fun _ => ?_)⟩
    refine ⟨_, rfl, _, rfl, p, o, k, n, ws, rfl, hh.keep s1, fun H2 s2 => ?_⟩
    refine ⟨_, _, rfl, rfl, qB (q H2 (s1.trans s2)) (decide_eq_true h6)⟩
def spCkO (K : PySem.W.Frag) (C : Addr) : Sp := fun vs H Q _ => ∃ (p o : Addr) (k : Nm) (n : Nat) (ws : List Int), vs = [.ref p, .ref o] ∧ KO K C H p o k n ws ∧ Form k n ws ∧ crP k n ws ≤ 60 ∧ ∀ H', Same H H' → Q .non H'
def spCkB (K : PySem.W.Frag) (C : Addr) : Sp := fun vs H Q _ => ∃ (p t o : Addr) (k : Nm) (n : Nat) (ws : List Int), vs = [.ref p, .ref t] ∧ SqT K H t [.ref o] ∧ KO K C H p o k n ws ∧ Form k n ws ∧ crP k n ws ≤ 60 ∧ ∀ H', Same H H' → Q .non H'
theorem body_check_orders {cdv : Value} {A : Around} {outer : List Env} {s : Shared} {H : Hp} {vs : List V} {Q : VK} {E : XK} (T : Tk K w mg C D) (F : FnP K "check_orders" "check_orders" s_check_orders f fd) (c_check_kind : Gd P w K mg base "check_kind" ["kind"] 1 (spCk C)) (c_is_told_order : Gd P w K mg base "is_told_order" ["kind", "value"] 4 (spTold K C))
    (hr : Room 4 (A.deeper (envOfC "check_orders" (defScope s_check_orders) s.heap.objs.size f cdv))) (h : spCkB K C vs H Q E) :
    ∃ t, PSs (cxOf CX0 P w K mg base ["kind", "orders", "order"] "check_orders" (defScope s_check_orders) f cdv A outer s H E).nox (defBody s_check_orders) t ∧ t { nx := fun _ H' => Q .non H', rt := Q } (start ["kind", "orders", "order"] vs) H := by
  obtain ⟨p, t, o, k, n, ws, rfl, hT, hh, hF, h6, q⟩ := h
  refine ⟨_, (pss_cons (ps_expr (pe_callG c_check_kind (hr.mono (by decide)) (by rfl) (pa_cons (pv 0) pa_nil)))
      (pss_one (ps_for PassesOwn.never rfl (pi_tup (pv 1)) (pg_name (i := 2) sc_check_orders.nd rfl (Or.inl rfl)) (pss_one (ps_if (pt_not (pt_val (pe_callG c_is_told_order (hr.mono (by decide)) (by rfl) (pa_cons (pv 0) (pa_cons (pv 2) pa_nil))))) (pss_one ps_never) pss_nil))))), ?_⟩
  refine ⟨_, rfl, p, k, n, rfl, hh.kat, ?_⟩
  refine ⟨_, rfl, t, rfl, ⟨_, hT⟩, ?_⟩
  refine for_tup (K := K) (a := t) (xs := [.ref o]) (fun i σ H2 => ∃ v, σ = [some (.ref p), some (.ref t), v] ∧ Same H H2) ⟨none, rfl, Same.refl H⟩ (fun i σ H2 _ h2 => by obtain ⟨_, _, s2⟩ := h2; exact Same.tup s2 hT) ?_ ?_
  · rintro i x σ H2 hi ⟨v, rfl, s2⟩
    have ex : x = .ref o := by
      match i, hi with
      | 0, hi => exact (Option.some.inj hi).symm
    subst ex
    refine ⟨_, rfl, _, rfl, p, o, k, n, ws, rfl, hh.keep s2, hF, h6, fun H3 s3 => ⟨true, rfl, ?_⟩⟩
    exact ⟨_, rfl, s2.trans s3⟩
  · rintro σ H2 ⟨v, rfl, s2⟩
    exact q H2 s2
theorem ok_check_orders (T : Tk K w mg C D) (F : FnP K "check_orders" "check_orders" s_check_orders f fd) (c_check_kind : Gd P w K mg base "check_kind" ["kind"] 1 (spCk C)) (c_is_told_order : Gd P w K mg base "is_told_order" ["kind", "value"] 4 (spTold K C)) : FnR P w K mg base CX0 5 f (spCkO K C) := by
  obtain ⟨oc, od, dV, kV, doc, pm, an, cdv, ct, osl, rfl, lk, hcd, hD, hK⟩ := id F.ex
  rcases hD with ⟨_, rfl⟩ | ⟨e, _⟩
  · have R := StX.fn_star (P := P) (w := w) (mg := mg) (base := base) (CX := CX0) (ps := ["kind"]) (pv := "orders") (N := ["kind", "orders", "order"]) (sp := spCkB K C) (k := 4) lk hcd sc_check_orders StX.cxUp_none
      (StX.bind_star1 (B := fun us => bindArgs _ ⟨us, []⟩) (fun a => rfl) (fun a r rs => rfl)) (fun A outer s H vs Q E hr h => let ⟨t, p, q⟩ := body_check_orders T F c_check_kind c_is_told_order hr h; ⟨t, p.nox, q⟩)
    intro A outer s H us vs Q E hr e0 r h
    refine R A outer s H us vs Q E hr e0 r ?_
    obtain ⟨p, o, k, n, ws, rfl, hh, hF, h6, q⟩ := h
    refine ⟨[.ref p], [.ref o], rfl, rfl, (by show 1 ≤ sizeLine; decide), fun t nt => ?_⟩
    have u1 := Same.upd (o := .tup [V.ref o]) nt
    exact ⟨p, t, o, k, n, ws, rfl, SqT.of upd_same, hh.keep u1, hF, h6, fun H' s' => q H' (u1.trans s')⟩
  · exact absurd rfl e
def spCross2 (K : PySem.W.Frag) (C : Addr) : Sp := fun vs H Q _ => ∃ (p o : Addr) (k : Nm) (n : Nat) (ws : List Int), vs = [.ref p, .ref o] ∧ KO K C H p o k n ws ∧ Form k n ws ∧ crP k n ws ≤ 60 ∧ ∀ H', Same H H' → Q (.int (crP k n ws)) H'
theorem ok_crossings (T : Tk K w mg C D) (F : FnP K "crossings" "crossings" s_crossings f fd) (c_check_orders : Rd P w K mg base "check_orders" 5 (spCkO K C)) (c_count_crossings : Gd P w K mg base "count_crossings" ["kind", "order"] 2 (spCount K C)) : FnOk P w K mg base CX0 6 f fd ["kind", "order"] (spCross2 K C) := by
  refine okN F sc_crossings (fun vs H Q E h => ?_) (fun cdv A outer s H vs Q E hr h => ?_)
  · obtain ⟨p, o, k, n, ws, rfl, _⟩ := h
    rfl
  · obtain ⟨p, o, k, n, ws, rfl, hh, hF, h6, q⟩ := h
    refine ⟨_, (pss_cons (ps_expr (pe_callRG c_check_orders (hr.mono (by decide)) (by rfl) (pa_cons (pv 0) (pa_cons (pv 1) pa_nil))))
      (pss_one (ps_ret (pe_callG c_count_crossings (hr.mono (by decide)) (by rfl) (pa_cons (pv 0) (pa_cons (pv 1) pa_nil)))))), ?_⟩
    refine ⟨_, rfl, _, rfl, p, o, k, n, ws, rfl, hh, hF, h6, fun H1 s1 => ?_⟩
    exact ⟨_, rfl, _, rfl, p, o, k, n, ws, rfl, hh.keep s1, fun H2 s2 => q H2 (s1.trans s2)⟩
def spFalls2 (K : PySem.W.Frag) (C : Addr) : Sp := fun vs H Q _ => ∃ (p o : Addr) (k : Nm) (n : Nat) (ws : List Int), vs = [.ref p, .ref o] ∧ KO K C H p o k n ws ∧ Form k n ws ∧ crP k n ws ≤ 60 ∧
  ∀ q H', Same H H' → H q = none → H' q = some (.lst ((fallsP k n ws).map V.int)) → Q (.ref q) H'
def spHeads2 (K : PySem.W.Frag) (C : Addr) : Sp := fun vs H Q _ => ∃ (p o : Addr) (k : Nm) (n : Nat) (ws : List Int), vs = [.ref p, .ref o] ∧ KO K C H p o k n ws ∧ Form k n ws ∧ crP k n ws ≤ 60 ∧
  ∀ q H', Same H H' → H q = none → H' q = some (.lst ((fallsP k n (invP k n ws)).map V.int)) → Q (.ref q) H'
def spStepped2 (K : PySem.W.Frag) (C : Addr) : Sp := fun vs H Q _ => ∃ (p o : Addr) (k : Nm) (n : Nat) (ws : List Int) (z : Int), vs = [.ref p, .ref o, .int z] ∧ KO K C H p o k n ws ∧ Form k n ws ∧ crP k n ws ≤ 60 ∧ okS k n z ∧
  ∀ q H', Same H H' → H q = none → H' q = some (.lst ((stepped k n ws z).map V.int)) → Q (.ref q) H'
def spAhead2 (K : PySem.W.Frag) (C : Addr) : Sp := fun vs H Q _ => ∃ (p o : Addr) (k : Nm) (n : Nat) (ws : List Int) (z : Int), vs = [.ref p, .ref o, .int z] ∧ KO K C H p o k n ws ∧ Form k n ws ∧ crP k n ws ≤ 60 ∧ okS k n z ∧
  ∀ q H', Same H H' → H q = none → H' q = some (.lst ((aheadL k n ws z).map V.int)) → Q (.ref q) H'
end
end Sv

/-! The tests of orders, asked of any value. By the verifier. -/
namespace Sv
open PySem PySem.Spec PyProof.Rows L2
/-- a value whose type is told, one of seven -/
def Ty7 (K : PySem.W.Frag) (H : Hp) (x : V) (t : String) : Prop := TyX K H x (.type t) ∧ (t = "NoneType" ∨ t = "bool" ∨ t = "int" ∨ t = "str" ∨ t = "list" ∨ t = "tuple" ∨ t = "dict")
def isInt : V → Bool
  | .int _ => true
  | _ => false
theorem Ty7.isInt {K : PySem.W.Frag} {H : Hp} {x : V} {t : String} (h : Ty7 K H x t) : isInt x = decide (t = "int") := by
  obtain ⟨h1, h2⟩ := h
  generalize ht : Value.type t = u at h1
  cases h1 with
  | base b =>
    cases b with
    | ins _ _ _ _ _ => cases ht
    | _ => cases ht; rfl
  | _ => cases ht; rfl
theorem Ty7.keep {K : PySem.W.Frag} {H H' : Hp} {x : V} {t : String} (h : Ty7 K H x t) (e : Same H H') : Ty7 K H' x t := by
  obtain ⟨h1, h2⟩ := h
  refine ⟨?_, h2⟩
  generalize ht : Value.type t = u at h1 ⊢
  cases h1 with
  | base b =>
    cases b with
    | ins _ _ _ _ _ => cases ht
    | non => exact .base .non
    | bl z => exact .base (.bl z)
    | int z => exact .base (.int z)
    | str z => exact .base (.str z)
    | flt z => exact .base (.flt z)
    | lst z => exact .base (.lst (e _ _ z))
    | frz z => exact .base (.frz (e _ _ z))
    | tup z => exact .base (.tup (e _ _ z))
    | dK z => exact .base (.dK (e _ _ z))
    | dT z => exact .base (.dT (e _ _ z))
  | byt z => exact .byt z
  | set z => exact .set (e _ _ z)
  | kList z c => exact .kList z c
  | kTuple z c => exact .kTuple z c
  | kDict z c => exact .kDict z c
  | fTuple z => exact .fTuple (e _ _ z)
  | fDict z => exact .fDict (e _ _ z)
theorem kit_int {K : PySem.W.Frag} {H : Hp} {x : V} {t : String} (h : Ty7 K H x t) : PySem.W.kitOne K (.type t) (.type "int") = some (decide (t = "int") || decide (t = "bool")) := by
  obtain ⟨_, h⟩ := h
  rcases h with h | h | h | h | h | h | h <;> subst h <;> exact kit_ty (by decide +kernel)
theorem kit_bool {K : PySem.W.Frag} {H : Hp} {x : V} {t : String} (h : Ty7 K H x t) : PySem.W.kitOne K (.type t) (.type "bool") = some (decide (t = "bool")) := by
  obtain ⟨_, h⟩ := h
  rcases h with h | h | h | h | h | h | h <;> subst h <;> exact kit_ty (by decide +kernel)
theorem kit_list {K : PySem.W.Frag} {H : Hp} {x : V} {t : String} (h : Ty7 K H x t) : PySem.W.kitOne K (.type t) (.type "list") = some (decide (t = "list")) := by
  obtain ⟨_, h⟩ := h
  rcases h with h | h | h | h | h | h | h <;> subst h <;> exact kit_ty (by decide +kernel)
theorem all_ints : ∀ {xs : List V}, xs.all isInt = true → ∃ ws : List Int, xs = ws.map V.int
  | [], _ => ⟨[], rfl⟩
  | x :: xs, h => by
    rw [List.all_cons, Bool.and_eq_true] at h
    obtain ⟨ws, e⟩ := all_ints h.2
    cases x with
    | int i => exact ⟨i :: ws, by rw [e]; rfl⟩
    | _ => cases h.1
theorem ints_all (ws : List Int) : (ws.map V.int).all isInt = true := by
  rw [List.all_map, List.all_eq_true]
  exact fun x _ => rfl
theorem ints_inj : ∀ {a b : List Int}, a.map V.int = b.map V.int → a = b
  | [], [], _ => rfl
  | [], _ :: _, h => by cases h
  | _ :: _, [], h => by cases h
  | x :: a, y :: b, h => by
    rw [List.map_cons, List.map_cons] at h
    injection h with h1 h2
    rw [V.int.inj h1, ints_inj h2]
/-- the items of a list, or that a value is none -/
def ValAt (K : PySem.W.Frag) (H : Hp) (v : V) (lv : Option (List V)) : Prop := match lv with
  | none => ∃ t, Ty7 K H v t ∧ t ≠ "list"
  | some xs => ∃ o, v = .ref o ∧ SqL K H o xs ∧ xs.length ≤ 1000 ∧ ∀ x ∈ xs, ∃ t, Ty7 K H x t
section
variable {P : Program} {w : World} {K : PySem.W.Frag} {mg : Str → Option Value} {base : Heap} {f C D : Addr} {fd : FuncData}
def spIsWholeV (K : PySem.W.Frag) : Sp := fun vs H Q _ => ∃ (x : V) (t : String), vs = [x] ∧ Ty7 K H x t ∧ Q (.bl (isInt x)) H
theorem ok_is_wholeV (T : Tk K w mg C D) (F : FnP K "is_whole" "is_whole" s_is_whole f fd) : FnOk P w K mg base CX0 1 f fd ["value"] (spIsWholeV K) := by
  refine okN F sc_is_whole (fun vs H Q E h => ?_) (fun cdv A outer s H vs Q E hr h => ?_)
  · obtain ⟨x, t, rfl, _⟩ := h
    rfl
  · obtain ⟨x, t, rfl, hT, q⟩ := h
    refine ⟨_, (pss_one (ps_ret (pe_and (pe_callB call_isi (by rfl) T.m_isinstance (by decide +kernel) (pa_cons (pv 0) (pa_cons (pe_bltn (v := .ty "int") (by rfl) T.m_int (by decide +kernel) rfl) pa_nil))) (pe_one (pe_not (pe_callB call_isi (by rfl) T.m_isinstance (by decide +kernel) (pa_cons (pv 0) (pa_cons (pe_bltn (v := .ty "bool") (by rfl) T.m_bool (by decide +kernel) rfl) pa_nil)))))))), ?_⟩
    rw [hT.isInt] at q
    refine ⟨_, rfl, x, .ty "int", .type t, .type "int", _, rfl, .ty _, hT.1, kit_int hT, _, rfl, ?_⟩
    refine ite2 (fun h => ?_) (fun h => ?_)
    · refine ⟨_, rfl, x, .ty "bool", .type t, .type "bool", _, rfl, .ty _, hT.1, kit_bool hT, _, rfl, qB q ?_⟩
      by_cases e : t = "bool"
      · subst e
        rfl
      · have e2 : t = "int" := by simpa [e] using h
        subst e2
        rfl
    · refine qB q ?_
      by_cases e : t = "int"
      · exact absurd (by simp [e]) h
      · exact (decide_eq_false e).symm
def spAreWholeV (K : PySem.W.Frag) : Sp := fun vs H Q _ => ∃ (o : Addr) (xs : List V), vs = [.ref o] ∧ SqL K H o xs ∧ (∀ x ∈ xs, ∃ t, Ty7 K H x t) ∧ ∀ H', Same H H' → Q (.bl (xs.all isInt)) H'
theorem ok_are_wholeV (T : Tk K w mg C D) (F : FnP K "are_whole" "are_whole" s_are_whole f fd) : FnOk P w K mg base CX0 2 f fd ["values"] (spAreWholeV K) := by
  refine okN F sc_are_whole (fun vs H Q E h => ?_) (fun cdv A outer s H vs Q E hr h => ?_)
  · obtain ⟨o, xs, rfl, _⟩ := h
    rfl
  · obtain ⟨o, xs, rfl, hO, hT, q⟩ := h
    refine ⟨_, (pss_cons (ps_for PassesOwn.never rfl (pi_list (pv 0)) (pg_name (i := 1) sc_are_whole.nd rfl (Or.inl rfl)) (pss_one (ps_if (PW.pt (pw_or (pt_not (pt_val (pe_callB call_isi (by rfl) T.m_isinstance (by decide +kernel) (pa_cons (pv 1) (pa_cons (pe_bltn (v := .ty "int") (by rfl) T.m_int (by decide +kernel) rfl) pa_nil))))) (pw_or1 (pt_val (pe_callB call_isi (by rfl) T.m_isinstance (by decide +kernel) (pa_cons (pv 1) (pa_cons (pe_bltn (v := .ty "bool") (by rfl) T.m_bool (by decide +kernel) rfl) pa_nil))))))) (pss_one (ps_ret pe_bl)) pss_nil)))
      (pss_one (ps_ret pe_bl))), ?_⟩
    refine ⟨_, rfl, o, rfl, ⟨_, hO⟩, ?_⟩
    refine for_list (K := K) (a := o) (xs := xs) (fun i σ H2 => ∃ (v : Option V), σ = [some (.ref o), v] ∧ (xs.take i).all isInt = true ∧ Same H H2) ⟨none, rfl, rfl, Same.refl _⟩ (fun i σ H2 _ h2 => by obtain ⟨_, _, _, s2⟩ := h2; exact s2.seq hO) ?_ ?_
    · rintro i x σ H2 hi ⟨v, rfl, ha, s2⟩
      obtain ⟨t, ht⟩ := hT x (List.mem_of_getElem? hi)
      have ht2 := ht.keep s2
      have no : isInt x = false → Q (.bl false) H2 := fun e => by
        refine qB (q H2 s2) (Bool.eq_false_iff.mpr fun z => ?_).symm
        rw [List.all_eq_true.mp z x (List.mem_of_getElem? hi)] at e
        cases e
      refine ⟨_, rfl, x, .ty "int", .type t, .type "int", _, rfl, .ty _, ht2.1, kit_int ht2, _, rfl, ?_⟩
      by_cases h : (decide (t = "int") || decide (t = "bool")) = true
      · refine iteN (by rw [h]; decide) ?_
        refine ⟨_, rfl, x, .ty "bool", .type t, .type "bool", _, rfl, .ty _, ht2.1, kit_bool ht2, _, rfl, ite2 (fun hb => ?_) (fun hb => ?_)⟩
        · refine no ?_
          rw [ht.isInt, of_decide_eq_true hb]
          rfl
        · have e2 : t = "int" := by
            have := of_decide_eq_false (Bool.eq_false_iff.mpr hb)
            simpa [this] using h
          refine ⟨_, rfl, ?_, s2⟩
          rw [take_succ hi, List.all_append, ha, List.all_cons, ht.isInt, e2]
          rfl
      · refine iteP (by rw [Bool.eq_false_iff.mpr h]; rfl) (iteP rfl (no ?_))
        rw [ht.isInt]
        exact decide_eq_false fun e => h (by simp [e])
    · rintro σ H2 ⟨v, rfl, ha, s2⟩
      rw [List.take_length] at ha
      exact qB (q H2 s2) ha.symm
def spFormV (K : PySem.W.Frag) (C : Addr) : Sp := fun vs H Q _ => ∃ (p : Addr) (v : V) (k : Nm) (n : Nat) (lv : Option (List V)), vs = [.ref p, v] ∧ KAt C H p k n ∧ okK k n = true ∧ ValAt K H v lv ∧
  ∀ (b : Bool) H', (b = true ↔ ∃ ws : List Int, lv = some (ws.map V.int) ∧ Form k n ws) → Same H H' → Q (.bl b) H'
theorem ok_has_order_formV (T : Tk K w mg C D) (F : FnP K "has_order_form" "has_order_form" s_has_order_form f fd) (c_m_name : Md P w K mg base C "name" ["self"] 1 (spName C)) (c_m_size : Md P w K mg base C "size" ["self"] 1 (spSize C)) (c_m_start : Md P w K mg base C "start" ["self"] 1 (spStartM C))
    (c_are_whole : Gd P w K mg base "are_whole" ["values"] 2 (spAreWholeV K)) : FnOk P w K mg base CX0 3 f fd ["kind", "value"] (spFormV K C) := by
  refine okN F sc_has_order_form (fun vs H Q E h => ?_) (fun cdv A outer s H vs Q E hr h => ?_)
  · obtain ⟨p, v, k, n, lv, rfl, _⟩ := h
    rfl
  · obtain ⟨p, v, k, n, lv, rfl, hk, hok, hv, q⟩ := h
    obtain ⟨dx, hp⟩ := id hk
    have hn := okK_le hok
    refine ⟨_, (pss_cons (ps_set (i := 2) sc_has_order_form.nd rfl (by first | exact Or.inl rfl | exact Or.inr rfl) (pe_methG0 T.cl c_m_size (hr.mono (by decide)) (pv 0)))
      (pss_cons (ps_if (pt_not (PW.pt (pw_and (pt_val (pe_callB call_isi (by rfl) T.m_isinstance (by decide +kernel) (pa_cons (pv 1) (pa_cons (pe_bltn (v := .ty "list") (by rfl) T.m_list (by decide +kernel) rfl) pa_nil)))) (pw_and (pt_cmpR op_eq (pe_callB call_len_seq (by rfl) T.m_len (by decide +kernel) (pa_cons (pv 1) pa_nil)) (pv 2) (nomark _)) (pw_and1 (pt_val (pe_callG c_are_whole (hr.mono (by decide)) (by rfl) (pa_cons (pv 1) pa_nil)))))))) (pss_one (ps_ret pe_bl)) pss_nil)
      (pss_cons (ps_set (i := 3) sc_has_order_form.nd rfl (by first | exact Or.inl rfl | exact Or.inr rfl) (pe_methG0 T.cl c_m_name (hr.mono (by decide)) (pv 0)))
      (pss_cons (ps_if (pt_cmpR op_eq (pv 3) pe_str (nomark _)) (pss_one (ps_ret (pe_cmpR (op_eqD hr.units) (pe_callB cr_sortedI (by rfl) T.m_sorted (by decide +kernel) (pa_cons (pv 1) pa_nil)) (pe_methG0 T.cl c_m_start (hr.mono (by decide)) (pv 0)) (nomark _)))) pss_nil)
      (pss_cons (ps_if (pt_cmpR op_eq (pv 3) pe_str (nomark _)) (pss_one (ps_ret (pe_cmpR (op_eqD hr.units) (pe_callB cr_sortedI (by rfl) T.m_sorted (by decide +kernel) (pa_cons (pe_lc (own := [(("item" : Str), 4)]) (g := (gName 4)) (tt := tYes) rfl sc_has_order_form.nd (pi_list (pv 1)) (blkOk_by (own := [(("item" : Str), 4)]) (N := ["kind", "value", "size", "name", "item"]) (sc := defScope s_has_order_form) (by decide +kernel)) (fun _ _ _ _ _ => (pg_name (i := 4) sc_has_order_form.nd rfl (Or.inl rfl))) (fun _ _ _ _ _ => pts_nil) (fun _ _ _ _ _ => (pe_callB call_abs (by rfl) T.m_abs (by decide +kernel) (pa_cons (pv 4) pa_nil)))) pa_nil)) (pe_methG0 T.cl c_m_start (hr.mono (by decide)) (pv 0)) (nomark _)))) pss_nil)
      (pss_one (ps_ret (pe_and (pe_cmpR op_eq (pe_callB (cr_sum rfl) (by rfl) T.m_sum (by decide +kernel) (pa_cons (pv 1) pa_nil)) (pe_op op_fdiv (pe_op op_mul (pv 2) (pe_op op_sub (pv 2) pe_int)) pe_int) (nomark _)) (pe_one (pe_cmpR (op_eqD hr.units) (pe_callB cr_sortedI (by rfl) T.m_sorted (by decide +kernel) (pa_cons (pe_lc (own := [(("item" : Str), 4)]) (g := (gName 4)) (tt := tYes) rfl sc_has_order_form.nd (pi_list (pv 1)) (blkOk_by (own := [(("item" : Str), 4)]) (N := ["kind", "value", "size", "name", "item"]) (sc := defScope s_has_order_form) (by decide +kernel)) (fun _ _ _ _ _ => (pg_name (i := 4) sc_has_order_form.nd rfl (Or.inl rfl))) (fun _ _ _ _ _ => pts_nil) (fun _ _ _ _ _ => (pe_op op_mod (pv 4) (pv 2)))) pa_nil)) (pe_methG0 T.cl c_m_start (hr.mono (by decide)) (pv 0)) (nomark _))))))))))), ?_⟩
    refine ⟨_, rfl, p, dx, _, rfl, hp, noM, p, k, n, rfl, hk, ?_⟩
    cases lv with
    | none =>
      obtain ⟨t, ht, hne⟩ := hv
      refine ⟨_, rfl, v, .ty "list", .type t, .type "list", _, rfl, .ty _, ht.1, kit_list ht, _, rfl, iteN (by rw [decide_eq_false hne]; decide) (iteP rfl (q false H ⟨fun z => (by cases z), fun ⟨_, z, _⟩ => (by cases z)⟩ (Same.refl _)))⟩
    | some xs =>
      obtain ⟨o, rfl, hO, hl, hT⟩ := hv
      refine ⟨_, rfl, .ref o, .ty "list", .type "list", .type "list", true, rfl, .ty _, sqL_ty hO, kit_ty (by decide +kernel), true, rfl, ?_⟩
      refine ⟨_, rfl, o, _, rfl, .inl hO, _, rfl, rfl, _, rfl, ?_⟩
      by_cases hln : xs.length = n
      rotate_left
      · refine iteN (fun e => hln (by have := of_decide_eq_true e; injection this with e2; omega)) (iteP rfl (q false H ⟨fun z => (by cases z), fun ⟨ws, z, hF⟩ => ?_⟩ (Same.refl _)))
        injection z with z
        rw [z, List.length_map, hF.1] at hln
        exact absurd rfl hln
      refine iteP (decide_eq_true (by rw [hln])) ?_
      refine ⟨_, rfl, o, xs, rfl, hO, hT, fun H1 s1 => ⟨_, rfl, ?_⟩⟩
      by_cases hw : xs.all isInt = true
      rotate_left
      · refine iteP (by rw [Bool.eq_false_iff.mpr hw]; rfl) (q false H1 ⟨fun z => (by cases z), fun ⟨ws, z, hF⟩ => ?_⟩ s1)
        injection z with z
        rw [z] at hw
        exact absurd (ints_all ws) hw
      refine iteN (by rw [hw]; decide) ?_
      obtain ⟨ws, rfl⟩ := all_ints hw
      rw [List.length_map] at hln
      have q2 : ∀ (b : Bool) H', (b = true ↔ Form k n ws) → Same H H' → Q (.bl b) H' := fun b H' hb => q b H' (hb.trans ⟨fun z => ⟨ws, rfl, z⟩, fun ⟨us, z, hF⟩ => by
        injection z with z
        have : ws = us := ints_inj z
        rw [this]
        exact hF⟩)
      have hp1 := s1 _ _ hp
      have k1 := hk.keep s1
      refine ⟨_, rfl, p, dx, _, rfl, hp1, noM, p, k, n, rfl, k1, ?_⟩
      refine ⟨_, rfl, rfl, _, rfl, ite2 (fun hkk => ?_) (fun hkk => ?_)⟩
      · rw [s_pl] at hkk
        have ek := of_decide_eq_true hkk
        subst ek
        refine ⟨_, rfl, o, ws, rfl, s1.seq hO, fun ys a hy hs na => ?_⟩
        have u1 := Same.upd (o := .lst (ys.map V.int)) na
        refine ⟨_, rfl, p, dx, _, rfl, u1 _ _ hp1, noM, p, .pl, n, rfl, k1.keep u1, by omega, fun b nb => ?_⟩
        have u2 := Same.upd (o := .lst ((startL .pl n).map V.int)) nb
        refine ⟨_, _, dp_list (SqL.of (u2 _ _ upd_same)), dp_list (SqL.of upd_same), shaped_ints _, shaped_ints _, q2 _ _ ?_ ((s1.trans u1).trans u2)⟩
        rw [eqv_l, decide_eq_true_iff]
        exact ⟨fun e => ⟨hln, e ▸ hy.symm⟩, fun hF => sorted_start hy hs hF.2⟩
      · rw [s_pl] at hkk
        have ek : k ≠ .pl := fun e => hkk (decide_eq_true e)
        refine ⟨_, rfl, rfl, _, rfl, ite2 (fun hkk => ?_) (fun hkk => ?_)⟩
        · have em := is_mi hkk
          subst em
          refine ⟨_, rfl, o, rfl, ⟨_, s1.seq hO⟩, fun L nL => ?_⟩
          refine lc_list (K := K) (a := o) (xs := ws.map V.int) (fun i H2 => H2 L = some (.lst (((ws.take i).map absI).map V.int)) ∧ Same H1 H2) ⟨upd_same, Same.upd nL⟩ (fun i H2 _ h2 => (s1.trans h2.2).seq hO) ?_ ?_
          · rintro i x H2 hi ⟨hD, s2⟩
            obtain ⟨hj, rfl⟩ := at_map hi
            refine ⟨rfl, ?_⟩
            have eq : ws[i]? = some (ws.getD i 0) := by rw [List.getD_eq_getElem?_getD, List.getElem?_eq_getElem hj]; rfl
            refine ⟨_, rfl, _, rfl, _, hD, ?_, ?_, Same_updD s2 nL⟩
            · rw [List.length_map, List.length_map, List.length_take]
              exact small1000 (by omega)
            · rw [upd_same, take_succ eq, List.map_append, List.map_append]
              rfl
          · rintro H2 ⟨hD, s2⟩
            rw [List.length_map, List.take_of_length_le (Nat.le_refl _)] at hD
            refine ⟨L, ws.map absI, rfl, SqL.of hD, fun ys a hy hs na => ?_⟩
            have u1 := (s1.trans s2).trans (Same.upd (o := .lst (ys.map V.int)) na)
            refine ⟨_, rfl, p, dx, _, rfl, u1 _ _ hp, noM, p, .mi, n, rfl, hk.keep u1, by omega, fun b nb => ?_⟩
            have u2 := Same.upd (o := .lst ((startL .mi n).map V.int)) nb
            refine ⟨_, _, dp_list (SqL.of (u2 _ _ upd_same)), dp_list (SqL.of upd_same), shaped_ints _, shaped_ints _, q2 _ _ ?_ (u1.trans u2)⟩
            rw [eqv_l, decide_eq_true_iff]
            exact ⟨fun e => ⟨hln, e ▸ hy.symm⟩, fun hF => sorted_start hy hs hF.2⟩
        · have em := not_mi hkk
          have er : k = .ri := by cases k <;> simp_all
          subst er
          refine ⟨_, rfl, o, ws, rfl, s1.seq hO, ?_⟩
          refine ⟨_, rfl, _, rfl, _, _, rfl, rfl, _, _, rfl, rfl, .inl ⟨by omega, by omega⟩, _, _, rfl, rfl, ⟨by decide, by decide⟩, rfl, _, rfl, ite2 (fun hsum => ?_) (fun hsum => ?_)⟩
          · have hsm : ws.sum = (n : Int) * ((n : Int) - 1) / 2 := V.int.inj (of_decide_eq_true hsum)
            refine ⟨_, rfl, o, rfl, ⟨_, s1.seq hO⟩, fun L nL => ?_⟩
            refine lc_list (K := K) (a := o) (xs := ws.map V.int) (fun i H2 => H2 L = some (.lst (((ws.take i).map fun x => x % (n : Int)).map V.int)) ∧ Same H1 H2) ⟨upd_same, Same.upd nL⟩ (fun i H2 _ h2 => (s1.trans h2.2).seq hO) ?_ ?_
            · rintro i x H2 hi ⟨hD, s2⟩
              obtain ⟨hj, rfl⟩ := at_map hi
              refine ⟨rfl, ?_⟩
              have eq : ws[i]? = some (ws.getD i 0) := by rw [List.getD_eq_getElem?_getD, List.getElem?_eq_getElem hj]; rfl
              refine ⟨_, rfl, _, rfl, _, _, rfl, rfl, (by omega), _, hD, ?_, ?_, Same_updD s2 nL⟩
              · rw [List.length_map, List.length_map, List.length_take]
                exact small1000 (by omega)
              · rw [upd_same, take_succ eq, List.map_append, List.map_append]
                rfl
            · rintro H2 ⟨hD, s2⟩
              rw [List.length_map, List.take_of_length_le (Nat.le_refl _)] at hD
              refine ⟨L, ws.map fun x => x % (n : Int), rfl, SqL.of hD, fun ys a hy hs na => ?_⟩
              have u1 := (s1.trans s2).trans (Same.upd (o := .lst (ys.map V.int)) na)
              refine ⟨_, rfl, p, dx, _, rfl, u1 _ _ hp, noM, p, .ri, n, rfl, hk.keep u1, by omega, fun b nb => ?_⟩
              have u2 := Same.upd (o := .lst ((startL .ri n).map V.int)) nb
              refine ⟨_, _, dp_list (SqL.of (u2 _ _ upd_same)), dp_list (SqL.of upd_same), shaped_ints _, shaped_ints _, q2 _ _ ?_ (u1.trans u2)⟩
              rw [eqv_l, decide_eq_true_iff]
              exact ⟨fun e => ⟨hln, hsm, e ▸ hy.symm⟩, fun hF => sorted_start hy hs hF.2.2⟩
          · exact q2 _ _ ⟨fun z => (by cases z), fun hF => absurd (decide_eq_true (congrArg V.int hF.2.1)) hsum⟩ s1
def spToldV (K : PySem.W.Frag) (C : Addr) : Sp := fun vs H Q _ => ∃ (p : Addr) (v : V) (k : Nm) (n : Nat) (lv : Option (List V)), vs = [.ref p, v] ∧ KAt C H p k n ∧ okK k n = true ∧ ValAt K H v lv ∧
  ∀ (b : Bool) H', (b = true ↔ ∃ ws : List Int, lv = some (ws.map V.int) ∧ Form k n ws ∧ (k = .ri → crP k n ws ≤ 60)) → Same H H' → Q (.bl b) H'
theorem ok_is_told_orderV (T : Tk K w mg C D) (F : FnP K "is_told_order" "is_told_order" s_is_told_order f fd) (gM : ∃ t, mg "MOST_CROSSINGS" = some (.int 60 t)) (c_has_order_form : Gd P w K mg base "has_order_form" ["kind", "value"] 3 (spFormV K C))
    (c_count_crossings : Gd P w K mg base "count_crossings" ["kind", "order"] 2 (spCount K C)) (c_m_name : Md P w K mg base C "name" ["self"] 1 (spName C)) : FnOk P w K mg base CX0 4 f fd ["kind", "value"] (spToldV K C) := by
  obtain ⟨tM, gM⟩ := gM
  refine okN F sc_is_told_order (fun vs H Q E h => ?_) (fun cdv A outer s H vs Q E hr h => ?_)
  · obtain ⟨p, v, k, n, lv, rfl, _⟩ := h
    rfl
  · obtain ⟨p, v, k, n, lv, rfl, hk, hok, hv, q⟩ := h
    refine ⟨_, (pss_cons (ps_if (pt_not (pt_val (pe_callG c_has_order_form (hr.mono (by decide)) (by rfl) (pa_cons (pv 0) (pa_cons (pv 1) pa_nil))))) (pss_one (ps_ret pe_bl)) pss_nil)
      (pss_one (ps_ret (pe_or (pe_cmpR op_ne (pe_methG0 T.cl c_m_name (hr.mono (by decide)) (pv 0)) pe_str (nomark _)) (pe_one (pe_cmpR op_le (pe_callG c_count_crossings (hr.mono (by decide)) (by rfl) (pa_cons (pv 0) (pa_cons (pv 1) pa_nil))) (pe_glob (v := .int 60) (by rfl) gM ⟨_, rfl⟩) (nomark _))))))), ?_⟩
    refine ⟨_, rfl, _, rfl, p, v, k, n, lv, rfl, hk, hok, hv, fun b H1 hb s1 => ⟨b, rfl, ?_⟩⟩
    cases b with
    | false =>
      refine iteP rfl (q false H1 ⟨fun z => (by cases z), fun ⟨ws, h1, h2, _⟩ => absurd (hb.mpr ⟨ws, h1, h2⟩) (by decide)⟩ s1)
    | true =>
      refine iteN (by decide) ?_
      obtain ⟨ws, rfl, hF⟩ := hb.mp rfl
      obtain ⟨o, rfl, hO, hl, hT⟩ := hv
      have q2 : ∀ (b : Bool) H', (b = true ↔ (k = .ri → crP k n ws ≤ 60)) → Same H H' → Q (.bl b) H' := fun b H' hb => q b H' (hb.trans ⟨fun z => ⟨ws, rfl, hF, z⟩, fun ⟨us, z, _, hc⟩ => by
        injection z with z
        have : ws = us := ints_inj z
        rw [this]
        exact hc⟩)
      obtain ⟨dx, hp⟩ := hk.keep s1
      refine ⟨_, rfl, p, dx, _, rfl, hp, noM, p, k, n, rfl, ⟨dx, hp⟩, rfl, _, rfl, ite2 (fun hne => ?_) (fun hne => ?_)⟩
      · refine q2 true H1 ⟨fun _ e => ?_, fun _ => rfl⟩ s1
        subst e
        exact absurd hne (by decide)
      · refine ⟨_, rfl, _, rfl, p, o, k, n, ws, rfl, ⟨⟨dx, hp⟩, s1.seq hO, hF.1, hok⟩, fun H2 s2 => ?_⟩
        refine ⟨_, _, rfl, rfl, q2 _ H2 ?_ (s1.trans s2)⟩
        have er : k = .ri := by cases k <;> first | rfl | exact absurd (by decide) hne
        rw [decide_eq_true_iff]
        exact ⟨fun z _ => z, fun z => z er⟩
end
end Sv

/-! xs[:] = ys, another list, by the verifier -/
namespace Sv
open PySem PySem.Spec PyProof.Rows L2
section
variable {prog : Program} {w : World} {A : Around} {E : Value → Shared → Prop} {s : Shared}
theorem bounds_all (n : Nat) : sliceBounds none none none n = (0, (n : Int), 1) := by
  simp [sliceBounds]
theorem whole_eq (its its2 : List Value) : its.toArray.extract 0 0 ++ its2.toArray ++ its.toArray.extract its.toArray.size its.toArray.size = its2.toArray := by
  simp
/-- a slice object is asked for an index: it has none -/
theorem sub_none {sl : Addr} {Q : Option Int → Shared → Prop} (ts : s.TypeIs (.ref sl) "slice") (q : Q none s) : wpAny (model prog w) A (Builtin.List.listSubscript? (.ref sl)) Q E s := by
  unfold Builtin.List.listSubscript?
  exact wpAny_bind (wpAny_specialOf ts slice_no_index (by simpa using wpAny_pure q))
/-- the parts of [:] -/
theorem parts_none {sl : Addr} {os : Obj} {Q : Value × Value × Value → Shared → Prop} (h1 : s.heap.get? sl = some os) (h3 : os.data = .fields #[.none, .none, .none]) (q : Q (.none, .none, .none) s) :
    wpAny (model prog w) A (Builtin.List.listSliceParts (.ref sl)) Q E s := by
  rw [listSliceParts_eq]
  refine wpAny_bind (wpAny_field h1 h3 (x := .none) rfl (wpAny_bind (wpAny_listPart .none ?_)))
  rw [if_neg (show ¬ ((rawPart none == rawInt 0) = true) from Bool.false_ne_true)]
  exact wpAny_bind (wpAny_field h1 h3 (x := .none) rfl (wpAny_bind (wpAny_listPart .none (wpAny_bind (wpAny_field h1 h3 (x := .none) rfl (wpAny_bind (wpAny_listPart .none (wpAny_pure q))))))))
/-- all items of a list -/
theorem items_of {b : Addr} {new : Array Value} {n2 : Nat} {m : String} {Q : Array Value → Shared → Prop} (e2 : s.heap.get? b = some { cls := .type "list", data := .seq new n2 }) (q : Q new s) :
    wpAny (model prog w) A (Builtin.List.listAllItems (.ref b) m) Q E s := by
  have tb := (PySem.IsL.isList e2 : s.heap.IsList b new).typeIs
  unfold Builtin.List.listAllItems Builtin.List.listItems
  refine wpAny_bind (wpAny_typeOf tb ?_)
  first
    | exact PySem.W.KFB.if_so (by decide) (wpAny_seqItems e2 rfl (wpAny_pure q))
    | exact PySem.W.KFB.if_so (by decide) (wpAny_bind (wpAny_seqItems e2 rfl (wpAny_pure q)))
    | (rw [if_pos (by decide)]; exact wpAny_bind (wpAny_seqItems e2 rfl (wpAny_pure q)))
theorem setItem_all {l b sl : Addr} {items new : Array Value} {n n2 : Nat} {Q : Unit → Shared → Prop}
    (e : s.heap.get? l = some { cls := .type "list", data := .seq items n }) (e2 : s.heap.get? b = some { cls := .type "list", data := .seq new n2 }) (hne : l ≠ b)
    (hs : s.heap.IsSliceOf sl .none .none .none) (hsz : items.size + new.size ≤ sizeLine)
    (h : Q () { s with heap := s.heap.update l (Obj.mapSeq fun xs => xs.extract 0 0 ++ new ++ xs.extract items.size xs.size) }) :
    wpAny (model prog w) A (setItem (.ref l) (.ref sl) (.ref b)) Q E s := by
  have tl := (PySem.IsL.isList e : s.heap.IsList l items).typeIs
  obtain ⟨os, h1, h2, h3⟩ := id hs
  have ts : s.TypeIs (.ref sl) "slice" := ⟨os, h1, h2⟩
  have d0 : Builtin.List.listSameRef (.ref l) (.ref b) = false := beq_eq_false_iff_ne.mpr hne
  have room : ((fun xs : Array Value => xs.extract 0 0 ++ new ++ xs.extract items.size xs.size) items).size ≤ sizeLine + 1 := by
    rw [Array.size_append, Array.size_append, Array.size_extract, Array.size_extract]
    omega
  have top : (max (0 : Int) (items.size : Int)).toNat = items.size := by omega
  unfold setItem
  refine wpAny_holding (wpAny_bind (wpAny_sequenceKey tl (by decide) ?_))
  refine wpAny_bind (wpAny_callSpecial?_slot (name := Str.ofString "__setitem__") tl slot_list_setitem (wpAny_call_entry slot_list_setitem tl entry_list_setitem ?_ (args_list_setitem _ _ _)))
  show wpAny _ _ (Builtin.List.listSubscript? (.ref sl) >>= _) _ _ s
  refine wpAny_bind (sub_none ts ?_)
  show wpAny _ _ (typeOf (.ref sl) >>= _) _ _ s
  refine wpAny_bind (wpAny_typeOf ts (PySem.W.KFB.if_not (by decide) (wpAny_bind (parts_none h1 h3 (PySem.W.KFB.if_not d0 ?_)))))
  refine wpAny_bind (items_of e2 ?_)
  refine wpAny_bind (m := Builtin.List.listItems (.ref l)) ?_
  unfold Builtin.List.listItems
  refine wpAny_bind (wpAny_seqItems e rfl (wpAny_pure (wpAny_bind (wpAny_of_eq ((sliceIndices_raw none none none items.size (by simp)).trans (congrArg (pure : Int × Int × Int → Sem (Int × Int × Int)) (bounds_all items.size))) ?_))))
  refine PySem.W.KFB.if_so (by decide) (wpAny_bind (wpAny_rule (PySem.W.KFB.if_not (notLongL hsz) ?_)))
  show wpAny _ _ (updateSeq l (fun xs => xs.extract 0 ((0 : Int)).toNat ++ new ++ xs.extract (max (0 : Int) (items.size : Int)).toNat xs.size) >>= _) _ _ s
  rw [top]
  exact wpAny_bind (wpAny_updateSeq (hz := Nat.le_trans (Nat.le_add_right _ _) hsz) (_hz' := room) e rfl (wpAny_bind (wpAny_letGo (wpAny_bind (wpAny_pure (wpAny_pure ⟨.none, rfl, wpAny_pure h⟩))))))
end
section
variable {X : Cx}
theorem set_all {pins : List (Addr × Obj)} {s : Shared} {σ : L2.St} {H : Hp} {l b sl : Addr} {xs ys : List V} {Q : Unit → Shared → Prop} (I : Inv X pins σ H s)
    (hH : H l = some (.lst xs)) (hB : H b = some (.lst ys)) (hne : l ≠ b) (hs : s.heap.IsSliceOf sl .none .none .none)
    (hz : xs.length + ys.length ≤ sizeLine) (h : ∀ s', Inv X pins σ (L2.upd H l (.lst ys)) s' → Q () s') :
    wpAny (model X.prog X.w) X.A (setItem (.ref l) (.ref sl) (.ref b)) Q X.xe s := by
  obtain ⟨its, n, r, e, z⟩ := I.lst hH
  obtain ⟨its2, n2, r2, e2, z2⟩ := I.lst hB
  have l1 := r.length
  have l2 := r2.length
  refine setItem_all e e2 hne hs (by rw [List.size_toArray, List.size_toArray]; omega) (h _ ?_)
  exact I.lset (its' := its2) (t' := s.toks) hH e (whole_eq its its2) r2 z2
/-- o[:] = .. -/
def gAll (to : TE) : TG := fun v σ H Q => to σ H fun o H1 => ∃ a b xs ys, o = .ref a ∧ v = .ref b ∧ H1 a = some (.lst xs) ∧ H1 b = some (.lst ys) ∧ a ≠ b ∧ xs.length + ys.length ≤ sizeLine ∧ Q σ (L2.upd H1 a (.lst ys))
theorem pg_all {o : Expr} {to : TE} {p2 pos : Pos} (ho : PE X o to)
    (ha : ∀ v, assign (.Subscript o (.Slice none none none p2) pos) X.env v = (do
      let ov ← holding [v] (eval o X.env)
      let iv ← holding [v, ov] (eval (.Slice none none none p2) X.env)
      standAt pos
      holding [v, ov, iv] (setItem ov iv v)
      release [iv, v, ov] []) := by intro _; rfl) : PG X (.Subscript o (.Slice none none none p2) pos) (gAll to) := by
  refine ⟨fun pins s σ H v u Q I r h => ?_⟩
  rw [ha]
  refine wpAny_bind (wpAny_holding (thn (ho.run pins s σ H _ I h) fun ov s1 ⟨x, H1, I1, r1, q1⟩ => ?_))
  obtain ⟨a, b, xs, ys, rfl, rfl, hA, hB, hne, hz, q⟩ := q1
  cases (show ov = Value.ref a from r1)
  cases (show u = Value.ref b from r)
  refine wpAny_bind (wpAny_holding ?_)
  refine wpAny_Slice ?_
  rw [evalPart_none]
  refine wpAny_pure (wpAny_pure (wpAny_pure ?_))
  have I4 : Inv X pins σ H1 { s1 with heap := s1.heap.push { cls := .type "slice", data := .fields #[.none, .none, .none] } } := I1.kept (t' := s1.toks) fun b ob q => Heap.get?_push_of_some _ q
  refine wpAny_bind (wpAny_standAt (wpAny_bind (wpAny_holding ?_)))
  refine set_all I4 hA hB hne (Heap.IsSliceOf.new ..) hz fun s' I5 => ?_
  exact wpAny_release ⟨σ, _, I5, q⟩
end
end Sv

namespace Sv
open PySem PySem.Spec PyProof.Rows L2
section
variable {P : Program} {w : World} {K : PySem.W.Frag} {mg : Str → Option Value} {base : Heap} {f C D : Addr} {fd : FuncData}
/-- a kind told, an order of it -/
structure TO (K : PySem.W.Frag) (H : Hp) (t o : Addr) (k : Nm) (n : Nat) (ws : List Int) : Prop where
  told : Told K H t k n
  ord : SqL K H o (ws.map V.int)
  len : ws.length = n
  ok : okK k n = true
theorem TO.keep {H H' : Hp} {t o : Addr} {k : Nm} {n : Nat} {ws : List Int} (h : TO K H t o k n ws) (e : Same H H') : TO K H' t o k n ws := ⟨Same.tup e h.told, e.seq h.ord, h.len, h.ok⟩
def spLFalls (K : PySem.W.Frag) : Sp := fun vs H Q _ => ∃ (t o : Addr) (k : Nm) (n : Nat) (ws : List Int), vs = [.ref t, .ref o] ∧ TO K H t o k n ws ∧ ∀ q H', Same H H' → H q = none → H' q = some (.lst ((fallsP k n ws).map V.int)) → Q (.ref q) H'
theorem ok_lfalls (T : Tx K mg) (F : FnP K "_law_falls" "_law_falls" s__law_falls f fd) (c_law_many : Gd P w K mg base "_law_many" ["_law_told"] 1 (spMany K)) (c_law_is_crossed : Gd P w K mg base "_law_is_crossed" ["_law_told", "_law_order", "_law_step"] 2 (spCrossed K)) : FnOk P w K mg base CX0 3 f fd ["_law_told", "_law_order"] (spLFalls K) := by
  refine okN F sc__law_falls (fun vs H Q E h => ?_) (fun cdv A outer s H vs Q E hr h => ?_)
  · obtain ⟨t, o, k, n, ws, rfl, _⟩ := h
    rfl
  · obtain ⟨t, o, k, n, ws, rfl, hh, q⟩ := h
    have hm := many_nn hh.ok
    refine ⟨_, (pss_one (ps_ret (pe_lc (own := [(("_law_step" : Str), 2)]) (g := (gName 2)) rfl sc__law_falls.nd (pi_range1 (by rfl) T.m_range (pa_cons (pe_callG c_law_many (hr.mono (by decide)) (by rfl) (pa_cons (pv 0) pa_nil)) pa_nil)) (blkOk_by (own := [(("_law_step" : Str), 2)]) (N := ["_law_told", "_law_order", "_law_step"]) (sc := defScope s__law_falls) (by decide +kernel)) (fun _ _ _ _ _ => (pg_name (i := 2) sc__law_falls.nd rfl (Or.inl rfl))) (fun _ _ _ _ _ => pts_one (pt_val (pe_callG c_law_is_crossed (hr.mono (by decide)) (by rfl) (pa_cons (pv 0) (pa_cons (pv 1) (pa_cons (pv 2) pa_nil)))))) (fun _ _ _ _ _ => (pv 2))))), ?_⟩
    refine ⟨_, rfl, t, k, n, rfl, hh.told, (many k n).toNat, by rw [Int.toNat_of_nonneg hm.1], by omega, by omega, fun D nD => ?_⟩
    refine lc_range (lo := 0) (n := (many k n).toNat) (fun i H2 => H2 D = some (.lst ((((List.range i).filter (crossP k n ws)).map fun (s : Nat) => (s : Int)).map V.int)) ∧ Same H H2) ⟨upd_same, Same.upd nD⟩ ?_ ?_
    · rintro i H2 hi ⟨hD, s2⟩
      rw [Int.zero_add]
      have hs : okS k n (i : Int) := ⟨by omega, by omega⟩
      have h2 := hh.keep s2
      refine ⟨rfl, ?_⟩
      refine ⟨_, rfl, _, rfl, _, rfl, t, o, _, k, n, ws, rfl, h2.told, h2.ord, hh.len, hh.ok, hs, fun H3 s3 => ⟨_, rfl, ?_⟩⟩
      rw [← cross_eq hh.ok hs hh.len]
      rw [List.range_succ, List.filter_append]
      by_cases hc : crossP k n ws i = true
      · refine iteP hc ?_
        refine ⟨_, rfl, _, s3 _ _ hD, ?_, ?_, Same_updD (s2.trans s3) nD⟩
        · rw [List.length_map, List.length_map]
          exact small1000 (by have := List.length_filter_le (crossP k n ws) (List.range i); rw [List.length_range] at this; omega)
        · rw [push_int, List.map_append]
          simp [hc]
      · refine iteN hc ?_
        refine ⟨?_, s2.trans s3⟩
        rw [s3 _ _ hD]
        simp [hc]
    · rintro H2 ⟨hD, s2⟩
      exact q D H2 s2 nD hD
def spLProd (K : PySem.W.Frag) : Sp := fun vs H Q _ => ∃ (t o u : Addr) (k : Nm) (n : Nat) (ws us : List Int), vs = [.ref t, .ref o, .ref u] ∧ TO K H t o k n ws ∧ SqL K H u (us.map V.int) ∧ us.length ≤ 100 ∧ (∀ x ∈ us, okP k n x) ∧
  ∀ q H', Same H H' → H q = none → H' q = some (.lst ((us.map (item k n ws)).map V.int)) → Q (.ref q) H'
def spMade (K : PySem.W.Frag) : Sp := fun vs H Q _ => ∃ (t r : Addr) (k : Nm) (n : Nat) (l : List Int), vs = [.ref t, .ref r] ∧ Told K H t k n ∧ SqL K H r (l.map V.int) ∧ okK k n = true ∧ (∀ s ∈ l, okS k n s) ∧
  ∀ q H', Same H H' → H q = none → H' q = some (.lst ((run k n (startL k n) l).map V.int)) → Q (.ref q) H'
theorem run_take {k : Nm} {n : Nat} {w l : List Int} {i : Nat} (h : i < l.length) : run k n w (l.take (i + 1)) = stepped k n (run k n w (l.take i)) (l.getD i 0) := by
  have e : l[i]? = some (l.getD i 0) := by rw [List.getD_eq_getElem?_getD, List.getElem?_eq_getElem h]; rfl
  rw [take_succ e, run_snoc]
theorem ok_made (T : Tx K mg) (F : FnP K "_law_made" "_law_made" s__law_made f fd) (c_law_start : Gd P w K mg base "_law_start" ["_law_told"] 1 (spStart K)) (c_law_stepped : Gd P w K mg base "_law_stepped" ["_law_told", "_law_order", "_law_step"] 2 (spStepped K)) : FnOk P w K mg base CX0 3 f fd ["_law_told", "_law_row_here"] (spMade K) := by
  refine okN F sc__law_made (fun vs H Q E h => ?_) (fun cdv A outer s H vs Q E hr h => ?_)
  · obtain ⟨t, r, k, n, l, rfl, _⟩ := h
    rfl
  · obtain ⟨t, r, k, n, l, rfl, hT, hR, hK, hl, q⟩ := h
    have hn := okK_le hK
    refine ⟨_, (pss_cons (ps_set (i := 2) sc__law_made.nd rfl (by first | exact Or.inl rfl | exact Or.inr rfl) (pe_callG c_law_start (hr.mono (by decide)) (by rfl) (pa_cons (pv 0) pa_nil)))
      (pss_cons (ps_for PassesOwn.never rfl (pi_list (pv 1)) (pg_name (i := 3) sc__law_made.nd rfl (Or.inl rfl)) (pss_one (ps_set (i := 2) sc__law_made.nd rfl (by first | exact Or.inl rfl | exact Or.inr rfl) (pe_callG c_law_stepped (hr.mono (by decide)) (by rfl) (pa_cons (pv 0) (pa_cons (pv 2) (pa_cons (pv 3) pa_nil)))))))
      (pss_one (ps_ret (pv 2))))), ?_⟩
    refine ⟨_, rfl, t, k, n, rfl, hT, by omega, fun l0 n0 => ?_⟩
    have u0 := Same.upd (o := .lst ((startL k n).map V.int)) n0
    refine ⟨_, rfl, r, rfl, ⟨_, u0.seq hR⟩, ?_⟩
    refine for_list (K := K) (a := r) (xs := l.map V.int) (fun i σ H2 => ∃ (fo : Addr) (v : Option V), σ = [some (.ref t), some (.ref r), some (.ref fo), v] ∧ H fo = none ∧ H2 fo = some (.lst ((run k n (startL k n) (l.take i)).map V.int)) ∧ Same H H2)
      ⟨l0, none, rfl, n0, upd_same, u0⟩ (fun i σ H2 _ h2 => by obtain ⟨_, _, _, _, _, s2⟩ := h2; exact s2.seq hR) ?_ ?_
    · rintro i x σ H2 hi ⟨fo, v, rfl, nf, hF, s2⟩
      obtain ⟨hj, rfl⟩ := at_map hi
      have hlen : (run k n (startL k n) (l.take i)).length = n := run_len (startL_len _ _)
      refine ⟨_, rfl, _, rfl, _, rfl, t, fo, _, k, n, _, rfl, Same.tup s2 hT, SqL.of hF, hlen, hK, hl _ (mem_getD hj), fun q2 H3 s3 nq hq3 => ?_⟩
      refine ⟨q2, _, rfl, s2.free nq, ?_, s2.trans s3⟩
      rw [run_take hj]
      exact hq3
    · rintro σ H2 ⟨fo, v, rfl, nf, hF, s2⟩
      rw [List.length_map, List.take_of_length_le (Nat.le_refl _)] at hF
      exact ⟨_, rfl, q fo H2 s2 nf hF⟩
def spLeast (K : PySem.W.Frag) : Sp := fun vs H Q _ => ∃ (t o : Addr) (k : Nm) (n : Nat) (ws : List Int), vs = [.ref t, .ref o] ∧ TO K H t o k n ws ∧ Form k n ws ∧ crP k n ws ≤ 500 ∧
  ∀ (q : Addr) (l : List Int) (H' : Hp), (∀ s ∈ l, okS k n s) → ws = run k n (startL k n) l → (l.length : Int) = crP k n ws → Same H H' → H q = none → H' q = some (.lst (l.map V.int)) → Q (.ref q) H'
theorem last_get {xs : List Int} (h : 0 < xs.length) : atI (xs.map V.int) ((xs.map V.int).length - 1 : Int) = some (.int (xs.getD (xs.length - 1) 0)) := by
  rw [List.length_map]
  exact at_of (j := xs.length - 1) (by omega) (map_getD (by omega))
theorem ok_least (T : Tx K mg) (F : FnP K "_law_least" "_law_least" s__law_least f fd) (c_law_falls : Gd P w K mg base "_law_falls" ["_law_told", "_law_order"] 3 (spLFalls K)) (c_law_stepped : Gd P w K mg base "_law_stepped" ["_law_told", "_law_order", "_law_step"] 2 (spStepped K)) : FnOk P w K mg base CX0 4 f fd ["_law_told", "_law_order"] (spLeast K) := by
  refine okN F sc__law_least (fun vs H Q E h => ?_) (fun cdv A outer s H vs Q E hr h => ?_)
  · obtain ⟨t, o, k, n, ws, rfl, _⟩ := h
    rfl
  · obtain ⟨t, o, k, n, ws, rfl, hh, hF, h5, q⟩ := h
    have hn := okK_le hh.ok
    refine ⟨_, (pss_cons (ps_par (i := 2) (j := 3) (by rfl) sc__law_least.nd rfl rfl (by decide) rfl rfl (pa_cons (pe_lst pa_nil) (pa_cons (pe_callTy call_list_of (by rfl) T.m_list (by decide +kernel) (pa_cons (pv 1) pa_nil)) pa_nil)) (by rfl))
      (pss_cons (ps_set (i := 4) sc__law_least.nd rfl (by first | exact Or.inl rfl | exact Or.inr rfl) (pe_callG c_law_falls (hr.mono (by decide)) (by rfl) (pa_cons (pv 0) (pa_cons (pv 3) pa_nil))))
      (pss_cons (ps_while PassesOwn.never (pt_cmpR (op_neD hr.units) (pv 4) (pe_lst pa_nil) (nomark _)) (pss_cons (ps_expr (pe_bm PySem.F.plainAttrs_list PySem.F.slot_list_append PySem.F.type_list_append mt_append (pv 2) (pa_cons (pe_ix ix_list (pv 4) (pe_op op_sub (pe_callB call_len_seq (by rfl) T.m_len (by decide +kernel) (pa_cons (pv 4) pa_nil)) pe_int) (fun _ _ => rfl)) pa_nil)))
      (pss_cons (ps_set (i := 3) sc__law_least.nd rfl (by first | exact Or.inl rfl | exact Or.inr rfl) (pe_callG c_law_stepped (hr.mono (by decide)) (by rfl) (pa_cons (pv 0) (pa_cons (pv 3) (pa_cons (pe_ix ix_list (pv 4) (pe_op op_sub (pe_callB call_len_seq (by rfl) T.m_len (by decide +kernel) (pa_cons (pv 4) pa_nil)) pe_int) (fun _ _ => rfl)) pa_nil)))))
      (pss_one (ps_set (i := 4) sc__law_least.nd rfl (by first | exact Or.inl rfl | exact Or.inr rfl) (pe_callG c_law_falls (hr.mono (by decide)) (by rfl) (pa_cons (pv 0) (pa_cons (pv 3) pa_nil))))))))
      (pss_one (ps_ret (pe_revL (pv 2))))))), ?_⟩
    refine ⟨Nat.zero_le _, fun lf nf => ?_⟩
    have u1 := Same.upd (o := .lst []) nf
    refine ⟨_, rfl, o, _, rfl, .inl (u1.seq hh.ord), fun ll nl => ?_⟩
    have u2 := u1.trans (Same.upd (o := .lst (ws.map V.int)) nl)
    have hlf : (L2.upd (L2.upd H lf (.lst [])) ll (.lst (ws.map V.int))) lf = some (.lst []) := by
      rw [upd_ne (ne_of_none upd_same nl), upd_same]
    refine ⟨_, _, rfl, ?_⟩
    refine ⟨_, rfl, _, rfl, t, ll, k, n, ws, rfl, ⟨Same.tup u2 hh.told, SqL.of upd_same, hh.len, hh.ok⟩, fun ls H3 s3 ns hs3 => ?_⟩
    have f3 := s3 _ _ hlf
    refine ⟨fun m σ H4 => ∃ (ll ls : Addr) (fs u : List Int), σ = [some (.ref t), some (.ref o), some (.ref lf), some (.ref ll), some (.ref ls)] ∧ m = (crP k n u).toNat ∧ Same H H4 ∧ H4 lf = some (.lst (fs.map V.int)) ∧ SqL K H4 ll (u.map V.int) ∧ ll ≠ lf ∧ H4 ls = some (.lst ((fallsP k n u).map V.int)) ∧ ls ≠ lf ∧
        (∀ s ∈ fs, okS k n s) ∧ run k n ws fs = u ∧ Form k n u ∧ crP k n u + (fs.length : Int) = crP k n ws,
      ⟨_, ll, ls, [], ws, rfl, rfl, u2.trans s3, f3, SqL.of (s3 _ _ upd_same), (ne_of_none upd_same nl).symm, hs3, (ne_of_none hlf ns).symm, (fun s h => by cases h), rfl, hF, by show crP k n ws + 0 = _; omega⟩, ?_⟩
    rintro m σ H4 ⟨ll, ls, fs, u, rfl, rfl, s4, hlf4, hll, ell, hls, els, hfs, hrun, hFu, hcr⟩
    have cu := cr_nn k n u
    refine ⟨_, rfl, Nat.zero_le _, fun e ne => ?_⟩
    have ue := Same.upd (o := .lst []) ne
    refine ⟨_, _, dp_list (SqL.of (ue _ _ hls)), Dp.lst (xs := []) (ds := []) (SqL.of upd_same) .nil, shaped_ints _, rfl, _, rfl, ?_⟩
    have ee : PyData.eqv (.list ((fallsP k n u).map PyData.int)) (.list []) = decide (fallsP k n u = []) := eqv_l (fallsP k n u) []
    rw [ee]
    refine ite2 (fun hc => ?_) (fun hc => ?_)
    · -- one fall more
      have hne : fallsP k n u ≠ [] := fun z => by rw [z] at hc; exact absurd hc (by decide)
      have hpos : 0 < (fallsP k n u).length := List.length_pos_iff.mpr hne
      obtain ⟨hsS, hsC⟩ := (mem_fallsP hh.ok hFu.1).mp (mem_getD (w := fallsP k n u) (i := (fallsP k n u).length - 1) (by omega))
      generalize hz : (fallsP k n u).getD ((fallsP k n u).length - 1) 0 = z at hsS hsC
      have hst := cr_stepI hh.ok hsS hFu
      rw [if_pos hsC] at hst
      have cs := cr_nn k n (stepped k n u z)
      refine ⟨fun σ' H' => ∃ m', m' < (crP k n u).toNat ∧ _, fun σ' H' h => h, ?_⟩
      have hlse := SqL.of (K := K) (ue _ _ hls)
      refine ⟨_, rfl, .inl ⟨rfl, _, SqL.of (ue _ _ hlf4)⟩, ?_⟩
      refine ⟨_, rfl, _, rfl, ls, _, rfl, .inl hlse, _, _, rfl, rfl, ls, _, _, _, rfl, rfl, hlse, last_get hpos, lf, _, _, rfl, rfl, ue _ _ hlf4, ?_, ?_⟩
      · rw [List.length_map]
        exact small1000 (by omega)
      rw [hz]
      have xf : SameX lf (L2.upd H4 e (.lst [])) (L2.upd (L2.upd H4 e (.lst [])) lf (.lst (fs.map V.int ++ [.int z]))) := SameX.upd
      have s5 : Same H (L2.upd (L2.upd H4 e (.lst [])) lf (.lst (fs.map V.int ++ [.int z]))) := Same_updD (s4.trans ue) nf
      have hls5 := xf _ _ (ue _ _ hls) els
      have hls5s := SqL.of (K := K) hls5
      have hll5 := xf.seq ell (ue.seq hll)
      have hlf5 : (L2.upd (L2.upd H4 e (.lst [])) lf (.lst (fs.map V.int ++ [.int z]))) lf = some (.lst ((fs ++ [z]).map V.int)) := push_int _ _ _ _
      refine ⟨_, rfl, _, rfl, _, rfl, _, rfl, ls, _, rfl, .inl hls5s, _, _, rfl, rfl, ls, _, _, _, rfl, rfl, hls5s, last_get hpos, t, ll, _, k, n, u, rfl, Same.tup s5 hh.told, hll5, hFu.1, hh.ok, (by rw [hz]; exact hsS), fun l6 H6 s6 n6 h6 => ?_⟩
      rw [hz] at h6
      refine ⟨_, rfl, _, rfl, t, l6, k, n, _, rfl, ⟨Same.tup (s5.trans s6) hh.told, SqL.of h6, stepped_len _ _ _ _, hh.ok⟩, fun l7 H7 s7 n7 h7 => ?_⟩
      have hlf6 := s6 _ _ hlf5
      refine ⟨_, ?_, l6, l7, fs ++ [z], stepped k n u z, rfl, rfl, (s5.trans s6).trans s7, s7 _ _ hlf6, SqL.of (s7 _ _ h6), (ne_of_none hlf5 n6).symm, h7, (ne_of_none hlf6 n7).symm, ?_, ?_, hst.2, ?_⟩
      · omega
      · intro s hs
        rcases List.mem_append.mp hs with h | h
        · exact hfs s h
        · rw [List.mem_singleton.mp h]
          exact hsS
      · rw [run_snoc, hrun]
      · rw [List.length_append, List.length_singleton]
        omega
    · -- none more
      have hnil : fallsP k n u = [] := by
        cases z : fallsP k n u with
        | nil => rfl
        | cons a r => rw [z] at hc; exact absurd rfl hc
      have hu := falls_nil hh.ok hFu hnil
      refine ⟨_, rfl, lf, _, rfl, SqL.of (ue _ _ hlf4), fun p np => ?_⟩
      have s6 := (s4.trans ue).trans (Same.upd (o := .lst (fs.map V.int).reverse) np)
      refine q p fs.reverse _ (rev_ok hfs) ?_ ?_ s6 ((s4.trans ue).free np) ?_
      · have := run_rev hh.ok (l := fs) (w := ws) hfs hh.len
        rw [hrun, hu] at this
        exact this.symm
      · rw [List.length_reverse]
        rw [hu, cr_start hh.ok] at hcr
        omega
      · rw [upd_same, List.map_reverse]
def spLOpp (K : PySem.W.Frag) : Sp := fun vs H Q _ => ∃ (t o : Addr) (k : Nm) (n : Nat) (ws : List Int), vs = [.ref t, .ref o] ∧ TO K H t o k n ws ∧ Form k n ws ∧ crP k n ws ≤ 500 ∧ ∀ q H', Same H H' → H q = none → H' q = some (.lst ((invP k n ws).map V.int)) → Q (.ref q) H'
def spLCr (K : PySem.W.Frag) : Sp := fun vs H Q _ => ∃ (t o : Addr) (k : Nm) (n : Nat) (ws : List Int), vs = [.ref t, .ref o] ∧ TO K H t o k n ws ∧ Form k n ws ∧ crP k n ws ≤ 500 ∧ ∀ H', Same H H' → Q (.int (crP k n ws)) H'
theorem ok_lcr (T : Tx K mg) (F : FnP K "_law_crossings" "_law_crossings" s__law_crossings f fd) (c_law_least : Gd P w K mg base "_law_least" ["_law_told", "_law_order"] 4 (spLeast K)) : FnOk P w K mg base CX0 5 f fd ["_law_told", "_law_order"] (spLCr K) := by
  refine okN F sc__law_crossings (fun vs H Q E h => ?_) (fun cdv A outer s H vs Q E hr h => ?_)
  · obtain ⟨t, o, k, n, ws, rfl, _⟩ := h
    rfl
  · obtain ⟨t, o, k, n, ws, rfl, hh, hF, h5, q⟩ := h
    refine ⟨_, (pss_one (ps_ret (pe_callB call_len_seq (by rfl) T.m_len (by decide +kernel) (pa_cons (pe_callG c_law_least (hr.mono (by decide)) (by rfl) (pa_cons (pv 0) (pa_cons (pv 1) pa_nil))) pa_nil)))), ?_⟩
    refine ⟨_, rfl, _, rfl, t, o, k, n, ws, rfl, hh, hF, h5, fun a l H2 hl e c s2 na ha => ?_⟩
    refine ⟨a, _, rfl, .inl (SqL.of ha), qI (q H2 s2) ?_⟩
    rw [List.length_map]
    exact c
end
end Sv

/-! repr of lists: defs that are called while no repr is under way, by the verifier. -/
namespace Sv
open PySem PySem.Spec PyProof.Rows L2
/-- a def's promise, for calls while no repr is under way -/
structure FnG (P : Program) (w : World) (K : PySem.W.Frag) (mg : Str → Option Value) (base : Heap) (k : Nat) (f : Addr) (fd : FuncData) (ps : List Str) (sp : Sp) : Prop where
  len : ∀ vs H Q E, sp vs H Q E → vs.length = ps.length
  go : ∀ (A : Around) (outer : List Env) (s : Shared) (H : Hp) (args : Args) (us : List Value) (vs : List V) (Q : VK) (E : XK), A.guards = some [] → Room k A → Env0 P w K mg base A outer s H → BindsTo s fd args (ps.zip us) → Vals vs us → sp vs H Q E → codeAny (model P w) A (.call (.ref f) args) (CR CX0 outer P w H s Q E) s
section
variable {P : Program} {w : World} {K : PySem.W.Frag} {mg : Str → Option Value} {base : Heap} {x qual : Str} {params : Arguments} {body : List Stmt} {scope : Scope} {dvs : List V} {kws : List (Str × V)} {f : Addr} {fd : FuncData} {N ps : List Str} {k : Nat} {sp : Sp}
theorem okG (F : FunD K x qual params body scope dvs kws f fd) (S : FnScope N ps scope) (len : ∀ vs H Q E, sp vs H Q E → vs.length = ps.length)
    (hb : ∀ (cdv : Value) (A : Around) (outer : List Env) (s : Shared) (H : Hp) (vs : List V) (Q : VK) (E : XK), (A.deeper (envOfC qual scope s.heap.objs.size f cdv)).guards = some [] → Room k (A.deeper (envOfC qual scope s.heap.objs.size f cdv)) → sp vs H Q E →
      ∃ t, PSs (cxOf CX0 P w K mg base N qual scope f cdv A outer s H E).nox body t ∧ t { nx := fun _ H' => Q .non H', rt := Q } (start N vs) H) : FnG P w K mg base (k + 1) f fd ps sp := by
  obtain ⟨oc, od, dV, kV, doc, pm, an, cdv, ct, osl, rfl, lk, hcd, _, _⟩ := F.ex
  refine ⟨len, fun A outer s H args us vs Q E hg hr e0 hbind rv hsp => ?_⟩
  have up : ∀ b o, base.get? b = some o → s.heap.get? b = some o := fun b o e => (e0.bs b o e).1
  have kin := e0.mod.kin.keeps up
  obtain ⟨t, pt, tt⟩ := hb cdv A outer s H vs Q E hg (hr.deeper _) hsp
  have par : ∀ y ∈ ps.zip us, scope.names.lookup y.1 = some .local ∨ (scope.names.lookup y.1 = some .cell ∧ ((cellsFrom (s.heap.objs.size + 1) scope.names []).lookup y.1).isSome = true) := fun y hy =>
    (S.par y.1 (List.of_mem_zip (show (y.1, y.2) ∈ _ from hy)).1).elim .inl fun q => .inr ⟨q, PySem.W.cellsFrom_some _ _ _ (.inl q)⟩
  refine codeAny_call_function hr.depth (kin _ _ lk) rfl S.co S.gen rfl (PySem.W.codeRec_of kin hcd) (hbind _ _ _ _ (wpAny_newFunctionEnv_cells S.kind par fun env he s1 hx => ?_))
  subst he
  refine ⟨(e0.mod.nolimit.keeps up).keeps hx.toInCall.keep, codeAny_func (wpAny_mono (pt.nox.run [] s1 (start N vs) H _ (L2.inv_start S hr.hd e0 (len _ _ _ _ hsp) rv hx) tt) ?_ fun _ _ z => z)⟩
  intro fl s' hs
  match fl, hs with
  | .ret _, ⟨v, _, H', J, rq, q⟩ => exact ⟨v, H', J.os, J.bare, J.base, J.hok, rq, q⟩
  | .next, ⟨_, H', J, q⟩ => exact ⟨.non, H', J.os, J.bare, J.base, J.hok, rfl, q⟩
  | .brk, ⟨_, _, _, q⟩ => exact q.elim
  | .cont, ⟨_, _, _, q⟩ => exact q.elim
end
/-- the module's name x is a def with such a promise -/
structure GdG (P : Program) (w : World) (K : PySem.W.Frag) (mg : Str → Option Value) (base : Heap) (x : Str) (ps : List Str) (k : Nat) (sp : Sp) : Prop where
  ex : ∃ (f : Addr) (fd : FuncData), FnG P w K mg base k f fd ps sp ∧ mg x = some (.ref f) ∧ PySem.W.keepIn K (.ref f) = true ∧ Binds K fd ps []
section
variable {X : Cx} {k : Nat} {ps : List Str} {sp : Sp} {x : Str} {p pos : Pos} {e : Expr} {es : List Expr} {t : TA}
theorem pe_callGG (G : GdG X.prog X.w X.K X.mg X.base x ps k sp) (gs : X.A.guards = some []) (hr : Room k X.A) (hg : Gl X x)
    (ha : PA X (e :: es) t) (hdb : (x == ("__debug__" : Str)) = false := by decide) (he : starEach (e :: es) X.env = (false, eval e X.env) :: starEach es X.env := by rfl) (hpl : (backTo pos (starEach es X.env)).any (·.1) = false := by rfl) :
    PE X (.Call (.Name x p) (e :: es) [] pos) (tCall sp [] E0 t) := by
  obtain ⟨f, fd, F, gm, kp, b⟩ := G.ex
  refine ⟨fun pins s σ H Q I h => wpAny_Call_Name_kw (ld_glob I hg gm (PySem.W.callWith_K (h₀ := X.base) I.ok.mod.kin kp (thn (ha.run pos pins s σ H _ I h) fun us s1 hq => ?_) he hpl) hdb)⟩
  obtain ⟨vs, H1, I1, r, q⟩ := hq
  have q2 : sp (vs ++ []) H1 Q E0 := q
  rw [List.append_nil] at q2
  have hl : (us ++ []).length = ps.length := by
    rw [List.append_nil, ← r.length]
    exact F.len _ _ _ _ q2
  refine ⟨I1.kIn, wpAny_call (codeAny_mono (F.go X.A X.stack s1 H1 ⟨us, []⟩ (us ++ []) vs Q E0 gs hr I1.env0 (b s1 us I1.kIn hl) (by rw [List.append_nil]; exact r) q2) fun res s' hq => ?_)⟩
  match res, hq with
  | .error z, hq => exact pass0 pins σ H1 s1 z s' I1 hq
  | .ok (.ret _), hq => exact I1.after hq
  | .ok .next, hq => exact hq.elim
  | .ok .brk, hq => exact hq.elim
  | .ok .cont, hq => exact hq.elim
/-- repr of a list that is known as a whole -/
theorem call_reprL (gs : X.A.guards = some []) (hr : Room k X.A) : CallR X (.builtin "repr") (fun xs H Q => ∃ a d, xs = [.ref a] ∧ Dp X.K H (.ref a) d ∧ d.showable = true ∧ d.hasDict = false ∧ d.depth ≤ 100 ∧ d.shown.length ≤ sizeLine ∧ Q (.str d.shown) H) := by
  intro pins s σ H xs us Q I r h
  obtain ⟨a, d, rfl, hd, hs, hn, hdp, hl, q⟩ := h
  obtain ⟨u, rfl, hu⟩ := vals1 r
  obtain rfl : u = Value.ref a := hu
  obtain ⟨as, hR⟩ := Dp.reads I d _ _ hd rfl
  refine PySem.repr_of_reads' hR hs (fun z => by rw [hn] at z; cases z) gs (by have := hr.un; omega) (fun b o e => e) (fun h' v tk keep => ⟨.str d.shown, H, I.kept (t' := tk) keep, ⟨v, rfl⟩, q⟩) hl
end
/-- the script's list, as the law's def finds it -/
theorem script_heap {P : Program} {w : World} {K : PySem.W.Frag} {s : Shared} {a : Addr} {vs : List Value} {ns : List Int} (KX : K.In s.heap) (ha : s.heap.get? a = some { cls := .type "list", data := .seq vs.toArray }) (hi : IntsAre vs ns) (hl : ns.length ≤ sizeLine) :
    ∃ H : Hp, (∀ b u, H b = some u → b = a ∧ u = .frz { cls := .type "list", data := .seq vs.toArray } (.lst (ns.map V.int)) ∧ K.lookup a = none) ∧ SqL K H a (ns.map V.int) ∧ HOk P w H s.heap := by
  have rv := vals_ints hi
  by_cases hk : K.lookup a = none
  · refine ⟨fun b => if b = a then some (.frz { cls := .type "list", data := .seq vs.toArray } (.lst (ns.map V.int))) else none, fun b u z => ?_, .inl (.inr ⟨_, if_pos rfl⟩), fun b u z => ?_⟩
    all_goals
      by_cases hb : b = a
      · have e := (if_pos hb).symm.trans z
        cases e
        subst hb
        first
          | exact ⟨rfl, rfl, hk⟩
          | exact ⟨ha, by rw [List.length_map]; exact hl, vs, _, rv, ha⟩
      · have e := (if_neg hb).symm.trans z
        cases e
  · obtain ⟨o, ho⟩ := Option.ne_none_iff_exists'.mp hk
    have e := KX a o ho
    rw [ha] at e
    cases e
    refine ⟨fun _ => none, fun b u z => (by cases (show (none : Option HO) = some u from z)), .inr ⟨_, vs.toArray, _, ho, rfl, rfl, rfl, by rw [List.size_toArray, hi.length]; exact hl, by simpa using rv⟩, fun b u z => (by cases (show (none : Option HO) = some u from z))⟩
theorem lawG {P : Program} {w : World} {K : PySem.W.Frag} {mg mb : Str → Option Value} {k : Nat} {fa a : Addr} {fd : FuncData} {x : Str} {sp : Sp} {s : Shared} {vs : List Value} {ns : List Int}
    (KX : K.In s.heap) (hns : s.heap.Ns mainGlobals mg) (hb : s.heap.Ns builtinsNs mb) (hbb : ∀ x : Str, x ≠ "__name__" → mb x = bootBuiltins x) (hlim : s.heap.NoLimit) (hgn : s.gens = #[]) (ha : s.heap.get? a = some { cls := .type "list", data := .seq vs.toArray })
    (hi : IntsAre vs ns) (hl : ns.length ≤ sizeLine) (hr : Room k callerA) (F : ∀ base : Heap, K.In base → base.Ns mainGlobals mg → FnG P w K mg base k fa fd [x] sp) (hbind : ∀ (s : Shared) (u : Value), BindsTo s fd ⟨[u], []⟩ [(x, u)])
    (hsp : ∀ H : Hp, SqL K H a (ns.map V.int) → sp [.ref a] H (fun v _ => v = .bl true) fun _ _ _ => False) :
    codeAny (model P w) callerA (.call (.ref fa) ⟨[.ref a], []⟩) (fun r s' => r = .ok (.ret (.bool true)) ∧ OldK s.heap s'.heap ∧ s'.os = s.os ∧ AllBare s'.gens) s := by
  obtain ⟨H, hH, hS, hok⟩ := script_heap (P := P) (w := w) KX ha hi hl
  have hid : ∀ {b : Addr} {o : Obj}, s.heap.get? b = some o → b ≠ a → (hidT s.heap H).get? b = some o := fun {b o} e n => hidT_get e (by
    cases q : H b with
    | none => rfl
    | some u => exact absurd (hH b u q).1 n)
  have nsH : ∀ {b : Addr} {m : Str → Option Value}, s.heap.Ns b m → (hidT s.heap H).Ns b m := fun {b m} ⟨o, es, ep, e, d, r⟩ => ⟨o, es, ep, hid e (fun z => by
    subst z
    rw [ha] at e
    cases e
    cases (show Data.seq vs.toArray _ = Data.dict es ep from d)), d, r⟩
  have kinH : K.In (hidT s.heap H) := fun b o e => by
    by_cases z : b = a
    · subst z
      exact hidT_get (KX b o e) (by
        cases q : H b with
        | none => rfl
        | some u => rw [(hH b u q).2.2] at e; cases e)
    · exact hid (KX b o e) z
  have md : Mod K mg (hidT s.heap H) := ⟨kinH, nsH hns, ⟨mb, nsH hb, hbb⟩, hlim.imp fun mc h => ⟨nsH h.1, h.2⟩⟩
  have env : Env0 P w K mg (hidT s.heap H) callerA [] s H := { frames := rfl, mod := md, bs := fun b o e => of_hidT e, bsz := Nat.le_of_eq (hidT_size _ _), funs := trivial, frf := fun b z => (by cases (show b ∈ ([] : List Addr) from z)), hok := hok, bare := .of_eq hgn }
  refine codeAny_mono ((F _ kinH (nsH hns)).go callerA [] s H ⟨[.ref a], []⟩ [.ref a] [.ref a] _ _ rfl hr env (hbind s (.ref a)) (.cons rfl .nil) (hsp H hS)) fun r s' h => ?_
  match r, h with
  | .error _, h => exact h.elim
  | .ok .next, h => exact h.elim
  | .ok .brk, h => exact h.elim
  | .ok .cont, h => exact h.elim
  | .ok (.ret u), ⟨v, H', os, bare, un, hok', rv, q⟩ =>
    have qv : v = .bl true := q
    subst qv
    obtain rfl : u = Value.bool true := rv
    refine ⟨rfl, OldK.of_keep fun b o e => ?_, os, bare⟩
    cases q2 : H b with
    | none => exact un.keep b o e q2 (fun z => by cases (show b ∈ ([] : List Addr) from z)) (by simp)
    | some u =>
      obtain ⟨rfl, rfl, _⟩ := hH b u q2
      have z1 := (hok b _ q2).1
      rw [e] at z1
      cases z1
      exact (hok' b _ (un.frzs b _ _ q2)).1
/-- the goal behind the head, for a law whose defs call repr -/
theorem walkG {l : PySem.W.OpenLaw} {n k : Nat} {q : Program} {loose : List Str} {XP : (Str → Option Value) → Heap → Prop} {YP : World → Heap → Prop} {d : DefRec} {K : Params → PySem.W.Frag} {sp : World → Sp} {x : Str}
    (hn : l.most = some n) (hn2 : n ≤ sizeLine) (hdf : d.params.defaults = []) (hr : Room k callerA) (hY : ∀ (w : World) (h : Heap), YP w h → (K w.params).In h)
    (F : ∀ (w : World) (mg : Str → Option Value) (fa : Addr) (h : Heap), (K w.params).In h → h.Ns mainGlobals mg → mg d.name = some (.ref fa) → ∃ fd : FuncData, (∀ (s : Shared) (u : Value), BindsTo s fd ⟨[u], []⟩ [(x, u)]) ∧ ∀ base : Heap, (K w.params).In base → base.Ns mainGlobals mg → FnG l.prog w (K w.params) mg base k fa fd [x] (sp w))
    (hsp : ∀ (w : World) (H : Hp) (a : Addr) (ns : List Int), ns.length ≤ n → SqL (K w.params) H a (ns.map V.int) → sp w [.ref a] H (fun v _ => v = .bl true) fun _ _ _ => False) :
    PySem.W.WalkO q loose XP YP l.row.toRowW d [] (fun f vs => PySem.call f vs) := by
  refine Att.attach_call hn hdf fun w s₀ s₁ mg mb fa o pm cd doc a vs ns G Y ho hd hcd hmg hobj hints hlen hg => ?_
  obtain ⟨fd, hbd, hF⟩ := F w mg fa _ (hY w _ Y) G.T.g hmg
  exact lawG (hY w _ Y) G.T.g G.T.b G.T.builtins G.T.nolimit hg hobj hints (Nat.le_trans hlen hn2) hr hF hbd fun H hS => hsp w H a ns hlen hS
end Sv

/-! repr of any value that is told: numbers, strs, None, bools, nested lists and tuples, an empty dict. By the verifier. -/
namespace Sv
open PySem PySem.Spec PyProof.Rows L2
/-- what repr says of a value -/
inductive ReprAt (K : PySem.W.Frag) (H : Hp) : V → Str → Prop where
  | non : ReprAt K H .non "None"
  | bl (b : Bool) : ReprAt K H (.bl b) (if b then "True" else "False")
  | int (i : Int) (h : i.natAbs.log2 < 1920) : ReprAt K H (.int i) (Str.ofString (toString i))
  | str (x : Str) (h : (reprText x).length ≤ sizeLine) : ReprAt K H (.str x) (reprText x)
  | dat {a : Addr} {d : PyData} (h : Dp K H (.ref a) d) (hs : d.showable = true) (hn : d.hasDict = false) (hd : d.depth ≤ 100) (hl : d.shown.length ≤ sizeLine) : ReprAt K H (.ref a) d.shown
  | dict {a : Addr} (h : H a = some (.dT [])) : ReprAt K H (.ref a) "{}"
theorem call_reprV {X : Cx} {k : Nat} (gs : X.A.guards = some []) (hr : Room k X.A) : CallR X (.builtin "repr") (fun xs H Q => ∃ v t, xs = [v] ∧ ReprAt X.K H v t ∧ Q (.str t) H) := by
  intro pins s σ H xs us Q I r h
  obtain ⟨v, t, rfl, ht, q⟩ := h
  obtain ⟨u, rfl, hu⟩ := vals1 r
  cases ht with
  | non =>
    cases (show u = Value.none from hu)
    exact PySem.P.repr_of_none ⟨.str _, H, I.tok _, ⟨_, rfl⟩, q⟩
  | bl b =>
    cases (show u = Value.bool b from hu)
    exact PySem.P.repr_of_bool ⟨.str _, H, I.tok _, ⟨s.toks, by cases b <;> rfl⟩, q⟩
  | int i h =>
    obtain ⟨t, rfl⟩ := (show ∃ t, u = Value.int i t from hu)
    exact PySem.P.repr_of_int h ⟨.str _, H, I.tok _, ⟨_, rfl⟩, q⟩
  | str x h =>
    obtain ⟨t, rfl⟩ := (show ∃ t, u = Value.str x t from hu)
    exact PySem.P.repr_of_str ⟨.str _, H, I.tok _, ⟨_, rfl⟩, q⟩ h
  | dat hd hs hn hdp hl =>
    obtain rfl : u = Value.ref _ := hu
    obtain ⟨as, hR⟩ := Dp.reads I _ _ _ hd rfl
    exact PySem.repr_of_reads' hR hs (fun z => by rw [hn] at z; cases z) gs (by have := hr.un; omega) (fun b o e => e) (fun h' v tk keep => ⟨.str _, H, I.kept (t' := tk) keep, ⟨v, rfl⟩, q⟩) hl
  | @dict a h =>
    obtain rfl : u = Value.ref a := hu
    obtain ⟨_, hm, z⟩ := dt_of I.hok h
    obtain ⟨xs, hk, hx⟩ := z
    obtain ⟨o, es, ep, ho, hc, hdat, he, _, _⟩ := id hx
    have hx0 : xs = [] := by cases xs with | nil => rfl | cons _ _ => cases hk
    subst hx0
    have he0 : es.toList = [] := he
    have hR : Reads s.heap (.ref a) (.dict []) [a] := Reads.dict (as := []) (bs := []) ho hc.1 hdat (by rw [he0]; exact .nil) (by rw [he0]; exact .nil)
    refine PySem.repr_of_reads' hR rfl (fun _ z => ?_) gs (by have := hr.un; show X.A.units + (1 + 1) < cLine; omega) (fun b o e => e) (fun h' v tk keep => ⟨.str _, H, I.kept (t' := tk) keep, ⟨v, rfl⟩, q⟩) (by decide)
    rw [List.mem_singleton.mp z] at hm
    exact absurd hm (by simp)
end Sv

/-! max and min of a list of whole numbers, however long, by the verifier. -/
namespace Sv
open PySem PySem.Spec PyProof.Rows L2
section
variable {X : Cx}
def rMaxL (K : PySem.W.Frag) : List V → Hp → VK → Prop := fun vs H Q => ∃ (p : Addr) (ns : List Int), vs = [.ref p] ∧ SqL K H p (ns.map V.int) ∧ 0 < ns.length ∧ ∀ M, M ∈ ns → (∀ a ∈ ns, a ≤ M) → Q (.int M) H
def rMinL (K : PySem.W.Frag) : List V → Hp → VK → Prop := fun vs H Q => ∃ (p : Addr) (ns : List Int), vs = [.ref p] ∧ SqL K H p (ns.map V.int) ∧ 0 < ns.length ∧ ∀ M, M ∈ ns → (∀ a ∈ ns, M ≤ a) → Q (.int M) H
theorem call_maxL (hc : X.calm = true) : CallR X (.builtin "max") (rMaxL X.K) := by
  intro pins s σ H vs us Q I r h
  obtain ⟨p, ns, rfl, hs, hn, q⟩ := h
  obtain ⟨its, rv, hl, _⟩ := I.list hs
  rw [Vals.ref1 r]
  have hi := intsAre_of rv
  obtain ⟨xs, hx⟩ := hi.allInts.items
  have hnum := hi.numsOf
  rw [show its = its.toArray.toList from rfl, hx, nums_intItems] at hnum
  have hl2 := hl.isList
  rw [hx] at hl2
  have hsz : 0 < xs.size := by
    have := congrArg List.length hnum
    rw [List.length_map, Array.length_toList] at this
    omega
  refine max_intList (I.ok.hd hc) hl2 hsz fun v h' tk hv hk => ?_
  obtain ⟨t, rfl⟩ := intItems_at hv
  obtain ⟨h1, h2⟩ := argBest_gt (numAt xs) (xs.size - 1)
  refine ⟨.int (numAt xs (argBest (fun i j => decide (numAt xs i > numAt xs j)) (xs.size - 1))), H, I.kept hk, ⟨t, rfl⟩, q _ ?_ fun a ha => ?_⟩
  · rw [← hnum, numAt_eq]
    exact getD_mem (by rw [List.length_map, Array.length_toList]; omega)
  · rw [← hnum] at ha
    obtain ⟨j, hj, rfl⟩ := PySem.mem_getD ha
    rw [List.length_map, Array.length_toList] at hj
    rw [← numAt_eq]
    exact h2 j (by omega)
theorem call_minL (hc : X.calm = true) : CallR X (.builtin "min") (rMinL X.K) := by
  intro pins s σ H vs us Q I r h
  obtain ⟨p, ns, rfl, hs, hn, q⟩ := h
  obtain ⟨its, rv, hl, _⟩ := I.list hs
  rw [Vals.ref1 r]
  have hi := intsAre_of rv
  obtain ⟨xs, hx⟩ := hi.allInts.items
  have hnum := hi.numsOf
  rw [show its = its.toArray.toList from rfl, hx, nums_intItems] at hnum
  have hl2 := hl.isList
  rw [hx] at hl2
  have hsz : 0 < xs.size := by
    have := congrArg List.length hnum
    rw [List.length_map, Array.length_toList] at this
    omega
  refine min_intList (I.ok.hd hc) hl2 hsz fun v h' tk hv hk => ?_
  obtain ⟨t, rfl⟩ := intItems_at hv
  obtain ⟨h1, h2⟩ := argBest_lt (numAt xs) (xs.size - 1)
  refine ⟨.int (numAt xs (argBest (fun i j => decide (numAt xs i < numAt xs j)) (xs.size - 1))), H, I.kept hk, ⟨t, rfl⟩, q _ ?_ fun a ha => ?_⟩
  · rw [← hnum, numAt_eq]
    exact getD_mem (by rw [List.length_map, Array.length_toList]; omega)
  · rw [← hnum] at ha
    obtain ⟨j, hj, rfl⟩ := PySem.mem_getD ha
    rw [List.length_map, Array.length_toList] at hj
    rw [← numAt_eq]
    exact h2 j (by omega)
end
end Sv

namespace Sv
open PySem PySem.Spec PyProof.Rows L2
section
variable {P : Program} {w : World} {K : PySem.W.Frag} {mg : Str → Option Value} {base : Heap} {f C D : Addr} {fd : FuncData}
def spIsOrder (K : PySem.W.Frag) (C : Addr) : Sp := spToldV K C
theorem ok_is_order (T : Tk K w mg C D) (F : FnP K "is_order" "is_order" s_is_order f fd) (c_check_kind : Gd P w K mg base "check_kind" ["kind"] 1 (spCk C)) (c_is_told_order : Gd P w K mg base "is_told_order" ["kind", "value"] 4 (spToldV K C)) : FnOk P w K mg base CX0 5 f fd ["kind", "value"] (spToldV K C) := by
  refine okN F sc_is_order (fun vs H Q E h => ?_) (fun cdv A outer s H vs Q E hr h => ?_)
  · obtain ⟨p, v, k, n, lv, rfl, _⟩ := h
    rfl
  · obtain ⟨p, v, k, n, lv, rfl, hk, hok, hv, q⟩ := h
    refine ⟨_, (pss_cons (ps_expr (pe_callG c_check_kind (hr.mono (by decide)) (by rfl) (pa_cons (pv 0) pa_nil)))
      (pss_one (ps_ret (pe_callG c_is_told_order (hr.mono (by decide)) (by rfl) (pa_cons (pv 0) (pa_cons (pv 1) pa_nil)))))), ?_⟩
    refine ⟨_, rfl, p, k, n, rfl, hk, ?_⟩
    exact ⟨_, rfl, _, rfl, p, v, k, n, lv, rfl, hk, hok, hv, q⟩
end
end Sv

/-! Ring rows: few crossings keep the items together, and the other way about. By the verifier. -/
namespace Sv
open PySem L2
theorem absI_ge (x : Int) : x ≤ absI x ∧ 0 - x ≤ absI x ∧ 0 ≤ absI x := by
  unfold absI
  omega
theorem absI_le {x m : Int} (h1 : x ≤ m) (h2 : 0 - x ≤ m) : absI x ≤ m := by
  unfold absI
  omega
theorem one2 {w : List Int} (h : w.length = 2) : ∃ a b, w = [a, b] := match w, h with | [a, b], _ => ⟨a, b, rfl⟩
theorem one3 {w : List Int} (h : w.length = 3) : ∃ a b c, w = [a, b, c] := match w, h with | [a, b, c], _ => ⟨a, b, c, rfl⟩
theorem one4 {w : List Int} (h : w.length = 4) : ∃ a b c d, w = [a, b, c, d] := match w, h with | [a, b, c, d], _ => ⟨a, b, c, d, rfl⟩
theorem one5 {w : List Int} (h : w.length = 5) : ∃ a b c d e, w = [a, b, c, d, e] := match w, h with | [a, b, c, d, e], _ => ⟨a, b, c, d, e, rfl⟩
theorem cr2 (a b : Int) : crP .ri 2 [a, b] = absI ((b - a) / 2) := by
  have e : pairsL [a, b] = [(a, b)] := rfl
  simp [crP, e]
theorem cr3 (a b c : Int) : crP .ri 3 [a, b, c] = absI ((b - a) / 3) + absI ((c - a) / 3) + absI ((c - b) / 3) := by
  have e : pairsL [a, b, c] = [(a, b), (a, c), (b, c)] := rfl
  simp [crP, e]
  omega
theorem cr4 (a b c d : Int) : crP .ri 4 [a, b, c, d] = absI ((b - a) / 4) + absI ((c - a) / 4) + absI ((d - a) / 4) + absI ((c - b) / 4) + absI ((d - b) / 4) + absI ((d - c) / 4) := by
  have e : pairsL [a, b, c, d] = [(a, b), (a, c), (b, c), (a, d), (b, d), (c, d)] := rfl
  simp [crP, e]
  omega
theorem cr5 (a b c d e : Int) : crP .ri 5 [a, b, c, d, e] = absI ((b - a) / 5) + absI ((c - a) / 5) + absI ((d - a) / 5) + absI ((e - a) / 5) + absI ((c - b) / 5) + absI ((d - b) / 5) + absI ((e - b) / 5) + absI ((d - c) / 5) + absI ((e - c) / 5) + absI ((e - d) / 5) := by
  have e : pairsL [a, b, c, d, e] = [(a, b), (a, c), (b, c), (a, d), (b, d), (c, d), (a, e), (b, e), (c, e), (d, e)] := rfl
  simp [crP, e]
  omega
/-- three items of a ring row whose pairs are crossed at most 60 times -/
theorem three_near {n x y z : Int} (hn : n = 3 ∨ n = 4 ∨ n = 5) (h : absI ((y - x) / n) + absI ((z - x) / n) + absI ((z - y) / n) ≤ 60) : (y - x < 200 ∧ x - y < 200) ∧ (z - x < 200 ∧ x - z < 200) ∧ z - y < 200 ∧ y - z < 200 := by
  have h1 := absI_ge ((y - x) / n)
  have h2 := absI_ge ((z - x) / n)
  have h3 := absI_ge ((z - y) / n)
  generalize absI ((y - x) / n) = v1 at *
  generalize absI ((z - x) / n) = v2 at *
  generalize absI ((z - y) / n) = v3 at *
  rcases hn with rfl | rfl | rfl <;> refine ⟨⟨?_, ?_⟩, ⟨?_, ?_⟩, ?_, ?_⟩ <;> omega
theorem ring_spread {n : Nat} {w : List Int} (hn : 2 ≤ n ∧ n ≤ 5) (hl : w.length = n) (hc : crP .ri n w ≤ 60) : ∀ x ∈ w, ∀ y ∈ w, y - x < 200 := by
  have h4 : n = 2 ∨ n = 3 ∨ n = 4 ∨ n = 5 := by omega
  rcases h4 with rfl | rfl | rfl | rfl
  · obtain ⟨a, b, rfl⟩ := one2 hl
    rw [cr2] at hc
    have h1 := absI_ge ((b - a) / 2)
    simp only [List.mem_cons, List.not_mem_nil, or_false, forall_eq_or_imp, forall_eq]
    refine ⟨⟨?_, ?_⟩, ?_, ?_⟩ <;> omega
  · obtain ⟨a, b, c, rfl⟩ := one3 hl
    rw [cr3] at hc
    obtain ⟨t1, t2, t3⟩ := three_near (.inl rfl) hc
    clear hc
    simp only [List.mem_cons, List.not_mem_nil, or_false, forall_eq_or_imp, forall_eq]
    omega
  · obtain ⟨a, b, c, d, rfl⟩ := one4 hl
    rw [cr4] at hc
    have h1 := (absI_ge ((b - a) / 4)).2.2
    have h2 := (absI_ge ((c - a) / 4)).2.2
    have h3 := (absI_ge ((d - a) / 4)).2.2
    have h4 := (absI_ge ((c - b) / 4)).2.2
    have h5 := (absI_ge ((d - b) / 4)).2.2
    have h6 := (absI_ge ((d - c) / 4)).2.2
    obtain ⟨t1, t2, t3⟩ := three_near (n := 4) (x := a) (y := b) (z := c) (.inr (.inl rfl)) (by omega)
    obtain ⟨t4, t5, t6⟩ := three_near (n := 4) (x := a) (y := b) (z := d) (.inr (.inl rfl)) (by omega)
    obtain ⟨t7, t8, t9⟩ := three_near (n := 4) (x := b) (y := c) (z := d) (.inr (.inl rfl)) (by omega)
    clear hc h1 h2 h3 h4 h5 h6
    simp only [List.mem_cons, List.not_mem_nil, or_false, forall_eq_or_imp, forall_eq]
    omega
  · obtain ⟨a, b, c, d, e, rfl⟩ := one5 hl
    rw [cr5] at hc
    have h1 := (absI_ge ((b - a) / 5)).2.2
    have h2 := (absI_ge ((c - a) / 5)).2.2
    have h3 := (absI_ge ((d - a) / 5)).2.2
    have h4 := (absI_ge ((e - a) / 5)).2.2
    have h5 := (absI_ge ((c - b) / 5)).2.2
    have h6 := (absI_ge ((d - b) / 5)).2.2
    have h7 := (absI_ge ((e - b) / 5)).2.2
    have h8 := (absI_ge ((d - c) / 5)).2.2
    have h9 := (absI_ge ((e - c) / 5)).2.2
    have h0 := (absI_ge ((e - d) / 5)).2.2
    have k1 : absI ((b - a) / 5) + absI ((c - a) / 5) + absI ((c - b) / 5) ≤ 60 := by clear h1 h2 h5; omega
    have k2 : absI ((d - a) / 5) + absI ((e - a) / 5) + absI ((e - d) / 5) ≤ 60 := by clear h3 h4 h0 k1; omega
    have k3 : absI ((d - b) / 5) + absI ((e - b) / 5) + absI ((e - d) / 5) ≤ 60 := by clear h6 h7 h0 k1 k2; omega
    have k4 : absI ((d - c) / 5) + absI ((e - c) / 5) + absI ((e - d) / 5) ≤ 60 := by clear h8 h9 h0 k1 k2 k3; omega
    obtain ⟨t1, t2, t3⟩ := three_near (.inr (.inr rfl)) k1
    obtain ⟨t4, t5, t6⟩ := three_near (.inr (.inr rfl)) k2
    obtain ⟨t7, t8, _⟩ := three_near (.inr (.inr rfl)) k3
    obtain ⟨s1, s2, _⟩ := three_near (.inr (.inr rfl)) k4
    clear hc h1 h2 h3 h4 h5 h6 h7 h8 h9 h0 k1 k2 k3 k4
    simp only [List.mem_cons, List.not_mem_nil, or_false, forall_eq_or_imp, forall_eq]
    omega
theorem ring_small {n : Nat} {w : List Int} (hn : 2 ≤ n ∧ n ≤ 5) (hl : w.length = n) (hs : ∀ x ∈ w, ∀ y ∈ w, y - x < 200) : crP .ri n w ≤ 500 := by
  have h4 : n = 2 ∨ n = 3 ∨ n = 4 ∨ n = 5 := by omega
  have dd : ∀ {x : Int}, x < 200 → 0 - x < 200 → absI (x / 5) ≤ 40 := fun h1 h2 => absI_le (by omega) (by omega)
  have d4 : ∀ {x : Int}, x < 200 → 0 - x < 200 → absI (x / 4) ≤ 50 := fun h1 h2 => absI_le (by omega) (by omega)
  have d3 : ∀ {x : Int}, x < 200 → 0 - x < 200 → absI (x / 3) ≤ 67 := fun h1 h2 => absI_le (by omega) (by omega)
  have d2 : ∀ {x : Int}, x < 200 → 0 - x < 200 → absI (x / 2) ≤ 100 := fun h1 h2 => absI_le (by omega) (by omega)
  rcases h4 with rfl | rfl | rfl | rfl
  · obtain ⟨a, b, rfl⟩ := one2 hl
    simp only [List.mem_cons, List.not_mem_nil, or_false, forall_eq_or_imp, forall_eq] at hs
    rw [cr2]
    have h1 := d2 (x := b - a) (by omega) (by omega)
    omega
  · obtain ⟨a, b, c, rfl⟩ := one3 hl
    simp only [List.mem_cons, List.not_mem_nil, or_false, forall_eq_or_imp, forall_eq] at hs
    rw [cr3]
    have h1 := d3 (x := b - a) (by omega) (by omega)
    have h2 := d3 (x := c - a) (by omega) (by omega)
    have h3 := d3 (x := c - b) (by omega) (by omega)
    omega
  · obtain ⟨a, b, c, d, rfl⟩ := one4 hl
    simp only [List.mem_cons, List.not_mem_nil, or_false, forall_eq_or_imp, forall_eq] at hs
    rw [cr4]
    have h1 := d4 (x := b - a) (by omega) (by omega)
    have h2 := d4 (x := c - a) (by omega) (by omega)
    have h3 := d4 (x := d - a) (by omega) (by omega)
    have h4 := d4 (x := c - b) (by omega) (by omega)
    have h5 := d4 (x := d - b) (by omega) (by omega)
    have h6 := d4 (x := d - c) (by omega) (by omega)
    omega
  · obtain ⟨a, b, c, d, e, rfl⟩ := one5 hl
    simp only [List.mem_cons, List.not_mem_nil, or_false, forall_eq_or_imp, forall_eq] at hs
    rw [cr5]
    have h1 := dd (x := b - a) (by omega) (by omega)
    have h2 := dd (x := c - a) (by omega) (by omega)
    have h3 := dd (x := d - a) (by omega) (by omega)
    have h4 := dd (x := e - a) (by omega) (by omega)
    have h5 := dd (x := c - b) (by omega) (by omega)
    have h6 := dd (x := d - b) (by omega) (by omega)
    have h7 := dd (x := e - b) (by omega) (by omega)
    have h8 := dd (x := d - c) (by omega) (by omega)
    have h9 := dd (x := e - c) (by omega) (by omega)
    have h0 := dd (x := e - d) (by omega) (by omega)
    omega
end Sv

namespace Sv
open PySem PySem.Spec PyProof.Rows L2
mutual
theorem dpKeep {K : PySem.W.Frag} {H H' : Hp} (e : Same H H') : ∀ (d : PyData) (v : V), Dp K H v d → Dp K H' v d
  | .none, v, h => by cases h; exact .non
  | .bool b, v, h => by cases h; exact .bl b
  | .int i, v, h => by cases h; exact .int i
  | .str x, v, h => by cases h; exact .str x
  | .list ds, v, h => by
    cases h with
    | lst hs ha => exact .lst (e.seq hs) (dpKeepAll e ds _ ha)
  | .tuple ds, v, h => by
    cases h with
    | tup hs ha => exact .tup (Sv.Same.tup e hs) (dpKeepAll e ds _ ha)
  | .dict _, v, h => by cases h
theorem dpKeepAll {K : PySem.W.Frag} {H H' : Hp} (e : Same H H') : ∀ (ds : List PyData) (vs : List V), DpAll K H vs ds → DpAll K H' vs ds
  | [], vs, h => by cases h; exact .nil
  | d :: ds, vs, h => by
    cases h with
    | cons h1 h2 => exact .cons (dpKeep e d _ h1) (dpKeepAll e ds _ h2)
end
theorem DpAll.snoc {K : PySem.W.Frag} {H : Hp} {v : V} {d : PyData} (h : Dp K H v d) : ∀ {vs : List V} {ds : List PyData}, DpAll K H vs ds → DpAll K H (vs ++ [v]) (ds ++ [d])
  | _, _, .nil => .cons h .nil
  | _, _, .cons h1 h2 => .cons h1 (DpAll.snoc h h2)
/-- data that may be compared -/
def Mild (d : PyData) : Prop := PyData.depth d ≤ 2 ∧ PyData.canLay0 d = true
def MildAll (ds : List PyData) : Prop := PyData.depthAll ds ≤ 2 ∧ PyData.canLayAll0 ds = true
theorem MildAll.snoc {d : PyData} (h : Mild d) : ∀ {ds : List PyData}, MildAll ds → MildAll (ds ++ [d])
  | [], _ => ⟨(by
    have h1 := h.1
    have h0 : PyData.depthAll [] = 0 := by simp [PyData.depthAll]
    show max (PyData.depth d) (PyData.depthAll []) ≤ 2
    rw [h0]
    omega), (by show (PyData.canLay0 d && PyData.canLayAll0 []) = true; rw [h.2]; rfl)⟩
  | e :: ds, x => by
    have x1 : max (PyData.depth e) (PyData.depthAll ds) ≤ 2 := x.1
    have x2 : (PyData.canLay0 e && PyData.canLayAll0 ds) = true := x.2
    rw [Bool.and_eq_true] at x2
    obtain ⟨y1, y2⟩ := MildAll.snoc h (ds := ds) ⟨by omega, x2.2⟩
    exact ⟨by show max (PyData.depth e) (PyData.depthAll (ds ++ [d])) ≤ 2; omega, by show (PyData.canLay0 e && PyData.canLayAll0 (ds ++ [d])) = true; rw [x2.1, y2]; rfl⟩
theorem MildAll.shaped {ds : List PyData} (h : MildAll ds) : SeqAt.shaped (.list ds) = true := by
  have e : PyData.depth (.list ds) = PyData.depthAll ds + 1 := by simp [PyData.depth]
  have := h.1
  unfold SeqAt.shaped
  rw [show PyData.canLay0 (.list ds) = PyData.canLayAll0 ds from rfl, h.2, decide_eq_true (by omega)]
  rfl
theorem eqv_nil (ds : List PyData) : PyData.eqv (.list ds) (.list []) = decide (ds = []) := by
  cases ds with
  | nil => rw [PyData.eqv]; rfl
  | cons q r => rw [PyData.eqv]; rfl
section
variable {P : Program} {w : World} {K : PySem.W.Frag} {mg : Str → Option Value} {base : Heap} {f C D : Addr} {fd : FuncData}
def spLIsOrder (K : PySem.W.Frag) : Sp := fun vs H Q _ => ∃ (t : Addr) (v : V) (k : Nm) (n : Nat) (lv : Option (List V)), vs = [.ref t, v] ∧ Told K H t k n ∧ okK k n = true ∧ ValAt K H v lv ∧ (∀ xs, lv = some xs → ∀ x ∈ xs, ∃ d, Dp K H x d ∧ Mild d) ∧
  ∀ (b : Bool) H', (b = true ↔ ∃ ws : List Int, lv = some (ws.map V.int) ∧ Form k n ws ∧ (k = .ri → crP k n ws ≤ 60)) → Same H H' → Q (.bl b) H'
theorem ok_law_is_order (T : Tx K mg) (F : FnP K "_law_is_order" "_law_is_order" s__law_is_order f fd) (c_law_crossings : Gd P w K mg base "_law_crossings" ["_law_told", "_law_order"] 5 (spLCr K)) : FnOk P w K mg base CX0 6 f fd ["_law_told", "_law_value"] (spLIsOrder K) := by
  refine okN F sc__law_is_order (fun vs H Q E h => ?_) (fun cdv A outer s H vs Q E hr h => ?_)
  · obtain ⟨t, v, k, n, lv, rfl, _⟩ := h
    rfl
  · obtain ⟨t, v, k, n, lv, rfl, ht, hok, hv, hD, q⟩ := h
    have hn := okK_le hok
    refine ⟨_, (pss_cons (ps_set (i := 2) sc__law_is_order.nd rfl (by first | exact Or.inl rfl | exact Or.inr rfl) (pe_ix ix_tup (pv 0) pe_int (fun _ _ => rfl)))
      (pss_cons (ps_if (PW.pt (pw_or (pt_not (pt_val (pe_callB call_isi (by rfl) T.m_isinstance (by decide +kernel) (pa_cons (pv 1) (pa_cons (pe_bltn (v := .ty "list") (by rfl) T.m_list (by decide +kernel) rfl) pa_nil))))) (pw_or (pt_cmpR op_ne (pe_callB call_len_seq (by rfl) T.m_len (by decide +kernel) (pa_cons (pv 1) pa_nil)) (pv 2) (nomark _)) (pw_or1 (pt_cmpR (op_neD hr.units) (pe_lc (own := [(("_law_item_here" : Str), 3)]) (g := (gName 3)) rfl sc__law_is_order.nd (pi_list (pv 1)) (blkOk_by (own := [(("_law_item_here" : Str), 3)]) (N := ["_law_told", "_law_value", "_law_size", "_law_item_here"]) (sc := defScope s__law_is_order) (by decide +kernel)) (fun _ _ _ _ _ => (pg_name (i := 3) sc__law_is_order.nd rfl (Or.inl rfl))) (fun _ _ _ _ _ => pts_one (PW.pt (pw_or (pt_val (pe_callB (show CallR _ (.builtin "isinstance") (rIsi K) from call_isi) (by rfl) T.m_isinstance (by decide +kernel) (pa_cons (pv 3) (pa_cons (pe_bltn (v := .ty "bool") (by rfl) T.m_bool (by decide +kernel) rfl) pa_nil)))) (pw_or1 (pt_not (pt_val (pe_callB (show CallR _ (.builtin "isinstance") (rIsi K) from call_isi) (by rfl) T.m_isinstance (by decide +kernel) (pa_cons (pv 3) (pa_cons (pe_bltn (v := .ty "int") (by rfl) T.m_int (by decide +kernel) rfl) pa_nil))))))))) (fun _ _ _ _ _ => (pv 3))) (pe_lst pa_nil) (nomark _)))))) (pss_one (ps_ret pe_bl)) pss_nil)
      (pss_cons (ps_if (pt_cmpR op_eq (pe_ix ix_tup (pv 0) pe_int (fun _ _ => rfl)) pe_str (nomark _)) (pss_one (ps_ret (pe_cmpR (op_eqD hr.units) (pe_callB cr_sortedI (by rfl) T.m_sorted (by decide +kernel) (pa_cons (pv 1) pa_nil)) (pe_listRg rfl (by rfl) T.m_list (prg_1 (by rfl) T.m_range (pv 2))) (nomark _)))) pss_nil)
      (pss_cons (ps_if (pt_cmpR op_eq (pe_ix ix_tup (pv 0) pe_int (fun _ _ => rfl)) pe_str (nomark _)) (pss_one (ps_ret (pe_cmpR (op_eqD hr.units) (pe_callB cr_sortedI (by rfl) T.m_sorted (by decide +kernel) (pa_cons (pe_lc (own := [(("_law_item_here" : Str), 3)]) (g := (gName 3)) (tt := tYes) rfl sc__law_is_order.nd (pi_list (pv 1)) (blkOk_by (own := [(("_law_item_here" : Str), 3)]) (N := ["_law_told", "_law_value", "_law_size", "_law_item_here"]) (sc := defScope s__law_is_order) (by decide +kernel)) (fun _ _ _ _ _ => (pg_name (i := 3) sc__law_is_order.nd rfl (Or.inl rfl))) (fun _ _ _ _ _ => pts_nil) (fun _ _ _ _ _ => (pe_callB call_abs (by rfl) T.m_abs (by decide +kernel) (pa_cons (pv 3) pa_nil)))) pa_nil)) (pe_listRg rfl (by rfl) T.m_list (prg_2 (by rfl) T.m_range pe_int (pe_op op_add (pv 2) pe_int))) (nomark _)))) pss_nil)
      (pss_cons (ps_if (PW.pt (pw_or (pt_cmpR (op_neD hr.units) (pe_callB cr_sortedI (by rfl) T.m_sorted (by decide +kernel) (pa_cons (pe_lc (own := [(("_law_item_here" : Str), 3)]) (g := (gName 3)) (tt := tYes) rfl sc__law_is_order.nd (pi_list (pv 1)) (blkOk_by (own := [(("_law_item_here" : Str), 3)]) (N := ["_law_told", "_law_value", "_law_size", "_law_item_here"]) (sc := defScope s__law_is_order) (by decide +kernel)) (fun _ _ _ _ _ => (pg_name (i := 3) sc__law_is_order.nd rfl (Or.inl rfl))) (fun _ _ _ _ _ => pts_nil) (fun _ _ _ _ _ => (pe_op op_mod (pe_callTy call_int1 (by rfl) T.m_int (by decide +kernel) (pa_cons (pv 3) pa_nil)) (pv 2)))) pa_nil)) (pe_listRg rfl (by rfl) T.m_list (prg_1 (by rfl) T.m_range (pv 2))) (nomark _)) (pw_or1 (pt_cmpR op_ne (pe_callB (cr_sum rfl) (by rfl) T.m_sum (by decide +kernel) (pa_cons (pv 1) pa_nil)) (pe_op op_fdiv (pe_op op_mul (pv 2) (pe_op op_sub (pv 2) pe_int)) pe_int) (nomark _))))) (pss_one (ps_ret pe_bl)) pss_nil)
      (pss_one (ps_ret (pe_and (pe_cmpR op_lt (pe_op op_sub (pe_callB (call_maxL rfl) (by rfl) T.m_max (by decide +kernel) (pa_cons (pv 1) pa_nil)) (pe_callB (call_minL rfl) (by rfl) T.m_min (by decide +kernel) (pa_cons (pv 1) pa_nil))) pe_int (nomark _)) (pe_one (pe_cmpR op_le (pe_callG c_law_crossings (hr.mono (by decide)) (by rfl) (pa_cons (pv 0) (pa_cons (pv 1) pa_nil))) pe_int (nomark _))))))))))), ?_⟩
    refine ⟨_, rfl, t, _, 1, _, rfl, rfl, ht, atI_nat (j := 1) rfl, ?_⟩
    cases lv with
    | none =>
      obtain ⟨ty, hty, hne⟩ := hv
      refine ⟨_, rfl, v, .ty "list", .type ty, .type "list", _, rfl, .ty _, hty.1, kit_list hty, _, rfl, iteP (by rw [decide_eq_false hne]; rfl) (iteP rfl (q false H ⟨fun z => (by cases z), fun ⟨_, z, _⟩ => (by cases z)⟩ (Same.refl _)))⟩
    | some xs =>
      obtain ⟨o, rfl, hO, hl, hT⟩ := hv
      refine ⟨_, rfl, .ref o, .ty "list", .type "list", .type "list", true, rfl, .ty _, sqL_ty hO, kit_ty (by decide +kernel), true, rfl, iteN (by decide) ?_⟩
      refine ⟨_, rfl, o, _, rfl, .inl hO, _, rfl, rfl, _, rfl, ?_⟩
      by_cases hln : xs.length = n
      rotate_left
      · refine iteP (by rw [decide_eq_false (fun e => hln (by injection e with e2; omega))]; rfl) (iteP rfl (q false H ⟨fun z => (by cases z), fun ⟨ws, z, hF, _⟩ => ?_⟩ (Same.refl _)))
        injection z with z
        rw [z, List.length_map, hF.1] at hln
        exact absurd rfl hln
      refine iteN (by rw [hln]; simp) ?_
      have hD := hD xs rfl
      refine ⟨_, rfl, o, rfl, ⟨_, hO⟩, fun L nL => ?_⟩
      refine lc_list (K := K) (a := o) (xs := xs) (fun i H2 => ∃ (zs : List V) (ds : List PyData), H2 L = some (.lst zs) ∧ DpAll K H zs ds ∧ MildAll ds ∧ zs.length ≤ i ∧ (ds = [] ↔ (xs.take i).all isInt = true) ∧ Same H H2)
        ⟨[], [], upd_same, .nil, ⟨by simp [PyData.depthAll], rfl⟩, Nat.le_refl _, ⟨fun _ => rfl, fun _ => rfl⟩, Same.upd nL⟩ (fun i H2 _ h2 => by obtain ⟨_, _, _, _, _, _, _, s2⟩ := h2; exact s2.seq hO) ?_ ?_
      · rintro i x H2 hi ⟨zs, ds, hL, hZ, hM, hzl, hiff, s2⟩
        obtain ⟨ty, hty⟩ := hT x (List.mem_of_getElem? hi)
        obtain ⟨d, hd, hm⟩ := hD x (List.mem_of_getElem? hi)
        have ht2 := hty.keep s2
        have hi2 : (xs.take (i + 1)).all isInt = ((xs.take i).all isInt && isInt x) := by rw [take_succ hi, List.all_append, List.all_cons, List.all_nil, Bool.and_true]
        have hil : i < xs.length := (List.getElem?_eq_some_iff.mp hi).1
        rw [hi2, hty.isInt]
        refine ⟨rfl, ?_⟩
        refine ⟨_, rfl, x, .ty "bool", .type ty, .type "bool", _, rfl, .ty _, ht2.1, kit_bool ht2, _, rfl, ?_⟩
        have push : ty ≠ "int" → ∃ acc, H2 L = some (.lst acc) ∧ acc.length < sizeLine ∧ ∃ (zs : List V) (ds : List PyData), (L2.upd H2 L (.lst (acc ++ [x]))) L = some (.lst zs) ∧ DpAll K H zs ds ∧ MildAll ds ∧ zs.length ≤ i + 1 ∧ (ds = [] ↔ ((xs.take i).all isInt && decide (ty = "int")) = true) ∧ Same H (L2.upd H2 L (.lst (acc ++ [x]))) := fun hne => by
          refine ⟨zs, hL, small1000 (by omega), zs ++ [x], ds ++ [d], upd_same, DpAll.snoc hd hZ, MildAll.snoc hm hM, ?_, ?_, Same_updD s2 nL⟩
          · rw [List.length_append, List.length_singleton]
            omega
          · rw [decide_eq_false hne, Bool.and_false]
            exact ⟨fun z => absurd z (by simp), fun z => by cases z⟩
        by_cases hb : ty = "bool"
        · refine iteP (decide_eq_true hb) (iteP rfl ?_)
          exact ⟨_, rfl, push (by rw [hb]; decide)⟩
        · refine iteN (fun z => hb (of_decide_eq_true z)) ?_
          refine ⟨_, rfl, x, .ty "int", .type ty, .type "int", _, rfl, .ty _, ht2.1, kit_int ht2, _, rfl, ?_⟩
          by_cases hint : ty = "int"
          · refine iteN (by rw [hint]; decide) ?_
            refine ⟨zs, ds, hL, hZ, hM, by omega, ?_, s2⟩
            rw [hint, hiff]
            simp
          · refine iteP (by rw [decide_eq_false hint, decide_eq_false hb]; rfl) ?_
            exact ⟨_, rfl, push hint⟩
      rintro H2 ⟨zs, ds, hL, hZ, hM, hzl, hiff, s2⟩
      rw [List.take_length] at hiff
      refine ⟨Nat.zero_le _, fun e ne => ?_⟩
      have s3 := s2.trans (Same.upd (o := .lst []) ne)
      refine ⟨.list ds, .list [], Dp.lst (SqL.of ((Same.upd (o := .lst []) ne) _ _ hL)) (dpKeepAll s3 _ _ hZ), Dp.lst (xs := []) (ds := []) (SqL.of upd_same) .nil, hM.shaped, rfl, _, rfl, ?_⟩
      rw [eqv_nil]
      generalize L2.upd H2 e (.lst []) = H3 at *
      by_cases hw : xs.all isInt = true
      rotate_left
      · refine iteP (by rw [decide_eq_false (fun z => hw (hiff.mp z))]; rfl) (q false H3 ⟨fun z => (by cases z), fun ⟨ws, z, hF, _⟩ => ?_⟩ s3)
        injection z with z
        rw [z] at hw
        exact absurd (ints_all ws) hw
      refine iteN (by rw [decide_eq_true (hiff.mpr hw)]; decide) ?_
      obtain ⟨ws, rfl⟩ := all_ints hw
      rw [List.length_map] at hln
      have q2 : ∀ (b : Bool) H', (b = true ↔ Form k n ws ∧ (k = .ri → crP k n ws ≤ 60)) → Same H H' → Q (.bl b) H' := fun b H' hb => q b H' (hb.trans ⟨fun z => ⟨ws, rfl, z⟩, fun ⟨us, z, hF⟩ => by
        injection z with z
        have : ws = us := ints_inj z
        rw [this]
        exact hF⟩)
      clear hw hiff hZ hM hL hD hzl
      refine ⟨_, rfl, t, _, 0, _, rfl, rfl, Sv.Same.tup s3 ht, atI_nat (j := 0) rfl, rfl, _, rfl, ite2 (fun hkk => ?_) (fun hkk => ?_)⟩
      · rw [s_pl] at hkk
        have ek := of_decide_eq_true hkk
        subst ek
        refine ⟨_, rfl, o, ws, rfl, s3.seq hO, fun ys a hy hs na => ?_⟩
        have u1 := Same.upd (o := .lst (ys.map V.int)) na
        refine ⟨_, rfl, _, rfl, RgOk.of_le (by decide) (by omega) (by omega) (by omega), fun b nb => ?_⟩
        rw [rg_start0 (k := .pl) (by decide) n]
        have u2 := Same.upd (o := .lst ((startL .pl n).map V.int)) nb
        refine ⟨_, _, dp_list (SqL.of (u2 _ _ upd_same)), dp_list (SqL.of upd_same), shaped_ints _, shaped_ints _, q2 _ _ ?_ ((s3.trans u1).trans u2)⟩
        rw [eqv_l, decide_eq_true_iff]
        exact ⟨fun e => ⟨⟨hln, e ▸ hy.symm⟩, fun z => by cases z⟩, fun hF => sorted_start hy hs hF.1.2⟩
      · rw [s_pl] at hkk
        have ek : k ≠ .pl := fun e => hkk (decide_eq_true e)
        refine ⟨_, rfl, t, _, 0, _, rfl, rfl, Sv.Same.tup s3 ht, atI_nat (j := 0) rfl, rfl, _, rfl, ite2 (fun hkk => ?_) (fun hkk => ?_)⟩
        · have em := is_mi hkk
          subst em
          refine ⟨_, rfl, o, rfl, ⟨_, s3.seq hO⟩, fun L nL => ?_⟩
          refine lc_list (K := K) (a := o) (xs := ws.map V.int) (fun i H2 => H2 L = some (.lst (((ws.take i).map absI).map V.int)) ∧ Same H3 H2) ⟨upd_same, Same.upd nL⟩ (fun i H2 _ h2 => (s3.trans h2.2).seq hO) ?_ ?_
          · rintro i x H2 hi ⟨hL, s4⟩
            obtain ⟨hj, rfl⟩ := at_map hi
            refine ⟨rfl, ?_⟩
            have eq : ws[i]? = some (ws.getD i 0) := by rw [List.getD_eq_getElem?_getD, List.getElem?_eq_getElem hj]; rfl
            refine ⟨_, rfl, _, rfl, _, hL, ?_, ?_, Same_updD s4 nL⟩
            · rw [List.length_map, List.length_map, List.length_take]
              exact small1000 (by omega)
            · rw [upd_same, take_succ eq, List.map_append, List.map_append]
              rfl
          · rintro H4 ⟨hL, s4⟩
            rw [List.length_map, List.take_of_length_le (Nat.le_refl _)] at hL
            refine ⟨L, ws.map absI, rfl, SqL.of hL, fun ys a hy hs na => ?_⟩
            have u1 := (s3.trans s4).trans (Same.upd (o := .lst (ys.map V.int)) na)
            refine ⟨_, rfl, _, _, rfl, rfl, _, _, rfl, rfl, RgOk.of_le (by decide) (by omega) (by omega) (by omega), fun b nb => ?_⟩
            have er := rg_start .mi n
            rw [show off .mi = 1 from rfl] at er
            rw [er]
            have u2 := Same.upd (o := .lst ((startL .mi n).map V.int)) nb
            refine ⟨_, _, dp_list (SqL.of (u2 _ _ upd_same)), dp_list (SqL.of upd_same), shaped_ints _, shaped_ints _, q2 _ _ ?_ (u1.trans u2)⟩
            rw [eqv_l, decide_eq_true_iff]
            exact ⟨fun e => ⟨⟨hln, e ▸ hy.symm⟩, fun z => by cases z⟩, fun hF => sorted_start hy hs hF.1.2⟩
        · have em := not_mi hkk
          have er : k = .ri := by cases k <;> simp_all
          subst er
          refine ⟨_, rfl, o, rfl, ⟨_, s3.seq hO⟩, fun L nL => ?_⟩
          refine lc_list (K := K) (a := o) (xs := ws.map V.int) (fun i H2 => H2 L = some (.lst (((ws.take i).map fun x => x % (n : Int)).map V.int)) ∧ Same H3 H2) ⟨upd_same, Same.upd nL⟩ (fun i H2 _ h2 => (s3.trans h2.2).seq hO) ?_ ?_
          · rintro i x H2 hi ⟨hL, s4⟩
            obtain ⟨hj, rfl⟩ := at_map hi
            refine ⟨rfl, ?_⟩
            have eq : ws[i]? = some (ws.getD i 0) := by rw [List.getD_eq_getElem?_getD, List.getElem?_eq_getElem hj]; rfl
            refine ⟨_, rfl, .inl ⟨_, rfl, _, rfl, _, _, rfl, rfl, (by omega), _, hL, ?_, ?_, Same_updD s4 nL⟩⟩
            · rw [List.length_map, List.length_map, List.length_take]
              exact small1000 (by omega)
            · rw [upd_same, take_succ eq, List.map_append, List.map_append]
              rfl
          · rintro H4 ⟨hL, s4⟩
            rw [List.length_map, List.take_of_length_le (Nat.le_refl _)] at hL
            refine ⟨L, ws.map fun x => x % (n : Int), rfl, SqL.of hL, fun ys a hy hs na => ?_⟩
            have u1 := (s3.trans s4).trans (Same.upd (o := .lst (ys.map V.int)) na)
            refine ⟨_, rfl, _, rfl, RgOk.of_le (by decide) (by omega) (by omega) (by omega), fun b nb => ?_⟩
            rw [rg_start0 (k := .ri) (by decide) n]
            have u2 := Same.upd (o := .lst ((startL .ri n).map V.int)) nb
            refine ⟨_, _, dp_list (SqL.of (u2 _ _ upd_same)), dp_list (SqL.of upd_same), shaped_ints _, shaped_ints _, _, rfl, ?_⟩
            have s5 := u1.trans u2
            rw [eqv_l]
            generalize L2.upd (L2.upd H4 a (.lst (ys.map V.int))) b (.lst ((startL .ri n).map V.int)) = H5 at *
            by_cases hp : ys = startL .ri n
            rotate_left
            · refine iteP (by rw [decide_eq_false hp]; rfl) (iteP rfl (q2 false H5 ⟨fun z => (by cases z), fun hF => absurd (sorted_start hy hs hF.1.2.2) hp⟩ s5))
            refine iteN (by rw [decide_eq_true hp]; decide) ?_
            have hn2 : 2 ≤ n ∧ n ≤ 5 := of_decide_eq_true hok
            refine ⟨_, rfl, o, ws, rfl, s5.seq hO, ?_⟩
            refine ⟨_, rfl, _, rfl, _, _, rfl, rfl, _, _, rfl, rfl, .inl ⟨by omega, by omega⟩, _, _, rfl, rfl, ⟨by decide, by decide⟩, rfl, _, rfl, ?_⟩
            by_cases hsum : ws.sum = (n : Int) * ((n : Int) - 1) / 2
            rotate_left
            · refine iteP ?_ (q2 false H5 ⟨fun z => (by cases z), fun hF => absurd hF.1.2.1 hsum⟩ s5)
              rw [decide_eq_false (fun z => hsum (V.int.inj z))]
              rfl
            refine iteN (by show ¬ (!decide (V.int ws.sum = V.int ((n : Int) * ((n : Int) - 1) / 2))) = true; rw [hsum]; simp) ?_
            have hF : Form .ri n ws := ⟨hln, hsum, hp ▸ hy.symm⟩
            have hpos : 0 < ws.length := by omega
            refine ⟨_, rfl, o, ws, rfl, s5.seq hO, hpos, fun M hM1 hM2 => ?_⟩
            refine ⟨_, rfl, o, ws, rfl, s5.seq hO, hpos, fun m hm1 hm2 => ?_⟩
            refine ⟨_, _, rfl, rfl, ?_⟩
            refine ⟨_, _, rfl, rfl, _, rfl, ite2 (fun hd => ?_) (fun hd => ?_)⟩
            · have hd2 : M - m < 200 := of_decide_eq_true hd
              have hs : ∀ x ∈ ws, ∀ y ∈ ws, y - x < 200 := fun x hx y hy => by
                have := hM2 y hy
                have := hm2 x hx
                omega
              refine ⟨_, rfl, _, rfl, t, o, .ri, n, ws, rfl, ⟨Sv.Same.tup s5 ht, s5.seq hO, hln, hok⟩, hF, ring_small hn2 hln hs, fun H6 s6 => ?_⟩
              refine ⟨_, _, rfl, rfl, q2 _ H6 ?_ (s5.trans s6)⟩
              rw [decide_eq_true_iff]
              exact ⟨fun z => ⟨hF, fun _ => z⟩, fun z => z.2 rfl⟩
            · refine q2 false H5 ⟨fun z => (by cases z), fun z => absurd (ring_spread hn2 hln (z.2 rfl) m hm1 M hM1) (fun y => hd (decide_eq_true y))⟩ s5
end
end Sv

/-! What a reading gives, as data: facts live in a part G of the heap that no owned list stands in. By the verifier. -/
namespace Sv
open PySem PySem.Spec PyProof.Rows L2 Evl
instance : Inhabited PyData := ⟨.none⟩
mutual
/-- data that stand in a heap -/
inductive Dq (H : Hp) : V → PyData → Prop
  | non : Dq H .non .none
  | bl (b : Bool) : Dq H (.bl b) (.bool b)
  | int (i : Int) : Dq H (.int i) (.int i)
  | str (x : Str) : Dq H (.str x) (.str x)
  | lst {a : Addr} {xs : List V} {ds : List PyData} : H a = some (.lst xs) → DqAll H xs ds → Dq H (.ref a) (.list ds)
  | tup {a : Addr} {xs : List V} {ds : List PyData} : H a = some (.tup xs) → DqAll H xs ds → Dq H (.ref a) (.tuple ds)
  | dct {a : Addr} : H a = some (.dT []) → Dq H (.ref a) (.dict [])
inductive DqAll (H : Hp) : List V → List PyData → Prop
  | nil : DqAll H [] []
  | cons {v : V} {vs : List V} {d : PyData} {ds : List PyData} : Dq H v d → DqAll H vs ds → DqAll H (v :: vs) (d :: ds)
end
mutual
theorem Dq.dp {K : PySem.W.Frag} {H : Hp} : ∀ {v : V} {d : PyData}, Dq H v d → PyData.hasDict d = false → Dp K H v d
  | _, _, .non, _ => .non
  | _, _, .bl b, _ => .bl b
  | _, _, .int i, _ => .int i
  | _, _, .str x, _ => .str x
  | _, .list ds, .lst h a, e => .lst (.inl (.inl h)) (DqAll.dp a (by simpa only [PyData.hasDict] using e))
  | _, .tuple ds, .tup h a, e => .tup (.inl (.inl h)) (DqAll.dp a (by simpa only [PyData.hasDict] using e))
  | _, _, .dct _, e => by simp [PyData.hasDict] at e
theorem DqAll.dp {K : PySem.W.Frag} {H : Hp} : ∀ {vs : List V} {ds : List PyData}, DqAll H vs ds → PyData.hasDictAll ds = false → DpAll K H vs ds
  | _, _, .nil, _ => .nil
  | _, d :: ds, .cons a b, e => by
    simp only [PyData.hasDictAll, Bool.or_eq_false_iff] at e
    exact .cons (Dq.dp a e.1) (DqAll.dp b e.2)
end
mutual
theorem lay_nodict : ∀ d : PyData, PyData.canLay0 d = true → PyData.hasDict d = false
  | .none, _ => rfl
  | .bool _, _ => rfl
  | .int _, _ => rfl
  | .str _, _ => rfl
  | .list ds, h => by
    have := lay_nodictAll ds h
    simpa only [PyData.hasDict] using this
  | .tuple ds, h => by
    have := lay_nodictAll ds h
    simpa only [PyData.hasDict] using this
  | .dict _, h => by cases h
theorem lay_nodictAll : ∀ ds : List PyData, PyData.canLayAll0 ds = true → PyData.hasDictAll ds = false
  | [], _ => rfl
  | d :: ds, h => by
    have h2 : (PyData.canLay0 d && PyData.canLayAll0 ds) = true := h
    rw [Bool.and_eq_true] at h2
    simp only [PyData.hasDictAll, lay_nodict d h2.1, lay_nodictAll ds h2.2, Bool.or_false]
end
mutual
theorem dpEx {H H' : Hp} (e : Ex H H') : ∀ (d : PyData) (v : V), Dq H v d → Dq H' v d
  | .none, v, h => by cases h; exact .non
  | .bool b, v, h => by cases h; exact .bl b
  | .int i, v, h => by cases h; exact .int i
  | .str x, v, h => by cases h; exact .str x
  | .list ds, v, h => by
    cases h with
    | lst hs ha => exact .lst (e _ _ hs) (dpExAll e ds _ ha)
  | .tuple ds, v, h => by
    cases h with
    | tup hs ha => exact .tup (e _ _ hs) (dpExAll e ds _ ha)
  | .dict _, v, h => by
    cases h with
    | dct h => exact .dct (e _ _ h)
theorem dpExAll {H H' : Hp} (e : Ex H H') : ∀ (ds : List PyData) (vs : List V), DqAll H vs ds → DqAll H' vs ds
  | [], vs, h => by cases h; exact .nil
  | d :: ds, vs, h => by
    cases h with
    | cons h1 h2 => exact .cons (dpEx e d _ h1) (dpExAll e ds _ h2)
end
/-- data, or an object of the class Kind -/
inductive Da where
  | py (d : PyData)
  | kd (k : Nm) (n : Nat)
def KAt0 (C : Addr) (H : Hp) (p : Addr) (k : Nm) (n : Nat) : Prop := ∃ dx, H p = some (.ins C dx (putF "_size" (.int (n : Int)) (putF "_name" (.str k.s) [])))
def At (C : Addr) (G : Hp) (v : V) : Da → Prop
  | .py d => Dq G v d
  | .kd k n => ∃ p, v = .ref p ∧ KAt0 C G p k n
theorem At.mono {C : Addr} {G G' : Hp} {v : V} (e : Ex G G') : ∀ {x : Da}, At C G v x → At C G' v x
  | .py d, h => dpEx e d v h
  | .kd k n, ⟨p, e1, dx, h⟩ => ⟨p, e1, dx, e _ _ h⟩
inductive AtAll (C : Addr) (G : Hp) : List V → List Da → Prop where
  | nil : AtAll C G [] []
  | cons {v : V} {vs : List V} {x : Da} {xs : List Da} : At C G v x → AtAll C G vs xs → AtAll C G (v :: vs) (x :: xs)
theorem AtAll.mono {C : Addr} {G G' : Hp} (e : Ex G G') : ∀ {vs : List V} {xs : List Da}, AtAll C G vs xs → AtAll C G' vs xs
  | _, _, .nil => .nil
  | _, _, .cons a b => .cons (a.mono e) (AtAll.mono e b)
theorem AtAll.len {C : Addr} {G : Hp} : ∀ {vs : List V} {xs : List Da}, AtAll C G vs xs → vs.length = xs.length
  | _, _, .nil => rfl
  | _, _, .cons _ b => by rw [List.length_cons, List.length_cons, AtAll.len b]
theorem AtAll.dp {C : Addr} {G : Hp} : ∀ {ds : List PyData} {vs : List V}, AtAll C G vs (ds.map Da.py) → DqAll G vs ds
  | [], vs, h => by cases h; exact .nil
  | d :: ds, vs, h => by
    cases h with
    | cons a b => exact .cons a (AtAll.dp b)
theorem dpa_at {C : Addr} {G : Hp} : ∀ {ds : List PyData} {vs : List V}, DqAll G vs ds → AtAll C G vs (ds.map Da.py)
  | _, _, .nil => .nil
  | _, _, .cons a b => .cons a (dpa_at b)
theorem dpa_len {G : Hp} : ∀ {vs : List V} {ds : List PyData}, DqAll G vs ds → vs.length = ds.length
  | _, _, .nil => rfl
  | _, _, .cons _ b => by rw [List.length_cons, List.length_cons, dpa_len b]
theorem dpa_get {G : Hp} : ∀ {vs : List V} {ds : List PyData} {i : Nat} {v : V}, DqAll G vs ds → vs[i]? = some v → ∃ d, ds[i]? = some d ∧ Dq G v d
  | _, _, i, v, .nil, h => by cases h
  | _, _, 0, v, .cons a b, h => by cases h; exact ⟨_, rfl, a⟩
  | _, _, i + 1, v, .cons (vs := vs) (ds := ds) a b, h => dpa_get (vs := vs) (ds := ds) (i := i) b (by simpa using h)
theorem dpa_get' {G : Hp} : ∀ {vs : List V} {ds : List PyData} {i : Nat} {d : PyData}, DqAll G vs ds → ds[i]? = some d → ∃ v, vs[i]? = some v ∧ Dq G v d
  | _, _, i, v, .nil, h => by cases h
  | _, _, 0, v, .cons a b, h => by cases h; exact ⟨_, rfl, a⟩
  | _, _, i + 1, d, .cons (vs := vs) (ds := ds) a b, h => dpa_get' (vs := vs) (ds := ds) (i := i) b (by simpa using h)
theorem dpa_append {G : Hp} : ∀ {vs us : List V} {ds es : List PyData}, DqAll G vs ds → DqAll G us es → DqAll G (vs ++ us) (ds ++ es)
  | _, _, _, _, .nil, h => h
  | _, _, _, _, .cons a b, h => .cons a (dpa_append b h)
theorem dpa_drop {G : Hp} : ∀ {vs : List V} {ds : List PyData} (i : Nat), DqAll G vs ds → DqAll G (vs.drop i) (ds.drop i)
  | _, _, 0, h => h
  | _, _, i + 1, .nil => .nil
  | _, _, i + 1, .cons a b => dpa_drop i b
theorem dpa_take {G : Hp} : ∀ {vs : List V} {ds : List PyData} (i : Nat), DqAll G vs ds → DqAll G (vs.take i) (ds.take i)
  | _, _, 0, h => .nil
  | _, _, i + 1, .nil => .nil
  | _, _, i + 1, .cons a b => .cons a (dpa_take i b)
theorem dpa_reverse {G : Hp} : ∀ {vs : List V} {ds : List PyData}, DqAll G vs ds → DqAll G vs.reverse ds.reverse
  | _, _, .nil => .nil
  | _, _, .cons a b => by
    rw [List.reverse_cons, List.reverse_cons]
    exact dpa_append (dpa_reverse b) (.cons a .nil)
/-- owned ahead stays owned: what is new in G2 is new in the heap -/
def Nw (H G G2 : Hp) : Prop := ∀ a, H a ≠ none → G a = none → G2 a = none
/-- from the heap H1 with the facts G to the heap H2 with the facts G2 -/
structure Gs (H1 G H2 G2 : Hp) : Prop where
  h : Ex H1 H2
  g : Ex G G2
  gh : Ex G2 H2
  nw : Nw H1 G G2
theorem Gs.refl {H G : Hp} (e : Ex G H) : Gs H G H G := ⟨Ex.refl _, Ex.refl _, e, fun _ _ h => h⟩
theorem Ex.ne {H H' : Hp} {a : Addr} (e : Ex H H') (h : H a ≠ none) : H' a ≠ none := by
  obtain ⟨o, ho⟩ := Option.ne_none_iff_exists'.mp h
  rw [e a o ho]
  exact fun z => by cases z
theorem Gs.trans {H1 G1 H2 G2 H3 G3 : Hp} (a : Gs H1 G1 H2 G2) (b : Gs H2 G2 H3 G3) : Gs H1 G1 H3 G3 :=
  ⟨a.h.trans b.h, a.g.trans b.g, b.gh, fun x h1 h2 => b.nw x (Ex.ne a.h h1) (a.nw x h1 h2)⟩
theorem Gs.same {H1 G H2 : Hp} (e : Ex G H1) (a : Ex H1 H2) : Gs H1 G H2 G := ⟨a, Ex.refl _, e.trans a, fun _ _ h => h⟩
/-- a new object joins the facts -/
theorem Gs.new {H G : Hp} {p : Addr} {o : HO} (e : Ex G H) (h : H p = none) : Gs H G (L2.upd H p o) (L2.upd G p o) := by
  have hg : G p = none := fresh_back e h
  refine ⟨Ex.new h, Ex.new hg, fun a u z => ?_, fun a h1 h2 => ?_⟩
  · by_cases q : a = p
    · subst q
      rw [upd_same] at z ⊢
      exact z
    · rw [upd_ne q] at z ⊢
      exact e a u z
  · by_cases q : a = p
    · subst q
      exact absurd h h1
    · rw [upd_ne q]
      exact h2
/-- a new object that another heap tells, joins the facts -/
theorem Gs.newAt {H1 G H2 : Hp} {p : Addr} {o : HO} (e : Ex G H1) (h : H1 p = none) (e2 : Ex H1 H2) (h2 : H2 p = some o) : Gs H1 G H2 (L2.upd G p o) := by
  have hg : G p = none := fresh_back e h
  refine ⟨e2, Ex.new hg, fun a u z => ?_, fun a z1 z2 => ?_⟩
  · by_cases q : a = p
    · subst q
      rw [upd_same] at z
      rw [← z]
      exact h2
    · rw [upd_ne q] at z
      exact e2 _ _ (e a u z)
  · by_cases q : a = p
    · subst q
      exact absurd h z1
    · rw [upd_ne q]
      exact z2
/-- both parts of a heap -/
def both (G G' : Hp) : Hp := fun a => match G a with | some o => some o | none => G' a
theorem both_l (G G' : Hp) : Ex G (both G G') := fun a o h => by unfold both; rw [h]
theorem both_r {G G' H : Hp} (e : Ex G H) (e' : Ex G' H) : Ex G' (both G G') := fun a o h => by
  unfold both
  cases q : G a with
  | none => exact h
  | some u =>
    have := e a u q
    rw [e' a o h] at this
    exact this.symm
theorem both_in {G G' H : Hp} (e : Ex G H) (e' : Ex G' H) : Ex (both G G') H := fun a o h => by
  unfold both at h
  cases q : G a with
  | none => rw [q] at h; exact e' a o h
  | some u => rw [q] at h; exact e a o (by rw [q]; exact h)
theorem Gs.widen {H1 G G' H2 G2 : Hp} (e : Ex G G') (e1 : Ex G' H1) (s : Gs H1 G H2 G2) : Gs H1 G' H2 (both G' G2) :=
  ⟨s.h, both_l _ _, both_in (e1.trans s.h) s.gh, fun a h1 h2 => by
    have h3 : G a = none := fresh_back e h2
    unfold both
    rw [h2]
    exact s.nw a h1 h3⟩
section
variable {K : PySem.W.Frag} {C : Addr} {σ : L2.St} {H H' G G' : Hp} {ta tb tc te tx : TE} {t u : TT} {x y z : Da} {v : V} {r : R2}
def EvD (C : Addr) (te : TE) (σ : L2.St) (G : Hp) (x : Da) : Prop := ∀ H1, Ex G H1 → ∀ Q : VK, (∀ v H2 G2, Gs H1 G H2 G2 → At C G2 v x → Q v H2) → te σ H1 Q
def EvAs (C : Addr) (ta : TA) (σ : L2.St) (G : Hp) (xs : List Da) : Prop := ∀ H1, Ex G H1 → ∀ Q : List V → Hp → Prop, (∀ vs H2 G2, Gs H1 G H2 G2 → AtAll C G2 vs xs → Q vs H2) → ta σ H1 Q
theorem EvD.mono (e : Ex G G') (h : EvD C te σ G x) : EvD C te σ G' x := fun H1 e1 Q q => h H1 (e.trans e1) Q fun v H2 G2 s a =>
  q v H2 _ (s.widen e e1) (a.mono (both_r (e1.trans s.h) s.gh))
theorem EvAs.mono {ta : TA} {xs : List Da} (e : Ex G G') (h : EvAs C ta σ G xs) : EvAs C ta σ G' xs := fun H1 e1 Q q => h H1 (e.trans e1) Q fun v H2 G2 s a =>
  q v H2 _ (s.widen e e1) (a.mono (both_r (e1.trans s.h) s.gh))
theorem EvD.is (h : EvD C te σ G x) (e : x = y) : EvD C te σ G y := e ▸ h
/-- a flat value -/
def Flat : V → Da → Prop := fun v x => ∀ (C : Addr) (G : Hp), At C G v x
theorem ed_of (h : Ev te σ G v) (f : Flat v x) : EvD C te σ G x := fun H1 e Q q => h H1 e Q fun H2 e2 => q v H2 G (Gs.same e e2) (f C G)
theorem fI {i : Int} : Flat (.int i) (.py (.int i)) := fun _ _ => .int i
theorem fB {b : Bool} : Flat (.bl b) (.py (.bool b)) := fun _ _ => .bl b
theorem fS {z : Str} : Flat (.str z) (.py (.str z)) := fun _ _ => .str z
theorem fN : Flat .non (.py .none) := fun _ _ => .non
theorem at_int {i : Int} (h : At C G v (.py (.int i))) : v = .int i := by cases (show Dq G v (.int i) from h); rfl
theorem at_bool {b : Bool} (h : At C G v (.py (.bool b))) : v = .bl b := by cases (show Dq G v (.bool b) from h); rfl
theorem at_str {s : Str} (h : At C G v (.py (.str s))) : v = .str s := by cases (show Dq G v (.str s) from h); rfl
theorem at_none (h : At C G v (.py .none)) : v = .non := by cases (show Dq G v .none from h); rfl
theorem at_list {ds : List PyData} (h : At C G v (.py (.list ds))) : ∃ a vs, v = .ref a ∧ G a = some (.lst vs) ∧ DqAll G vs ds := by
  cases (show Dq G v (.list ds) from h) with
  | lst hs ha => exact ⟨_, _, rfl, hs, ha⟩
theorem at_tup {ds : List PyData} (h : At C G v (.py (.tuple ds))) : ∃ a vs, v = .ref a ∧ G a = some (.tup vs) ∧ DqAll G vs ds := by
  cases (show Dq G v (.tuple ds) from h) with
  | tup hs ha => exact ⟨_, _, rfl, hs, ha⟩
theorem EvD.ev {i : Int} (h : EvD C te σ G (.py (.int i))) : Ev te σ G (.int i) := fun H1 e Q q => h H1 e Q fun v H2 G2 s a => by
  rw [at_int a]
  exact q H2 s.h
theorem EvD.evB {b : Bool} (h : EvD C te σ G (.py (.bool b))) : Ev te σ G (.bl b) := fun H1 e Q q => h H1 e Q fun v H2 G2 s a => by
  rw [at_bool a]
  exact q H2 s.h
theorem EvD.evS {s : Str} (h : EvD C te σ G (.py (.str s))) : Ev te σ G (.str s) := fun H1 e Q q => h H1 e Q fun v H2 G2 s a => by
  rw [at_str a]
  exact q H2 s.h
theorem EvD.evN (h : EvD C te σ G (.py .none)) : Ev te σ G .non := fun H1 e Q q => h H1 e Q fun v H2 G2 s a => by
  rw [at_none a]
  exact q H2 s.h
/-! names, written values -/
theorem ed_var {i : Nat} (h : σ[i]? = some (some v)) (a : At C G v x) : EvD C (tVar i) σ G x := fun H1 e Q q => ⟨v, h, q v H1 G (Gs.refl e) a⟩
theorem ed_c (f : Flat v x) : EvD C (tC v) σ G x := fun H1 e Q q => q v H1 G (Gs.refl e) (f C G)
theorem ed_i {i : Int} : EvD C (tC (.int i)) σ G (.py (.int i)) := ed_c fI
theorem ed_b {b : Bool} : EvD C (tC (.bl b)) σ G (.py (.bool b)) := ed_c fB
theorem ed_s {s : Str} : EvD C (tC (.str s)) σ G (.py (.str s)) := ed_c fS
theorem ed_n : EvD C (tC .non) σ G (.py .none) := ed_c fN
/-! numbers -/
theorem ed_op2 {i j : Int} {w : V} (ha : EvD C ta σ G (.py (.int i))) (hb : EvD C tb σ G (.py (.int j))) (hr : RV r (.int i) (.int j) G w) (f : Flat w x) : EvD C (tOp r ta tb) σ G x := ed_of (ev_op ha.ev hb.ev hr) f
theorem ed_add {i j : Int} (ha : EvD C ta σ G (.py (.int i))) (hb : EvD C tb σ G (.py (.int j))) : EvD C (tOp (rI0 fun i j => .int (i + j)) ta tb) σ G (.py (.int (i + j))) := ed_op2 ha hb rv_I0 fI
theorem ed_sub {i j : Int} (ha : EvD C ta σ G (.py (.int i))) (hb : EvD C tb σ G (.py (.int j))) : EvD C (tOp (rI0 fun i j => .int (i - j)) ta tb) σ G (.py (.int (i - j))) := ed_op2 ha hb rv_I0 fI
theorem ed_mul {i j : Int} (ha : EvD C ta σ G (.py (.int i))) (hb : EvD C tb σ G (.py (.int j))) (h : CMul i j) : EvD C (tOp (rI CMul fun i j => .int (i * j)) ta tb) σ G (.py (.int (i * j))) := ed_op2 ha hb (rv_I h) fI
theorem ed_mod {i j : Int} (ha : EvD C ta σ G (.py (.int i))) (hb : EvD C tb σ G (.py (.int j))) (h : 0 < j) : EvD C (tOp (rI (fun _ j => 0 < j) fun i j => .int (i % j)) ta tb) σ G (.py (.int (i % j))) := ed_op2 ha hb (rv_I h) fI
theorem ed_fdiv {i j : Int} (ha : EvD C ta σ G (.py (.int i))) (hb : EvD C tb σ G (.py (.int j))) (h : CDiv i j) : EvD C (tOp (rI CDiv fun i j => .int (i / j)) ta tb) σ G (.py (.int (i / j))) := ed_op2 ha hb (rv_I h) fI
theorem ed_neg {i : Int} (ha : EvD C ta σ G (.py (.int i))) : EvD C (tUn (rU fun i => .int (-i)) ta) σ G (.py (.int (-i))) := ed_of (ev_un ha.ev ru_neg) fI
/-! comparisons -/
theorem ed_lt {i j : Int} (ha : EvD C ta σ G (.py (.int i))) (hb : EvD C tb σ G (.py (.int j))) : EvD C (tOp (rI0 fun i j => .bl (decide (i < j))) ta tb) σ G (.py (.bool (decide (i < j)))) := ed_op2 ha hb rv_I0 fB
theorem ed_le {i j : Int} (ha : EvD C ta σ G (.py (.int i))) (hb : EvD C tb σ G (.py (.int j))) : EvD C (tOp (rI0 fun i j => .bl (decide (i ≤ j))) ta tb) σ G (.py (.bool (decide (i ≤ j)))) := ed_op2 ha hb rv_I0 fB
theorem ed_gt {i j : Int} (ha : EvD C ta σ G (.py (.int i))) (hb : EvD C tb σ G (.py (.int j))) : EvD C (tOp (rI0 fun i j => .bl (decide (j < i))) ta tb) σ G (.py (.bool (decide (j < i)))) := ed_op2 ha hb rv_I0 fB
theorem ed_ge {i j : Int} (ha : EvD C ta σ G (.py (.int i))) (hb : EvD C tb σ G (.py (.int j))) : EvD C (tOp (rI0 fun i j => .bl (decide (j ≤ i))) ta tb) σ G (.py (.bool (decide (j ≤ i)))) := ed_op2 ha hb rv_I0 fB
theorem dI {i j : Int} : decide (V.int i = V.int j) = decide (i = j) := by rw [Bool.eq_iff_iff]; simp
theorem dB {i j : Bool} : decide (V.bl i = V.bl j) = decide (i = j) := by rw [Bool.eq_iff_iff]; simp
theorem dS {i j : Str} : decide (V.str i = V.str j) = decide (i = j) := by rw [Bool.eq_iff_iff]; simp
theorem ed_eq {i j : Int} (ha : EvD C ta σ G (.py (.int i))) (hb : EvD C tb σ G (.py (.int j))) : EvD C (tOp rEq ta tb) σ G (.py (.bool (decide (i = j)))) := dI ▸ ed_op2 ha hb (rv_eq rfl) fB
theorem ed_ne {i j : Int} (ha : EvD C ta σ G (.py (.int i))) (hb : EvD C tb σ G (.py (.int j))) : EvD C (tOp rNe ta tb) σ G (.py (.bool (!decide (i = j)))) := dI ▸ ed_op2 ha hb (rv_ne rfl) fB
theorem ed_eqB {i j : Bool} (ha : EvD C ta σ G (.py (.bool i))) (hb : EvD C tb σ G (.py (.bool j))) : EvD C (tOp rEq ta tb) σ G (.py (.bool (decide (i = j)))) := dB ▸ ed_of (ev_op ha.evB hb.evB (rv_eq rfl)) fB
theorem ed_neB {i j : Bool} (ha : EvD C ta σ G (.py (.bool i))) (hb : EvD C tb σ G (.py (.bool j))) : EvD C (tOp rNe ta tb) σ G (.py (.bool (!decide (i = j)))) := dB ▸ ed_of (ev_op ha.evB hb.evB (rv_ne rfl)) fB
theorem ed_eqS {i j : Str} (ha : EvD C ta σ G (.py (.str i))) (hb : EvD C tb σ G (.py (.str j))) : EvD C (tOp rEq ta tb) σ G (.py (.bool (decide (i = j)))) := dS ▸ ed_of (ev_op ha.evS hb.evS (rv_eq rfl)) fB
theorem ed_neS {i j : Str} (ha : EvD C ta σ G (.py (.str i))) (hb : EvD C tb σ G (.py (.str j))) : EvD C (tOp rNe ta tb) σ G (.py (.bool (!decide (i = j)))) := dS ▸ ed_of (ev_op ha.evS hb.evS (rv_ne rfl)) fB
/-- a kind's name compared with a written one -/
theorem ed_eqM {k j : Nm} (ha : EvD C ta σ G (.py (.str k.s))) (hb : EvD C tb σ G (.py (.str j.s))) : EvD C (tOp rEq ta tb) σ G (.py (.bool (decide (k = j)))) := (ed_eqS ha hb).is (by rw [show decide (k.s = j.s) = decide (k = j) from by rw [Bool.eq_iff_iff, decide_eq_true_iff, decide_eq_true_iff]; exact s_inj])
theorem ed_neM {k j : Nm} (ha : EvD C ta σ G (.py (.str k.s))) (hb : EvD C tb σ G (.py (.str j.s))) : EvD C (tOp rNe ta tb) σ G (.py (.bool (!decide (k = j)))) := (ed_neS ha hb).is (by rw [show decide (k.s = j.s) = decide (k = j) from by rw [Bool.eq_iff_iff, decide_eq_true_iff, decide_eq_true_iff]; exact s_inj])
theorem ed_isNt : EvD C (tC (.str "plain")) σ G (.py (.str Nm.pl.s)) := ed_c fS
theorem ed_m (k : Nm) : EvD C (tC (.str k.s)) σ G (.py (.str k.s)) := ed_c fS
/-! and, or, not, if -/
theorem ed_and {a b : Bool} (h1 : EvD C ta σ G (.py (.bool a))) (h2 : a = true → EvD C tb σ G (.py (.bool b))) : EvD C (tAndV ta tb) σ G (.py (.bool (a && b))) := ed_of (ev_andV h1.evB fun e => (h2 e).evB) fB
theorem ed_or {a b : Bool} (h1 : EvD C ta σ G (.py (.bool a))) (h2 : a = false → EvD C tb σ G (.py (.bool b))) : EvD C (tOrV ta tb) σ G (.py (.bool (a || b))) := ed_of (ev_orV h1.evB fun e => (h2 e).evB) fB
theorem ed_not {a : Bool} (h1 : EvD C ta σ G (.py (.bool a))) : EvD C (tNotV ta) σ G (.py (.bool (!a))) := ed_of (ev_notV h1.evB) fB
theorem et_of {b : Bool} (h : EvD C te σ G (.py (.bool b))) : EvT (tTest te) σ G b := et_test h.evB
theorem et_ofB {b : Bool} (h : EvD C te σ G (.py (.bool b))) : EvT (tB te) σ G b := et_B h.evB
theorem ed_if {b : Bool} (h : EvT t σ G b) (h1 : b = true → EvD C ta σ G x) (h2 : b = false → EvD C tb σ G x) : EvD C (tIf t ta tb) σ G x := fun H1 e Q q => h H1 e _ fun H2 e2 => by
  have s2 : Gs H1 G H2 G := Gs.same e e2
  cases b with
  | true =>
    show ta σ H2 Q
    exact h1 rfl H2 s2.gh Q fun v H3 G3 s a => q v H3 G3 (s2.trans s) a
  | false =>
    show tb σ H2 Q
    exact h2 rfl H2 s2.gh Q fun v H3 G3 s a => q v H3 G3 (s2.trans s) a
theorem ite_da {α : Type} {e : α → Da} {b : Bool} {p q : α} : (if b = true then e p else e q) = e (if b = true then p else q) := by cases b <;> rfl
/-- if, with a value of a type on either side -/
theorem ed_ifE {α : Type} {e : α → PyData} {b : Bool} {p q : α} (h : EvT t σ G b) (h1 : b = true → EvD C ta σ G (.py (e p))) (h2 : b = false → EvD C tb σ G (.py (e q))) : EvD C (tIf t ta tb) σ G (.py (e (if b = true then p else q))) :=
  ed_if h (fun z => by subst z; exact h1 rfl) fun z => by subst z; exact h2 rfl
/-! arguments, tuples, lists -/
theorem as_nil : EvAs C tNil σ G [] := fun H1 e Q q => q [] H1 G (Gs.refl e) .nil
theorem as_cons {tr : TA} {xs : List Da} (h : EvD C ta σ G x) (hr : EvAs C tr σ G xs) : EvAs C (tCons ta tr) σ G (x :: xs) := fun H1 e Q q =>
  h H1 e _ fun v H2 G2 s a => (hr.mono s.g) H2 s.gh _ fun vs H3 G3 s3 as => q _ H3 G3 (s.trans s3) (.cons (a.mono s3.g) as)
abbrev eL {α : Type} (e : α → PyData) (ws : List α) : PyData := .list (ws.map e)
abbrev eP {α β : Type} (e : α → PyData) (e' : β → PyData) (p : α × β) : PyData := .tuple [e p.1, e' p.2]
abbrev eM (k : Nm) : PyData := .str k.s
abbrev eId (d : PyData) : PyData := d
abbrev toldD (k : Nm) (n : Nat) : PyData := .tuple [.str k.s, .int (n : Int)]
theorem ed_tup {ta : TA} {ds : List PyData} (h : EvAs C ta σ G (ds.map Da.py)) (hl : ds.length ≤ 100000) : EvD C (tTup ta) σ G (.py (.tuple ds)) := fun H1 e Q q =>
  h H1 e _ fun vs H2 G2 s a => ⟨sz_of (by rw [a.len, List.length_map]; exact hl), fun p hp => q _ _ _ (s.trans (Gs.new s.gh hp)) (.tup upd_same (dpExAll (Ex.new (fresh_back s.gh hp)) _ _ a.dp))⟩
theorem ed_lst {ta : TA} {ds : List PyData} (h : EvAs C ta σ G (ds.map Da.py)) (hl : ds.length ≤ 100000) : EvD C (tLst ta) σ G (.py (.list ds)) := fun H1 e Q q =>
  h H1 e _ fun vs H2 G2 s a => ⟨sz_of (by rw [a.len, List.length_map]; exact hl), fun p hp => q _ _ _ (s.trans (Gs.new s.gh hp)) (.lst upd_same (dpExAll (Ex.new (fresh_back s.gh hp)) _ _ a.dp))⟩
/-- an index -/
def getI {α : Type} [Inhabited α] (ws : List α) (i : Int) : α := ws.getD (if 0 ≤ i then i.toNat else (ws.length + i).toNat) default
theorem atI_getI {α β : Type} [Inhabited α] {f : α → β} {ws : List α} {i : Int} (h : -(ws.length : Int) ≤ i ∧ i < ws.length) : atI (ws.map f) i = some (f (getI ws i)) := by
  unfold atI ixN getI
  rw [List.length_map]
  by_cases h0 : 0 ≤ i
  · rw [if_pos h0, if_pos h.2, if_pos h0]
    have hl : i.toNat < ws.length := by omega
    show (ws.map f)[i.toNat]? = _
    rw [List.getElem?_map, List.getD_eq_getElem?_getD, List.getElem?_eq_getElem hl]
    rfl
  · rw [if_neg h0, if_pos h.1, if_neg h0]
    have hl : ((ws.length : Int) + i).toNat < ws.length := by omega
    show (ws.map f)[_]? = _
    have e : (i + (ws.length : Int)).toNat = ((ws.length : Int) + i).toNat := by omega
    first
      | rw [List.getElem?_map, List.getD_eq_getElem?_getD, List.getElem?_eq_getElem hl]; rfl
      | rw [e, List.getElem?_map, List.getD_eq_getElem?_getD, List.getElem?_eq_getElem hl]; rfl
theorem atI_dp {ds : List PyData} {vs : List V} {i : Int} {d : PyData} (h : DqAll G vs ds) (ha : atI ds i = some d) : ∃ v, atI vs i = some v ∧ Dq G v d := by
  unfold atI at ha ⊢
  rw [dpa_len h]
  cases q : ixN ds.length i with
  | none => rw [q] at ha; cases ha
  | some j =>
    rw [q] at ha
    exact dpa_get' h ha
theorem ed_ixD {ds : List PyData} {i : Int} {d : PyData} (ha : EvD C ta σ G (.py (.list ds))) (hb : EvD C tb σ G (.py (.int i))) (h : atI ds i = some d) : EvD C (tOp (rIxL K) ta tb) σ G (.py d) := fun H1 e Q q =>
  ha H1 e _ fun v H2 G2 s a => (hb.mono s.g) H2 s.gh _ fun v2 H3 G3 s3 a3 => by
    obtain ⟨p, vs, rfl, hs, hd⟩ := at_list a
    rw [at_int a3]
    obtain ⟨w, hw, hdw⟩ := atI_dp hd h
    exact ⟨p, vs, i, w, rfl, rfl, ex_l (s3.g.trans s3.gh) (sq_of hs), hw, q w H3 G3 (s.trans s3) (dpEx s3.g _ _ hdw)⟩
theorem ed_ixTD {ds : List PyData} {i : Int} {d : PyData} (ha : EvD C ta σ G (.py (.tuple ds))) (hb : EvD C tb σ G (.py (.int i))) (h : atI ds i = some d) : EvD C (tOp (rIxT K) ta tb) σ G (.py d) := fun H1 e Q q =>
  ha H1 e _ fun v H2 G2 s a => (hb.mono s.g) H2 s.gh _ fun v2 H3 G3 s3 a3 => by
    obtain ⟨p, vs, rfl, hs, hd⟩ := at_tup a
    rw [at_int a3]
    obtain ⟨w, hw, hdw⟩ := atI_dp hd h
    exact ⟨p, vs, i, w, rfl, rfl, ex_t (s3.g.trans s3.gh) (st_of hs), hw, q w H3 G3 (s.trans s3) (dpEx s3.g _ _ hdw)⟩
theorem ed_ix {α : Type} [Inhabited α] {f : α → PyData} {ws : List α} {i : Int} (ha : EvD C ta σ G (.py (eL f ws))) (hb : EvD C tb σ G (.py (.int i))) (h : -(ws.length : Int) ≤ i ∧ i < ws.length) : EvD C (tOp (rIxL K) ta tb) σ G (.py (f (getI ws i))) := ed_ixD ha hb (atI_getI h)
theorem ed_ix0 {d : PyData} {ds : List PyData} (ha : EvD C ta σ G (.py (.tuple (d :: ds)))) (hb : EvD C tb σ G (.py (.int 0))) : EvD C (tOp (rIxT K) ta tb) σ G (.py d) := ed_ixTD ha hb (by
  show (ixN (d :: ds).length 0).bind _ = _
  rw [show ixN (d :: ds).length 0 = some 0 from by unfold ixN; rw [if_pos (by decide), if_pos (by rw [List.length_cons]; omega)]; rfl]
  rfl)
theorem ed_ix1 {d d' : PyData} {ds : List PyData} (ha : EvD C ta σ G (.py (.tuple (d :: d' :: ds)))) (hb : EvD C tb σ G (.py (.int 1))) : EvD C (tOp (rIxT K) ta tb) σ G (.py d') := ed_ixTD ha hb (by
  show (ixN (d :: d' :: ds).length 1).bind _ = _
  rw [show ixN (d :: d' :: ds).length 1 = some 1 from by unfold ixN; rw [if_pos (by decide), if_pos (by rw [List.length_cons, List.length_cons]; omega)]; rfl]
  rfl)
end
end Sv

/-! New lists, walks, comprehensions, calls and statements over the facts. By the verifier. -/
namespace Sv
open PySem PySem.Spec PyProof.Rows L2 Evl
section
variable {K : PySem.W.Frag} {C : Addr} {σ : L2.St} {H H' G G' : Hp} {ta tb tc te tx tl : TE} {t u : TT} {x y z : Da} {v : V} {r : R2}
/-- a new list, not yet among the facts -/
def EvN (C : Addr) (te : TE) (σ : L2.St) (G : Hp) (ds : List PyData) : Prop := ∀ H1, Ex G H1 → ∀ Q : VK, (∀ p vs H2 G2, Gs H1 G H2 G2 → H1 p = none → G2 p = none → H2 p = some (.lst vs) → DqAll G2 vs ds → Q (.ref p) H2) → te σ H1 Q
theorem Gs.join {H1 G H2 G2 : Hp} {p : Addr} {o : HO} (s : Gs H1 G H2 G2) (h : H1 p = none) (h2 : H2 p = some o) (hg : G2 p = none) : Gs H1 G H2 (L2.upd G2 p o) := by
  refine ⟨s.h, s.g.trans (Ex.new hg), fun a u z => ?_, fun a z1 z2 => ?_⟩
  · by_cases q : a = p
    · subst q
      rw [upd_same] at z
      rw [← z]
      exact h2
    · rw [upd_ne q] at z
      exact s.gh a u z
  · by_cases q : a = p
    · subst q
      exact absurd h z1
    · rw [upd_ne q]
      exact s.nw a z1 z2
theorem EvN.d {ds : List PyData} (h : EvN C te σ G ds) : EvD C te σ G (.py (.list ds)) := fun H1 e Q q => h H1 e Q fun p vs H2 G2 s h1 hg h2 a =>
  q _ H2 _ (s.join h1 h2 hg) (.lst upd_same (dpExAll (Ex.new hg) _ _ a))
theorem EvN.mono {ds : List PyData} (e : Ex G G') (h : EvN C te σ G ds) : EvN C te σ G' ds := fun H1 e1 Q q => h H1 (e.trans e1) Q fun p vs H2 G2 s h1 hg h2 a =>
  q p vs H2 _ (s.widen e e1) h1 (by unfold both; rw [fresh_back e1 h1]; exact hg) h2 (dpExAll (both_r (e1.trans s.h) s.gh) _ _ a)
theorem EvN.is {ds es : List PyData} (h : EvN C te σ G ds) (e : ds = es) : EvN C te σ G es := e ▸ h
theorem en_lst {ta : TA} {ds : List PyData} (h : EvAs C ta σ G (ds.map Da.py)) (hl : ds.length ≤ 100000) : EvN C (tLst ta) σ G ds := fun H1 e Q q =>
  h H1 e _ fun vs H2 G2 s a => ⟨sz_of (by rw [a.len, List.length_map]; exact hl), fun p hp => q p vs _ G2 (s.trans (Gs.same s.gh (Ex.new hp))) (fresh_back s.h hp) (fresh_back s.gh hp) upd_same a.dp⟩
theorem en_list {ds : List PyData} (ha : EvD C ta σ G (.py (.list ds))) : EvN C (tCB (fun xs H Q => ∃ p ys, xs = [.ref p] ∧ (SqL K H p ys ∨ SqT K H p ys) ∧ ∀ l, H l = none → Q (.ref l) (L2.upd H l (.lst ys))) (tCons ta tNil)) σ G ds := fun H1 e Q q =>
  ha H1 e _ fun v H2 G2 s a => by
    obtain ⟨p, vs, rfl, hs, hd⟩ := at_list a
    exact ⟨p, vs, rfl, .inl (ex_l s.gh (sq_of hs)), fun l hl => q l vs _ G2 (s.trans (Gs.same s.gh (Ex.new hl))) (fresh_back s.h hl) (fresh_back s.gh hl) upd_same hd⟩
theorem en_listT {ds : List PyData} (ha : EvD C ta σ G (.py (.tuple ds))) : EvN C (tCB (fun xs H Q => ∃ p ys, xs = [.ref p] ∧ (SqL K H p ys ∨ SqT K H p ys) ∧ ∀ l, H l = none → Q (.ref l) (L2.upd H l (.lst ys))) (tCons ta tNil)) σ G ds := fun H1 e Q q =>
  ha H1 e _ fun v H2 G2 s a => by
    obtain ⟨p, vs, rfl, hs, hd⟩ := at_tup a
    exact ⟨p, vs, rfl, .inr (ex_t s.gh (st_of hs)), fun l hl => q l vs _ G2 (s.trans (Gs.same s.gh (Ex.new hl))) (fresh_back s.h hl) (fresh_back s.gh hl) upd_same hd⟩
theorem ed_tupOf {ds : List PyData} (ha : EvD C ta σ G (.py (.list ds))) : EvD C (tCB (fun xs H Q => ∃ p ys, xs = [.ref p] ∧ ((SqL K H p ys ∧ ∀ l, H l = none → Q (.ref l) (L2.upd H l (.tup ys))) ∨ (SqT K H p ys ∧ Q (.ref p) H))) (tCons ta tNil)) σ G (.py (.tuple ds)) := fun H1 e Q q =>
  ha H1 e _ fun v H2 G2 s a => by
    obtain ⟨p, vs, rfl, hs, hd⟩ := at_list a
    exact ⟨p, vs, rfl, .inl ⟨ex_l s.gh (sq_of hs), fun l hl => q _ _ _ (s.trans (Gs.new s.gh hl)) (.tup upd_same (dpExAll (Ex.new (fresh_back s.gh hl)) _ _ hd))⟩⟩
theorem ed_len {ds : List PyData} (ha : EvD C ta σ G (.py (.list ds))) : EvD C (tCB (fun xs H Q => ∃ p ys, xs = [.ref p] ∧ (SqL K H p ys ∨ SqT K H p ys) ∧ Q (.int ys.length) H) (tCons ta tNil)) σ G (.py (.int (ds.length : Int))) := fun H1 e Q q =>
  ha H1 e _ fun v H2 G2 s a => by
    obtain ⟨p, vs, rfl, hs, hd⟩ := at_list a
    refine ⟨p, vs, rfl, .inl (ex_l s.gh (sq_of hs)), ?_⟩
    rw [dpa_len hd]
    exact q _ H2 G2 s (.int _)
theorem ed_lenT {ds : List PyData} (ha : EvD C ta σ G (.py (.tuple ds))) : EvD C (tCB (fun xs H Q => ∃ p ys, xs = [.ref p] ∧ (SqL K H p ys ∨ SqT K H p ys) ∧ Q (.int ys.length) H) (tCons ta tNil)) σ G (.py (.int (ds.length : Int))) := fun H1 e Q q =>
  ha H1 e _ fun v H2 G2 s a => by
    obtain ⟨p, vs, rfl, hs, hd⟩ := at_tup a
    refine ⟨p, vs, rfl, .inr (ex_t s.gh (st_of hs)), ?_⟩
    rw [dpa_len hd]
    exact q _ H2 G2 s (.int _)
theorem ed_lenL {α : Type} {f : α → PyData} {ws : List α} (ha : EvD C ta σ G (.py (eL f ws))) : EvD C (tCB (fun xs H Q => ∃ p ys, xs = [.ref p] ∧ (SqL K H p ys ∨ SqT K H p ys) ∧ Q (.int ys.length) H) (tCons ta tNil)) σ G (.py (.int (ws.length : Int))) := (ed_len ha).is (by rw [List.length_map])
/-- slices -/
theorem dpa_cut {vs : List V} {ds : List PyData} {lo hi : Option Int} (h : DqAll G vs ds) : DqAll G (cutV vs lo hi) ((ds.drop (HT.sIx ds.length 0 lo)).take (HT.sIx ds.length ds.length hi - HT.sIx ds.length 0 lo)) := by
  unfold cutV
  rw [dpa_len h]
  exact dpa_take _ (dpa_drop _ h)
def cutL {α : Type} (ws : List α) (lo hi : Option Int) : List α := (ws.drop (HT.sIx ws.length 0 lo)).take (HT.sIx ws.length ws.length hi - HT.sIx ws.length 0 lo)
theorem en_sl {tlo thi : L2.TO} {lo hi : Option Int} {ds : List PyData} (ha : EvD C ta σ G (.py (.list ds))) (h1 : EvO tlo σ G lo) (h2 : EvO thi σ G hi) : EvN C (tSl (rSlL K) ta tlo thi) σ G (cutL ds lo hi) := fun H1 e Q q =>
  ha H1 e _ fun v H2 G2 s a => h1 H2 (s.g.trans s.gh) _ fun H3 e3 => h2 H3 ((s.g.trans s.gh).trans e3) _ fun H4 e4 => by
    obtain ⟨p, vs, rfl, hs, hd⟩ := at_list a
    have e34 := e3.trans e4
    exact ⟨p, vs, rfl, ex_l (s.gh.trans e34) (sq_of hs), fun l hl => q l _ _ G2 (s.trans (Gs.same s.gh (e34.trans (Ex.new hl)))) (fresh_back (s.h.trans e34) hl) (fresh_back (s.gh.trans e34) hl) upd_same (dpa_cut hd)⟩
theorem cutL_map {α β : Type} (f : α → β) (ws : List α) (lo hi : Option Int) : cutL (ws.map f) lo hi = (cutL ws lo hi).map f := by
  unfold cutL
  rw [List.length_map, List.map_take, List.map_drop]
theorem en_slL {α : Type} {f : α → PyData} {ws : List α} {tlo thi : L2.TO} {lo hi : Option Int} (ha : EvD C ta σ G (.py (eL f ws))) (h1 : EvO tlo σ G lo) (h2 : EvO thi σ G hi) : EvN C (tSl (rSlL K) ta tlo thi) σ G ((cutL ws lo hi).map f) := (en_sl ha h1 h2).is (cutL_map f ws lo hi)
theorem eo_int {i : Int} (h : EvD C te σ G (.py (.int i))) : EvO (tPart te) σ G (some i) := eo_some h.ev
/-- two lists in one -/
def rCatS : R2 := fun x y H Q => ∃ l b xs zs, x = .ref l ∧ y = .ref b ∧ L2.Rd H l (.lst xs) ∧ L2.Rd H b (.lst zs) ∧ xs.length + zs.length ≤ sizeLine ∧ ∀ p, H p = none → Q (.ref p) (L2.upd H p (.lst (xs ++ zs)))
theorem op_catS {X : Cx} : OpR X (binaryOp .Add) rCatS := by
  intro pins s σ H x y v u Q I rx ry h
  obtain ⟨l, b, xs, zs, rfl, rfl, hH, hB, hz, q⟩ := h
  cases rx
  cases ry
  obtain ⟨z, its, n, r, e⟩ := hH.ok I.hok
  obtain ⟨z2, its2, n2, r2, e2⟩ := hB.ok I.hok
  have n1 := r.length
  have m1 := r2.length
  refine PySem.P.add_list e e2 ?_ (by rw [List.size_toArray, List.size_toArray]; omega)
  have ea : its.toArray ++ its2.toArray = (its ++ its2).toArray := by simp
  rw [ea]
  exact ⟨.ref _, _, I.lnew (t' := s.toks) (r.append r2) (by rw [List.length_append]; omega), rfl, q _ I.fresh⟩
def rRepS : R2 := fun x y H Q => ∃ l k xs, x = .ref l ∧ y = .int k ∧ L2.Rd H l (.lst xs) ∧ -(2 ^ 63) ≤ k ∧ k < 2 ^ 63 ∧ xs.length * k.toNat ≤ sizeLine ∧
  ∀ p, H p = none → Q (.ref p) (L2.upd H p (.lst (List.replicate k.toNat xs).flatten))
theorem op_repS {X : Cx} : OpR X (binaryOp .Mult) rRepS := by
  intro pins s σ H x y v u Q I rx ry h
  obtain ⟨l, k, xs, rfl, rfl, hH, h1, h2, hz, q⟩ := h
  cases rx
  obtain ⟨t, rfl⟩ := ry
  obtain ⟨z, its, n, r, e⟩ := hH.ok I.hok
  have hl := r.length
  have hlen : its.toArray.size * k.toNat ≤ sizeLine := by rw [List.size_toArray, ← hl]; exact hz
  have hcap : ¬ its.toArray.size * k.toNat > (2 ^ 63 - 1) / 8 := by
    have : (sizeLine : Nat) ≤ (2 ^ 63 - 1) / 8 := by decide
    omega
  have hfit : ¬ (!Builtin.List.listFitsIndex k) = true := by
    rw [fitsIndex_both h1 h2]
    exact Bool.false_ne_true
  have hlong : ¬ Builtin.List.listTooLong (its.toArray.size * k.toNat) = true := by
    rw [notLongL hlen]
    exact Bool.false_ne_true
  have hnew : List.foldl (fun x1 x2 => x1 ++ x2) #[] (List.replicate (if its.toArray.isEmpty = true then 0 else k.toNat) its.toArray) = (List.replicate k.toNat its).flatten.toArray := by
    have f0 : ∀ m : Nat, List.foldl (fun x1 x2 => x1 ++ x2) #[] (List.replicate m its.toArray) = (List.replicate m its).flatten.toArray := fun m => by
      have := foldl_rep its m []
      rw [List.nil_append] at this
      exact this
    rw [f0]
    cases its with
    | nil => simp
    | cons a r' => rw [if_neg (by simp)]
  refine wpAny_binaryOp_repeat_ref (T := "list") (U := "int") (by decide) ⟨_, e, rfl⟩ (fun s' => typeIs_int s' k t) noFill_list_mul F.fills_int_mul F.slot_int_rmul repeat_list F.slot_int_index.lookup
    (call_meets F.slot_int_rmul (typeIs_int s k t) F.entry_int_rmul (F.args_int_rmul_2 _ _) (int___rmul___int_list k t l its.toArray n)
      ⟨e, rfl, ⟨_, e, rfl⟩, call_meets F.slot_list_mul ⟨_, e, rfl⟩ F.entry_list_mul (F.args_list_mul_2 _ _) (AutoListH.list___mul___list_int_3 l its.toArray n k t hfit hcap hlong) ⟨e, ?_⟩⟩)
  rw [hnew]
  exact ⟨.ref _, _, I.lnew (t' := s.toks) (r.rep k.toNat) (by rw [PyProof.Rows.lm_len_rep_flat, Nat.mul_comm]; exact hz), rfl, q _ I.fresh⟩
theorem en_cat {ds es : List PyData} (ha : EvD C ta σ G (.py (.list ds))) (hb : EvD C tb σ G (.py (.list es))) (hz : ds.length + es.length ≤ 100000) : EvN C (tOp rCatS ta tb) σ G (ds ++ es) := fun H1 e Q q =>
  ha H1 e _ fun v H2 G2 s a => (hb.mono s.g) H2 s.gh _ fun v2 H3 G3 s3 a3 => by
    obtain ⟨p, vs, rfl, hs, hd⟩ := at_list a
    obtain ⟨p2, us, rfl, hs2, hd2⟩ := at_list a3
    exact ⟨p, p2, vs, us, rfl, rfl, ex_rd (s3.g.trans s3.gh) (.inl hs), ex_rd s3.gh (.inl hs2), sz_of (by rw [dpa_len hd, dpa_len hd2]; exact hz), fun l hl => q l _ _ G3 ((s.trans s3).trans (Gs.same s3.gh (Ex.new hl))) (fresh_back (s.h.trans s3.h) hl) (fresh_back s3.gh hl) upd_same (dpa_append (dpExAll s3.g _ _ hd) hd2)⟩
theorem en_catL {α : Type} {f : α → PyData} {ws us : List α} (ha : EvD C ta σ G (.py (eL f ws))) (hb : EvD C tb σ G (.py (eL f us))) (hz : ws.length + us.length ≤ 100000) : EvN C (tOp rCatS ta tb) σ G ((ws ++ us).map f) := (en_cat ha hb (by rw [List.length_map, List.length_map]; exact hz)).is (List.map_append).symm
/-- a list so many times -/
theorem dpa_rep {vs : List V} {ds : List PyData} (h : DqAll G vs ds) : ∀ n : Nat, DqAll G (List.replicate n vs).flatten (List.replicate n ds).flatten
  | 0 => .nil
  | n + 1 => by
    rw [List.replicate_succ, List.replicate_succ, List.flatten_cons, List.flatten_cons]
    exact dpa_append h (dpa_rep h n)
theorem en_rep {ds : List PyData} {i : Int} (ha : EvD C ta σ G (.py (.list ds))) (hb : EvD C tb σ G (.py (.int i))) (hz : -(2 ^ 62) ≤ i ∧ i < 2 ^ 62 ∧ ds.length * i.toNat ≤ 100000) : EvN C (tOp rRepS ta tb) σ G (List.replicate i.toNat ds).flatten := fun H1 e Q q =>
  ha H1 e _ fun v H2 G2 s a => (hb.mono s.g) H2 s.gh _ fun v2 H3 G3 s3 a3 => by
    obtain ⟨p, vs, rfl, hs, hd⟩ := at_list a
    rw [at_int a3]
    exact ⟨p, i, vs, rfl, rfl, ex_rd (s3.g.trans s3.gh) (.inl hs), by omega, by omega, sz_of (by rw [dpa_len hd]; exact hz.2.2), fun l hl => q l _ _ G3 ((s.trans s3).trans (Gs.same s3.gh (Ex.new hl))) (fresh_back (s.h.trans s3.h) hl) (fresh_back s3.gh hl) upd_same (dpa_rep (dpExAll s3.g _ _ hd) _)⟩
theorem en_repL {α : Type} {f : α → PyData} {ws : List α} {i : Int} (ha : EvD C ta σ G (.py (eL f ws))) (hb : EvD C tb σ G (.py (.int i))) (hz : -(2 ^ 62) ≤ i ∧ i < 2 ^ 62 ∧ ws.length * i.toNat ≤ 100000) : EvN C (tOp rRepS ta tb) σ G ((List.replicate i.toNat ws).flatten.map f) := (en_rep ha hb (by rw [List.length_map]; exact hz)).is (by rw [List.map_flatten, List.map_replicate])
/-! a list and the numbers of a range -/
def rngI (lo hi : Int) : List Int := (List.range (hi - lo).toNat).map fun (i : Nat) => lo + (i : Int)
theorem rng_get {lo hi : Int} {i : Nat} (h : i < (hi - lo).toNat) : (rngI lo hi)[i]? = some (lo + (i : Int)) := by
  unfold rngI
  rw [List.getElem?_map, List.getElem?_range h]
  rfl
theorem rng_len (lo hi : Int) : (rngI lo hi).length = (hi - lo).toNat := by unfold rngI; rw [List.length_map, List.length_range]
theorem dpa_ints : ∀ ws : List Int, DqAll G (ws.map V.int) (ws.map PyData.int)
  | [] => .nil
  | w :: ws => .cons (.int w) (dpa_ints ws)
theorem dpa_int_eq : ∀ {ws : List Int} {vs : List V}, DqAll G vs (ws.map PyData.int) → vs = ws.map V.int
  | [], vs, h => by cases h; rfl
  | w :: ws, vs, h => by
    cases h with
    | cons a b =>
      cases a
      rw [dpa_int_eq b]
      rfl
theorem rgV_rng (a b : Int) : rgV a b = (rngI a b).map V.int := by
  unfold rgV rngI
  rw [List.map_map]
  rfl
theorem en_rg1 {n : Int} (ha : EvD C ta σ G (.py (.int n))) (hz : n ≤ 100000 ∧ -100000 ≤ n) : EvN C (tLstRg (tRg1 ta)) σ G ((rngI 0 n).map PyData.int) := fun H1 e Q q =>
  ha H1 e _ fun v H2 G2 s a => by
    rw [at_int a]
    refine ⟨n, rfl, ⟨by omega, by omega, by omega, by omega, by omega⟩, fun l hl => q l _ _ G2 (s.trans (Gs.same s.gh (Ex.new hl))) (fresh_back s.h hl) (fresh_back s.gh hl) upd_same ?_⟩
    rw [rgV_rng]
    exact dpa_ints _
theorem en_rg2 {m n : Int} (ha : EvD C ta σ G (.py (.int m))) (hb : EvD C tb σ G (.py (.int n))) (hz : (n ≤ 100000 ∧ -100000 ≤ n) ∧ m ≤ 100000 ∧ -100000 ≤ m) : EvN C (tLstRg (tRg2 ta tb)) σ G ((rngI m n).map PyData.int) := fun H1 e Q q =>
  ha H1 e _ fun v H2 G2 s a => (hb.mono s.g) H2 s.gh _ fun v2 H3 G3 s3 a3 => by
    rw [at_int a, at_int a3]
    refine ⟨m, n, rfl, rfl, ⟨by omega, by omega, by omega, by omega, by omega⟩, fun l hl => q l _ _ G3 ((s.trans s3).trans (Gs.same s3.gh (Ex.new hl))) (fresh_back (s.h.trans s3.h) hl) (fresh_back s3.gh hl) upd_same ?_⟩
    rw [rgV_rng]
    exact dpa_ints _
/-! walks -/
def WkD (G : Hp) (J : It) (ds : List PyData) : Prop := ∃ (Gp : Hp → Prop) (Y : Nat → Hp → V → Hp → Prop), Walk J ds.length Gp Y ∧ (∀ H, Ex G H → Gp H) ∧ ∀ i H x H' Gi, i < ds.length → Ex G Gi → Ex Gi H → Y i H x H' → ∃ G' d, ds[i]? = some d ∧ Gs H Gi H' G' ∧ Dq G' x d
def EvI (wi : TI) (σ : L2.St) (G : Hp) (ds : List PyData) : Prop := ∀ H1, Ex G H1 → ∀ R : It → Hp → Prop, (∀ J H2 G2, Gs H1 G H2 G2 → WkD G2 J ds → R J H2) → wi σ H1 R
theorem ei_list {ds : List PyData} (h : EvD C tl σ G (.py (.list ds))) : EvI (iList K tl) σ G ds := fun H1 e R k =>
  h H1 e _ fun v H2 G2 s a => by
    obtain ⟨p, vs, rfl, hs, hd⟩ := at_list a
    refine ⟨p, rfl, ⟨vs, ex_l s.gh (sq_of hs)⟩, k _ H2 G2 s ⟨_, _, by rw [← dpa_len hd]; exact walk_list, fun H e => ex_l e (sq_of hs), fun i H x H' Gi hi e1 e2 y => ?_⟩⟩
    obtain ⟨rfl, hx⟩ := y
    obtain ⟨d, h1, h2⟩ := dpa_get hd hx
    exact ⟨Gi, d, h1, Gs.refl e2, dpEx e1 _ _ h2⟩
theorem ei_tup {ds : List PyData} (h : EvD C tl σ G (.py (.tuple ds))) : EvI (iTup K tl) σ G ds := fun H1 e R k =>
  h H1 e _ fun v H2 G2 s a => by
    obtain ⟨p, vs, rfl, hs, hd⟩ := at_tup a
    refine ⟨p, rfl, ⟨vs, ex_t s.gh (st_of hs)⟩, k _ H2 G2 s ⟨_, _, by rw [← dpa_len hd]; exact walk_tup, fun H e => ex_t e (st_of hs), fun i H x H' Gi hi e1 e2 y => ?_⟩⟩
    obtain ⟨rfl, hx⟩ := y
    obtain ⟨d, h1, h2⟩ := dpa_get hd hx
    exact ⟨Gi, d, h1, Gs.refl e2, dpEx e1 _ _ h2⟩
theorem ei_rg1 {n : Int} (h : EvD C ta σ G (.py (.int n))) (hz : -100000 ≤ n ∧ n ≤ 100000) : EvI (iRng1 (tCons ta tNil)) σ G ((rngI 0 n).map PyData.int) := fun H1 e R k =>
  h H1 e _ fun v H2 G2 s a => by
    rw [at_int a]
    refine ⟨n, rfl, by omega, by omega, k _ H2 G2 s ⟨_, _, by rw [List.length_map, rng_len, Int.sub_zero]; exact walk_range, fun _ _ => trivial, fun i H x H' Gi hi e1 e2 y => ?_⟩⟩
    obtain ⟨rfl, rfl⟩ := y
    rw [List.length_map, rng_len] at hi
    exact ⟨Gi, _, by rw [List.getElem?_map, rng_get hi]; rfl, Gs.refl e2, .int _⟩
theorem ei_rg2 {m n : Int} (h : EvD C ta σ G (.py (.int m))) (h' : EvD C tb σ G (.py (.int n))) (hz : (-100000 ≤ n ∧ n ≤ 100000) ∧ -100000 ≤ m ∧ m ≤ 100000) : EvI (iRng2 (tCons ta (tCons tb tNil))) σ G ((rngI m n).map PyData.int) := fun H1 e R k =>
  h H1 e _ fun v H2 G2 s a => (h'.mono s.g) H2 s.gh _ fun v2 H3 G3 s3 a3 => by
    rw [at_int a, at_int a3]
    refine ⟨m, n, rfl, ⟨by omega, by omega, by omega, by omega⟩, k _ H3 G3 (s.trans s3) ⟨_, _, by rw [List.length_map, rng_len]; exact walk_range, fun _ _ => trivial, fun i H x H' Gi hi e1 e2 y => ?_⟩⟩
    obtain ⟨rfl, rfl⟩ := y
    rw [List.length_map, rng_len] at hi
    exact ⟨Gi, _, by rw [List.getElem?_map, rng_get hi]; rfl, Gs.refl e2, .int _⟩
def enumL {α : Type} (ws : List α) : List (Int × α) := (List.range ws.length).zipWith (fun (i : Nat) x => ((i : Int), x)) ws
theorem enumL_get {α : Type} {ws : List α} {i : Nat} {x : α} (h : ws[i]? = some x) : (enumL ws)[i]? = some ((i : Int), x) := by
  have hi := (List.getElem?_eq_some_iff.mp h).1
  unfold enumL
  rw [List.getElem?_zipWith, List.getElem?_range hi, h]
theorem enumL_len {α : Type} (ws : List α) : (enumL ws).length = ws.length := by unfold enumL; simp
theorem ei_enum {α : Type} {f : α → PyData} {ws : List α} (h : EvD C ta σ G (.py (eL f ws))) : EvI (iEnum K (tCons ta tNil)) σ G ((enumL ws).map (eP PyData.int f)) := fun H1 e R k =>
  h H1 e _ fun v H2 G2 s a => by
    obtain ⟨p, vs, rfl, hs, hd⟩ := at_list a
    have hl := dpa_len hd
    rw [List.length_map] at hl
    refine ⟨p, vs, rfl, ex_l s.gh (sq_of hs), k _ H2 G2 s ⟨_, _, by rw [List.length_map, enumL_len, ← hl]; exact walk_enum, fun H e => ex_l e (sq_of hs), fun i H x H' Gi hi e1 e2 y => ?_⟩⟩
    obtain ⟨T, a, b, rfl, hT, rfl, ea, eb⟩ := y
    cases ea
    obtain ⟨d, h1, h2⟩ := dpa_get hd eb
    rw [List.getElem?_map] at h1
    cases hw : ws[i]? with
    | none => rw [hw] at h1; cases h1
    | some w =>
      rw [hw] at h1
      cases h1
      have ng := fresh_back e2 hT
      exact ⟨_, _, by rw [List.getElem?_map, enumL_get hw]; rfl, Gs.new e2 hT, .tup upd_same (.cons (.int _) (.cons (dpEx (e1.trans (Ex.new ng)) _ _ h2) .nil))⟩
theorem ei_rev {α : Type} {f : α → PyData} {ws : List α} (h : EvD C ta σ G (.py (eL f ws))) : EvI (iRev K (tCons ta tNil)) σ G (ws.reverse.map f) := fun H1 e R k =>
  h H1 e _ fun v H2 G2 s a => by
    obtain ⟨p, vs, rfl, hs, hd⟩ := at_list a
    have hl := dpa_len hd
    rw [List.length_map] at hl
    refine ⟨p, vs, rfl, ex_l s.gh (sq_of hs), k _ H2 G2 s ⟨_, _, by rw [List.length_map, List.length_reverse, ← hl]; exact walk_rev, fun H e => ex_l e (sq_of hs), fun i H x H' Gi hi e1 e2 y => ?_⟩⟩
    obtain ⟨rfl, hx⟩ := y
    obtain ⟨d, h1, h2⟩ := dpa_get hd hx
    rw [List.length_map, List.length_reverse] at hi
    refine ⟨Gi, d, ?_, Gs.refl e2, dpEx e1 _ _ h2⟩
    rw [List.getElem?_map] at h1 ⊢
    rw [List.getElem?_reverse hi, ← hl]
    exact h1
/-! what a target binds -/
def TgOk (K : PySem.W.Frag) (g : TG) (d : PyData) (Bd : Hp → L2.St → L2.St → Prop) : Prop := ∀ v σ H G (Q : L2.St → Hp → Prop), Ex G H → Dq G v d → (∀ σ', Bd G σ σ' → Q σ' H) → g v σ H Q
def BdN (j : Nat) (d : PyData) : Hp → L2.St → L2.St → Prop := fun G σ σ' => ∃ v, Dq G v d ∧ σ' = σ.set j (some v)
def BdP (i j : Nat) (d d' : PyData) : Hp → L2.St → L2.St → Prop := fun G σ σ' => ∃ v v', Dq G v d ∧ Dq G v' d' ∧ σ' = (σ.set i (some v)).set j (some v')
theorem tg_name {j : Nat} {d : PyData} : TgOk K (gName j) d (BdN j d) := fun v σ H G Q e h q => q _ ⟨v, h, rfl⟩
theorem tg_pair {i j : Nat} {d d' : PyData} : TgOk K (gTup K 2 (gCons (gName i) (gCons (gName j) gNil))) (.tuple [d, d']) (BdP i j d d') := fun v σ H G Q e h q => by
  cases h with
  | tup hs ha =>
    cases ha with
    | cons a b =>
      cases b with
      | cons b c =>
        cases c
        exact ⟨_, _, rfl, ex_t e (st_of hs), rfl, _, _, rfl, _, _, rfl, rfl, q _ ⟨_, _, a, b, rfl⟩⟩
/-! comprehensions -/
theorem en_lcG {wi : TI} {g : TG} {vs : List Nat} {α β : Type} {e : α → PyData} {e' : β → PyData} {ws : List α} {Bd : α → Hp → L2.St → L2.St → Prop} (p : α → Bool) (f : α → β)
    (hI : EvI wi σ G (ws.map e)) (hz : ws.length ≤ 100000) (hg : ∀ x ∈ ws, TgOk K g (e x) (Bd x)) (hw : ∀ x G1 σ', Bd x G1 (wipe σ vs) σ' → wipe σ' vs = wipe σ vs)
    (ht : ∀ x ∈ ws, ∀ σ' G1, Ex G G1 → Bd x G1 (wipe σ vs) σ' → EvT t σ' G1 (p x))
    (he : ∀ x ∈ ws, ∀ σ' G1, Ex G G1 → Bd x G1 (wipe σ vs) σ' → p x = true → EvD C te σ' G1 (.py (e' (f x)))) :
    EvN C (tLc wi g t te vs) σ G (((ws.filter p).map f).map e') := by
  intro H0 e0 Q q
  refine hI H0 e0 _ fun J H1 G1 s1 ⟨Gp, Y, W, hGp, hY⟩ => ?_
  rw [List.length_map] at W
  intro D hD
  have nD := fresh_back s1.gh hD
  refine lc_it W (fun i H2 => ∃ Gi acc, Ex H1 H2 ∧ Ex G1 Gi ∧ Ex Gi H2 ∧ Nw H1 G1 Gi ∧ Gi D = none ∧ H2 D = some (.lst acc) ∧ DqAll Gi acc ((((ws.take i).filter p).map f).map e') ∧ acc.length ≤ i) ?_ (fun i H2 _ ⟨Gi, acc, h1, h2, h3, _⟩ => hGp H2 (h2.trans h3)) ?_ ?_
  · exact ⟨G1, [], Ex.new hD, Ex.refl _, s1.gh.trans (Ex.new hD), fun _ _ h => h, nD, upd_same, .nil, Nat.le_refl _⟩
  · rintro i x H2 H3 hi ⟨Gi, acc, h1, h2, h3, h4, h5, h6, h7, h8⟩ hy
    obtain ⟨G3, d, hd, s3, hdx⟩ := hY i H2 x H3 Gi (by rw [List.length_map]; exact hi) h2 h3 hy
    have hwi : ws[i]? = some ws[i] := List.getElem?_eq_getElem hi
    rw [List.getElem?_map, hwi] at hd
    cases hd
    have mem : ws[i] ∈ ws := List.getElem_mem hi
    have etk : ws.take (i + 1) = ws.take i ++ [ws[i]] := by rw [List.take_add_one, hwi]; rfl
    have hD2 : H2 D ≠ none := by rw [h6]; exact fun z => by cases z
    have h5' := s3.nw D hD2 h5
    refine hg _ mem x _ H3 G3 _ s3.gh hdx fun σ2 hb => ⟨hw _ _ _ hb, ?_⟩
    have e3 : Ex G G3 := (s1.g.trans h2).trans s3.g
    refine ht _ mem σ2 G3 e3 hb H3 s3.gh _ fun H4 e4 => ?_
    have hD4 : H4 D = some (.lst acc) := e4 _ _ (s3.h _ _ h6)
    cases hp : p ws[i] with
    | true =>
      refine he _ mem σ2 G3 e3 hb hp H4 (s3.gh.trans e4) _ fun w H5 G5 s5 a5 => ⟨acc, s5.h _ _ hD4, sz_lt (by omega), ?_⟩
      have h55 : G5 D = none := s5.nw D (by rw [hD4]; exact fun z => by cases z) h5'
      refine ⟨G5, acc ++ [w], ?_, (h2.trans s3.g).trans s5.g, Ex.mut s5.gh h55, fun a z1 z2 => ?_, h55, upd_same, ?_, by rw [List.length_append, List.length_singleton]; omega⟩
      · exact Ex.mut (((h1.trans s3.h).trans e4).trans s5.h) hD
      · have z3 := h4 a z1 z2
        have z4 := s3.nw a (Ex.ne h1 z1) z3
        exact s5.nw a (Ex.ne ((h1.trans s3.h).trans e4) z1) z4
      · rw [etk, List.filter_append, List.map_append, List.map_append, List.filter_cons, if_pos hp]
        exact dpa_append (dpExAll (s3.g.trans s5.g) _ _ h7) (.cons a5 .nil)
    | false =>
      refine ⟨G3, acc, (h1.trans s3.h).trans e4, h2.trans s3.g, s3.gh.trans e4, fun a z1 z2 => s3.nw a (Ex.ne h1 z1) (h4 a z1 z2), h5', hD4, ?_, by omega⟩
      rw [etk, List.filter_append, List.filter_cons, if_neg (by rw [hp]; decide)]
      show DqAll G3 acc (((_ ++ []).map f).map e')
      rw [List.append_nil]
      exact dpExAll s3.g _ _ h7
  · rintro H2 ⟨Gi, acc, h1, h2, h3, h4, h5, h6, h7, h8⟩
    rw [List.take_length] at h7
    exact q D acc H2 Gi (s1.trans ⟨h1, h2, h3, h4⟩) (fresh_back s1.h hD) h5 h6 h7
theorem et_yes : EvT tYes σ G true := fun H1 e Q q => q H1 (Ex.refl _)
/-- [f(x) for x in ws if p(x)] -/
theorem en_lc (K : PySem.W.Frag) {wi : TI} {j : Nat} {vs : List Nat} {α β : Type} {e : α → PyData} {e' : β → PyData} {ws : List α} (p : α → Bool) (f : α → β)
    (hI : EvI wi σ G (ws.map e)) (hz : ws.length ≤ 100000) (hw : ∀ x, wipe ((wipe σ vs).set j (some x)) vs = wipe σ vs)
    (ht : ∀ x ∈ ws, ∀ v G1, Ex G G1 → At C G1 v (.py (e x)) → EvT t ((wipe σ vs).set j (some v)) G1 (p x))
    (he : ∀ x ∈ ws, ∀ v G1, Ex G G1 → At C G1 v (.py (e x)) → p x = true → EvD C te ((wipe σ vs).set j (some v)) G1 (.py (e' (f x)))) :
    EvN C (tLc wi (gName j) t te vs) σ G (((ws.filter p).map f).map e') :=
  en_lcG (K := K) (Bd := fun x => BdN j (e x)) p f hI hz (fun x _ => tg_name) (fun x G1 σ' ⟨v, _, h⟩ => by rw [h]; exact hw v) (fun x hx σ' G1 e1 ⟨v, h, h'⟩ => by subst h'; exact ht x hx v G1 e1 h) (fun x hx σ' G1 e1 ⟨v, h, h'⟩ hp => by subst h'; exact he x hx v G1 e1 h hp)
theorem en_lcA (K : PySem.W.Frag) {wi : TI} {j : Nat} {vs : List Nat} {α β : Type} {e : α → PyData} {e' : β → PyData} {ws : List α} (f : α → β)
    (hI : EvI wi σ G (ws.map e)) (hz : ws.length ≤ 100000) (hw : ∀ x, wipe ((wipe σ vs).set j (some x)) vs = wipe σ vs)
    (he : ∀ x ∈ ws, ∀ v G1, Ex G G1 → At C G1 v (.py (e x)) → EvD C te ((wipe σ vs).set j (some v)) G1 (.py (e' (f x)))) :
    EvN C (tLc wi (gName j) tYes te vs) σ G ((ws.map f).map e') :=
  (en_lc K (fun _ => true) f hI hz hw (fun _ _ _ _ _ _ => et_yes) (fun x hx v G1 e1 h _ => he x hx v G1 e1 h)).is (by rw [List.filter_eq_self.mpr fun _ _ => rfl])
/-- [f(a, b) for a, b in ws if p(a, b)] -/
theorem en_lcP {wi : TI} {i j : Nat} {vs : List Nat} {α β γ : Type} {e1 : α → PyData} {e2 : β → PyData} {e' : γ → PyData} {ws : List (α × β)} (p : α × β → Bool) (f : α × β → γ)
    (hI : EvI wi σ G (ws.map (eP e1 e2))) (hz : ws.length ≤ 100000) (hw : ∀ x y, wipe (((wipe σ vs).set i (some x)).set j (some y)) vs = wipe σ vs)
    (ht : ∀ x ∈ ws, ∀ v v' G1, Ex G G1 → At C G1 v (.py (e1 x.1)) → At C G1 v' (.py (e2 x.2)) → EvT t (((wipe σ vs).set i (some v)).set j (some v')) G1 (p x))
    (he : ∀ x ∈ ws, ∀ v v' G1, Ex G G1 → At C G1 v (.py (e1 x.1)) → At C G1 v' (.py (e2 x.2)) → p x = true → EvD C te (((wipe σ vs).set i (some v)).set j (some v')) G1 (.py (e' (f x)))) :
    EvN C (tLc wi (gTup K 2 (gCons (gName i) (gCons (gName j) gNil))) t te vs) σ G (((ws.filter p).map f).map e') :=
  en_lcG (K := K) (Bd := fun x => BdP i j (e1 x.1) (e2 x.2)) p f hI hz (fun x _ => tg_pair) (fun x G1 σ' ⟨v, v', _, _, h⟩ => by rw [h]; exact hw v v') (fun x hx σ' G1 e1 ⟨v, v', h, h', h''⟩ => by subst h''; exact ht x hx v v' G1 e1 h h') (fun x hx σ' G1 e1 ⟨v, v', h, h', h''⟩ hp => by subst h''; exact he x hx v v' G1 e1 h h' hp)
theorem en_lcPA {wi : TI} {i j : Nat} {vs : List Nat} {α β γ : Type} {e1 : α → PyData} {e2 : β → PyData} {e' : γ → PyData} {ws : List (α × β)} (f : α × β → γ)
    (hI : EvI wi σ G (ws.map (eP e1 e2))) (hz : ws.length ≤ 100000) (hw : ∀ x y, wipe (((wipe σ vs).set i (some x)).set j (some y)) vs = wipe σ vs)
    (he : ∀ x ∈ ws, ∀ v v' G1, Ex G G1 → At C G1 v (.py (e1 x.1)) → At C G1 v' (.py (e2 x.2)) → EvD C te (((wipe σ vs).set i (some v)).set j (some v')) G1 (.py (e' (f x)))) :
    EvN C (tLc wi (gTup K 2 (gCons (gName i) (gCons (gName j) gNil))) tYes te vs) σ G ((ws.map f).map e') :=
  (en_lcP (fun _ => true) f hI hz hw (fun _ _ _ _ _ _ _ _ => et_yes) (fun x hx v v' G1 e1 h h' _ => he x hx v v' G1 e1 h h')).is (by rw [List.filter_eq_self.mpr fun _ _ => rfl])
end
end Sv

/-! Lists of orders as repr shows them: small enough, by the verifier. -/
namespace Sv
open PySem PySem.Spec PyProof.Rows L2
def dL (w : List Int) : PyData := .list (w.map .int)
theorem intsD : ∀ ns : List Int, (∀ n ∈ ns, n.natAbs < 10 ^ 12) → PyData.leavesShortAll 13 (ns.map .int) = true ∧ PyData.weightAll (ns.map .int) ≤ 41 * ns.length ∧ PyData.depthAll (ns.map .int) = 0 ∧ PyData.showableAll (ns.map .int) = true ∧ PyData.hasDictAll (ns.map .int) = false
  | [], _ => ⟨rfl, Nat.le_refl _, rfl, rfl, rfl⟩
  | n :: r, h => by
    obtain ⟨a, b, c, d, e⟩ := intsD r fun m hm => h m (List.mem_cons_of_mem _ hm)
    have hn := h n (List.mem_cons_self ..)
    have hlog : n.natAbs.log2 < 40 := by
      by_cases z : n.natAbs = 0
      · rw [z]; decide
      · exact (Nat.log2_lt z).mpr (by omega)
    refine ⟨?_, ?_, ?_, ?_, ?_⟩
    · simp only [List.map_cons, PyData.leavesShortAll, PyData.leavesShort, Bool.and_eq_true, decide_eq_true_eq]
      exact ⟨PyData.shown_int_le hn, a⟩
    · simp only [List.map_cons, PyData.weightAll, PyData.weight, List.length_cons]
      split <;> omega
    · simp only [List.map_cons, PyData.depthAll, PyData.depth, c]
      rfl
    · simp only [List.map_cons, PyData.showableAll, PyData.showable, Bool.and_eq_true, decide_eq_true_eq]
      exact ⟨by omega, d⟩
    · simp only [List.map_cons, PyData.hasDictAll, PyData.hasDict, e, Bool.or_false]
theorem listsD : ∀ wss : List (List Int), (∀ w ∈ wss, w.length ≤ 1000 ∧ ∀ n ∈ w, n.natAbs < 10 ^ 12) → PyData.leavesShortAll 13 (wss.map dL) = true ∧ PyData.weightAll (wss.map dL) ≤ 41001 * wss.length ∧ PyData.depthAll (wss.map dL) ≤ 1 ∧ PyData.showableAll (wss.map dL) = true ∧ PyData.hasDictAll (wss.map dL) = false
  | [], _ => ⟨rfl, Nat.le_refl _, Nat.zero_le _, rfl, rfl⟩
  | w :: r, h => by
    obtain ⟨a, b, c, d, e⟩ := listsD r fun m hm => h m (List.mem_cons_of_mem _ hm)
    obtain ⟨hl, hw⟩ := h w (List.mem_cons_self ..)
    obtain ⟨a1, b1, c1, d1, e1⟩ := intsD w hw
    refine ⟨?_, ?_, ?_, ?_, ?_⟩
    · simp only [List.map_cons, PyData.leavesShortAll, dL, PyData.leavesShort, Bool.and_eq_true]
      exact ⟨a1, a⟩
    · simp only [List.map_cons, PyData.weightAll, dL, PyData.weight, List.length_cons] at b ⊢
      omega
    · simp only [List.map_cons, PyData.depthAll, dL, PyData.depth, c1]
      omega
    · simp only [List.map_cons, PyData.showableAll, dL, PyData.showable, Bool.and_eq_true]
      exact ⟨d1, d⟩
    · simp only [List.map_cons, PyData.hasDictAll, dL, PyData.hasDict, e1, e, Bool.or_false]
/-- what the rule for repr asks of a list of orders -/
theorem showLs {wss : List (List Int)} (h : ∀ w ∈ wss, w.length ≤ 1000 ∧ ∀ n ∈ w, n.natAbs < 10 ^ 12) (hl : wss.length ≤ 20) : (PyData.list (wss.map dL)).showable = true ∧ (PyData.list (wss.map dL)).hasDict = false ∧ (PyData.list (wss.map dL)).depth ≤ 100 ∧ (PyData.list (wss.map dL)).shown.length ≤ sizeLine := by
  obtain ⟨a, b, c, d, e⟩ := listsD wss h
  refine ⟨by simpa only [PyData.showable] using d, by simpa only [PyData.hasDict] using e, ?_, PyData.shown_fits (B := 13) (by decide) (by decide) (by simpa only [PyData.leavesShort] using a) ?_⟩
  · simp only [PyData.depth]
    omega
  · simp only [PyData.weight]
    have : (2 : Nat) ^ 20 = 1048576 := by decide
    omega
theorem showL {w : List Int} (h : ∀ n ∈ w, n.natAbs < 10 ^ 12) (hl : w.length ≤ 1000) : (dL w).showable = true ∧ (dL w).hasDict = false ∧ (dL w).depth ≤ 100 ∧ (dL w).shown.length ≤ sizeLine := by
  obtain ⟨a, b, c, d, e⟩ := intsD w h
  refine ⟨by simpa only [dL, PyData.showable] using d, by simpa only [dL, PyData.hasDict] using e, ?_, PyData.shown_fits (B := 13) (by decide) (by decide) (by simpa only [dL, PyData.leavesShort] using a) ?_⟩
  · simp only [dL, PyData.depth, c]
    omega
  · simp only [dL, PyData.weight]
    have : (2 : Nat) ^ 20 = 1048576 := by decide
    omega
/-! how great items can be -/
theorem bnd_after {k : Nm} {n : Nat} {w : List Int} {s : Nat} {B : Nat} (hs : okS k n (s : Int)) (hl : w.length = n) (h : ∀ j, (w.getD j 0).natAbs ≤ B) (j : Nat) : ((after k n w s).getD j 0).natAbs ≤ B + n := by
  obtain ⟨_, h2⟩ := hs
  have hsn : s < n := by unfold many at h2; split at h2 <;> omega
  have h0 := h 0
  have hs0 := h s
  have hs1 := h (s + 1)
  have hsm := h (s - 1)
  have hj := h j
  unfold after exch
  cases k
  · have h1 : s + 1 < n := by unfold many at h2; rw [if_pos rfl] at h2; omega
    simp only [if_true]
    rw [getD_setS _ _ _ _ (by rw [List.length_set]; omega), getD_setS _ _ _ _ (by omega)]
    repeat' split
    all_goals omega
  · by_cases e0 : s = 0
    · subst e0
      simp only [reduceCtorEq, if_false, false_and, if_true]
      rw [getD_setS _ _ _ _ (by omega)]
      split <;> omega
    · simp only [reduceCtorEq, if_false, false_and, if_neg e0]
      rw [getD_setS _ _ _ _ (by rw [List.length_set]; omega), getD_setS _ _ _ _ (by omega)]
      repeat' split
      all_goals omega
  · by_cases e0 : s + 1 = n
    · simp only [reduceCtorEq, if_false, if_pos e0, if_true, true_and]
      rw [getD_setS _ _ _ _ (by rw [List.length_set]; omega), getD_setS _ _ _ _ (by omega)]
      repeat' split
      all_goals omega
    · simp only [reduceCtorEq, if_false, true_and, if_neg e0, if_true]
      rw [getD_setS _ _ _ _ (by rw [List.length_set]; omega), getD_setS _ _ _ _ (by omega)]
      repeat' split
      all_goals omega
theorem bnd_run {k : Nm} {n : Nat} (hK : okK k n = true) : ∀ {l w : List Int} {B : Nat}, (∀ s ∈ l, okS k n s) → w.length = n → (∀ j, (w.getD j 0).natAbs ≤ B) → ∀ j, ((run k n w l).getD j 0).natAbs ≤ B + n * l.length
  | [], w, B, _, _, h, j => Nat.le_trans (h j) (Nat.le_add_right _ _)
  | s :: l, w, B, hs, hl, h, j => by
    obtain ⟨t, rfl⟩ := step_of (hs s (List.mem_cons_self ..))
    have ht := hs (t : Int) (List.mem_cons_self ..)
    have h1 : ∀ j, ((stepped k n w (t : Int)).getD j 0).natAbs ≤ B + n := fun j => by
      rw [← after_eq hK ht hl]
      exact bnd_after ht hl h j
    have := bnd_run hK (l := l) (w := stepped k n w (t : Int)) (B := B + n) (fun s h => hs s (List.mem_cons_of_mem _ h)) (stepped_len _ _ _ _) h1 j
    show ((run k n (stepped k n w (t : Int)) l).getD j 0).natAbs ≤ B + n * (l.length + 1)
    rw [Nat.mul_add, Nat.mul_one]
    omega
theorem bnd_start (k : Nm) (n j : Nat) : ((startL k n).getD j 0).natAbs ≤ n := by
  by_cases h : j < n
  · rw [startL_getD k n j h]
    unfold off
    split <;> omega
  · rw [List.getD_eq_getElem?_getD, List.getElem?_eq_none (by rw [startL_len]; omega)]
    simp
/-- the items of an order made by a short row -/
theorem bnd_made {k : Nm} {n : Nat} {l : List Int} (hK : okK k n = true) (hl : ∀ s ∈ l, okS k n s) (hz : l.length ≤ 1000) : ∀ x ∈ run k n (startL k n) l, x.natAbs < 10 ^ 12 := fun x hx => by
  obtain ⟨j, hj, e⟩ := List.mem_iff_getElem.mp hx
  have h := bnd_run hK hl (startL_len k n) (bnd_start k n) j
  rw [List.getD_eq_getElem?_getD, List.getElem?_eq_getElem hj, Option.getD_some, e] at h
  have hn := okK_le hK
  have : n * l.length ≤ 7 * 1000 := Nat.mul_le_mul hn.2 hz
  omega
end Sv

/-! Comparisons of data, repr, built-ins, calls, statements over the facts. By the verifier. -/
namespace Sv
open PySem PySem.Spec PyProof.Rows L2 Evl
/-- how a type's values stand as data: equal just if they are -/
structure Enc {α : Type} [DecidableEq α] (e : α → PyData) (n : Nat) : Prop where
  eq : ∀ a b, PyData.eqv (e a) (e b) = decide (a = b)
  lay : ∀ a, PyData.canLay0 (e a) = true
  dep : ∀ a, PyData.depth (e a) ≤ n
theorem enc_int : Enc PyData.int 0 := ⟨fun a b => by
  rw [PyData.eqv, Bool.eq_iff_iff]
  simp, fun _ => rfl, fun _ => by simp [PyData.depth]⟩
theorem enc_bool : Enc PyData.bool 0 := ⟨fun a b => by
  rw [PyData.eqv, Bool.eq_iff_iff]
  simp, fun _ => rfl, fun _ => by simp [PyData.depth]⟩
theorem nm_lay (k : Nm) : PyData.canLay0 (.str k.s) = true := by cases k <;> decide +kernel
theorem enc_nm : Enc eM 0 := ⟨fun a b => by
  show PyData.eqv (.str a.s) (.str b.s) = _
  rw [PyData.eqv, Bool.eq_iff_iff, beq_iff_eq, decide_eq_true_iff]
  exact s_inj, nm_lay, fun _ => by simp [PyData.depth]⟩
section
variable {α β : Type} [DecidableEq α] [DecidableEq β] {e : α → PyData} {e' : β → PyData} {n m : Nat}
theorem Enc.all (E : Enc e n) : ∀ xs ys : List α, PyData.eqvAll (xs.map e) (ys.map e) = decide (xs = ys)
  | [], [] => rfl
  | [], _ :: _ => rfl
  | _ :: _, [] => rfl
  | x :: xs, y :: ys => by
    rw [List.map_cons, List.map_cons, PyData.eqvAll, E.eq, Enc.all E xs ys, Bool.eq_iff_iff]
    simp
theorem Enc.layAll (E : Enc e n) : ∀ xs : List α, PyData.canLayAll0 (xs.map e) = true
  | [] => rfl
  | x :: xs => by
    show (PyData.canLay0 (e x) && PyData.canLayAll0 (xs.map e)) = true
    rw [E.lay, Enc.layAll E xs]
    rfl
theorem Enc.depAll (E : Enc e n) : ∀ xs : List α, PyData.depthAll (xs.map e) ≤ n
  | [] => by simp [PyData.depthAll]
  | x :: xs => by
    have h1 := E.dep x
    have h2 := Enc.depAll E xs
    show max (PyData.depth (e x)) (PyData.depthAll (xs.map e)) ≤ n
    omega
theorem Enc.list (E : Enc e n) : Enc (eL e) (n + 1) := ⟨fun a b => by
  show PyData.eqv (.list (a.map e)) (.list (b.map e)) = _
  rw [PyData.eqv]
  exact E.all a b, fun a => E.layAll a, fun a => by
    have := E.depAll a
    show PyData.depth (.list (a.map e)) ≤ n + 1
    simp only [PyData.depth]
    omega⟩
theorem Enc.pair (E : Enc e n) (E' : Enc e' m) : Enc (eP e e') (max n m + 1) := ⟨fun a b => by
  show PyData.eqv (.tuple [e a.1, e' a.2]) (.tuple [e b.1, e' b.2]) = _
  rw [PyData.eqv, PyData.eqvAll, PyData.eqvAll, PyData.eqvAll, E.eq, E'.eq, Bool.eq_iff_iff]
  cases a
  cases b
  simp, fun a => by
    show (PyData.canLay0 (e a.1) && (PyData.canLay0 (e' a.2) && true)) = true
    rw [E.lay, E'.lay]
    rfl, fun a => by
    have h1 := E.dep a.1
    have h2 := E'.dep a.2
    show PyData.depth (.tuple [e a.1, e' a.2]) ≤ max n m + 1
    simp only [PyData.depth, PyData.depthAll]
    omega⟩
theorem Enc.shaped (E : Enc e n) (h : n ≤ 64) (a : α) : SeqAt.shaped (e a) = true := by
  unfold SeqAt.shaped
  rw [E.lay, decide_eq_true (Nat.le_trans (E.dep a) h)]
  rfl
theorem Enc.any (E : Enc e n) (x : α) (xs : List α) : ((xs.map e).any fun z => PyData.eqv z (e x)) = decide (x ∈ xs) := by
  rw [List.any_map, Bool.eq_iff_iff, List.any_eq_true, decide_eq_true_iff]
  constructor
  · rintro ⟨y, hy, h⟩
    have h2 : PyData.eqv (e y) (e x) = true := h
    rw [E.eq, decide_eq_true_iff] at h2
    rw [← h2]
    exact hy
  · intro h
    refine ⟨x, h, ?_⟩
    show PyData.eqv (e x) (e x) = true
    rw [E.eq]
    exact decide_eq_true rfl
end
section
variable {K : PySem.W.Frag} {C : Addr} {σ : L2.St} {H H' G G' : Hp} {ta tb tc te tx tl : TE} {t u : TT} {x y z : Da} {v : V} {r : R2}
theorem ed_eqD {d e : PyData} (ha : EvD C ta σ G (.py d)) (hb : EvD C tb σ G (.py e)) (sd : SeqAt.shaped d = true) (se : SeqAt.shaped e = true) : EvD C (tOp (rEqD K) ta tb) σ G (.py (.bool (PyData.eqv d e))) := fun H1 e0 Q q =>
  ha H1 e0 _ fun v H2 G2 s a => (hb.mono s.g) H2 s.gh _ fun w H3 G3 s3 b => ⟨d, e, Dq.dp (dpEx (s3.g.trans s3.gh) _ _ a) (lay_nodict _ (SeqAt.canLay_of_shaped sd)), Dq.dp (dpEx s3.gh _ _ b) (lay_nodict _ (SeqAt.canLay_of_shaped se)), sd, se, q _ H3 G3 (s.trans s3) (.bl _)⟩
theorem ed_neD {d e : PyData} (ha : EvD C ta σ G (.py d)) (hb : EvD C tb σ G (.py e)) (sd : SeqAt.shaped d = true) (se : SeqAt.shaped e = true) : EvD C (tOp (rNeD K) ta tb) σ G (.py (.bool (!PyData.eqv d e))) := fun H1 e0 Q q =>
  ha H1 e0 _ fun v H2 G2 s a => (hb.mono s.g) H2 s.gh _ fun w H3 G3 s3 b => ⟨d, e, Dq.dp (dpEx (s3.g.trans s3.gh) _ _ a) (lay_nodict _ (SeqAt.canLay_of_shaped sd)), Dq.dp (dpEx s3.gh _ _ b) (lay_nodict _ (SeqAt.canLay_of_shaped se)), sd, se, q _ H3 G3 (s.trans s3) (.bl _)⟩
theorem ed_inD {d : PyData} {ds : List PyData} (ha : EvD C ta σ G (.py d)) (hb : EvD C tb σ G (.py (.list ds))) (sd : SeqAt.shaped d = true) (se : SeqAt.shaped (.list ds) = true) : EvD C (tOp (rInD K) ta tb) σ G (.py (.bool (ds.any fun z => PyData.eqv z d))) := fun H1 e0 Q q =>
  ha H1 e0 _ fun v H2 G2 s a => (hb.mono s.g) H2 s.gh _ fun w H3 G3 s3 b => ⟨d, ds, Dq.dp (dpEx (s3.g.trans s3.gh) _ _ a) (lay_nodict _ (SeqAt.canLay_of_shaped sd)), Dq.dp (dpEx s3.gh _ _ b) (lay_nodict _ (SeqAt.canLay_of_shaped se)), sd, se, q _ H3 G3 (s.trans s3) (.bl _)⟩
theorem ed_ninD {d : PyData} {ds : List PyData} (ha : EvD C ta σ G (.py d)) (hb : EvD C tb σ G (.py (.list ds))) (sd : SeqAt.shaped d = true) (se : SeqAt.shaped (.list ds) = true) : EvD C (tOp (rNotInD K) ta tb) σ G (.py (.bool (!ds.any fun z => PyData.eqv z d))) := fun H1 e0 Q q =>
  ha H1 e0 _ fun v H2 G2 s a => (hb.mono s.g) H2 s.gh _ fun w H3 G3 s3 b => ⟨d, ds, Dq.dp (dpEx (s3.g.trans s3.gh) _ _ a) (lay_nodict _ (SeqAt.canLay_of_shaped sd)), Dq.dp (dpEx s3.gh _ _ b) (lay_nodict _ (SeqAt.canLay_of_shaped se)), sd, se, q _ H3 G3 (s.trans s3) (.bl _)⟩
section
variable {α : Type} [DecidableEq α] {e : α → PyData} {n : Nat} {a b : α} {ws : List α}
theorem ed_eqE (E : Enc e n) (hn : n ≤ 64) (ha : EvD C ta σ G (.py (e a))) (hb : EvD C tb σ G (.py (e b))) : EvD C (tOp (rEqD K) ta tb) σ G (.py (.bool (decide (a = b)))) := (ed_eqD ha hb (E.shaped hn a) (E.shaped hn b)).is (by rw [E.eq])
theorem ed_neE (E : Enc e n) (hn : n ≤ 64) (ha : EvD C ta σ G (.py (e a))) (hb : EvD C tb σ G (.py (e b))) : EvD C (tOp (rNeD K) ta tb) σ G (.py (.bool (!decide (a = b)))) := (ed_neD ha hb (E.shaped hn a) (E.shaped hn b)).is (by rw [E.eq])
theorem ed_inE (E : Enc e n) (hn : n + 1 ≤ 64) (ha : EvD C ta σ G (.py (e a))) (hb : EvD C tb σ G (.py (eL e ws))) : EvD C (tOp (rInD K) ta tb) σ G (.py (.bool (decide (a ∈ ws)))) := (ed_inD ha hb (E.shaped (by omega) a) (E.list.shaped hn ws)).is (by rw [E.any])
theorem ed_ninE (E : Enc e n) (hn : n + 1 ≤ 64) (ha : EvD C ta σ G (.py (e a))) (hb : EvD C tb σ G (.py (eL e ws))) : EvD C (tOp (rNotInD K) ta tb) σ G (.py (.bool (!decide (a ∈ ws)))) := (ed_ninD ha hb (E.shaped (by omega) a) (E.list.shaped hn ws)).is (by rw [E.any])
end
/-- x in a list of whole numbers, by the rule for flat items -/
theorem ed_inI {i : Int} {ws : List Int} (ha : EvD C ta σ G (.py (.int i))) (hb : EvD C tb σ G (.py (eL PyData.int ws))) : EvD C (tOp (rIn K false) ta tb) σ G (.py (.bool (decide (i ∈ ws)))) := fun H1 e0 Q q =>
  ha H1 e0 _ fun v H2 G2 s a => (hb.mono s.g) H2 s.gh _ fun w H3 G3 s3 b => by
    obtain ⟨p, vs, rfl, hs, hd⟩ := at_list b
    rw [at_int a]
    have hv := dpa_int_eq hd
    subst hv
    refine ⟨p, _, rfl, .inl (ex_l s3.gh (sq_of hs)), rfl, ?_, ?_⟩
    · rw [List.all_map, List.all_eq_true]
      exact fun _ _ => rfl
    · have e : inV (.int i) (ws.map V.int) = decide (i ∈ ws) := by
        unfold inV
        rw [List.any_map, Bool.eq_iff_iff, List.any_eq_true, decide_eq_true_iff]
        constructor
        · rintro ⟨y, hy, h⟩
          have h2 : (y == i) = true := h
          rw [← eq_of_beq h2]
          exact hy
        · intro h
          exact ⟨i, h, (show (i == i) = true from beq_self_eq_true i)⟩
      show Q (.bl (inV (.int i) (ws.map V.int))) H3
      rw [e]
      exact q _ H3 G3 (s.trans s3) (.bl _)
theorem ed_isB {a b : Bool} (ha : EvD C ta σ G (.py (.bool a))) (hb : EvD C tb σ G (.py (.bool b))) : EvD C (tOp rIsB ta tb) σ G (.py (.bool (decide (a = b)))) := fun H1 e0 Q q =>
  ha H1 e0 _ fun v H2 G2 s a1 => (hb.mono s.g) H2 s.gh _ fun w H3 G3 s3 b1 => by
    rw [at_bool a1, at_bool b1]
    exact ⟨a, b, rfl, rfl, q _ H3 G3 (s.trans s3) (.bl _)⟩
theorem ed_notB {a b : Bool} (ha : EvD C ta σ G (.py (.bool a))) (hb : EvD C tb σ G (.py (.bool b))) : EvD C (tOp rNotB ta tb) σ G (.py (.bool (!decide (a = b)))) := fun H1 e0 Q q =>
  ha H1 e0 _ fun v H2 G2 s a1 => (hb.mono s.g) H2 s.gh _ fun w H3 G3 s3 b1 => by
    rw [at_bool a1, at_bool b1]
    exact ⟨a, b, rfl, rfl, q _ H3 G3 (s.trans s3) (.bl _)⟩
def isNoneD : PyData → Bool
  | .none => true
  | _ => false
theorem dq_non {d : PyData} (h : Dq G v d) : decide (v = .non) = isNoneD d := by
  cases h with
  | non => rfl
  | bl b => rfl
  | int i => rfl
  | str s => rfl
  | lst _ _ => rfl
  | tup _ _ => rfl
  | dct _ => rfl
theorem ed_isN {d : PyData} (ha : EvD C ta σ G (.py d)) : EvD C (tOp (fun x y H Q => y = .non ∧ Q (.bl (decide (x = .non))) H) ta (tC .non)) σ G (.py (.bool (isNoneD d))) := fun H1 e0 Q q =>
  ha H1 e0 _ fun v H2 G2 s a => ⟨rfl, by
    rw [dq_non a]
    exact q _ H2 G2 s (.bl _)⟩
theorem ed_notN {d : PyData} (ha : EvD C ta σ G (.py d)) : EvD C (tOp (fun x y H Q => y = .non ∧ Q (.bl (!decide (x = .non))) H) ta (tC .non)) σ G (.py (.bool (!isNoneD d))) := fun H1 e0 Q q =>
  ha H1 e0 _ fun v H2 G2 s a => ⟨rfl, by
    rw [dq_non a]
    exact q _ H2 G2 s (.bl _)⟩
/-! repr -/
structure Showy (d : PyData) : Prop where
  hs : d.showable = true
  hn : d.hasDict = false ∨ d = .dict []
  hd : d.depth ≤ 100
  hl : d.shown.length ≤ sizeLine
theorem Dq.repr {d : PyData} (h : Dq H v d) (w : Showy d) : ReprAt K H v d.shown := by
  cases h with
  | non => exact .non
  | bl b =>
    have := ReprAt.bl (K := K) (H := H) b
    simpa [PyData.shown] using this
  | int i =>
    have h1 := w.hs
    simp only [PyData.showable, decide_eq_true_eq] at h1
    have := ReprAt.int (K := K) (H := H) i h1
    simpa [PyData.shown] using this
  | str s =>
    have h1 := w.hl
    simp only [PyData.shown] at h1
    have := ReprAt.str (K := K) (H := H) s h1
    simpa [PyData.shown] using this
  | lst a b =>
    have h := w.hn.resolve_right (fun z => by cases z)
    exact .dat (Dq.dp (.lst a b) h) w.hs h w.hd w.hl
  | tup a b =>
    have h := w.hn.resolve_right (fun z => by cases z)
    exact .dat (Dq.dp (.tup a b) h) w.hs h w.hd w.hl
  | dct h =>
    have e : (PyData.dict []).shown = "{}" := by decide +kernel
    rw [e]
    exact .dict h
theorem ed_repr {d : PyData} (ha : EvD C ta σ G (.py d)) (w : Showy d) : EvD C (tCB (fun xs H Q => ∃ v t, xs = [v] ∧ ReprAt K H v t ∧ Q (.str t) H) (tCons ta tNil)) σ G (.py (.str d.shown)) := fun H1 e0 Q q =>
  ha H1 e0 _ fun v H2 G2 s a => ⟨v, _, rfl, Dq.repr (dpEx s.gh _ _ a) w, q _ H2 G2 s (.str _)⟩
/-! isinstance -/
def tyD : PyData → String
  | .none => "NoneType"
  | .bool _ => "bool"
  | .int _ => "int"
  | .str _ => "str"
  | .list _ => "list"
  | .tuple _ => "tuple"
  | .dict _ => "dict"
def isaD (c : String) (d : PyData) : Bool := decide (tyD d = c) || (decide (tyD d = "bool") && decide (c = "int"))
theorem rd_seq {a : Addr} {u : HO} (h : L2.Rd H a u) : L2.Rd H a u := h
theorem dq_ty {d : PyData} (h : Dq H v d) : TyX K H v (.type (tyD d)) := by
  cases h with
  | non => exact .base .non
  | bl z => exact .base (.bl z)
  | int z => exact .base (.int z)
  | str z => exact .base (.str z)
  | lst h _ => exact .base (.lst h)
  | tup h _ => exact .base (.tup h)
  | dct h => exact .base (.dT h)
def tys : List String := ["NoneType", "bool", "int", "str", "list", "tuple"]
def clss : List String := ["int", "bool", "list", "tuple", "str"]
theorem kit_str (t c : String) (ht : t = "NoneType" ∨ t = "bool" ∨ t = "int" ∨ t = "str" ∨ t = "list" ∨ t = "tuple" ∨ t = "dict") (hc : c = "int" ∨ c = "bool" ∨ c = "list" ∨ c = "tuple" ∨ c = "str") : PySem.W.kitOne K (.type t) (.type c) = some (decide (t = c) || (decide (t = "bool") && decide (c = "int"))) := by
  rcases hc with h | h | h | h | h <;> rcases ht with g | g | g | g | g | g | g <;> subst h <;> subst g <;> exact kit_ty (by decide +kernel)
theorem kit_is (c : String) (hc : c = "int" ∨ c = "bool" ∨ c = "list" ∨ c = "tuple" ∨ c = "str") (d : PyData) : PySem.W.kitOne K (.type (tyD d)) (.type c) = some (isaD c d) := by
  refine kit_str (tyD d) c ?_ hc
  cases d with
  | none => exact .inl rfl
  | bool _ => exact .inr (.inl rfl)
  | int _ => exact .inr (.inr (.inl rfl))
  | str _ => exact .inr (.inr (.inr (.inl rfl)))
  | list _ => exact .inr (.inr (.inr (.inr (.inl rfl))))
  | tuple _ => exact .inr (.inr (.inr (.inr (.inr (.inl rfl)))))
  | dict kvs => exact .inr (.inr (.inr (.inr (.inr (.inr rfl)))))
theorem ed_isi {d : PyData} (c : String) (hc : c = "int" ∨ c = "bool" ∨ c = "list" ∨ c = "tuple" ∨ c = "str") (ha : EvD C ta σ G (.py d)) : EvD C (tCB (rIsi K) (tCons ta (tCons (tC (.ty c)) tNil))) σ G (.py (.bool (isaD c d))) := fun H1 e0 Q q =>
  ha H1 e0 _ fun v H2 G2 s a => ⟨v, .ty c, .type (tyD d), .type c, _, rfl, .ty _, dq_ty (dpEx s.gh _ _ a), kit_is c hc d, q _ H2 G2 s (.bl _)⟩
/-! built-ins of numbers -/
theorem ed_abs {i : Int} (ha : EvD C ta σ G (.py (.int i))) : EvD C (tCB (fun xs H Q => ∃ i, xs = [.int i] ∧ Q (.int (if i < 0 then -i else i)) H) (tCons ta tNil)) σ G (.py (.int (if i < 0 then -i else i))) := fun H1 e0 Q q =>
  ha H1 e0 _ fun v H2 G2 s a => ⟨i, by rw [at_int a], q _ H2 G2 s (.int _)⟩
def b2i (b : Bool) : Int := if b then 1 else 0
theorem ed_intB {b : Bool} (ha : EvD C ta σ G (.py (.bool b))) : EvD C (tCB (fun xs H Q => (∃ i, xs = [.int i] ∧ Q (.int i) H) ∨ ∃ k, xs = [.bl k] ∧ Q (.int (if k then 1 else 0)) H) (tCons ta tNil)) σ G (.py (.int (b2i b))) := fun H1 e0 Q q =>
  ha H1 e0 _ fun v H2 G2 s a => .inr ⟨b, by rw [at_bool a], q _ H2 G2 s (.int _)⟩
theorem ed_intI {i : Int} (ha : EvD C ta σ G (.py (.int i))) : EvD C (tCB (fun xs H Q => (∃ i, xs = [.int i] ∧ Q (.int i) H) ∨ ∃ k, xs = [.bl k] ∧ Q (.int (if k then 1 else 0)) H) (tCons ta tNil)) σ G (.py (.int i)) := fun H1 e0 Q q =>
  ha H1 e0 _ fun v H2 G2 s a => .inl ⟨i, by rw [at_int a], q _ H2 G2 s (.int _)⟩
theorem ed_strI {i : Int} (ha : EvD C ta σ G (.py (.int i))) (h : i.natAbs.log2 < 1920) : EvD C (tCB (fun xs H Q => ∃ i, xs = [.int i] ∧ i.natAbs.log2 < 1920 ∧ Q (.str (toString i)) H) (tCons ta tNil)) σ G (.py (.str (Str.ofString (toString i)))) := fun H1 e0 Q q =>
  ha H1 e0 _ fun v H2 G2 s a => ⟨i, by rw [at_int a], h, q _ H2 G2 s (.str _)⟩
theorem ed_sum {ws : List Int} (ha : EvD C ta σ G (.py (eL PyData.int ws))) : EvD C (tCB (rSum K) (tCons ta tNil)) σ G (.py (.int ws.sum)) := fun H1 e0 Q q =>
  ha H1 e0 _ fun v H2 G2 s a => by
    obtain ⟨p, vs, rfl, hs, hd⟩ := at_list a
    have hv := dpa_int_eq hd
    subst hv
    exact ⟨p, ws, rfl, ex_l s.gh (sq_of hs), q _ H2 G2 s (.int _)⟩
def maxL (ws : List Int) : Int := ws.foldl max (ws.getD 0 0)
def minL (ws : List Int) : Int := ws.foldl min (ws.getD 0 0)
theorem foldl_max : ∀ (ws : List Int) (m : Int), (m ≤ ws.foldl max m ∧ ∀ a ∈ ws, a ≤ ws.foldl max m) ∧ (ws.foldl max m = m ∨ ws.foldl max m ∈ ws)
  | [], m => ⟨⟨Int.le_refl _, fun _ h => by cases h⟩, .inl rfl⟩
  | w :: ws, m => by
    obtain ⟨⟨h1, h2⟩, h3⟩ := foldl_max ws (max m w)
    have e : List.foldl max m (w :: ws) = List.foldl max (max m w) ws := rfl
    rw [e]
    refine ⟨⟨by omega, fun a h => ?_⟩, ?_⟩
    · rcases List.mem_cons.mp h with h | h
      · subst h; omega
      · exact h2 a h
    · rcases h3 with h3 | h3
      · by_cases h : m ≤ w
        · right; rw [h3, show max m w = w by omega]; exact List.mem_cons_self
        · left; rw [h3]; omega
      · right; exact List.mem_cons_of_mem _ h3
theorem foldl_min : ∀ (ws : List Int) (m : Int), (ws.foldl min m ≤ m ∧ ∀ a ∈ ws, ws.foldl min m ≤ a) ∧ (ws.foldl min m = m ∨ ws.foldl min m ∈ ws)
  | [], m => ⟨⟨Int.le_refl _, fun _ h => by cases h⟩, .inl rfl⟩
  | w :: ws, m => by
    obtain ⟨⟨h1, h2⟩, h3⟩ := foldl_min ws (min m w)
    have e : List.foldl min m (w :: ws) = List.foldl min (min m w) ws := rfl
    rw [e]
    refine ⟨⟨by omega, fun a h => ?_⟩, ?_⟩
    · rcases List.mem_cons.mp h with h | h
      · subst h; omega
      · exact h2 a h
    · rcases h3 with h3 | h3
      · by_cases h : w ≤ m
        · right; rw [h3, show min m w = w by omega]; exact List.mem_cons_self
        · left; rw [h3]; omega
      · right; exact List.mem_cons_of_mem _ h3
theorem maxL_spec {ws : List Int} (h : 0 < ws.length) : maxL ws ∈ ws ∧ ∀ a ∈ ws, a ≤ maxL ws := by
  obtain ⟨⟨_, h2⟩, h3⟩ := foldl_max ws (ws.getD 0 0)
  refine ⟨?_, h2⟩
  rcases h3 with h3 | h3
  · unfold maxL
    rw [h3, List.getD_eq_getElem?_getD, List.getElem?_eq_getElem h]
    exact List.getElem_mem h
  · exact h3
theorem minL_spec {ws : List Int} (h : 0 < ws.length) : minL ws ∈ ws ∧ ∀ a ∈ ws, minL ws ≤ a := by
  obtain ⟨⟨_, h2⟩, h3⟩ := foldl_min ws (ws.getD 0 0)
  refine ⟨?_, h2⟩
  rcases h3 with h3 | h3
  · unfold minL
    rw [h3, List.getD_eq_getElem?_getD, List.getElem?_eq_getElem h]
    exact List.getElem_mem h
  · exact h3
theorem ed_maxL {ws : List Int} (ha : EvD C ta σ G (.py (eL PyData.int ws))) (h : 0 < ws.length) : EvD C (tCB (rMaxL K) (tCons ta tNil)) σ G (.py (.int (maxL ws))) := fun H1 e0 Q q =>
  ha H1 e0 _ fun v H2 G2 s a => by
    obtain ⟨p, vs, rfl, hs, hd⟩ := at_list a
    have hv := dpa_int_eq hd
    subst hv
    refine ⟨p, ws, rfl, ex_l s.gh (sq_of hs), h, fun M h1 h2 => ?_⟩
    have h3 := maxL_spec h
    have : M = maxL ws := Int.le_antisymm (h3.2 M h1) (h2 _ h3.1)
    subst this
    exact q _ H2 G2 s (.int _)
theorem ed_minL {ws : List Int} (ha : EvD C ta σ G (.py (eL PyData.int ws))) (h : 0 < ws.length) : EvD C (tCB (rMinL K) (tCons ta tNil)) σ G (.py (.int (minL ws))) := fun H1 e0 Q q =>
  ha H1 e0 _ fun v H2 G2 s a => by
    obtain ⟨p, vs, rfl, hs, hd⟩ := at_list a
    have hv := dpa_int_eq hd
    subst hv
    refine ⟨p, ws, rfl, ex_l s.gh (sq_of hs), h, fun M h1 h2 => ?_⟩
    have h3 := minL_spec h
    have : M = minL ws := Int.le_antisymm (h2 _ h3.1) (h3.2 M h1)
    subst this
    exact q _ H2 G2 s (.int _)
/-- sorted numbers -/
def srt (ws : List Int) : List Int := ws.mergeSort
theorem srt_perm (ws : List Int) : (srt ws).Perm ws := List.mergeSort_perm _ _
theorem srt_le (ws : List Int) : (srt ws).Pairwise (· ≤ ·) := by
  have := List.pairwise_mergeSort (le := fun a b : Int => decide (a ≤ b)) (fun a b c h1 h2 => by simp only [decide_eq_true_eq] at *; omega) (fun a b => by simp only [Bool.or_eq_true, decide_eq_true_eq]; omega) ws
  exact this.imp fun h => by simpa using h
end
end Sv

/-! Calls and statements over the facts. By the verifier. -/
namespace Sv
open PySem PySem.Spec PyProof.Rows L2 Evl
/-- a def gives data x for arguments xs; .. a new list -/
def Ct (C : Addr) (sp : Sp) (xs : List Da) (x : Da) : Prop := ∀ vs G, AtAll C G vs xs → ∀ H1, Ex G H1 → ∀ Q : VK, (∀ v H2 G2, Gs H1 G H2 G2 → At C G2 v x → Q v H2) → ∀ E, sp vs H1 Q E
def CtN (C : Addr) (sp : Sp) (xs : List Da) (ds : List PyData) : Prop := ∀ vs G, AtAll C G vs xs → ∀ H1, Ex G H1 → ∀ Q : VK, (∀ p vs H2 G2, Gs H1 G H2 G2 → H1 p = none → G2 p = none → H2 p = some (.lst vs) → DqAll G2 vs ds → Q (.ref p) H2) → ∀ E, sp vs H1 Q E
/-- promises by data -/
def spPure (C : Addr) (R : List Da → Da → Prop) : Sp := fun vs H Q _ => ∃ G xs x, Ex G H ∧ AtAll C G vs xs ∧ R xs x ∧ ∀ v H2 G2, Gs H G H2 G2 → At C G2 v x → Q v H2
def spPureN (C : Addr) (R : List Da → List PyData → Prop) : Sp := fun vs H Q _ => ∃ G xs ds, Ex G H ∧ AtAll C G vs xs ∧ R xs ds ∧ ∀ p vs H2 G2, Gs H G H2 G2 → H p = none → G2 p = none → H2 p = some (.lst vs) → DqAll G2 vs ds → Q (.ref p) H2
theorem ct_pure {C : Addr} {R : List Da → Da → Prop} {xs : List Da} {x : Da} (h : R xs x) : Ct C (spPure C R) xs x := fun vs G a H1 e Q q E => ⟨G, xs, x, e, a, h, q⟩
theorem ct_pureN {C : Addr} {R : List Da → List PyData → Prop} {xs : List Da} {ds : List PyData} (h : R xs ds) : CtN C (spPureN C R) xs ds := fun vs G a H1 e Q q E => ⟨G, xs, ds, e, a, h, q⟩
theorem at_all1 {C : Addr} {G : Hp} {vs : List V} {x : Da} (h : AtAll C G vs [x]) : ∃ v, vs = [v] ∧ At C G v x := by
  cases h with
  | cons a b => cases b; exact ⟨_, rfl, a⟩
theorem at_all2 {C : Addr} {G : Hp} {vs : List V} {x y : Da} (h : AtAll C G vs [x, y]) : ∃ v w, vs = [v, w] ∧ At C G v x ∧ At C G w y := by
  cases h with
  | cons a b =>
    obtain ⟨w, rfl, c⟩ := at_all1 b
    exact ⟨_, _, rfl, a, c⟩
theorem at_all3 {C : Addr} {G : Hp} {vs : List V} {x y z : Da} (h : AtAll C G vs [x, y, z]) : ∃ u v w, vs = [u, v, w] ∧ At C G u x ∧ At C G v y ∧ At C G w z := by
  cases h with
  | cons a b =>
    obtain ⟨v, w, rfl, c, d⟩ := at_all2 b
    exact ⟨_, _, _, rfl, a, c, d⟩
theorem at_all4 {C : Addr} {G : Hp} {vs : List V} {x y z t : Da} (h : AtAll C G vs [x, y, z, t]) : ∃ u v w s, vs = [u, v, w, s] ∧ At C G u x ∧ At C G v y ∧ At C G w z ∧ At C G s t := by
  cases h with
  | cons a b =>
    obtain ⟨v, w, s, rfl, c, d, e⟩ := at_all3 b
    exact ⟨_, _, _, _, rfl, a, c, d, e⟩
theorem at_all5 {C : Addr} {G : Hp} {vs : List V} {x y z t r : Da} (h : AtAll C G vs [x, y, z, t, r]) : ∃ u v w s q, vs = [u, v, w, s, q] ∧ At C G u x ∧ At C G v y ∧ At C G w z ∧ At C G s t ∧ At C G q r := by
  cases h with
  | cons a b =>
    obtain ⟨v, w, s, q, rfl, c, d, e, f⟩ := at_all4 b
    exact ⟨_, _, _, _, _, rfl, a, c, d, e, f⟩
theorem Ex.upd_both {G H : Hp} (e : Ex G H) (p : Addr) (o : HO) : Ex (L2.upd G p o) (L2.upd H p o) := fun a u h => by
  by_cases q : a = p
  · subst q
    rw [upd_same] at h ⊢
    exact h
  · rw [upd_ne q] at h ⊢
    exact e a u h
section
variable {K : PySem.W.Frag} {C : Addr} {σ : L2.St} {H H' G G' : Hp} {ta tb tc te tx tl : TE} {t u : TT} {x y z : Da} {v : V} {r : R2} {xs : List Da} {as : TA} {sp : Sp} {E : XK}
theorem ed_call (h : EvAs C as σ G xs) (c : Ct C sp xs x) : EvD C (tCall sp [] E as) σ G x := fun H1 e Q q => h H1 e _ fun vs H2 G2 s a => by
  show sp (vs ++ []) H2 Q E
  rw [List.append_nil]
  exact c vs G2 a H2 s.gh Q (fun v H3 G3 s3 a3 => q v H3 G3 (s.trans s3) a3) E
theorem en_call {ds : List PyData} (h : EvAs C as σ G xs) (c : CtN C sp xs ds) : EvN C (tCall sp [] E as) σ G ds := fun H1 e Q q => h H1 e _ fun vs H2 G2 s a => by
  show sp (vs ++ []) H2 Q E
  rw [List.append_nil]
  exact c vs G2 a H2 s.gh Q (fun p vs H3 G3 s3 h1 h2 h3 h4 => q p vs H3 G3 (s.trans s3) (fresh_back s.h h1) h2 h3 h4) E
theorem ata_append {G : Hp} : ∀ {vs us : List V} {xs ys : List Da}, AtAll C G vs xs → AtAll C G us ys → AtAll C G (vs ++ us) (xs ++ ys)
  | _, _, _, _, .nil, h => h
  | _, _, _, _, .cons a b, h => .cons a (ata_append b h)
theorem ata_rev {G : Hp} : ∀ {vs : List V} {xs : List Da}, AtAll C G vs xs → AtAll C G vs.reverse xs.reverse
  | _, _, .nil => .nil
  | _, _, .cons a b => by
    rw [List.reverse_cons, List.reverse_cons]
    exact ata_append (ata_rev b) (.cons a .nil)
def gRv (us ws : List V) : List V := us ++ ws.reverse
/-- keywords, the parameters' order turned about -/
theorem ed_callK {ks : TA} {n : Nat} {ys : List Da} (h : EvAs C ks σ G ys) (hn : ys.length = n) (c : Ct C sp ys.reverse x) : EvD C (tCallN 0 n sp gRv E tNil ks) σ G x := fun H1 e Q q => h H1 e _ fun vs H2 G2 s a =>
  ⟨rfl, a.len.trans hn, c _ G2 (ata_rev a) H2 s.gh Q (fun v H3 G3 s3 a3 => q v H3 G3 (s.trans s3) a3) E⟩
theorem en_callK {ks : TA} {n : Nat} {ys : List Da} {ds : List PyData} (h : EvAs C ks σ G ys) (hn : ys.length = n) (c : CtN C sp ys.reverse ds) : EvN C (tCallN 0 n sp gRv E tNil ks) σ G ds := fun H1 e Q q => h H1 e _ fun vs H2 G2 s a =>
  ⟨rfl, a.len.trans hn, c _ G2 (ata_rev a) H2 s.gh Q (fun p vs H3 G3 s3 h1 h2 h3 h4 => q p vs H3 G3 (s.trans s3) (fresh_back s.h h1) h2 h3 h4) E⟩
/-- a method of a kind without arguments -/
theorem ed_meth {m : Str} {k : Nm} {n : Nat} (ha : EvD C ta σ G (.kd k n)) (hm : (putF "_size" (.int (n : Int)) (putF "_name" (.str k.s) [])).lookup m = none) (c : Ct C sp [.kd k n] x) : EvD C (tMeth C m sp [] E ta tNil) σ G x := fun H1 e Q q => ha H1 e _ fun v H2 G2 s a => by
  obtain ⟨p, rfl, dx, hp⟩ := id a
  exact ⟨p, dx, _, rfl, s.gh _ _ hp, hm, c [.ref p] G2 (.cons a .nil) H2 s.gh Q (fun v H3 G3 s3 a3 => q v H3 G3 (s.trans s3) a3) E⟩
theorem en_meth {m : Str} {k : Nm} {n : Nat} {ds : List PyData} (ha : EvD C ta σ G (.kd k n)) (hm : (putF "_size" (.int (n : Int)) (putF "_name" (.str k.s) [])).lookup m = none) (c : CtN C sp [.kd k n] ds) : EvN C (tMeth C m sp [] E ta tNil) σ G ds := fun H1 e Q q => ha H1 e _ fun v H2 G2 s a => by
  obtain ⟨p, rfl, dx, hp⟩ := id a
  exact ⟨p, dx, _, rfl, s.gh _ _ hp, hm, c [.ref p] G2 (.cons a .nil) H2 s.gh Q (fun p vs H3 G3 s3 h1 h2 h3 h4 => q p vs H3 G3 (s.trans s3) (fresh_back s.h h1) h2 h3 h4) E⟩
/-! statements -/
variable {D : Ends} {tu tw tz : TS} {g : TG}
theorem st_eq {t : TS} {σ' : L2.St} (h : t D σ' H) (e : σ = σ') : t D σ H := e ▸ h
theorem s_asgD {i : Nat} (h : EvD C te σ G x) (eG : Ex G H) (k : ∀ v H1 G1, Gs H G H1 G1 → At C G1 v x → D.nx (σ.set i (some v)) H1) : tAsg te (gName i) D σ H := h H eG _ fun v H1 G1 s a => k v H1 G1 s a
theorem q_asgD {i : Nat} (h : EvD C te σ G x) (eG : Ex G H) (k : ∀ v H1 G1, Gs H G H1 G1 → At C G1 v x → tz D (σ.set i (some v)) H1) : tSeq (tAsg te (gName i)) tz D σ H := h H eG _ fun v H1 G1 s a => k v H1 G1 s a
theorem q_asgN {i : Nat} {ds : List PyData} (h : EvN C te σ G ds) (eG : Ex G H) (k : ∀ p vs H1 G1, Gs H G H1 G1 → H p = none → G1 p = none → H1 p = some (.lst vs) → DqAll G1 vs ds → tz D (σ.set i (some (.ref p))) H1) : tSeq (tAsg te (gName i)) tz D σ H := h H eG _ fun p vs H1 G1 s h1 h2 h3 a => k p vs H1 G1 s h1 h2 h3 a
theorem s_asgN {i : Nat} {ds : List PyData} (h : EvN C te σ G ds) (eG : Ex G H) (k : ∀ p vs H1 G1, Gs H G H1 G1 → H p = none → G1 p = none → H1 p = some (.lst vs) → DqAll G1 vs ds → D.nx (σ.set i (some (.ref p))) H1) : tAsg te (gName i) D σ H := h H eG _ fun p vs H1 G1 s h1 h2 h3 a => k p vs H1 G1 s h1 h2 h3 a
theorem s_retD (h : EvD C te σ G x) (eG : Ex G H) (k : ∀ v H1 G1, Gs H G H1 G1 → At C G1 v x → D.rt v H1) : tRet te D σ H := h H eG _ fun v H1 G1 s a => k v H1 G1 s a
theorem s_retN {ds : List PyData} (h : EvN C te σ G ds) (eG : Ex G H) (k : ∀ p vs H1 G1, Gs H G H1 G1 → H p = none → G1 p = none → H1 p = some (.lst vs) → DqAll G1 vs ds → D.rt (.ref p) H1) : tRet te D σ H := h H eG _ fun p vs H1 G1 s h1 h2 h3 a => k p vs H1 G1 s h1 h2 h3 a
theorem q_parD {i j : Nat} (h : EvAs C as σ G [x, y]) (eG : Ex G H) (k : ∀ v w H1 G1, Gs H G H1 G1 → At C G1 v x → At C G1 w y → tz D ((σ.set i (some v)).set j (some w)) H1) : tSeq (tPar i j as) tz D σ H := h H eG _ fun vs H1 G1 s a => by
  obtain ⟨v, w, rfl, a1, a2⟩ := at_all2 a
  exact ⟨v, w, rfl, k v w H1 G1 s a1 a2⟩
theorem q_par3D {i j l : Nat} (h : EvAs C as σ G [x, y, z]) (eG : Ex G H) (k : ∀ u v w H1 G1, Gs H G H1 G1 → At C G1 u x → At C G1 v y → At C G1 w z → tz D (((σ.set i (some u)).set j (some v)).set l (some w)) H1) : tSeq (tPar3 i j l as) tz D σ H := h H eG _ fun vs H1 G1 s a => by
  obtain ⟨u, v, w, rfl, a1, a2, a3⟩ := at_all3 a
  exact ⟨u, v, w, rfl, k u v w H1 G1 s a1 a2 a3⟩
/-- x, y = (..): a tuple taken apart -/
theorem q_tup2 {i j : Nat} {d e : PyData} (h : EvD C te σ G (.py (.tuple [d, e]))) (eG : Ex G H) (k : ∀ v w H1 G1, Gs H G H1 G1 → At C G1 v (.py d) → At C G1 w (.py e) → tz D ((σ.set i (some v)).set j (some w)) H1) : tSeq (tAsg te (gTup K 2 (gCons (gName i) (gCons (gName j) gNil)))) tz D σ H := h H eG _ fun v H1 G1 s a => by
  obtain ⟨p, vs, rfl, hs, hd⟩ := at_tup a
  cases hd with
  | cons a b =>
    cases b with
    | cons b c =>
      cases c
      exact ⟨_, _, rfl, ex_t s.gh (st_of hs), rfl, _, _, rfl, _, _, rfl, rfl, k _ _ H1 G1 s a b⟩
theorem q_tup3 {i j l : Nat} {d e f : PyData} (h : EvD C te σ G (.py (.tuple [d, e, f]))) (eG : Ex G H) (k : ∀ u v w H1 G1, Gs H G H1 G1 → At C G1 u (.py d) → At C G1 v (.py e) → At C G1 w (.py f) → tz D (((σ.set i (some u)).set j (some v)).set l (some w)) H1) : tSeq (tAsg te (gTup K 3 (gCons (gName i) (gCons (gName j) (gCons (gName l) gNil))))) tz D σ H := h H eG _ fun v H1 G1 s a => by
  obtain ⟨p, vs, rfl, hs, hd⟩ := at_tup a
  cases hd with
  | cons a b =>
    cases b with
    | cons b c =>
      cases c with
      | cons c d =>
        cases d
        exact ⟨_, _, rfl, ex_t s.gh (st_of hs), rfl, _, _, rfl, _, _, rfl, _, _, rfl, rfl, k _ _ _ H1 G1 s a b c⟩
theorem q_ifD {b : Bool} (h : EvT t σ G b) (eG : Ex G H) (h1 : b = true → ∀ H1, Gs H G H1 G → tu { D with nx := tz D } σ H1) (h2 : b = false → ∀ H1, Gs H G H1 G → tw { D with nx := tz D } σ H1) : tSeq (tIfS t tu tw) tz D σ H := h H eG _ fun H1 e => by
  cases b with
  | true => exact h1 rfl H1 (Gs.same eG e)
  | false => exact h2 rfl H1 (Gs.same eG e)
theorem s_ifD {b : Bool} (h : EvT t σ G b) (eG : Ex G H) (h1 : b = true → ∀ H1, Gs H G H1 G → tu D σ H1) (h2 : b = false → ∀ H1, Gs H G H1 G → tw D σ H1) : tIfS t tu tw D σ H := h H eG _ fun H1 e => by
  cases b with
  | true => exact h1 rfl H1 (Gs.same eG e)
  | false => exact h2 rfl H1 (Gs.same eG e)
/-- if c: return .. (c is false) -/
theorem q_noD {b : Bool} (h : EvT t σ G b) (eG : Ex G H) (hb : b = false) (k : ∀ H1, Gs H G H1 G → tz D σ H1) : tSeq (tIfS t tu tNext) tz D σ H := h H eG _ fun H1 e => by
  subst hb
  exact k H1 (Gs.same eG e)
/-- x.append(e): x is owned -/
theorem q_appD {l : Addr} {vs : List V} {d : PyData} (h : EvD C te σ G (.py d)) (eG : Ex G H) (ha : Ev ta σ G (.ref l)) (hl : H l = some (.lst vs)) (hg : G l = none) (hz : vs.length < 100000) (k : ∀ v H1 G1, Gs H G H1 G1 → Dq G1 v d → G1 l = none → Ex G1 (L2.upd H1 l (.lst (vs ++ [v]))) → tz D σ (L2.upd H1 l (.lst (vs ++ [v])))) :
    tSeq (tDrop (tBM K "list" rAppend ta (tCons te tNil))) tz D σ H := ha H eG _ fun H1 e1 => by
  have s1 : Gs H G H1 G := Gs.same eG e1
  refine ⟨Or.inl ⟨rfl, vs, sq_of (e1 l _ hl)⟩, h H1 s1.gh _ fun v H2 G2 s2 a => ?_⟩
  have h2 : H2 l = some (.lst vs) := s2.h _ _ (e1 l _ hl)
  have g2 : G2 l = none := s2.nw l (by rw [e1 l _ hl]; exact fun z => by cases z) hg
  exact ⟨l, vs, v, rfl, rfl, h2, sz_lt hz, k v H2 G2 (s1.trans s2) a g2 (Ex.mut s2.gh g2)⟩
theorem s_appD {l : Addr} {vs : List V} {d : PyData} (h : EvD C te σ G (.py d)) (eG : Ex G H) (ha : Ev ta σ G (.ref l)) (hl : H l = some (.lst vs)) (hg : G l = none) (hz : vs.length < 100000) (k : ∀ v H1 G1, Gs H G H1 G1 → Dq G1 v d → G1 l = none → Ex G1 (L2.upd H1 l (.lst (vs ++ [v]))) → D.nx σ (L2.upd H1 l (.lst (vs ++ [v])))) :
    tDrop (tBM K "list" rAppend ta (tCons te tNil)) D σ H := ha H eG _ fun H1 e1 => by
  have s1 : Gs H G H1 G := Gs.same eG e1
  refine ⟨Or.inl ⟨rfl, vs, sq_of (e1 l _ hl)⟩, h H1 s1.gh _ fun v H2 G2 s2 a => ?_⟩
  have h2 : H2 l = some (.lst vs) := s2.h _ _ (e1 l _ hl)
  have g2 : G2 l = none := s2.nw l (by rw [e1 l _ hl]; exact fun z => by cases z) hg
  exact ⟨l, vs, v, rfl, rfl, h2, sz_lt hz, k v H2 G2 (s1.trans s2) a g2 (Ex.mut s2.gh g2)⟩
inductive Lk (Gb : Hp) (Pv : Nat → L2.St → Hp → Hp → Prop) (i : Nat) (σ : L2.St) (H : Hp) : Prop where
  | mk {G : Hp} (e1 : Ex Gb G) (e2 : Ex G H) (h : Pv i σ G H)
/-- for: the word Pv of the turn, the slots, the facts and the heap; Gb: the facts that stand through all turns -/
theorem s_forG {wi : TI} {α : Type} {e : α → PyData} {ws : List α} {g : TG} {Bd : α → Hp → L2.St → L2.St → Prop} (hI : EvI wi σ G (ws.map e)) (eG : Ex G H) (hg : ∀ x ∈ ws, TgOk K g (e x) (Bd x)) (Pv : Nat → L2.St → Hp → Hp → Prop)
    (h0 : ∀ H1 G1, Gs H G H1 G1 → Pv 0 σ G1 H1)
    (hs : ∀ (i : Nat) (x : α) σ' G' H' G2 H2 Gb σ2, ws[i]? = some x → Pv i σ' G' H' → Ex G Gb → Ex Gb G' → Gs H' G' H2 G2 → Bd x G2 σ' σ2 →
      tu { D with nx := Lk Gb Pv (i + 1), ct := Lk Gb Pv (i + 1), bk := D.nx } σ2 H2)
    (hd : ∀ σ' G' H', Pv ws.length σ' G' H' → Ex G G' → Ex G' H' → D.nx σ' H') : tFor wi g tu D σ H := by
  refine hI H eG _ fun J H1 G1 s1 ⟨Gp, Y, W, hGp, hY⟩ => ?_
  rw [List.length_map] at W
  refine for_it W (fun i σ' H' => Lk G1 Pv i σ' H') (.mk (Ex.refl _) s1.gh (h0 H1 G1 s1)) (fun i σ' H' _ h => by obtain ⟨e1, e2, _⟩ := h; exact hGp H' (e1.trans e2)) ?_ ?_
  · rintro i v σ' H' H2 hi ⟨e1, e2, hp⟩ hy
    rename_i G'
    obtain ⟨G2, d, hd2, s2, a2⟩ := hY i H' v H2 G' (by rw [List.length_map]; exact hi) e1 e2 hy
    have hwi : ws[i]? = some ws[i] := List.getElem?_eq_getElem hi
    rw [List.getElem?_map, hwi] at hd2
    cases hd2
    exact hg _ (List.getElem_mem hi) v σ' H2 G2 _ s2.gh a2 fun σ2 hb => hs i ws[i] σ' G' H' G2 H2 G1 σ2 hwi hp s1.g e1 s2 hb
  · rintro σ' H' ⟨e1, e2, hp⟩
    exact hd σ' _ H' hp (s1.g.trans e1) e2
theorem s_forD {wi : TI} {α : Type} {e : α → PyData} {ws : List α} {j : Nat} (K : PySem.W.Frag) (hI : EvI wi σ G (ws.map e)) (eG : Ex G H) (Pv : Nat → L2.St → Hp → Hp → Prop)
    (h0 : ∀ H1 G1, Gs H G H1 G1 → Pv 0 σ G1 H1)
    (hs : ∀ (i : Nat) (x : α) v σ' G' H' G2 H2 Gb, ws[i]? = some x → Pv i σ' G' H' → Ex G Gb → Ex Gb G' → Gs H' G' H2 G2 → At C G2 v (.py (e x)) →
      tu { D with nx := Lk Gb Pv (i + 1), ct := Lk Gb Pv (i + 1), bk := D.nx } (σ'.set j (some v)) H2)
    (hd : ∀ σ' G' H', Pv ws.length σ' G' H' → Ex G G' → Ex G' H' → D.nx σ' H') : tFor wi (gName j) tu D σ H :=
  s_forG (K := K) (Bd := fun x => BdN j (e x)) hI eG (fun _ _ => tg_name) Pv h0 (fun i x σ' G' H' G2 H2 Gb σ2 h1 h2 h3 h4 h5 ⟨v, a, h⟩ => by subst h; exact hs i x v σ' G' H' G2 H2 Gb h1 h2 h3 h4 h5 a) hd
theorem q_forD {wi : TI} {α : Type} {e : α → PyData} {ws : List α} {j : Nat} (K : PySem.W.Frag) (hI : EvI wi σ G (ws.map e)) (eG : Ex G H) (Pv : Nat → L2.St → Hp → Hp → Prop)
    (h0 : ∀ H1 G1, Gs H G H1 G1 → Pv 0 σ G1 H1)
    (hs : ∀ (i : Nat) (x : α) v σ' G' H' G2 H2 Gb, ws[i]? = some x → Pv i σ' G' H' → Ex G Gb → Ex Gb G' → Gs H' G' H2 G2 → At C G2 v (.py (e x)) →
      tu { D with nx := Lk Gb Pv (i + 1), ct := Lk Gb Pv (i + 1), bk := tz D } (σ'.set j (some v)) H2)
    (hd : ∀ σ' G' H', Pv ws.length σ' G' H' → Ex G G' → Ex G' H' → tz D σ' H') : tSeq (tFor wi (gName j) tu) tz D σ H := s_forD (D := { D with nx := tz D }) K hI eG Pv h0 hs hd
theorem q_forP {wi : TI} {α β : Type} {e : α → PyData} {e' : β → PyData} {ws : List (α × β)} {j l : Nat} (hI : EvI wi σ G (ws.map (eP e e'))) (eG : Ex G H) (Pv : Nat → L2.St → Hp → Hp → Prop)
    (h0 : ∀ H1 G1, Gs H G H1 G1 → Pv 0 σ G1 H1)
    (hs : ∀ (i : Nat) (x : α) (y : β) v w σ' G' H' G2 H2 Gb, ws[i]? = some (x, y) → Pv i σ' G' H' → Ex G Gb → Ex Gb G' → Gs H' G' H2 G2 → At C G2 v (.py (e x)) → At C G2 w (.py (e' y)) →
      tu { D with nx := Lk Gb Pv (i + 1), ct := Lk Gb Pv (i + 1), bk := tz D } ((σ'.set j (some v)).set l (some w)) H2)
    (hd : ∀ σ' G' H', Pv ws.length σ' G' H' → Ex G G' → Ex G' H' → tz D σ' H') : tSeq (tFor wi (gTup K 2 (gCons (gName j) (gCons (gName l) gNil))) tu) tz D σ H :=
  s_forG (K := K) (D := { D with nx := tz D }) (Bd := fun x => BdP j l (e x.1) (e' x.2)) hI eG (fun _ _ => tg_pair) Pv h0 (fun i x σ' G' H' G2 H2 Gb σ2 h1 h2 h3 h4 h5 ⟨v, w, a, b, h⟩ => by subst h; exact hs i x.1 x.2 v w σ' G' H' G2 H2 Gb h1 h2 h3 h4 h5 a b) hd
theorem s_forP {wi : TI} {α β : Type} {e : α → PyData} {e' : β → PyData} {ws : List (α × β)} {j l : Nat} (hI : EvI wi σ G (ws.map (eP e e'))) (eG : Ex G H) (Pv : Nat → L2.St → Hp → Hp → Prop)
    (h0 : ∀ H1 G1, Gs H G H1 G1 → Pv 0 σ G1 H1)
    (hs : ∀ (i : Nat) (x : α) (y : β) v w σ' G' H' G2 H2 Gb, ws[i]? = some (x, y) → Pv i σ' G' H' → Ex G Gb → Ex Gb G' → Gs H' G' H2 G2 → At C G2 v (.py (e x)) → At C G2 w (.py (e' y)) →
      tu { D with nx := Lk Gb Pv (i + 1), ct := Lk Gb Pv (i + 1), bk := D.nx } ((σ'.set j (some v)).set l (some w)) H2)
    (hd : ∀ σ' G' H', Pv ws.length σ' G' H' → Ex G G' → Ex G' H' → D.nx σ' H') : tFor wi (gTup K 2 (gCons (gName j) (gCons (gName l) gNil))) tu D σ H :=
  s_forG (K := K) (Bd := fun x => BdP j l (e x.1) (e' x.2)) hI eG (fun _ _ => tg_pair) Pv h0 (fun i x σ' G' H' G2 H2 Gb σ2 h1 h2 h3 h4 h5 ⟨v, w, a, b, h⟩ => by subst h; exact hs i x.1 x.2 v w σ' G' H' G2 H2 Gb h1 h2 h3 h4 h5 a b) hd
end
end Sv

/-! Loops as functions; owned lists. By the verifier. -/
namespace Sv
open PySem PySem.Spec PyProof.Rows L2 Evl
def loopE {ρ σ α : Type} (f : σ → α → Sum ρ σ) : List α → σ → Sum ρ σ
  | [], s => .inr s
  | x :: xs, s => match f s x with
    | .inl r => .inl r
    | .inr s' => loopE f xs s'
theorem loopE_app {ρ σ α : Type} (f : σ → α → Sum ρ σ) : ∀ (xs ys : List α) (s : σ), loopE f (xs ++ ys) s = match loopE f xs s with
    | .inl r => .inl r
    | .inr s' => loopE f ys s'
  | [], ys, s => rfl
  | x :: xs, ys, s => by
    rw [List.cons_append, loopE, loopE]
    cases f s x with
    | inl r => rfl
    | inr s' => exact loopE_app f xs ys s'
theorem loopE_step {ρ σ α : Type} {f : σ → α → Sum ρ σ} {ws : List α} {i : Nat} {s st st' : σ} {x : α} (h : loopE f (ws.take i) s = .inr st) (hx : ws[i]? = some x) (hf : f st x = .inr st') : loopE f (ws.take (i + 1)) s = .inr st' := by
  have e : ws.take (i + 1) = ws.take i ++ [x] := by rw [List.take_add_one, hx]; rfl
  rw [e, loopE_app, h]
  show (match f st x with | Sum.inl r => Sum.inl r | Sum.inr s' => loopE f [] s') = _
  rw [hf]
  rfl
theorem loopE_ret {ρ σ α : Type} {f : σ → α → Sum ρ σ} {ws : List α} {i : Nat} {s st : σ} {x : α} {r : ρ} (h : loopE f (ws.take i) s = .inr st) (hx : ws[i]? = some x) (hf : f st x = .inl r) : loopE f ws s = .inl r := by
  have hi := (List.getElem?_eq_some_iff.mp hx).1
  have e : ws = ws.take i ++ (x :: ws.drop (i + 1)) := by
    have h1 := List.take_append_drop i ws
    rw [List.drop_eq_getElem_cons hi] at h1
    rw [← (List.getElem?_eq_some_iff.mp hx).2]
    exact h1.symm
  rw [e, loopE_app, h]
  show (match f st x with | Sum.inl r => Sum.inl r | Sum.inr s' => loopE f (ws.drop (i + 1)) s') = _
  rw [hf]
theorem loopE_end {ρ σ α : Type} {f : σ → α → Sum ρ σ} {ws : List α} {s st : σ} (h : loopE f (ws.take ws.length) s = .inr st) : loopE f ws s = .inr st := by rwa [List.take_length] at h
theorem rm65 {k : Nat} {A : Around} (hr : Room k A) : A.units + 65 < cLine := by
  have := hr.un
  omega
/-- what data hold -/
def intD : PyData → Int
  | .int i => i
  | _ => 0
def itemsD : PyData → List PyData
  | .list ds => ds
  | _ => []
def nsD (d : PyData) : List Int := (itemsD d).map intD
theorem eId_map (ds : List PyData) : (PyData.list (ds.map eId)) = .list ds := by
  have : ds.map eId = ds := by
    have h : (eId : PyData → PyData) = id := rfl
    rw [h, List.map_id]
  rw [this]
section
variable {K : PySem.W.Frag} {C : Addr} {σ : L2.St} {H H' H0 G G' G0 : Hp} {ta tb tc te tx tl : TE} {t u : TT} {x y z : Da} {v : V}
theorem et_truL {α : Type} {e : α → PyData} {ws : List α} (ha : EvD C ta σ G (.py (eL e ws))) : EvT (fun σ H Q => ta σ H fun x H' => ∃ k, TruV K x H' k ∧ Q k H') σ G (!ws.isEmpty) := fun H1 e0 Q q =>
  ha H1 e0 _ fun v H2 G2 s a => by
    obtain ⟨p, vs, rfl, hs, hd⟩ := at_list a
    refine ⟨!ws.isEmpty, .inl ⟨vs, ex_l s.gh (sq_of hs), ?_⟩, q H2 s.h⟩
    have hl := dpa_len hd
    rw [List.length_map] at hl
    cases vs <;> cases ws <;> first | rfl | (cases hl)
theorem ed_notL {α : Type} {e : α → PyData} {ws : List α} (ha : EvD C ta σ G (.py (eL e ws))) : EvD C (tNotT K ta) σ G (.py (.bool ws.isEmpty)) := fun H1 e0 Q q =>
  et_truL ha H1 e0 (fun k H2 => Q (.bl (!k)) H2) fun H2 e2 => by
    show Q (.bl (!!ws.isEmpty)) H2
    rw [Bool.not_not]
    exact q _ H2 G (Gs.same e0 e2) (.bl _)
theorem en_rev {α : Type} {e : α → PyData} {ws : List α} (ha : EvD C ta σ G (.py (eL e ws))) : EvN C (tRevL K ta) σ G (ws.reverse.map e) := fun H1 e0 Q q =>
  ha H1 e0 _ fun v H2 G2 s a => by
    obtain ⟨p, vs, rfl, hs, hd⟩ := at_list a
    refine ⟨p, vs, rfl, ex_l s.gh (sq_of hs), fun l hl => q l _ _ G2 (s.trans (Gs.same s.gh (Ex.new hl))) (fresh_back s.h hl) (fresh_back s.gh hl) upd_same ?_⟩
    rw [List.map_reverse]
    exact dpa_reverse hd
theorem ed_dnew : EvD C tDNewT σ G (.py (.dict [])) := fun H1 e0 Q q => fun d hd => q _ _ _ (Gs.new e0 hd) (.dct upd_same)
theorem ed_pow {i j : Int} (ha : EvD C ta σ G (.py (.int i))) (hb : EvD C tb σ G (.py (.int j))) (h : 0 ≤ j ∧ (Builtin.Int.intBits i : Int) * j ≤ 2 ^ 27) : EvD C (tOp (rI (fun i j => 0 ≤ j ∧ (Builtin.Int.intBits i : Int) * j ≤ 2 ^ 27) fun i j => .int (i ^ j.toNat)) ta tb) σ G (.py (.int (i ^ j.toNat))) := ed_op2 ha hb (rv_I h) fI
theorem ed_max2 {i j : Int} (ha : EvD C ta σ G (.py (.int i))) (hb : EvD C tb σ G (.py (.int j))) : EvD C (tCB (fun xs H Q => ∃ i j, xs = [.int i, .int j] ∧ Q (.int (if j > i then j else i)) H) (tCons ta (tCons tb tNil))) σ G (.py (.int (if j > i then j else i))) := fun H1 e0 Q q =>
  ha H1 e0 _ fun v H2 G2 s a => (hb.mono s.g) H2 s.gh _ fun w H3 G3 s3 b => ⟨i, j, by rw [at_int a, at_int b], q _ H3 G3 (s.trans s3) (.int _)⟩
theorem ed_min2 {i j : Int} (ha : EvD C ta σ G (.py (.int i))) (hb : EvD C tb σ G (.py (.int j))) : EvD C (tCB (fun xs H Q => ∃ i j, xs = [.int i, .int j] ∧ Q (.int (if j < i then j else i)) H) (tCons ta (tCons tb tNil))) σ G (.py (.int (if j < i then j else i))) := fun H1 e0 Q q =>
  ha H1 e0 _ fun v H2 G2 s a => (hb.mono s.g) H2 s.gh _ fun w H3 G3 s3 b => ⟨i, j, by rw [at_int a, at_int b], q _ H3 G3 (s.trans s3) (.int _)⟩
theorem srt_eq {ws ys : List Int} (h : ys.Perm ws) (hs : ys.Pairwise (· ≤ ·)) : ys = srt ws := List.Perm.eq_of_pairwise (fun a b _ _ h1 h2 => Int.le_antisymm h1 h2) hs (srt_le ws) (h.trans (srt_perm ws).symm)
theorem en_sorted {ws : List Int} (ha : EvD C ta σ G (.py (eL PyData.int ws))) : EvN C (tCB (rSortedI K) (tCons ta tNil)) σ G ((srt ws).map PyData.int) := fun H1 e0 Q q =>
  ha H1 e0 _ fun v H2 G2 s a => by
    obtain ⟨p, vs, rfl, hs, hd⟩ := at_list a
    have hv := dpa_int_eq hd
    subst hv
    refine ⟨p, ws, rfl, ex_l s.gh (sq_of hs), fun ys l hp hs2 hl => ?_⟩
    have := srt_eq hp hs2
    subst this
    exact q l _ _ G2 (s.trans (Gs.same s.gh (Ex.new hl))) (fresh_back s.h hl) (fresh_back s.gh hl) upd_same (dpa_ints _)
theorem dpa_bool_eq : ∀ {ws : List Bool} {vs : List V}, DqAll G vs (ws.map PyData.bool) → vs = ws.map V.bl
  | [], vs, h => by cases h; rfl
  | w :: ws, vs, h => by
    cases h with
    | cons a b =>
      cases a
      rw [dpa_bool_eq b]
      rfl
theorem ed_all {bs : List Bool} (ha : EvD C ta σ G (.py (eL PyData.bool bs))) : EvD C (tCB (rAll K) (tCons ta tNil)) σ G (.py (.bool (bs.all id))) := fun H1 e0 Q q =>
  ha H1 e0 _ fun v H2 G2 s a => by
    obtain ⟨p, vs, rfl, hs, hd⟩ := at_list a
    have hv := dpa_bool_eq hd
    subst hv
    exact ⟨p, bs, rfl, ex_l s.gh (sq_of hs), q _ H2 G2 s (.bl _)⟩
theorem ed_any {bs : List Bool} (ha : EvD C ta σ G (.py (eL PyData.bool bs))) : EvD C (tCB (rAny K) (tCons ta tNil)) σ G (.py (.bool (bs.any id))) := fun H1 e0 Q q =>
  ha H1 e0 _ fun v H2 G2 s a => by
    obtain ⟨p, vs, rfl, hs, hd⟩ := at_list a
    have hv := dpa_bool_eq hd
    subst hv
    exact ⟨p, bs, rfl, ex_l s.gh (sq_of hs), q _ H2 G2 s (.bl _)⟩
/-- a < b < c of numbers -/
theorem ed_chain {p p' : Int → Int → Bool} {i j k : Int} (ha : EvD C ta σ G (.py (.int i))) (hb : EvD C tb σ G (.py (.int j))) (hc : p i j = true → EvD C tc σ G (.py (.int k))) : EvD C (tChain (rI0 fun i j => .bl (p i j)) (rI0 fun i j => .bl (p' i j)) ta tb tc) σ G (.py (.bool (p i j && p' j k))) := fun H1 e0 Q q =>
  ha H1 e0 _ fun v H2 G2 s a => (hb.mono s.g) H2 s.gh _ fun w H3 G3 s3 b => by
    rw [at_int a, at_int b]
    refine ⟨i, j, rfl, rfl, p i j, rfl, ?_⟩
    cases hp : p i j with
    | true =>
      show tc σ H3 _
      refine ((hc hp).mono (s.g.trans s3.g)) H3 s3.gh _ fun u H4 G4 s4 c => ?_
      rw [at_int c]
      have q2 := q (.bl (p i j && p' j k)) H4 G4 ((s.trans s3).trans s4) (.bl _)
      rw [hp] at q2
      exact ⟨j, k, rfl, rfl, q2⟩
    | false =>
      have q2 := q (.bl (p i j && p' j k)) H3 G3 (s.trans s3) (.bl _)
      rw [hp] at q2
      exact q2
/-- an owned list is told as it stands -/
structure Own (C : Addr) (H0 G H : Hp) (a : Addr) (vs : List V) (ds : List PyData) : Prop where
  o : H a = some (.lst vs)
  n : G a = none
  f : H0 a = none
  d : DqAll G vs ds
theorem Own.step {a : Addr} {vs : List V} {ds : List PyData} (w : Own C H0 G H a vs ds) (s : Gs H G H' G') : Own C H0 G' H' a vs ds :=
  ⟨s.h _ _ w.o, s.nw a (by rw [w.o]; exact fun z => by cases z) w.n, w.f, dpExAll s.g _ _ w.d⟩
/-- another list was changed -/
theorem Own.other {a b : Addr} {vs : List V} {ds : List PyData} {o : HO} (w : Own C H0 G H a vs ds) (h : a ≠ b) : Own C H0 G (L2.upd H b o) a vs ds :=
  ⟨by rw [upd_ne h]; exact w.o, w.n, w.f, w.d⟩
theorem Own.app {a : Addr} {vs : List V} {ds : List PyData} {d : PyData} (w : Own C H0 G H a vs ds) (h : Dq G v d) : Own C H0 G (L2.upd H a (.lst (vs ++ [v]))) a (vs ++ [v]) (ds ++ [d]) :=
  ⟨upd_same, w.n, w.f, dpa_append w.d (.cons h .nil)⟩
theorem Own.appE {α : Type} {e : α → PyData} {ws : List α} {x : α} {a : Addr} {vs : List V} (w : Own C H0 G H a vs (ws.map e)) (h : Dq G v (e x)) : Own C H0 G (L2.upd H a (.lst (vs ++ [v]))) a (vs ++ [v]) ((ws ++ [x]).map e) := by
  rw [List.map_append]
  exact w.app h
theorem Own.len {α : Type} {e : α → PyData} {ws : List α} {a : Addr} {vs : List V} (w : Own C H0 G H a vs (ws.map e)) : vs.length = ws.length := by
  rw [dpa_len w.d, List.length_map]
/-- it joins the facts -/
theorem Own.join {a : Addr} {vs : List V} {ds : List PyData} (w : Own C H0 G H a vs ds) (s : Gs H0 G0 H G) : Gs H0 G0 H (L2.upd G a (.lst vs)) := s.join w.f w.o w.n
theorem Own.at {a : Addr} {vs : List V} {ds : List PyData} (w : Own C H0 G H a vs ds) : At C (L2.upd G a (.lst vs)) (.ref a) (.py (.list ds)) := .lst upd_same (dpExAll (Ex.new w.n) _ _ w.d)
theorem Own.ex {a : Addr} {vs : List V} {ds : List PyData} (w : Own C H0 G H a vs ds) (e : Ex G H) : Ex (L2.upd G a (.lst vs)) H := fun b u z => by
  by_cases q : b = a
  · subst q
    rw [upd_same] at z
    rw [← z]
    exact w.o
  · rw [upd_ne q] at z
    exact e b u z
theorem Own.new {p : Addr} {vs : List V} {ds : List PyData} {H1 G1 : Hp} (s0 : Gs H0 G0 H G) (h1 : H p = none) (h2 : G1 p = none) (h3 : H1 p = some (.lst vs)) (h4 : DqAll G1 vs ds) : Own C H0 G1 H1 p vs ds := ⟨h3, h2, fresh_back s0.h h1, h4⟩
/-- an owned list was changed in its place: what else is told stays -/
theorem Gs.chg {a : Addr} {o : HO} (s : Gs H0 G0 H G) (hf : H0 a = none) (hn : G a = none) : Gs H0 G0 (L2.upd H a o) G := ⟨Ex.mut s.h hf, s.g, Ex.mut s.gh hn, s.nw⟩
end
end Sv
namespace Sv
open PySem PySem.Spec PyProof.Rows L2 Evl
theorem at_ints {C : Addr} {G : Hp} {v : V} {ws : List Int} (h : At C G v (.py (eL PyData.int ws))) : ∃ o, v = .ref o ∧ G o = some (.lst (ws.map V.int)) := by
  obtain ⟨o, vs, rfl, h1, h2⟩ := at_list h
  rw [dpa_int_eq h2] at h1
  exact ⟨o, rfl, h1⟩
theorem at_told {C : Addr} {G : Hp} {v : V} {k : Nm} {n : Nat} (h : At C G v (.py (toldD k n))) : ∃ o, v = .ref o ∧ G o = some (.tup [.str k.s, .int (n : Int)]) := by
  obtain ⟨o, vs, rfl, h1, h2⟩ := at_tup h
  cases h2 with
  | cons a b =>
    cases b with
    | cons b c =>
      cases c
      cases a
      cases b
      exact ⟨o, rfl, h1⟩
end Sv
namespace Sv
open PySem PySem.Spec PyProof.Rows L2 Evl
def whileE {ρ σ : Type} (c : σ → Bool) (f : σ → Sum ρ σ) : Nat → σ → Option (Sum ρ σ)
  | 0, s => if c s = true then none else some (.inr s)
  | m + 1, s => if c s = true then (match f s with
    | .inl r => some (.inl r)
    | .inr s' => whileE c f m s') else some (.inr s)
def whileAt {ρ σ : Type} (c : σ → Bool) (f : σ → Sum ρ σ) (s : σ) : Nat → Option σ
  | 0 => some s
  | j + 1 => match whileAt c f s j with
    | some s' => if c s' = true then (match f s' with
      | .inl _ => none
      | .inr s'' => some s'') else none
    | none => none
section
variable {ρ σ : Type} {c : σ → Bool} {f : σ → Sum ρ σ} {m : Nat} {s st st' : σ} {X : Option (Sum ρ σ)} {r : ρ}
theorem whileE_go (h : whileE c f m st = X) (hX : X ≠ none) (hc : c st = true) : ∃ m1, m = m1 + 1 := by
  cases m with
  | zero =>
    unfold whileE at h
    rw [if_pos hc] at h
    exact absurd h.symm hX
  | succ m1 => exact ⟨m1, rfl⟩
theorem whileE_in (h : whileE c f (m + 1) st = X) (hc : c st = true) (hf : f st = .inr st') : whileE c f m st' = X := by
  unfold whileE at h
  rw [if_pos hc, hf] at h
  exact h
theorem whileE_ret (h : whileE c f (m + 1) st = X) (hc : c st = true) (hf : f st = .inl r) : X = some (.inl r) := by
  unfold whileE at h
  rw [if_pos hc, hf] at h
  exact h.symm
theorem whileE_end (h : whileE c f m st = X) (hc : c st = false) : X = some (.inr st) := by
  rw [← h]
  cases m <;> (unfold whileE; rw [if_neg (by rw [hc]; decide)])
theorem whileAt_step {j : Nat} (h : whileAt c f s j = some st) (hc : c st = true) (hf : f st = .inr st') : whileAt c f s (j + 1) = some st' := by
  unfold whileAt
  rw [h]
  show (if c st = true then _ else _) = _
  rw [if_pos hc, hf]
end
section
variable {K : PySem.W.Frag} {C : Addr} {σ : L2.St} {H G : Hp} {t : TT} {D : Ends} {tu tz : TS}
theorem s_whileD (eG : Ex G H) (Pv : Nat → L2.St → Hp → Hp → Prop) (m0 : Nat) (h0 : Pv m0 σ G H)
    (hs : ∀ m σ' G' H', Ex G G' → Ex G' H' → Pv m σ' G' H' → ∃ b, EvT t σ' H' b ∧ (b = true → ∀ H1, Gs H' G' H1 G' → ∃ m', m' < m ∧ tu { D with nx := Lk G Pv m', ct := Lk G Pv m', bk := D.nx } σ' H1) ∧ (b = false → ∀ H1, Gs H' G' H1 G' → D.nx σ' H1)) : tWhile t tu D σ H := by
  refine s_while (Lk G Pv) m0 (.mk (Ex.refl _) eG h0) ?_
  rintro m σ' H' ⟨e1, e2, h⟩
  obtain ⟨b, hb, h1, h2⟩ := hs m σ' _ H' e1 e2 h
  refine ⟨b, hb, fun z H1 e => ?_, fun z H1 e => h2 z H1 (Gs.same e2 e)⟩
  obtain ⟨m', hm, hu⟩ := h1 z H1 (Gs.same e2 e)
  exact ⟨Lk G Pv m', fun σ2 H2 hL => ⟨m', hm, hL⟩, hu⟩
theorem q_whileD (eG : Ex G H) (Pv : Nat → L2.St → Hp → Hp → Prop) (m0 : Nat) (h0 : Pv m0 σ G H)
    (hs : ∀ m σ' G' H', Ex G G' → Ex G' H' → Pv m σ' G' H' → ∃ b, EvT t σ' H' b ∧ (b = true → ∀ H1, Gs H' G' H1 G' → ∃ m', m' < m ∧ tu { D with nx := Lk G Pv m', ct := Lk G Pv m', bk := tz D } σ' H1) ∧ (b = false → ∀ H1, Gs H' G' H1 G' → tz D σ' H1)) : tSeq (tWhile t tu) tz D σ H :=
  s_whileD (D := { D with nx := tz D }) eG Pv m0 h0 hs
end
end Sv

/-! Readings that draw: the generator moves, facts stay. By the verifier. -/
namespace Sv
open PySem PySem.Spec PyProof.Rows L2 Evl
def GenC (H : Hp) (g : Addr) (c : Int) : Prop := ∃ a b c', GenAt H g a b c' ∧ 0 ≤ c' ∧ c' ≤ c
theorem GenC.ne {H : Hp} {g : Addr} {c : Int} (h : GenC H g c) : H g ≠ none := by
  obtain ⟨a, b, c', h, _⟩ := h
  rw [show H g = _ from h]
  exact fun z => by cases z
theorem GenC.ex {H H' : Hp} {g : Addr} {c : Int} (e : Ex H H') (h : GenC H g c) : GenC H' g c := by
  obtain ⟨a, b, c', h, h1, h2⟩ := h
  exact ⟨a, b, c', e _ _ h, h1, h2⟩
theorem GenC.le {H : Hp} {g : Addr} {c d : Int} (h : GenC H g c) (e : c ≤ d) : GenC H g d := by
  obtain ⟨a, b, c', h, h1, h2⟩ := h
  exact ⟨a, b, c', h, h1, Int.le_trans h2 e⟩
theorem GenC.upd {H : Hp} {g p : Addr} {c : Int} {o : HO} (h : GenC H g c) (n : g ≠ p) : GenC (L2.upd H p o) g c := by
  obtain ⟨a, b, c', h, h1, h2⟩ := h
  exact ⟨a, b, c', by show L2.upd H p o g = _; rw [upd_ne n]; exact h, h1, h2⟩
/-- all but g stays, the facts grow -/
structure Gx (g : Addr) (H1 G H2 G2 : Hp) : Prop where
  x : SameX g H1 H2
  g : Ex G G2
  gh : Ex G2 H2
  nw : Nw H1 G G2
theorem Gx.of {g : Addr} {H1 G H2 G2 : Hp} (s : Gs H1 G H2 G2) : Gx g H1 G H2 G2 := ⟨fun b o h _ => s.h b o h, s.g, s.gh, s.nw⟩
theorem SameX.ne {g a : Addr} {H H' : Hp} (e : SameX g H H') (h : H a ≠ none) (hg : H' g ≠ none) : H' a ≠ none := by
  by_cases q : a = g
  · rw [q]; exact hg
  · obtain ⟨o, ho⟩ := Option.ne_none_iff_exists'.mp h
    rw [e a o ho q]
    exact fun z => by cases z
theorem Gx.trans {g : Addr} {H1 G1 H2 G2 H3 G3 : Hp} (a : Gx g H1 G1 H2 G2) (hg : H2 g ≠ none) (b : Gx g H2 G2 H3 G3) : Gx g H1 G1 H3 G3 :=
  ⟨a.x.trans b.x, a.g.trans b.g, b.gh, fun x h1 h2 => b.nw x (SameX.ne a.x h1 hg) (a.nw x h1 h2)⟩
theorem Gx.same {g : Addr} {H1 G H2 : Hp} (e : Ex G H1) (n : G g = none) (a : SameX g H1 H2) : Gx g H1 G H2 G := ⟨a, Ex.refl _, fun b o h => a b o (e b o h) (fun z => by rw [z, n] at h; cases h), fun _ _ h => h⟩
/-- what may be given while the generator draws at most m times -/
def EvR (C : Addr) (g : Addr) (m : Int) (te : TE) (σ : L2.St) (G : Hp) (Φ : Da → Prop) : Prop := ∀ H1 c, Ex G H1 → G g = none → GenC H1 g c → c + m ≤ 600000 → ∀ Q : VK, (∀ x v H2 G2, Φ x → Gx g H1 G H2 G2 → GenC H2 g (c + m) → At C G2 v x → Q v H2) → te σ H1 Q
def EvRs (C : Addr) (g : Addr) (m : Int) (ta : TA) (σ : L2.St) (G : Hp) (Φ : List Da → Prop) : Prop := ∀ H1 c, Ex G H1 → G g = none → GenC H1 g c → c + m ≤ 600000 → ∀ Q : List V → Hp → Prop, (∀ xs vs H2 G2, Φ xs → Gx g H1 G H2 G2 → GenC H2 g (c + m) → AtAll C G2 vs xs → Q vs H2) → ta σ H1 Q
section
variable {K : PySem.W.Frag} {C g : Addr} {σ : L2.St} {H H' G G' : Hp} {ta tb tc te tx tl : TE} {t u : TT} {x y z : Da} {v : V} {r : R2} {m m' : Int} {Φ Ψ : Da → Prop} {sp : Sp} {E : XK} {as : TA}
theorem er_pure (h : EvD C te σ G x) : EvR C g 0 te σ G (fun z => z = x) := fun H1 c e n gc _ Q q => h H1 e Q fun v H2 G2 s a => q x v H2 G2 rfl (Gx.of s) (by rw [Int.add_zero]; exact gc.ex s.h) a
theorem EvR.mono (e : Ex G G') (h : EvR C g m te σ G Φ) : EvR C g m te σ G' Φ := fun H1 c e1 n gc hc Q q => h H1 c (e.trans e1) (fresh_back e n) gc hc Q fun x v H2 G2 hx s g2 a => by
  have eg : Ex G' H2 := fun b o h => s.x b o (e1 b o h) fun z => by rw [z, n] at h; cases h
  refine q x v H2 (both G' G2) hx ⟨s.x, both_l _ _, both_in eg s.gh, fun b h1 h2 => ?_⟩ g2 (a.mono (both_r eg s.gh))
  unfold both
  rw [h2]
  exact s.nw b h1 (fresh_back e h2)
theorem EvRs.mono {Φ : List Da → Prop} (e : Ex G G') (h : EvRs C g m as σ G Φ) : EvRs C g m as σ G' Φ := fun H1 c e1 n gc hc Q q => h H1 c (e.trans e1) (fresh_back e n) gc hc Q fun x v H2 G2 hx s g2 a => by
  have eg : Ex G' H2 := fun b o h => s.x b o (e1 b o h) fun z => by rw [z, n] at h; cases h
  refine q x v H2 (both G' G2) hx ⟨s.x, both_l _ _, both_in eg s.gh, fun b h1 h2 => ?_⟩ g2 (a.mono (both_r eg s.gh))
  unfold both
  rw [h2]
  exact s.nw b h1 (fresh_back e h2)
theorem rs_nil : EvRs C g 0 tNil σ G (fun xs => xs = []) := fun H1 c e n gc _ Q q => q [] [] H1 G rfl (Gx.of (Gs.refl e)) (by rw [Int.add_zero]; exact gc) .nil
theorem Gx.keepNone {H1 H2 G2 : Hp} {c : Int} (s : Gx g H1 G H2 G2) (gc : GenC H1 g c) (n : G g = none) : G2 g = none := s.nw g gc.ne n
theorem rs_cons {tr : TA} {Ψ : List Da → Prop} (h : EvR C g m ta σ G Φ) (hr : EvRs C g m' tr σ G Ψ) (m0 : 0 ≤ m') : EvRs C g (m + m') (tCons ta tr) σ G (fun zs => ∃ z, Φ z ∧ ∃ ys, Ψ ys ∧ zs = z :: ys) := fun H1 c e n gc hc Q q =>
  h H1 c e n gc (by omega) _ fun x v H2 G2 hx s g2 a => (hr.mono s.g) H2 (c + m) s.gh (s.keepNone gc n) g2 (by omega) _ fun ys vs H3 G3 hy s3 g3 as =>
    q (x :: ys) (v :: vs) H3 G3 ⟨x, hx, ys, hy, rfl⟩ (s.trans g2.ne s3) (by rw [← Int.add_assoc]; exact g3) (.cons (a.mono s3.g) as)
/-- a def that draws: what it may give for arguments behind the generator -/
def CtR (C : Addr) (sp : Sp) (m : Int) (xs : List Da) (Φ : Da → Prop) : Prop := ∀ g vs G, G g = none → AtAll C G vs xs → ∀ H1 c, Ex G H1 → GenC H1 g c → c + m ≤ 600000 → ∀ Q : VK, (∀ x v H2 G2, Φ x → Gx g H1 G H2 G2 → GenC H2 g (c + m) → At C G2 v x → Q v H2) → ∀ E, sp (.ref g :: vs) H1 Q E
theorem er_call {xs : List Da} (hv : Ev tb σ G (.ref g)) (h : EvAs C as σ G xs) (c : CtR C sp m xs Φ) : EvR C g m (tCall sp [] E (tCons tb as)) σ G Φ := fun H1 cc e n gc hc Q q =>
  hv H1 e _ fun H2 e2 => h H2 (e.trans e2) _ fun vs H3 G3 s3 a3 => by
    show sp (.ref g :: vs ++ []) H3 Q E
    rw [List.append_nil]
    have s13 : Gs H1 G H3 G3 := (Gs.same e e2).trans s3
    have nn : G3 g = none := s13.nw g gc.ne n
    exact c g vs G3 nn a3 H3 cc s13.gh (gc.ex s13.h) hc Q (fun x v H4 G4 hx s4 g4 a4 => q x v H4 G4 hx ((Gx.of s13).trans (gc.ex s13.h).ne s4) g4 a4) E
theorem ct_random {n : Int} (h : 0 < n ∧ n < 2 ^ 29) : CtR C spRandom 1 [.py (.int n)] (fun z => ∃ r : Int, (0 ≤ r ∧ r < n) ∧ z = .py (.int r)) := fun g vs G hn a H1 c e gc hc Q q E => by
  obtain ⟨v, rfl, av⟩ := at_all1 a
  rw [at_int av]
  obtain ⟨x, b, c', hg, h1, h2⟩ := gc
  refine ⟨g, x, b, c', n, rfl, hg, h, ⟨h1, by omega⟩, fun r a' c2 H2 r0 r1 d0 d1 g2 x2 => ?_⟩
  exact q _ _ H2 G ⟨r, ⟨r0, r1⟩, rfl⟩ (Gx.same e hn x2) ⟨a', b, c2, g2, d0, by omega⟩ (.int r)
/-- what is drawn, put into a pure context: an index -/
theorem er_ix {α : Type} [Inhabited α] {f : α → PyData} {ws : List α} {P : Int → Prop} (ha : EvD C ta σ G (.py (eL f ws))) (hb : EvR C g m tb σ G (fun z => ∃ i, P i ∧ z = .py (.int i))) (h : ∀ i, P i → -(ws.length : Int) ≤ i ∧ i < ws.length) :
    EvR C g m (tOp (rIxL K) ta tb) σ G (fun z => ∃ i, P i ∧ z = .py (f (getI ws i))) := fun H1 c e n gc hc Q q =>
  ha H1 e _ fun v H2 G2 s a => (hb.mono s.g) H2 c s.gh (s.nw g gc.ne n) (gc.ex s.h) hc _ fun x w H3 G3 hx s3 g3 a3 => by
    obtain ⟨i, hi, rfl⟩ := hx
    obtain ⟨p, vs, rfl, hs, hd⟩ := at_list a
    rw [at_int a3]
    obtain ⟨w, hw, hdw⟩ := atI_dp hd (atI_getI (f := f) (h i hi))
    have hs3 : SqL K H3 p vs := sq_of (s3.gh _ _ (s3.g _ _ hs))
    exact ⟨p, vs, i, w, rfl, rfl, hs3, hw, q _ w H3 G3 ⟨i, hi, rfl⟩ ((Gx.of s).trans (gc.ex s.h).ne s3) g3 (dpEx s3.g _ _ hdw)⟩
theorem er_opL {r : R2} {j : Int} {P : Int → Prop} {F : Int → PyData} (ha : EvR C g m ta σ G (fun z => ∃ i, P i ∧ z = .py (.int i))) (hb : EvD C tb σ G (.py (.int j))) (hr : ∀ i, P i → ∃ w, (∀ H (Q : VK), Q w H → r (.int i) (.int j) H Q) ∧ Flat w (.py (F i))) :
    EvR C g m (tOp r ta tb) σ G (fun z => ∃ i, P i ∧ z = .py (F i)) := fun H1 c e n gc hc Q q =>
  ha H1 c e n gc hc _ fun x v H2 G2 hx s g2 a => by
    obtain ⟨i, hi, rfl⟩ := hx
    refine (hb.mono s.g) H2 s.gh _ fun w H3 G3 s3 b => ?_
    rw [at_int a, at_int b]
    obtain ⟨z, hz, fz⟩ := hr i hi
    exact hz H3 Q (q _ z H3 G3 ⟨i, hi, rfl⟩ (s.trans g2.ne (Gx.of s3)) (g2.ex s3.h) (fz C G3))
theorem er_opR {r : R2} {j : Int} {P : Int → Prop} {F : Int → PyData} (ha : EvD C ta σ G (.py (.int j))) (hb : EvR C g m tb σ G (fun z => ∃ i, P i ∧ z = .py (.int i))) (hr : ∀ i, P i → ∃ w, (∀ H (Q : VK), Q w H → r (.int j) (.int i) H Q) ∧ Flat w (.py (F i))) :
    EvR C g m (tOp r ta tb) σ G (fun z => ∃ i, P i ∧ z = .py (F i)) := fun H1 c e n gc hc Q q =>
  ha H1 e _ fun v H2 G2 s a => (hb.mono s.g) H2 c s.gh (s.nw g gc.ne n) (gc.ex s.h) hc _ fun x w H3 G3 hx s3 g3 b => by
    obtain ⟨i, hi, rfl⟩ := hx
    rw [at_int a, at_int b]
    obtain ⟨z, hz, fz⟩ := hr i hi
    exact hz H3 Q (q _ z H3 G3 ⟨i, hi, rfl⟩ ((Gx.of s).trans (gc.ex s.h).ne s3) g3 (fz C G3))
theorem er_if {b : Bool} (h : EvT t σ G b) (h1 : b = true → EvR C g m ta σ G Φ) (h2 : b = false → EvR C g m' tb σ G Ψ) (hm : 0 ≤ m) (hm' : 0 ≤ m') : EvR C g (m + m') (tIf t ta tb) σ G (fun z => if b = true then Φ z else Ψ z) := fun H1 c e n gc hc Q q => h H1 e _ fun H2 e2 => by
  have s2 : Gs H1 G H2 G := Gs.same e e2
  cases b with
  | true =>
    show ta σ H2 Q
    exact h1 rfl H2 c s2.gh n (gc.ex e2) (by omega) Q fun x v H3 G3 hx s g3 a => q x v H3 G3 hx ((Gx.of s2).trans (gc.ex e2).ne s) (g3.le (by omega)) a
  | false =>
    show tb σ H2 Q
    exact h2 rfl H2 c s2.gh n (gc.ex e2) (by omega) Q fun x v H3 G3 hx s g3 a => q x v H3 G3 hx ((Gx.of s2).trans (gc.ex e2).ne s) (g3.le (by omega)) a
theorem ctN_ct {xs : List Da} {ds : List PyData} (c : CtN C sp xs ds) : Ct C sp xs (.py (.list ds)) := fun vs G a H1 e Q q E => c vs G a H1 e Q (fun p us H2 G2 s h1 h2 h3 h4 => q _ H2 _ (s.join h1 h3 h2) (.lst upd_same (dpExAll (Ex.new h2) _ _ h4))) E
theorem er_callA {Ψ : List Da → Prop} (h : EvRs C g m as σ G Ψ) (c : ∀ xs, Ψ xs → ∃ x, Φ x ∧ Ct C sp xs x) : EvR C g m (tCall sp [] E as) σ G Φ := fun H1 cc e n gc hc Q q => h H1 cc e n gc hc _ fun xs vs H2 G2 hx s g2 a => by
  obtain ⟨x, hx2, cx⟩ := c xs hx
  show sp (vs ++ []) H2 Q E
  rw [List.append_nil]
  exact cx vs G2 a H2 s.gh Q (fun v H3 G3 s3 a3 => q x v H3 G3 hx2 (s.trans g2.ne (Gx.of s3)) (g2.ex s3.h) a3) E
theorem ed_cv (a : At C G v x) : EvD C (tC v) σ G x := fun H1 e Q q => q v H1 G (Gs.refl e) a
/-- a new Kind -/
theorem ed_make {k : Nm} {n : Nat} (h : EvAs C as σ G [.py (.str k.s), .py (.int (n : Int))]) (hK : okK k n = true) : EvD C (tMake C (spInit C) [] E as) σ G (.kd k n) := fun H1 e Q q => h H1 e _ fun vs H2 G2 s a => by
  obtain ⟨v, w, rfl, a1, a2⟩ := at_all2 a
  rw [at_str a1, at_int a2]
  intro p dx np ndx ne
  refine ⟨p, dx, k, n, rfl, hK, upd_same, fun H3 h3 h4 => ⟨rfl, ?_⟩⟩
  have e23 : Ex H2 H3 := fun b o hb => h4 b o (by
    have b1 : b ≠ p := fun z => by rw [z, np] at hb; cases hb
    have b2 : b ≠ dx := fun z => by rw [z, ndx] at hb; cases hb
    rw [upd_ne b1, upd_ne b2]
    exact hb) (fun z => by rw [z, np] at hb; cases hb)
  exact q _ H3 _ (s.trans (Gs.newAt s.gh np e23 h3)) ⟨p, rfl, dx, upd_same⟩
variable {D : Ends} {tu tw tz : TS}
theorem q_asgR {i : Nat} {c : Int} (h : EvR C g m te σ G Φ) (eG : Ex G H) (n : G g = none) (gc : GenC H g c) (hc : c + m ≤ 600000) (k : ∀ x v H1 G1, Φ x → Gx g H G H1 G1 → GenC H1 g (c + m) → At C G1 v x → tz D (σ.set i (some v)) H1) : tSeq (tAsg te (gName i)) tz D σ H := h H c eG n gc hc _ fun x v H1 G1 hx s g2 a => k x v H1 G1 hx s g2 a
theorem q_parR {i j : Nat} {c : Int} {Φ : List Da → Prop} (h : EvRs C g m as σ G Φ) (hl : ∀ xs, Φ xs → xs.length = 2) (eG : Ex G H) (n : G g = none) (gc : GenC H g c) (hc : c + m ≤ 600000) (k : ∀ x y v w H1 G1, Φ [x, y] → Gx g H G H1 G1 → GenC H1 g (c + m) → At C G1 v x → At C G1 w y → tz D ((σ.set i (some v)).set j (some w)) H1) : tSeq (tPar i j as) tz D σ H := h H c eG n gc hc _ fun xs vs H1 G1 hx s g2 a => by
  cases a with
  | nil => exact absurd (hl _ hx) (by simp)
  | cons a b =>
    cases b with
    | nil => exact absurd (hl _ hx) (by simp)
    | cons b c =>
      cases c with
      | nil => exact ⟨_, _, rfl, k _ _ _ _ H1 G1 hx s g2 a b⟩
      | cons c d => exact absurd (hl _ hx) (by simp)
theorem q_par3R {i j l : Nat} {c : Int} {Φ : List Da → Prop} (h : EvRs C g m as σ G Φ) (hl : ∀ xs, Φ xs → xs.length = 3) (eG : Ex G H) (n : G g = none) (gc : GenC H g c) (hc : c + m ≤ 600000) (k : ∀ x y z v w u H1 G1, Φ [x, y, z] → Gx g H G H1 G1 → GenC H1 g (c + m) → At C G1 v x → At C G1 w y → At C G1 u z → tz D (((σ.set i (some v)).set j (some w)).set l (some u)) H1) : tSeq (tPar3 i j l as) tz D σ H := h H c eG n gc hc _ fun xs vs H1 G1 hx s g2 a => by
  cases a with
  | nil => exact absurd (hl _ hx) (by simp)
  | cons a b =>
    cases b with
    | nil => exact absurd (hl _ hx) (by simp)
    | cons b c =>
      cases c with
      | nil => exact absurd (hl _ hx) (by simp)
      | cons c d =>
        cases d with
        | nil => exact ⟨_, _, _, rfl, k _ _ _ _ _ _ H1 G1 hx s g2 a b c⟩
        | cons _ _ => exact absurd (hl _ hx) (by simp)
theorem ev_two {c : Int} (h1 : EvR C g m ta σ G Φ) (h2 : EvR C g m' tb σ G Ψ) (eG : Ex G H) (n : G g = none) (gc : GenC H g c) (hm : 0 ≤ m') (hc : c + m + m' ≤ 600000) {Q : List V → Hp → Prop} (k : ∀ x y v w H1 G1, Φ x → Ψ y → Gx g H G H1 G1 → GenC H1 g (c + m + m') → At C G1 v x → At C G1 w y → Q [v, w] H1) : tCons ta (tCons tb tNil) σ H Q :=
  h1 H c eG n gc (by omega) _ fun x v H1 G1 hx s1 g1 a1 => (h2.mono s1.g) H1 (c + m) s1.gh (s1.keepNone gc n) g1 hc _ fun y w H2 G2 hy s2 g2 a2 => k x y v w H2 G2 hx hy (s1.trans g1.ne s2) g2 (a1.mono s2.g) a2
theorem ev_three {c m'' : Int} {X : Da → Prop} (h1 : EvR C g m ta σ G Φ) (h2 : EvR C g m' tb σ G Ψ) (h3 : EvR C g m'' tc σ G X) (eG : Ex G H) (n : G g = none) (gc : GenC H g c) (hm : 0 ≤ m') (hm2 : 0 ≤ m'') (hc : c + m + m' + m'' ≤ 600000) {Q : List V → Hp → Prop} (k : ∀ x y z v w u H1 G1, Φ x → Ψ y → X z → Gx g H G H1 G1 → GenC H1 g (c + m + m' + m'') → At C G1 v x → At C G1 w y → At C G1 u z → Q [v, w, u] H1) : tCons ta (tCons tb (tCons tc tNil)) σ H Q :=
  h1 H c eG n gc (by omega) _ fun x v H1 G1 hx s1 g1 a1 => (h2.mono s1.g) H1 (c + m) s1.gh (s1.keepNone gc n) g1 (by omega) _ fun y w H2 G2 hy s2 g2 a2 =>
    (h3.mono (s1.g.trans s2.g)) H2 (c + m + m') s2.gh (s2.keepNone g1 (s1.keepNone gc n)) g2 hc _ fun z u H3 G3 hz s3 g3 a3 => k x y z v w u H3 G3 hx hy hz ((s1.trans g1.ne s2).trans g2.ne s3) g3 ((a1.mono s2.g).mono s3.g) (a2.mono s3.g) a3
theorem q_par2 {i j : Nat} {c : Int} (h1 : EvR C g m ta σ G Φ) (h2 : EvR C g m' tb σ G Ψ) (eG : Ex G H) (n : G g = none) (gc : GenC H g c) (hm : 0 ≤ m') (hc : c + m + m' ≤ 600000) (k : ∀ x y v w H1 G1, Φ x → Ψ y → Gx g H G H1 G1 → GenC H1 g (c + m + m') → At C G1 v x → At C G1 w y → tz D ((σ.set i (some v)).set j (some w)) H1) : tSeq (tPar i j (tCons ta (tCons tb tNil))) tz D σ H := by
  show tCons ta (tCons tb tNil) σ H fun vs H1 => ∃ v w, vs = [v, w] ∧ tz D ((σ.set i (some v)).set j (some w)) H1
  exact ev_two h1 h2 eG n gc hm hc fun x y v w H1 G1 hx hy s g1 a b => ⟨v, w, rfl, k x y v w H1 G1 hx hy s g1 a b⟩
theorem q_par3 {i j l : Nat} {c m'' : Int} {X : Da → Prop} (h1 : EvR C g m ta σ G Φ) (h2 : EvR C g m' tb σ G Ψ) (h3 : EvR C g m'' tc σ G X) (eG : Ex G H) (n : G g = none) (gc : GenC H g c) (hm : 0 ≤ m') (hm2 : 0 ≤ m'') (hc : c + m + m' + m'' ≤ 600000) (k : ∀ x y z v w u H1 G1, Φ x → Ψ y → X z → Gx g H G H1 G1 → GenC H1 g (c + m + m' + m'') → At C G1 v x → At C G1 w y → At C G1 u z → tz D (((σ.set i (some v)).set j (some w)).set l (some u)) H1) : tSeq (tPar3 i j l (tCons ta (tCons tb (tCons tc tNil)))) tz D σ H := by
  show tCons ta (tCons tb (tCons tc tNil)) σ H fun vs H1 => ∃ u v w, vs = [u, v, w] ∧ tz D (((σ.set i (some u)).set j (some v)).set l (some w)) H1
  exact ev_three h1 h2 h3 eG n gc hm hm2 hc fun x y z v w u H1 G1 hx hy hz s g1 a b c => ⟨v, w, u, rfl, k x y z v w u H1 G1 hx hy hz s g1 a b c⟩
theorem q_tupR2 {i j : Nat} {c : Int} (h1 : EvR C g m ta σ G Φ) (h2 : EvR C g m' tb σ G Ψ) (eG : Ex G H) (n : G g = none) (gc : GenC H g c) (hm : 0 ≤ m') (hc : c + m + m' ≤ 600000) (k : ∀ x y v w H1 G1, Φ x → Ψ y → Gx g H G H1 G1 → GenC H1 g (c + m + m') → At C G1 v x → At C G1 w y → tz D ((σ.set i (some v)).set j (some w)) H1) : tSeq (tAsg (tTup (tCons ta (tCons tb tNil))) (gTup K 2 (gCons (gName i) (gCons (gName j) gNil)))) tz D σ H := by
  show tCons ta (tCons tb tNil) σ H fun xs H1 => xs.length ≤ sizeLine ∧ ∀ p, H1 p = none → gTup K 2 (gCons (gName i) (gCons (gName j) gNil)) (.ref p) σ (L2.upd H1 p (.tup xs)) (tz D)
  exact ev_two h1 h2 eG n gc hm hc fun x y v w H1 G1 hx hy s g1 a b => ⟨by show 2 ≤ sizeLine; decide, fun p np => ⟨p, _, rfl, st_of upd_same, rfl, _, _, rfl, _, _, rfl, rfl, by
    have s' := (Gx.of (g := g) (Gs.same s.gh (Ex.new (o := .tup [v, w]) np)))
    exact k x y v w _ G1 hx hy (s.trans g1.ne s') (g1.ex (Ex.new np)) a b⟩⟩
theorem q_tupR3 {i j l : Nat} {c m'' : Int} {X : Da → Prop} (h1 : EvR C g m ta σ G Φ) (h2 : EvR C g m' tb σ G Ψ) (h3 : EvR C g m'' tc σ G X) (eG : Ex G H) (n : G g = none) (gc : GenC H g c) (hm : 0 ≤ m') (hm2 : 0 ≤ m'') (hc : c + m + m' + m'' ≤ 600000) (k : ∀ x y z v w u H1 G1, Φ x → Ψ y → X z → Gx g H G H1 G1 → GenC H1 g (c + m + m' + m'') → At C G1 v x → At C G1 w y → At C G1 u z → tz D (((σ.set i (some v)).set j (some w)).set l (some u)) H1) : tSeq (tAsg (tTup (tCons ta (tCons tb (tCons tc tNil)))) (gTup K 3 (gCons (gName i) (gCons (gName j) (gCons (gName l) gNil))))) tz D σ H := by
  show tCons ta (tCons tb (tCons tc tNil)) σ H fun xs H1 => xs.length ≤ sizeLine ∧ ∀ p, H1 p = none → gTup K 3 (gCons (gName i) (gCons (gName j) (gCons (gName l) gNil))) (.ref p) σ (L2.upd H1 p (.tup xs)) (tz D)
  exact ev_three h1 h2 h3 eG n gc hm hm2 hc fun x y z v w u H1 G1 hx hy hz s g1 a b c => ⟨by show 3 ≤ sizeLine; decide, fun p np => ⟨p, _, rfl, st_of upd_same, rfl, _, _, rfl, _, _, rfl, _, _, rfl, rfl, by
    have s' := (Gx.of (g := g) (Gs.same s.gh (Ex.new (o := .tup [v, w, u]) np)))
    exact k x y z v w u _ G1 hx hy hz (s.trans g1.ne s') (g1.ex (Ex.new np)) a b c⟩⟩
/-- an owned list beside a generator -/
structure OwnR (C : Addr) (G H : Hp) (a : Addr) (vs : List V) (ds : List PyData) : Prop where
  o : H a = some (.lst vs)
  n : G a = none
  d : DqAll G vs ds
theorem OwnR.stepG {a : Addr} {vs : List V} {ds : List PyData} (w : OwnR C G H a vs ds) (ng : a ≠ g) (s : Gx g H G H' G') : OwnR C G' H' a vs ds :=
  ⟨s.x _ _ w.o ng, s.nw a (by rw [w.o]; exact fun z => by cases z) w.n, dpExAll s.g _ _ w.d⟩
theorem OwnR.step {a : Addr} {vs : List V} {ds : List PyData} (w : OwnR C G H a vs ds) (s : Gs H G H' G') : OwnR C G' H' a vs ds :=
  ⟨s.h _ _ w.o, s.nw a (by rw [w.o]; exact fun z => by cases z) w.n, dpExAll s.g _ _ w.d⟩
theorem OwnR.set {a : Addr} {vs us : List V} {ds es : List PyData} (w : OwnR C G H a vs ds) (d : DqAll G us es) : OwnR C G (L2.upd H a (.lst us)) a us es := ⟨upd_same, w.n, d⟩
theorem OwnR.other {a b : Addr} {vs : List V} {ds : List PyData} {o : HO} (w : OwnR C G H a vs ds) (h : a ≠ b) : OwnR C G (L2.upd H b o) a vs ds :=
  ⟨by rw [upd_ne h]; exact w.o, w.n, w.d⟩
theorem OwnR.at {a : Addr} {vs : List V} {ds : List PyData} (w : OwnR C G H a vs ds) : At C (L2.upd G a (.lst vs)) (.ref a) (.py (.list ds)) := .lst upd_same (dpExAll (Ex.new w.n) _ _ w.d)
theorem OwnR.ex {a : Addr} {vs : List V} {ds : List PyData} (w : OwnR C G H a vs ds) (e : Ex G H) : Ex (L2.upd G a (.lst vs)) H := fun b u z => by
  by_cases q : b = a
  · subst q
    rw [upd_same] at z
    rw [← z]
    exact w.o
  · rw [upd_ne q] at z
    exact e b u z
theorem q_forR {gt : TG} {c : Int} (h : EvR C g m tl σ G Φ) (eG : Ex G H) (n : G g = none) (gc : GenC H g c) (hc : c + m ≤ 600000) (k : ∀ x v H1 G1, Φ x → Gx g H G H1 G1 → GenC H1 g (c + m) → At C G1 v x → tSeq (tFor (iList K (tC v)) gt tu) tz D σ H1) : tSeq (tFor (iList K tl) gt tu) tz D σ H :=
  h H c eG n gc hc _ fun x v H1 G1 hx s g2 a => k x v H1 G1 hx s g2 a
theorem OwnR.snocE {α : Type} {e : α → PyData} {ws : List α} {x : α} {a : Addr} {vs : List V} (w : OwnR C G H a vs (ws.map e ++ [e x])) : OwnR C G H a vs ((ws ++ [x]).map e) := by
  rw [List.map_append]
  exact w
theorem upd_upd {H : Hp} {p : Addr} {o u : HO} : L2.upd (L2.upd H p o) p u = L2.upd H p u := by
  funext a
  by_cases q : a = p
  · subst q
    rw [upd_same, upd_same]
  · rw [upd_ne q, upd_ne q, upd_ne q]
theorem dqa_set {vs : List V} {ds : List PyData} {v : V} {d : PyData} : ∀ {vs : List V} {ds : List PyData} (j : Nat), DqAll G vs ds → Dq G v d → DqAll G (vs.set j v) (ds.set j d)
  | _, _, _, .nil, _ => .nil
  | _, _, 0, .cons a b, h => .cons h b
  | _, _, j + 1, .cons a b, h => .cons a (dqa_set (vs := vs) (ds := ds) j b h)
/-- x[i], x[j] = a, b: an owned list of whole numbers -/
theorem q_store2 {l : Addr} {vs : List V} {ws : List Int} {i j : Int} {a b : Int} {to ti to' ti' te' : TE} (w : OwnR C G H l vs (ws.map PyData.int)) (eG : Ex G H) (h1 : EvD C te σ (L2.upd G l (.lst vs)) (.py (.int a))) (h2 : EvD C te' σ (L2.upd G l (.lst vs)) (.py (.int b)))
    (ho : ∀ H Q, Q (.ref l) H → to σ H Q) (hi : EvD C ti σ G (.py (.int i))) (ho' : ∀ H Q, Q (.ref l) H → to' σ H Q) (hj : EvD C ti' σ G (.py (.int j))) (hij : (0 ≤ i ∧ i < ws.length) ∧ 0 ≤ j ∧ j < ws.length)
    (k : ∀ H1 us, Gs H G H1 G → OwnR C G (L2.upd H1 l (.lst us)) l us (((ws.set i.toNat a).set j.toNat b).map PyData.int) → Ex G (L2.upd H1 l (.lst us)) → tz D σ (L2.upd H1 l (.lst us))) :
    tSeq (tAsg (tTup (tCons te (tCons te' tNil))) (gTup K 2 (gCons (gSub to ti rSetL) (gCons (gSub to' ti' rSetL) gNil)))) tz D σ H := by
  have hl : vs.length = ws.length := by rw [dpa_len w.d, List.length_map]
  refine h1 H (w.ex eG) _ fun v1 H1 G1 s1 a1 => (h2.mono s1.g) H1 s1.gh _ fun v2 H2 G2 s2 a2 => ⟨by show 2 ≤ sizeLine; decide, fun p np => ?_⟩
  rw [at_int a1, at_int a2]
  have e02 : Ex H H2 := s1.h.trans s2.h
  have e03 : Ex H (L2.upd H2 p (.tup [.int a, .int b])) := e02.trans (Ex.new np)
  have eG3 : Ex G (L2.upd H2 p (.tup [.int a, .int b])) := eG.trans e03
  have hpl : p ≠ l := fun z => by
    have := e02 _ _ w.o
    rw [← z, np] at this
    cases this
  refine ⟨p, _, rfl, st_of upd_same, rfl, _, _, rfl, ho _ _ (hi _ eG3 _ fun x1 H4 G4 s4 b4 => ?_)⟩
  rw [at_int b4]
  have hl4 : H4 l = some (.lst vs) := s4.h _ _ (e03 _ _ w.o)
  obtain ⟨ni, hni⟩ : ∃ n : Nat, i = (n : Int) := ⟨i.toNat, by omega⟩
  obtain ⟨nj, hnj⟩ : ∃ n : Nat, j = (n : Int) := ⟨j.toNat, by omega⟩
  subst hni hnj
  refine ⟨l, vs, (ni : Int), ni, rfl, rfl, hl4, Evl.ixN_nat (by omega), ?_⟩
  have e4 : Ex G H4 := eG3.trans s4.h
  have eG5 : Ex G (L2.upd H4 l (.lst (vs.set ni (.int a)))) := Ex.mut e4 w.n
  refine ⟨_, _, rfl, ho' _ _ (hj _ eG5 _ fun x2 H6 G6 s6 b6 => ?_)⟩
  rw [at_int b6]
  have hl6 : H6 l = some (.lst (vs.set ni (.int a))) := s6.h _ _ upd_same
  refine ⟨l, vs.set ni (.int a), (nj : Int), nj, rfl, rfl, hl6, Evl.ixN_nat (by rw [List.length_set]; omega), rfl, ?_⟩
  have eGe : Ex G (L2.upd H6 l (.lst ((vs.set ni (.int a)).set nj (.int b)))) := Ex.mut (eG5.trans s6.h) w.n
  have d2 : DqAll G ((vs.set ni (.int a)).set nj (.int b)) (((ws.set (ni : Int).toNat a).set (nj : Int).toNat b).map PyData.int) := by
    rw [List.map_set, List.map_set]
    exact dqa_set (vs := vs) (ds := []) _ (dqa_set (vs := vs) (ds := []) _ w.d (.int a)) (.int b)
  -- all that the heap told ahead, but for the list, it tells now
  have key := k (fun x => if x = l then some (.lst vs) else H6 x) ((vs.set ni (.int a)).set nj (.int b)) ⟨fun x o hx => ?_, Ex.refl _, fun x o hx => ?_, fun _ _ h => h⟩
  · have eu : L2.upd (fun x => if x = l then some (HO.lst vs) else H6 x) l (.lst ((vs.set ni (.int a)).set nj (.int b))) = L2.upd H6 l (.lst ((vs.set ni (.int a)).set nj (.int b))) := by
      funext x
      by_cases q : x = l
      · subst q; rw [upd_same, upd_same]
      · rw [upd_ne q, upd_ne q]
        exact if_neg q
    rw [eu] at key
    exact key ⟨upd_same, w.n, d2⟩ eGe
  · show (if x = l then some (HO.lst vs) else H6 x) = some o
    by_cases q : x = l
    · subst q
      rw [if_pos rfl]
      rw [w.o] at hx
      exact hx
    · rw [if_neg q]
      refine s6.h _ _ ?_
      rw [upd_ne q]
      exact s4.h _ _ (e03 _ _ hx)
  · show (if x = l then some (HO.lst vs) else H6 x) = some o
    by_cases q : x = l
    · subst q
      rw [w.n] at hx
      cases hx
    · rw [if_neg q]
      exact (eG5.trans s6.h) _ _ hx
theorem s_noD {b : Bool} (h : EvT t σ G b) (eG : Ex G H) (hb : b = false) (k : ∀ H1, Gs H G H1 G → D.nx σ H1) : tIfS t tu tNext D σ H := h H eG _ fun H1 e => by
  subst hb
  exact k H1 (Gs.same eG e)
/-- what draws and gives data of a kind -/
def spDr (C : Addr) (m : Int) (Dm : List Da → Prop) (R : List Da → Da → Prop) : Sp := fun vs H Q _ => ∃ g vs' G xs c, vs = .ref g :: vs' ∧ Ex G H ∧ G g = none ∧ AtAll C G vs' xs ∧ GenC H g c ∧ c + m ≤ 600000 ∧ Dm xs ∧ ∀ x v H2 G2, R xs x → Gx g H G H2 G2 → GenC H2 g (c + m) → At C G2 v x → Q v H2
theorem ct_dr {Dm : List Da → Prop} {R : List Da → Da → Prop} {xs : List Da} (h : Dm xs) : CtR C (spDr C m Dm R) m xs (R xs) := fun g vs G n a H1 c e gc hc Q q E => ⟨g, vs, G, xs, c, rfl, e, n, a, gc, hc, h, q⟩
/-- flat data stand in every heap -/
theorem dqa_flat : ∀ {vs : List V} {ws : List Int}, DqAll G vs (ws.map PyData.int) → ∀ {G2 : Hp}, DqAll G2 vs (ws.map PyData.int)
  | _, [], .nil, _ => .nil
  | _, _ :: _, .cons a b, _ => .cons (by cases a; exact .int _) (dqa_flat b)
theorem nw_upd {H0 G0 : Hp} {p : Addr} {o : HO} (h : ∀ a, H0 a ≠ none → G0 a = none → G a = none) (f : H0 p = none) : ∀ a, H0 a ≠ none → G0 a = none → L2.upd G p o a = none := fun a h1 h2 => by
  by_cases q : a = p
  · subst q
    exact absurd f h1
  · rw [upd_ne q]
    exact h a h1 h2
theorem al_upd {p a : Addr} {o : HO} (h : H a ≠ none) : L2.upd H p o a ≠ none := by
  by_cases q : a = p
  · subst q
    rw [upd_same]
    exact fun z => by cases z
  · rw [upd_ne q]
    exact h
theorem sx_upd {H0 : Hp} {p : Addr} {o : HO} (s : SameX g H0 H) (f : H0 p = none) : SameX g H0 (L2.upd H p o) := fun b u h n => by
  have hb : b ≠ p := fun z => by rw [z, f] at h; cases h
  rw [upd_ne hb]
  exact s b u h n
/-- the heap without the generator -/
def rmv (H : Hp) (g : Addr) : Hp := fun a => if a = g then none else H a
theorem rmv_ex (H : Hp) (g : Addr) : Ex (rmv H g) H := fun a o h => by
  unfold rmv at h
  by_cases q : a = g
  · rw [if_pos q] at h; cases h
  · rw [if_neg q] at h; exact h
theorem rmv_none (H : Hp) (g : Addr) : rmv H g g = none := if_pos rfl
theorem rmv_same {H H' : Hp} {g : Addr} (e : Ex (rmv H g) H') : SameX g H H' := fun b o h n => e b o (by unfold rmv; rw [if_neg n]; exact h)
end
end Sv

/-! Small data: shown shortly, compared, one in another. By the verifier. -/
namespace Sv
open PySem PySem.Spec PyProof.Rows L2 Evl
structure Tn (d : PyData) : Prop where
  b : PyData.leavesShort 50 d = true
  w : PyData.weight d ≤ 200
  s : PyData.showable d = true
  h : PyData.hasDict d = false
  l : PyData.canLay0 d = true
  p : PyData.depth d ≤ 1
theorem tn_int {i : Int} (h : i.natAbs < 10 ^ 40) : Tn (.int i) := by
  have hlog : i.natAbs.log2 < 140 := by
    by_cases z : i.natAbs = 0
    · rw [z]; decide
    · exact (Nat.log2_lt z).mpr (by omega)
  refine ⟨?_, ?_, ?_, rfl, rfl, by simp [PyData.depth]⟩
  · have e := int_text_length_le10 (k := 40) (by decide) h
    simp only [PyData.leavesShort, decide_eq_true_eq]
    show (Str.ofString (toString i)).length ≤ 50
    rw [PySem.ofString_length]
    omega
  · simp only [PyData.weight]
    split <;> omega
  · simp only [PyData.showable, decide_eq_true_eq]
    omega
theorem tn_bool (b : Bool) : Tn (.bool b) := ⟨rfl, by simp [PyData.weight], rfl, rfl, rfl, by simp [PyData.depth]⟩
theorem tn_none : Tn .none := ⟨rfl, by simp [PyData.weight], rfl, rfl, rfl, by simp [PyData.depth]⟩
theorem char_small (c : Char) : c.toNat < 0x110000 := by
  have := c.valid
  show c.val.toNat < 0x110000
  unfold UInt32.isValidChar Nat.isValidChar at this
  omega
theorem tn_text {s : String} (h : s.length ≤ 100) : Tn (.str (Str.ofString s)) := by
  have e : (Str.ofString s).cps.toList = s.toList.map Char.toNat := by rw [Str.ofString_eq_toList]
  refine ⟨?_, ?_, rfl, rfl, ?_, by simp [PyData.depth]⟩
  · simp only [PyData.leavesShort]
    rw [e, List.all_eq_true]
    intro c hc
    obtain ⟨x, _, rfl⟩ := List.mem_map.mp hc
    have := char_small x
    exact decide_eq_true (by omega)
  · have := PySem.ofString_length s
    simp only [PyData.weight]
    show (Str.ofString s).length ≤ 200
    omega
  · show PyData.strOk (Str.ofString s) = true
    unfold PyData.strOk
    rw [← Array.all_toList, e, List.all_eq_true]
    intro c hc
    obtain ⟨x, _, rfl⟩ := List.mem_map.mp hc
    exact decide_eq_true (char_small x)
theorem tn_all : ∀ xs : List PyData, (∀ x ∈ xs, Tn x) → PyData.leavesShortAll 50 xs = true ∧ PyData.weightAll xs ≤ 201 * xs.length ∧ PyData.showableAll xs = true ∧ PyData.hasDictAll xs = false ∧ PyData.canLayAll0 xs = true ∧ PyData.depthAll xs ≤ 1
  | [], _ => ⟨rfl, Nat.le_refl _, rfl, rfl, rfl, by simp [PyData.depthAll]⟩
  | x :: xs, h => by
    obtain ⟨a, b, c, d, e, f⟩ := tn_all xs fun y hy => h y (List.mem_cons_of_mem _ hy)
    have hx := h x List.mem_cons_self
    refine ⟨?_, ?_, ?_, ?_, ?_, ?_⟩
    · simp only [PyData.leavesShortAll, hx.b, a]; rfl
    · have := hx.w
      simp only [PyData.weightAll, List.length_cons]
      omega
    · simp only [PyData.showableAll, hx.s, c]; rfl
    · simp only [PyData.hasDictAll, hx.h, d]; rfl
    · show (PyData.canLay0 x && PyData.canLayAll0 xs) = true
      rw [hx.l, e]; rfl
    · have := hx.p
      show max (PyData.depth x) (PyData.depthAll xs) ≤ 1
      omega
theorem shown_fits50 {d : PyData} (hl : d.leavesShort 50 = true) (hw : d.weight ≤ 20000) : d.shown.length ≤ sizeLine := by
  have h := PyData.shown_le 50 (by decide) d hl
  have h2 : (50 + 2) * d.weight ≤ 52 * 20000 := Nat.mul_le_mul (by omega) hw
  rw [sizeLine_eq]
  omega
theorem showy_list {xs : List PyData} (h : ∀ x ∈ xs, Tn x) (hl : xs.length ≤ 60) : Showy (.list xs) := by
  obtain ⟨a, b, c, d, e, f⟩ := tn_all xs h
  refine ⟨by simpa only [PyData.showable] using c, .inl (by simpa only [PyData.hasDict] using d), by simp only [PyData.depth]; omega, shown_fits50 (by simpa only [PyData.leavesShort] using a) (by simp only [PyData.weight]; omega)⟩
theorem showy_tuple {xs : List PyData} (h : ∀ x ∈ xs, Tn x) (hl : xs.length ≤ 60) : Showy (.tuple xs) := by
  obtain ⟨a, b, c, d, e, f⟩ := tn_all xs h
  refine ⟨by simpa only [PyData.showable] using c, .inl (by simpa only [PyData.hasDict] using d), by simp only [PyData.depth]; omega, shown_fits50 (by simpa only [PyData.leavesShort] using a) (by simp only [PyData.weight]; omega)⟩
theorem Tn.showy {d : PyData} (h : Tn d) : Showy d := ⟨h.s, .inl h.h, Nat.le_trans h.p (by decide), shown_fits50 h.b (Nat.le_trans h.w (by decide))⟩
theorem showy_dict : Showy (.dict []) := ⟨rfl, .inr rfl, by simp [PyData.depth, PyData.depthKv], by decide +kernel⟩
theorem tn_ints {xs : List Int} (h : ∀ x ∈ xs, x.natAbs < 10 ^ 40) : ∀ d ∈ xs.map PyData.int, Tn d := fun d hd => by
  obtain ⟨x, hx, rfl⟩ := List.mem_map.mp hd
  exact tn_int (h x hx)
/-- a list of one level within a list -/
theorem tn_list {xs : List PyData} (h : ∀ x ∈ xs, Tn x ∧ PyData.depth x = 0 ∧ PyData.weight x ≤ 10) (hl : xs.length ≤ 10) : Tn (.list xs) := by
  obtain ⟨a, b, c, d, e, f⟩ := tn_all xs fun x hx => (h x hx).1
  have hw : PyData.weightAll xs ≤ 11 * xs.length := by
    clear a b c d e f hl
    induction xs with
    | nil => exact Nat.le_refl _
    | cons x xs ih =>
      have := (h x List.mem_cons_self).2.2
      have := ih fun y hy => h y (List.mem_cons_of_mem _ hy)
      simp only [PyData.weightAll, List.length_cons]
      omega
  have hp : PyData.depthAll xs = 0 := by
    clear a b c d e f hl hw
    induction xs with
    | nil => simp [PyData.depthAll]
    | cons x xs ih =>
      have h1 := (h x List.mem_cons_self).2.1
      have h2 := ih fun y hy => h y (List.mem_cons_of_mem _ hy)
      show max (PyData.depth x) (PyData.depthAll xs) = 0
      omega
  exact ⟨by simpa only [PyData.leavesShort] using a, by simp only [PyData.weight]; omega, by simpa only [PyData.showable] using c, by simpa only [PyData.hasDict] using d, e, by simp only [PyData.depth, hp]; omega⟩
end Sv

namespace Sv
open PySem PySem.Spec PyProof.Rows L2 Evl
theorem cutL_le {α : Type} (ws : List α) (lo hi : Option Int) : (cutL ws lo hi).length ≤ ws.length := by
  unfold cutL
  rw [List.length_take, List.length_drop]
  omega
theorem cutL_mem {α : Type} {ws : List α} {lo hi : Option Int} {x : α} (h : x ∈ cutL ws lo hi) : x ∈ ws := List.mem_of_mem_drop (List.mem_of_mem_take h)
theorem enumL_mem {α : Type} {ws : List α} {x : Int × α} (h : x ∈ enumL ws) : (0 ≤ x.1 ∧ x.1 < ws.length) ∧ x.2 ∈ ws := by
  obtain ⟨i, hi, e⟩ := List.mem_iff_getElem.mp h
  rw [enumL_len] at hi
  have e2 := enumL_get (List.getElem?_eq_getElem hi)
  rw [List.getElem?_eq_getElem (by rw [enumL_len]; exact hi), e] at e2
  cases e2
  exact ⟨⟨by show (0 : Int) ≤ (i : Int); omega, by show (i : Int) < _; omega⟩, List.getElem_mem hi⟩
theorem getI_mem {α : Type} [Inhabited α] {ws : List α} {i : Int} (h : -(ws.length : Int) ≤ i ∧ i < ws.length) : getI ws i ∈ ws := by
  unfold getI
  have hl : (if 0 ≤ i then i.toNat else ((ws.length : Int) + i).toNat) < ws.length := by split <;> omega
  rw [List.getD_eq_getElem?_getD, List.getElem?_eq_getElem hl]
  exact List.getElem_mem hl
theorem rep_one {α : Type} (n : Nat) (x : α) : (List.replicate n [x]).flatten = List.replicate n x := by
  induction n with
  | zero => rfl
  | succ n ih => rw [List.replicate_succ, List.flatten_cons, ih, List.replicate_succ]; rfl
/-- what is asked of a bent value -/
structure BentD (d : PyData) : Prop where
  sh : Showy d
  it : ∀ xs, d = .list xs → xs.length ≤ 1000 ∧ ∀ x ∈ xs, Mild x
def BentsP (ds : List PyData) : Prop := ds.length ≤ 40 ∧ ∀ d ∈ ds, BentD d
theorem bent_list {xs : List PyData} (h : ∀ x ∈ xs, Tn x) (hl : xs.length ≤ 60) : BentD (.list xs) := ⟨showy_list h hl, fun ys e => by
  cases e
  exact ⟨by omega, fun x hx => ⟨Nat.le_trans (h x hx).p (by decide), (h x hx).l⟩⟩⟩
theorem bent_other {d : PyData} (h : Showy d) (n : ∀ xs, d ≠ .list xs) : BentD d := ⟨h, fun xs e => absurd e (n xs)⟩
theorem bent_ints {xs : List Int} (h : ∀ x ∈ xs, x.natAbs < 10 ^ 40) (hl : xs.length ≤ 60) : BentD (eL PyData.int xs) := bent_list (tn_ints h) (by rw [List.length_map]; exact hl)
/-- whole numbers that may be bent further -/
def Sml (B : Nat) (xs : List Int) : Prop := xs.length ≤ 20 ∧ ∀ x ∈ xs, x.natAbs < B
theorem Sml.bent {B : Nat} {xs : List Int} (h : Sml B xs) (hB : B ≤ 10 ^ 40) : BentD (eL PyData.int xs) := bent_ints (fun x hx => Nat.lt_of_lt_of_le (h.2 x hx) hB) (Nat.le_trans h.1 (by decide))
theorem Sml.cut {B : Nat} {xs : List Int} {lo hi : Option Int} (h : Sml B xs) : Sml B (cutL xs lo hi) := ⟨Nat.le_trans (cutL_le _ _ _) h.1, fun x hx => h.2 x (cutL_mem hx)⟩
theorem Sml.app {B : Nat} {xs ys : List Int} (h : ∀ x ∈ xs, x.natAbs < B) (h2 : ∀ x ∈ ys, x.natAbs < B) (hl : xs.length + ys.length ≤ 20) : Sml B (xs ++ ys) := ⟨by rw [List.length_append]; exact hl, fun x hx => (List.mem_append.mp hx).elim (h x) (h2 x)⟩
theorem Sml.map {B B' : Nat} {xs : List Int} {f : Int → Int} (h : Sml B xs) (hf : ∀ x, x.natAbs < B → (f x).natAbs < B') : Sml B' (xs.map f) := ⟨by rw [List.length_map]; exact h.1, fun x hx => by
  obtain ⟨y, hy, rfl⟩ := List.mem_map.mp hx
  exact hf y (h.2 y hy)⟩
theorem bents_nil : BentsP [] := ⟨by decide, fun _ h => by cases h⟩
theorem bents_cons {d : PyData} {ds : List PyData} (h : BentD d) (hs : ∀ x ∈ ds, BentD x) : ∀ x ∈ d :: ds, BentD x := fun x hx => (List.mem_cons.mp hx).elim (fun e => e ▸ h) (hs x)
theorem no_bents : ∀ x ∈ ([] : List PyData), BentD x := fun x h => by cases h
theorem bents_map {wss : List (List Int)} (h : ∀ w ∈ wss, BentD (eL PyData.int w)) : ∀ x ∈ wss.map (eL PyData.int), BentD x := fun x hx => by
  obtain ⟨w, hw, rfl⟩ := List.mem_map.mp hx
  exact h w hw
theorem app_all {P : PyData → Prop} {xs ys : List PyData} (h : ∀ x ∈ xs, P x) (h2 : ∀ x ∈ ys, P x) : ∀ x ∈ xs ++ ys, P x := fun x hx => (List.mem_append.mp hx).elim (h x) (h2 x)
theorem lists_cons {w : List Int} {wss : List (List Int)} (h : BentD (eL PyData.int w)) (hs : ∀ x ∈ wss, BentD (eL PyData.int x)) : ∀ x ∈ w :: wss, BentD (eL PyData.int x) := fun x hx => (List.mem_cons.mp hx).elim (fun e => e ▸ h) (hs x)
theorem log2_small {m : Nat} (h : m < 10 ^ 40) : m.log2 < 1920 := by
  by_cases z : m = 0
  · rw [z]; decide
  · have h2 : m.log2 < 140 := (Nat.log2_lt z).mpr (Nat.lt_of_lt_of_le h (by decide))
    omega
theorem mem_set_or {xs : List Int} {i : Nat} {a x : Int} (h : x ∈ xs.set i a) : x ∈ xs ∨ x = a := by
  obtain ⟨j, hj, e⟩ := List.mem_iff_getElem.mp h
  rw [List.getElem_set] at e
  split at e
  · exact .inr e.symm
  · exact .inl (e ▸ List.getElem_mem _)
theorem no_lists : ∀ x ∈ ([] : List (List Int)), BentD (eL PyData.int x) := fun x h => by cases h

section
variable {P : Program} {w : World} {K : PySem.W.Frag} {mg : Str → Option Value} {base : Heap} {f C D : Addr} {fd : FuncData}
def DmBent (xs : List Da) : Prop := ∃ (k : Nm) (n : Nat) (ws : List Int), xs = [.py (toldD k n), .py (eL PyData.int ws)] ∧ okK k n = true ∧ ws.length = n ∧ ∀ x ∈ ws, x.natAbs < 10 ^ 12
def RBent (_ : List Da) (x : Da) : Prop := ∃ ds, BentsP ds ∧ x = .py (eL eId ds)
theorem ok_bent (T : Tx K mg) (F : FnP K "_law_bent" "_law_bent" s__law_bent f fd) (c_law_random : Gd P w K mg base "_law_random" ["_law_generator_here", "_law_bound"] 2 spRandom) : FnOk P w K mg base CX0 3 f fd ["_law_generator_here", "_law_told", "_law_order"] (spDr C 4 DmBent RBent) := by
  refine okN F sc__law_bent (fun vs H Q E h => ?_) (fun cdv A outer s H0 vs Q E hr h => ?_)
  · obtain ⟨g, vs', G, xs, c, rfl, _, _, a, _, _, ⟨k, n, ws, rfl, _⟩, _⟩ := h
    show vs'.length + 1 = 3
    rw [a.len]
    rfl
  · obtain ⟨g, vs', G0, xs, c, rfl, eG, ng, a, gc, hc, ⟨k, n, ws, rfl, hK, hl, hB⟩, q⟩ := h
    obtain ⟨u1, u2, rfl, f_told, f_order⟩ := at_all2 a
    refine ⟨_, (pss_cons (ps_asg (pe_tup (pa_cons (pe_callG c_law_random (hr.mono (by decide)) (by rfl) (pa_cons (pv 0) (pa_cons (pe_ix ix_tup (pv 1) pe_int (fun _ _ => rfl)) pa_nil))) (pa_cons (pe_op op_sub (pe_callG c_law_random (hr.mono (by decide)) (by rfl) (pa_cons (pv 0) (pa_cons pe_int pa_nil))) pe_int) (pa_cons (pe_ix ix_tup (pv 1) pe_int (fun _ _ => rfl)) pa_nil)))) (pg_tup rfl (pgs_cons (pg_name (i := 3) sc__law_bent.nd rfl (Or.inl rfl)) (pgs_cons (pg_name (i := 4) sc__law_bent.nd rfl (Or.inl rfl)) (pgs_cons (pg_name (i := 5) sc__law_bent.nd rfl (Or.inr rfl)) pgs_nil)))))
      (pss_cons (ps_set (i := 6) sc__law_bent.nd rfl (by first | exact Or.inl rfl | exact Or.inr rfl) (pe_op op_catS (pe_op op_catS (pe_slice sl_list (pv 2) po_none (po_some (pv 3))) (pe_lst (pa_cons (pe_op op_add (pe_ix ix_list (pv 2) (pv 3) (fun _ _ => rfl)) (pv 4)) pa_nil))) (pe_slice sl_list (pv 2) (po_some (pe_op op_add (pv 3) pe_int)) po_none)))
      (pss_cons (ps_set (i := 7) sc__law_bent.nd rfl (by first | exact Or.inl rfl | exact Or.inr rfl) (pe_lst (pa_cons (pv 2) (pa_cons (pv 6) (pa_cons (pe_slice sl_list (pv 2) (po_some pe_int) po_none) (pa_cons (pe_op op_catS (pv 2) (pe_lst (pa_cons (pv 5) pa_nil))) (pa_cons (pe_revL (pv 2)) (pa_cons (pe_lc (own := [(("_law_item_here" : Str), 11)]) (g := (gName 11)) (tt := tYes) rfl sc__law_bent.nd (pi_list (pv 2)) (blkOk_by (own := [(("_law_item_here" : Str), 11)]) (N := ["_law_generator_here", "_law_told", "_law_order", "_law_at", "_law_by", "_law_size", "_law_changed", "_law_found", "_law_moved", "_law_turned_here", "_law_less", "_law_item_here", "_law_place"]) (sc := defScope s__law_bent) (by decide +kernel)) (fun _ _ _ _ _ => (pg_name (i := 11) sc__law_bent.nd rfl (Or.inl rfl))) (fun _ _ _ _ _ => pts_nil) (fun _ _ _ _ _ => (pe_un un_neg (pv 11)))) (pa_cons (pe_lc (own := [(("_law_item_here" : Str), 11)]) (g := (gName 11)) (tt := tYes) rfl sc__law_bent.nd (pi_list (pv 2)) (blkOk_by (own := [(("_law_item_here" : Str), 11)]) (N := ["_law_generator_here", "_law_told", "_law_order", "_law_at", "_law_by", "_law_size", "_law_changed", "_law_found", "_law_moved", "_law_turned_here", "_law_less", "_law_item_here", "_law_place"]) (sc := defScope s__law_bent) (by decide +kernel)) (fun _ _ _ _ _ => (pg_name (i := 11) sc__law_bent.nd rfl (Or.inl rfl))) (fun _ _ _ _ _ => pts_nil) (fun _ _ _ _ _ => (pe_op op_add (pv 11) pe_int))) (pa_cons (pe_lc (own := [(("_law_item_here" : Str), 11)]) (g := (gName 11)) (tt := tYes) rfl sc__law_bent.nd (pi_list (pv 2)) (blkOk_by (own := [(("_law_item_here" : Str), 11)]) (N := ["_law_generator_here", "_law_told", "_law_order", "_law_at", "_law_by", "_law_size", "_law_changed", "_law_found", "_law_moved", "_law_turned_here", "_law_less", "_law_item_here", "_law_place"]) (sc := defScope s__law_bent) (by decide +kernel)) (fun _ _ _ _ _ => (pg_name (i := 11) sc__law_bent.nd rfl (Or.inl rfl))) (fun _ _ _ _ _ => pts_nil) (fun _ _ _ _ _ => (pe_op op_add (pv 11) (pv 5)))) pa_nil))))))))))
      (pss_cons (ps_setLc (i := 8) (own := [(("_law_place" : Str), 12), (("_law_item_here" : Str), 11)]) (g := (gTup K 2 (gCons (gName 12) (gCons (gName 11) gNil)))) (tt := tYes) rfl sc__law_bent.nd rfl rfl (sw_true rfl rfl rfl (by decide +kernel)) (pi_enum (by rfl) T.m_enumerate (pa_cons (pv 2) pa_nil)) (blkOk_by (own := [(("_law_place" : Str), 12), (("_law_item_here" : Str), 11)]) (N := ["_law_generator_here", "_law_told", "_law_order", "_law_at", "_law_by", "_law_size", "_law_changed", "_law_found", "_law_moved", "_law_turned_here", "_law_less", "_law_item_here", "_law_place"]) (sc := defScope s__law_bent) (by decide +kernel)) (fun _ _ _ _ _ => (pg_tup rfl (pgs_cons (pg_name (i := 12) sc__law_bent.nd rfl (Or.inl rfl)) (pgs_cons (pg_name (i := 11) sc__law_bent.nd rfl (Or.inl rfl)) pgs_nil)))) (fun _ _ _ _ _ => pts_nil) (fun _ _ _ _ _ => (pe_op op_add (pv 11) (pe_op op_mul (pv 5) (pe_op op_sub (pe_callTy call_int1 (by rfl) T.m_int (by decide +kernel) (pa_cons (pe_cmpR op_eq (pv 12) pe_int (nomark _)) pa_nil)) (pe_callTy call_int1 (by rfl) T.m_int (by decide +kernel) (pa_cons (pe_cmpR op_eq (pv 12) (pe_op op_sub (pv 5) pe_int) (nomark _)) pa_nil)))))))
      (pss_cons (ps_set (i := 7) sc__law_bent.nd rfl (by first | exact Or.inl rfl | exact Or.inr rfl) (pe_op op_catS (pv 7) (pe_lst (pa_cons (pv 8) (pa_cons (pe_lc (own := [(("_law_item_here" : Str), 11)]) (g := (gName 11)) (tt := tYes) rfl sc__law_bent.nd (pi_list (pv 2)) (blkOk_by (own := [(("_law_item_here" : Str), 11)]) (N := ["_law_generator_here", "_law_told", "_law_order", "_law_at", "_law_by", "_law_size", "_law_changed", "_law_found", "_law_moved", "_law_turned_here", "_law_less", "_law_item_here", "_law_place"]) (sc := defScope s__law_bent) (by decide +kernel)) (fun _ _ _ _ _ => (pg_name (i := 11) sc__law_bent.nd rfl (Or.inl rfl))) (fun _ _ _ _ _ => pts_nil) (fun _ _ _ _ _ => (pe_callTy call_str_int (by rfl) T.m_str (by decide +kernel) (pa_cons (pv 11) pa_nil)))) (pa_cons (pe_callTy call_tuple_of (by rfl) T.m_tuple (by decide +kernel) (pa_cons (pv 2) pa_nil)) (pa_cons (pe_op op_catS (pe_lst (pa_cons pe_bl pa_nil)) (pe_slice sl_list (pv 2) (po_some pe_int) po_none)) (pa_cons (pe_op op_repS (pe_lst (pa_cons pe_non pa_nil)) (pv 5)) (pa_cons pe_non (pa_cons pe_int (pa_cons pe_str (pa_cons pe_dnewT (pa_cons (pe_lst pa_nil) (pa_cons (pe_lst (pa_cons (pe_lst (pa_cons pe_int pa_nil)) pa_nil)) pa_nil))))))))))))))
      (pss_cons (ps_set (i := 9) sc__law_bent.nd rfl (by first | exact Or.inl rfl | exact Or.inr rfl) (pe_op op_catS (pe_op op_catS (pe_slice sl_list (pv 2) po_none (po_some (pv 3))) (pe_lst (pa_cons (pe_un un_neg (pe_ix ix_list (pv 2) (pv 3) (fun _ _ => rfl))) pa_nil))) (pe_slice sl_list (pv 2) (po_some (pe_op op_add (pv 3) pe_int)) po_none)))
      (pss_cons (ps_par (i := 12) (j := 10) (by rfl) sc__law_bent.nd rfl rfl (by decide) rfl rfl (pa_cons (pe_callG c_law_random (hr.mono (by decide)) (by rfl) (pa_cons (pv 0) (pa_cons (pe_ix ix_tup (pv 1) pe_int (fun _ _ => rfl)) pa_nil))) (pa_cons (pe_op op_add pe_int (pe_callG c_law_random (hr.mono (by decide)) (by rfl) (pa_cons (pv 0) (pa_cons (pe_callB (call_max2 rfl) (by rfl) T.m_max (by decide +kernel) (pa_cons (pe_op op_sub (pe_ix ix_tup (pv 1) pe_int (fun _ _ => rfl)) pe_int) (pa_cons pe_int pa_nil))) pa_nil)))) pa_nil)) (by rfl))
      (pss_cons (ps_set (i := 8) sc__law_bent.nd rfl (by first | exact Or.inl rfl | exact Or.inr rfl) (pe_callTy call_list_of (by rfl) T.m_list (by decide +kernel) (pa_cons (pv 2) pa_nil)))
      (pss_cons (ps_asg (pe_tup (pa_cons (pe_op op_add (pe_ix ix_list (pv 8) (pv 3) (fun _ _ => rfl)) (pv 10)) (pa_cons (pe_op op_sub (pe_ix ix_list (pv 8) (pv 12) (fun _ _ => rfl)) (pv 10)) pa_nil))) (pg_tup rfl (pgs_cons (pg_sub (pv 8) (pv 3) set_list) (pgs_cons (pg_sub (pv 8) (pv 12) set_list) pgs_nil))))
      (pss_cons (ps_expr (pe_bm PySem.F.plainAttrs_list PySem.F.slot_list_append PySem.F.type_list_append mt_append (pv 7) (pa_cons (pv 8) pa_nil)))
      (pss_one (ps_ret (pe_op op_catS (pv 7) (pe_lst (pa_cons (pv 9) (pa_cons (pe_op op_repS (pe_lst (pa_cons (pe_ix ix_list (pv 2) pe_int (fun _ _ => rfl)) pa_nil)) (pv 5)) (pa_cons (pe_op op_catS (pe_slice sl_list (pv 2) (po_some pe_int) po_none) (pe_slice sl_list (pv 2) po_none (po_some pe_int))) (pa_cons (pe_lc (own := [(("_law_item_here" : Str), 11)]) (g := (gName 11)) (tt := tYes) rfl sc__law_bent.nd (pi_list (pv 2)) (blkOk_by (own := [(("_law_item_here" : Str), 11)]) (N := ["_law_generator_here", "_law_told", "_law_order", "_law_at", "_law_by", "_law_size", "_law_changed", "_law_found", "_law_moved", "_law_turned_here", "_law_less", "_law_item_here", "_law_place"]) (sc := defScope s__law_bent) (by decide +kernel)) (fun _ _ _ _ _ => (pg_name (i := 11) sc__law_bent.nd rfl (Or.inl rfl))) (fun _ _ _ _ _ => pts_nil) (fun _ _ _ _ _ => (pe_op op_mul (pv 11) (pe_op op_powX pe_int pe_int)))) pa_nil)))))))))))))))))), ?_⟩
    have hn := okK_le hK
    have eB : Ex G0 G0 := Ex.refl _
    have sx : SameX g H0 H0 := SameX.refl g H0
    have al : ∀ a, H0 a ≠ none → H0 a ≠ none := fun a h => h
    have nwB : ∀ a, H0 a ≠ none → G0 a = none → G0 a = none := fun a h n => n
    -- _law_at, _law_by, _law_size = (_law_random(_law_generator_here, _law_told[1]), _law_random(_law_generator_here, 9) - 4, _law_told[1])
    have hh1 : 0 < (n : Int) ∧ (n : Int) < 2 ^ 29 := by omega
    have hh2 : 0 < (9 : Int) ∧ (9 : Int) < 2 ^ 29 := by omega
    refine q_tupR3 (C := C) (er_call (ev_var (i := 0) rfl) (as_cons (ed_ix1 (ed_var (i := 1) rfl f_told) ed_i) as_nil) (ct_random hh1)) (er_opL (F := (fun r2 => PyData.int (r2 - (4 : Int)))) (er_call (ev_var (i := 0) rfl) (as_cons ed_i as_nil) (ct_random hh2)) ed_i (fun i hi => ⟨_, fun H Q q => ⟨_, _, rfl, rfl, q⟩, fI⟩)) (er_pure (ed_ix1 (ed_var (i := 1) rfl f_told) ed_i)) eG ng gc (by omega) (by omega) (by omega) fun x0 x1 x2 v__law_at v__law_by v__law_size H1 G1 hx0 hx1 hx2 s1 g2 f__law_at f__law_by f__law_size => ?_
    refine st_eq (σ' := [some (V.ref g), some u1, some u2, some v__law_at, some v__law_by, some v__law_size, none, none, none, none, none, none, none]) ?_ rfl
    obtain ⟨r1, hr1, rfl⟩ := hx0
    obtain ⟨r2, hr2, rfl⟩ := hx1
    obtain rfl := hx2
    have ng := s1.keepNone gc ng
    have gc := g2
    have nwB := fun a h n => s1.nw a (al a h) (nwB a h n)
    have al := fun a h => SameX.ne s1.x (al a h) gc.ne
    have sx : SameX g H0 _ := sx.trans s1.x
    have eB := eB.trans s1.g
    have eG := s1.gh
    have f_told := At.mono s1.g f_told
    have f_order := At.mono s1.g f_order
    generalize hy1 : (r2 - (4 : Int)) = y_by_1 at f__law_by
    generalize hy2 : (n : Int) = y_size_2 at f__law_size
    -- _law_changed = _law_order[:_law_at] + [_law_order[_law_at] + _law_by] + _law_order[_law_at + 1:]
    have hh3 : (((((-((ws).length : Int) ≤ r1 ∧ r1 < ((ws).length : Int))))) ∧ (((cutL ws none (some r1))).length + (([((getI ws r1) + y_by_1)] : List Int)).length ≤ 100000)) ∧ ((((cutL ws none (some r1)) ++ ([((getI ws r1) + y_by_1)] : List Int))).length + ((cutL ws (some (r1 + (1 : Int))) none)).length ≤ 100000) := by have c1 := cutL_le ws none (some r1); have c2 := cutL_le ws (some (r1 + 1)) none; have c3 := cutL_le ws (some 1) none; have c4 := cutL_le ws none (some 1); simp only [List.length_append, List.length_cons, List.length_nil, List.length_map]; omega
    refine q_asgD (C := C) (EvN.d (en_catL (EvN.d (en_catL (EvN.d (en_slL (ed_var (i := 2) rfl f_order) eo_none (eo_int (C := C) (ed_var (i := 3) rfl f__law_at)))) (EvN.d (en_lst (ds := ([((getI ws r1) + y_by_1)] : List Int).map PyData.int) (as_cons (ed_add (ed_ix (ed_var (i := 2) rfl f_order) (ed_var (i := 3) rfl f__law_at) (((hh3).1).1)) (ed_var (i := 4) rfl f__law_by)) as_nil) (show 1 ≤ 100000 by decide))) (((hh3).1).2))) (EvN.d (en_slL (ed_var (i := 2) rfl f_order) (eo_int (C := C) (ed_add (ed_var (i := 3) rfl f__law_at) ed_i)) eo_none)) ((hh3).2))) eG fun v__law_changed H1 G1 s1 f__law_changed => ?_
    refine st_eq (σ' := [some (V.ref g), some u1, some u2, some v__law_at, some v__law_by, some v__law_size, some v__law_changed, none, none, none, none, none, none]) ?_ rfl
    have ng := s1.nw _ gc.ne ng
    have gc := gc.ex s1.h
    have nwB := fun a h n => s1.nw a (al a h) (nwB a h n)
    have al := fun a h => Ex.ne s1.h (al a h)
    have sx : SameX g H0 _ := sx.trans (Same.x g s1.h)
    have eB := eB.trans s1.g
    have eG := s1.gh
    have f_told := At.mono s1.g f_told
    have f_order := At.mono s1.g f_order
    have f__law_at := At.mono s1.g f__law_at
    have f__law_by := At.mono s1.g f__law_by
    have f__law_size := At.mono s1.g f__law_size
    generalize hy3 : (((cutL ws none (some r1)) ++ ([((getI ws r1) + y_by_1)] : List Int)) ++ (cutL ws (some (r1 + (1 : Int))) none)) = y_changed_3 at f__law_changed
    -- _law_found = [_law_order, _law_changed, _law_order[1:], _law_order + [_law_size], _law_order[::-1], [-_law_item_here for _law_item_here in _law_order]
    have hh4 : (((ws).length + (([y_size_2] : List Int)).length ≤ 100000)) ∧ (((ws).length ≤ 100000)) ∧ (((ws).length ≤ 100000)) ∧ (((ws).length ≤ 100000)) := by simp only [List.length_append, List.length_cons, List.length_nil, List.length_map]; omega
    refine q_asgD (C := C) (EvN.d (en_lst (ds := ([ws, y_changed_3, (cutL ws (some (1 : Int)) none), (ws ++ ([y_size_2] : List Int)), (ws).reverse, ((ws).map (fun (x4 : Int) => (-x4))), ((ws).map (fun (x9 : Int) => (x9 + (1 : Int)))), ((ws).map (fun (x14 : Int) => (x14 + y_size_2)))] : List (List Int)).map (eL PyData.int)) (as_cons (ed_var (i := 2) rfl f_order) (as_cons (ed_var (i := 6) rfl f__law_changed) (as_cons (EvN.d (en_slL (ed_var (i := 2) rfl f_order) (eo_int (C := C) ed_i) eo_none)) (as_cons (EvN.d (en_catL (ed_var (i := 2) rfl f_order) (EvN.d (en_lst (ds := ([y_size_2] : List Int).map PyData.int) (as_cons (ed_var (i := 5) rfl f__law_size) as_nil) (show 1 ≤ 100000 by decide))) ((hh4).1))) (as_cons (EvN.d (en_rev (e := PyData.int) (ed_var (i := 2) rfl f_order))) (as_cons (EvN.d (en_lcA K (e := PyData.int) (e' := PyData.int) (fun (x4 : Int) => (-x4)) (ei_list (ed_var (i := 2) rfl f_order)) ((hh4).2.1) (fun _ => rfl) (fun x4 m5 v7 Ge3 e3 a6 => (ed_neg (ed_var (i := 11) rfl a6))))) (as_cons (EvN.d (en_lcA K (e := PyData.int) (e' := PyData.int) (fun (x9 : Int) => (x9 + (1 : Int))) (ei_list (ed_var (i := 2) rfl f_order)) ((hh4).2.2.1) (fun _ => rfl) (fun x9 m10 v12 Ge8 e8 a11 => (ed_add (ed_var (i := 11) rfl a11) ed_i)))) (as_cons (EvN.d (en_lcA K (e := PyData.int) (e' := PyData.int) (fun (x14 : Int) => (x14 + y_size_2)) (ei_list (ed_var (i := 2) rfl f_order)) ((hh4).2.2.2) (fun _ => rfl) (fun x14 m15 v17 Ge13 e13 a16 => (ed_add (ed_var (i := 11) rfl a16) (ed_var (i := 5) rfl (At.mono e13 f__law_size)))))) as_nil)))))))) (show 8 ≤ 100000 by decide))) eG fun v__law_found H1 G1 s1 f__law_found => ?_
    refine st_eq (σ' := [some (V.ref g), some u1, some u2, some v__law_at, some v__law_by, some v__law_size, some v__law_changed, some v__law_found, none, none, none, none, none]) ?_ rfl
    have ng := s1.nw _ gc.ne ng
    have gc := gc.ex s1.h
    have nwB := fun a h n => s1.nw a (al a h) (nwB a h n)
    have al := fun a h => Ex.ne s1.h (al a h)
    have sx : SameX g H0 _ := sx.trans (Same.x g s1.h)
    have eB := eB.trans s1.g
    have eG := s1.gh
    have f_told := At.mono s1.g f_told
    have f_order := At.mono s1.g f_order
    have f__law_at := At.mono s1.g f__law_at
    have f__law_size := At.mono s1.g f__law_size
    have f__law_changed := At.mono s1.g f__law_changed
    generalize hy4 : ([ws, y_changed_3, (cutL ws (some (1 : Int)) none), (ws ++ ([y_size_2] : List Int)), (ws).reverse, ((ws).map (fun (x4 : Int) => (-x4))), ((ws).map (fun (x9 : Int) => (x9 + (1 : Int)))), ((ws).map (fun (x14 : Int) => (x14 + y_size_2)))] : List (List Int)) = y_found_4 at f__law_found
    -- _law_moved = [_law_item_here + _law_size * (int(_law_place == 0) - int(_law_place == _law_size - 1)) for _law_place, _law_item_here in enumerate(_law_
    have hh5 : (((enumL ws)).length ≤ 100000) ∧ (∀ x19 ∈ (enumL ws), (((CMul y_size_2 ((b2i (decide (x19.1 = (0 : Int)))) - (b2i (decide (x19.1 = (y_size_2 - (1 : Int)))))))))) := by rw [enumL_len]; exact ⟨by omega, fun x hx => .inl ⟨by omega, by omega⟩⟩
    refine q_asgD (C := C) (EvN.d (en_lcPA (e1 := PyData.int) (e2 := PyData.int) (e' := PyData.int) (fun (x19 : (Int × Int)) => (x19.2 + (y_size_2 * ((b2i (decide (x19.1 = (0 : Int)))) - (b2i (decide (x19.1 = (y_size_2 - (1 : Int))))))))) (ei_enum (f := PyData.int) (ed_var (i := 2) rfl f_order)) ((hh5).1) (fun _ _ => rfl) (fun x19 m20 v23 v24 Ge18 e18 a21 a22 => (ed_add (ed_var (i := 11) rfl a22) (ed_mul (ed_var (i := 5) rfl (At.mono e18 f__law_size)) (ed_sub (ed_intB (ed_eq (ed_var (i := 12) rfl a21) ed_i)) (ed_intB (ed_eq (ed_var (i := 12) rfl a21) (ed_sub (ed_var (i := 5) rfl (At.mono e18 f__law_size)) ed_i)))) (((hh5).2) x19 m20)))))) eG fun v__law_moved H1 G1 s1 f__law_moved => ?_
    refine st_eq (σ' := [some (V.ref g), some u1, some u2, some v__law_at, some v__law_by, some v__law_size, some v__law_changed, some v__law_found, some v__law_moved, none, none, none, none]) ?_ rfl
    have ng := s1.nw _ gc.ne ng
    have gc := gc.ex s1.h
    have nwB := fun a h n => s1.nw a (al a h) (nwB a h n)
    have al := fun a h => Ex.ne s1.h (al a h)
    have sx : SameX g H0 _ := sx.trans (Same.x g s1.h)
    have eB := eB.trans s1.g
    have eG := s1.gh
    have f_told := At.mono s1.g f_told
    have f_order := At.mono s1.g f_order
    have f__law_at := At.mono s1.g f__law_at
    have f__law_size := At.mono s1.g f__law_size
    have f__law_found := At.mono s1.g f__law_found
    generalize hy5 : (((enumL ws)).map (fun (x19 : (Int × Int)) => (x19.2 + (y_size_2 * ((b2i (decide (x19.1 = (0 : Int)))) - (b2i (decide (x19.1 = (y_size_2 - (1 : Int)))))))))) = y_moved_5 at f__law_moved
    -- _law_found = _law_found + [_law_moved, [str(_law_item_here) for _law_item_here in _law_order], tuple(_law_order), [True] + _law_order[1:], [None] * _l
    have hh6 : ((((ws).length ≤ 100000) ∧ (∀ x26 ∈ ws, (((x26).natAbs.log2 < 1920)))) ∧ (((((([true] : List Bool)).map PyData.bool)).length + ((((cutL ws (some (1 : Int)) none)).map PyData.int)).length ≤ 100000)) ∧ ((-(2 ^ 62) ≤ y_size_2 ∧ y_size_2 < 2 ^ 62 ∧ (([()] : List Unit)).length * (y_size_2).toNat ≤ 100000))) ∧ ((((y_found_4).map (eL PyData.int))).length + ([(((eL PyData.int) y_moved_5) : PyData), (((eL PyData.str) ((ws).map (fun (x26 : Int) => (Str.ofString (toString x26))))) : PyData), ((PyData.tuple ((ws).map PyData.int)) : PyData), (((eL eId) (((([true] : List Bool)).map PyData.bool) ++ (((cutL ws (some (1 : Int)) none)).map PyData.int))) : PyData), (((eL (fun (_ : Unit) => PyData.none)) (List.replicate (y_size_2).toNat ([()] : List Unit)).flatten) : PyData), (PyData.none : PyData), ((PyData.int (7 : Int)) : PyData), ((PyData.str ("012" : Str)) : PyData), ((PyData.dict []) : PyData), (((eL PyData.int) ([] : (List Int))) : PyData), (((eL (eL PyData.int)) ([([(0 : Int)] : List Int)] : List (List Int))) : PyData)]).length ≤ 100000) := by have c1 := cutL_le ws none (some r1); have c2 := cutL_le ws (some (r1 + 1)) none; have c3 := cutL_le ws (some 1) none; have c4 := cutL_le ws none (some 1); have ef : y_found_4.length = 8 := (by rw [← hy4]; rfl); simp only [List.length_append, List.length_cons, List.length_nil, List.length_map]; exact ⟨⟨⟨by omega, fun x hx => log2_small (Nat.lt_of_lt_of_le (hB x hx) (by decide))⟩, by omega, by omega, by omega, by omega⟩, by omega⟩
    refine q_asgN (C := C) (en_catL (EvD.is (ed_var (i := 7) rfl f__law_found) (congrArg Da.py (eId_map _).symm)) (EvN.d (en_lst (ds := ([(((eL PyData.int) y_moved_5) : PyData), (((eL PyData.str) ((ws).map (fun (x26 : Int) => (Str.ofString (toString x26))))) : PyData), ((PyData.tuple ((ws).map PyData.int)) : PyData), (((eL eId) (((([true] : List Bool)).map PyData.bool) ++ (((cutL ws (some (1 : Int)) none)).map PyData.int))) : PyData), (((eL (fun (_ : Unit) => PyData.none)) (List.replicate (y_size_2).toNat ([()] : List Unit)).flatten) : PyData), (PyData.none : PyData), ((PyData.int (7 : Int)) : PyData), ((PyData.str ("012" : Str)) : PyData), ((PyData.dict []) : PyData), (((eL PyData.int) ([] : (List Int))) : PyData), (((eL (eL PyData.int)) ([([(0 : Int)] : List Int)] : List (List Int))) : PyData)] : List PyData).map eId) (as_cons (ed_var (i := 8) rfl f__law_moved) (as_cons (EvN.d (en_lcA K (e := PyData.int) (e' := PyData.str) (fun (x26 : Int) => (Str.ofString (toString x26))) (ei_list (ed_var (i := 2) rfl f_order)) ((((hh6).1).1).1) (fun _ => rfl) (fun x26 m27 v29 Ge25 e25 a28 => (ed_strI (ed_var (i := 11) rfl a28) (((((hh6).1).1).2) x26 m27))))) (as_cons (ed_tupOf (ed_var (i := 2) rfl f_order)) (as_cons (EvN.d (en_catL (EvD.is (EvN.d (en_lst (ds := ([true] : List Bool).map PyData.bool) (as_cons ed_b as_nil) (show 1 ≤ 100000 by decide))) (congrArg Da.py (eId_map _).symm)) (EvD.is (EvN.d (en_slL (ed_var (i := 2) rfl f_order) (eo_int (C := C) ed_i) eo_none)) (congrArg Da.py (eId_map _).symm)) (((hh6).1).2.1))) (as_cons (EvN.d (en_repL (f := (fun (_ : Unit) => PyData.none)) (EvN.d (en_lst (ds := ([()] : List Unit).map (fun (_ : Unit) => PyData.none)) (as_cons ed_n as_nil) (show 1 ≤ 100000 by decide))) (ed_var (i := 5) rfl f__law_size) (((hh6).1).2.2))) (as_cons ed_n (as_cons ed_i (as_cons ed_s (as_cons ed_dnew (as_cons (EvN.d (en_lst (ds := ([] : (List Int)).map PyData.int) as_nil (by decide))) (as_cons (EvN.d (en_lst (ds := ([([(0 : Int)] : List Int)] : List (List Int)).map (eL PyData.int)) (as_cons (EvN.d (en_lst (ds := ([(0 : Int)] : List Int).map PyData.int) (as_cons ed_i as_nil) (show 1 ≤ 100000 by decide))) as_nil) (show 1 ≤ 100000 by decide))) as_nil))))))))))) (show 11 ≤ 100000 by decide))) ((hh6).2)) eG fun p__law_found vs__law_found H1 G1 s1 h1 h2 h3 h4 => ?_
    refine st_eq (σ' := [some (V.ref g), some u1, some u2, some v__law_at, some v__law_by, some v__law_size, some v__law_changed, some (V.ref p__law_found), some v__law_moved, none, none, none, none]) ?_ rfl
    have ng__law_found : p__law_found ≠ g := fun z => gc.ne (z ▸ h1)
    have fr__law_found : H0 p__law_found = none := Classical.byContradiction fun z => al _ z h1
    have w__law_found : OwnR C _ _ _ _ _ := ⟨h3, h2, h4⟩
    have ng := s1.nw _ gc.ne ng
    have gc := gc.ex s1.h
    have nwB := fun a h n => s1.nw a (al a h) (nwB a h n)
    have al := fun a h => Ex.ne s1.h (al a h)
    have sx : SameX g H0 _ := sx.trans (Same.x g s1.h)
    have eB := eB.trans s1.g
    have eG := s1.gh
    have f_told := At.mono s1.g f_told
    have f_order := At.mono s1.g f_order
    have f__law_at := At.mono s1.g f__law_at
    have f__law_size := At.mono s1.g f__law_size
    have f__law_moved := At.mono s1.g f__law_moved
    generalize hy6 : (((y_found_4).map (eL PyData.int)) ++ [(((eL PyData.int) y_moved_5) : PyData), (((eL PyData.str) ((ws).map (fun (x26 : Int) => (Str.ofString (toString x26))))) : PyData), ((PyData.tuple ((ws).map PyData.int)) : PyData), (((eL eId) (((([true] : List Bool)).map PyData.bool) ++ (((cutL ws (some (1 : Int)) none)).map PyData.int))) : PyData), (((eL (fun (_ : Unit) => PyData.none)) (List.replicate (y_size_2).toNat ([()] : List Unit)).flatten) : PyData), (PyData.none : PyData), ((PyData.int (7 : Int)) : PyData), ((PyData.str ("012" : Str)) : PyData), ((PyData.dict []) : PyData), (((eL PyData.int) ([] : (List Int))) : PyData), (((eL (eL PyData.int)) ([([(0 : Int)] : List Int)] : List (List Int))) : PyData)]) = y_found_6 at w__law_found
    -- _law_turned_here = _law_order[:_law_at] + [-_law_order[_law_at]] + _law_order[_law_at + 1:]
    have hh7 : ((((-((ws).length : Int) ≤ r1 ∧ r1 < ((ws).length : Int)))) ∧ (((cutL ws none (some r1))).length + (([(-(getI ws r1))] : List Int)).length ≤ 100000)) ∧ ((((cutL ws none (some r1)) ++ ([(-(getI ws r1))] : List Int))).length + ((cutL ws (some (r1 + (1 : Int))) none)).length ≤ 100000) := by have c1 := cutL_le ws none (some r1); have c2 := cutL_le ws (some (r1 + 1)) none; have c3 := cutL_le ws (some 1) none; have c4 := cutL_le ws none (some 1); simp only [List.length_append, List.length_cons, List.length_nil, List.length_map]; omega
    refine q_asgD (C := C) (EvN.d (en_catL (EvN.d (en_catL (EvN.d (en_slL (ed_var (i := 2) rfl f_order) eo_none (eo_int (C := C) (ed_var (i := 3) rfl f__law_at)))) (EvN.d (en_lst (ds := ([(-(getI ws r1))] : List Int).map PyData.int) (as_cons (ed_neg (ed_ix (ed_var (i := 2) rfl f_order) (ed_var (i := 3) rfl f__law_at) (((hh7).1).1))) as_nil) (show 1 ≤ 100000 by decide))) (((hh7).1).2))) (EvN.d (en_slL (ed_var (i := 2) rfl f_order) (eo_int (C := C) (ed_add (ed_var (i := 3) rfl f__law_at) ed_i)) eo_none)) ((hh7).2))) eG fun v__law_turned_here H1 G1 s1 f__law_turned_here => ?_
    refine st_eq (σ' := [some (V.ref g), some u1, some u2, some v__law_at, some v__law_by, some v__law_size, some v__law_changed, some (V.ref p__law_found), some v__law_moved, some v__law_turned_here, none, none, none]) ?_ rfl
    have ng := s1.nw _ gc.ne ng
    have gc := gc.ex s1.h
    have w__law_found := w__law_found.step s1
    have nwB := fun a h n => s1.nw a (al a h) (nwB a h n)
    have al := fun a h => Ex.ne s1.h (al a h)
    have sx : SameX g H0 _ := sx.trans (Same.x g s1.h)
    have eB := eB.trans s1.g
    have eG := s1.gh
    have f_told := At.mono s1.g f_told
    have f_order := At.mono s1.g f_order
    have f__law_at := At.mono s1.g f__law_at
    have f__law_size := At.mono s1.g f__law_size
    have f__law_moved := At.mono s1.g f__law_moved
    generalize hy7 : (((cutL ws none (some r1)) ++ ([(-(getI ws r1))] : List Int)) ++ (cutL ws (some (r1 + (1 : Int))) none)) = y_turned_here_7 at f__law_turned_here
    -- _law_place, _law_less = (_law_random(_law_generator_here, _law_told[1]), 1 + _law_random(_law_generator_here, max(_law_told[1] - 1, 1)))
    have hh8 : 0 < (n : Int) ∧ (n : Int) < 2 ^ 29 := by omega
    have hh9 : 0 < (if (1 : Int) > ((n : Int) - (1 : Int)) then (1 : Int) else ((n : Int) - (1 : Int))) ∧ (if (1 : Int) > ((n : Int) - (1 : Int)) then (1 : Int) else ((n : Int) - (1 : Int))) < 2 ^ 29 := by split <;> omega
    refine q_par2 (C := C) (er_call (ev_var (i := 0) rfl) (as_cons (ed_ix1 (ed_var (i := 1) rfl f_told) ed_i) as_nil) (ct_random hh8)) (er_opR (F := (fun r31 => PyData.int ((1 : Int) + r31))) ed_i (er_call (ev_var (i := 0) rfl) (as_cons (ed_max2 (ed_sub (ed_ix1 (ed_var (i := 1) rfl f_told) ed_i) ed_i) ed_i) as_nil) (ct_random hh9)) (fun i hi => ⟨_, fun H Q q => ⟨_, _, rfl, rfl, q⟩, fI⟩)) eG ng gc (by omega) (by omega) fun x0 x1 v__law_place v__law_less H1 G1 hx0 hx1 s1 g2 f__law_place f__law_less => ?_
    refine st_eq (σ' := [some (V.ref g), some u1, some u2, some v__law_at, some v__law_by, some v__law_size, some v__law_changed, some (V.ref p__law_found), some v__law_moved, some v__law_turned_here, some v__law_less, none, some v__law_place]) ?_ rfl
    obtain ⟨r30, hr30, rfl⟩ := hx0
    obtain ⟨r31, hr31, rfl⟩ := hx1
    have ng := s1.keepNone gc ng
    have gc := g2
    have w__law_found := w__law_found.stepG ng__law_found s1
    have nwB := fun a h n => s1.nw a (al a h) (nwB a h n)
    have al := fun a h => SameX.ne s1.x (al a h) gc.ne
    have sx : SameX g H0 _ := sx.trans s1.x
    have eB := eB.trans s1.g
    have eG := s1.gh
    have f_told := At.mono s1.g f_told
    have f_order := At.mono s1.g f_order
    have f__law_at := At.mono s1.g f__law_at
    have f__law_size := At.mono s1.g f__law_size
    have f__law_moved := At.mono s1.g f__law_moved
    have f__law_turned_here := At.mono s1.g f__law_turned_here
    generalize hy8 : ((1 : Int) + r31) = y_less_8 at f__law_less
    -- _law_moved = list(_law_order)
    refine q_asgN (C := C) (en_list (ed_var (i := 2) rfl f_order)) eG fun p__law_moved vs__law_moved H1 G1 s1 h1 h2 h3 h4 => ?_
    refine st_eq (σ' := [some (V.ref g), some u1, some u2, some v__law_at, some v__law_by, some v__law_size, some v__law_changed, some (V.ref p__law_found), some (V.ref p__law_moved), some v__law_turned_here, some v__law_less, none, some v__law_place]) ?_ rfl
    have ng__law_moved : p__law_moved ≠ g := fun z => gc.ne (z ▸ h1)
    have fr__law_moved : H0 p__law_moved = none := Classical.byContradiction fun z => al _ z h1
    have d__law_found__law_moved := ne_of_none w__law_found.o h1
    have d__law_moved__law_found := Ne.symm d__law_found__law_moved
    have w__law_moved : OwnR C _ _ _ _ _ := ⟨h3, h2, h4⟩
    have ng := s1.nw _ gc.ne ng
    have gc := gc.ex s1.h
    have w__law_found := w__law_found.step s1
    have nwB := fun a h n => s1.nw a (al a h) (nwB a h n)
    have al := fun a h => Ex.ne s1.h (al a h)
    have sx : SameX g H0 _ := sx.trans (Same.x g s1.h)
    have eB := eB.trans s1.g
    have eG := s1.gh
    have f_order := At.mono s1.g f_order
    have f__law_at := At.mono s1.g f__law_at
    have f__law_size := At.mono s1.g f__law_size
    have f__law_turned_here := At.mono s1.g f__law_turned_here
    have f__law_place := At.mono s1.g f__law_place
    have f__law_less := At.mono s1.g f__law_less
    generalize hy9 : ws = y_moved_9 at w__law_moved
    -- _law_moved[_law_at], _law_moved[_law_place] = (_law_moved[_law_at] + _law_less, _law_moved[_law_place] - _law_less)
    have hh10 : ((-((y_moved_9).length : Int) ≤ r1 ∧ r1 < ((y_moved_9).length : Int))) := by subst hy9; omega
    have hh11 : ((-((y_moved_9).length : Int) ≤ r30 ∧ r30 < ((y_moved_9).length : Int))) := by subst hy9; omega
    have hh12 : (0 ≤ r1 ∧ r1 < ((y_moved_9).length : Int)) ∧ 0 ≤ r30 ∧ r30 < ((y_moved_9).length : Int) := by subst hy9; omega
    refine q_store2 (i := r1) (j := r30) (a := ((getI y_moved_9 r1) + y_less_8)) (b := ((getI y_moved_9 r30) - y_less_8)) w__law_moved eG (ed_add (ed_ix (ed_var (i := 8) rfl (w__law_moved.at)) (ed_var (i := 3) rfl (At.mono (Ex.new w__law_moved.n) f__law_at)) (hh10)) (ed_var (i := 10) rfl (At.mono (Ex.new w__law_moved.n) f__law_less))) (ed_sub (ed_ix (ed_var (i := 8) rfl (w__law_moved.at)) (ed_var (i := 12) rfl (At.mono (Ex.new w__law_moved.n) f__law_place)) (hh11)) (ed_var (i := 10) rfl (At.mono (Ex.new w__law_moved.n) f__law_less))) (fun H Q q => ⟨_, rfl, q⟩) (ed_var (i := 3) rfl f__law_at) (fun H Q q => ⟨_, rfl, q⟩) (ed_var (i := 12) rfl f__law_place) hh12 fun H1 us s1 w1 e1 => ?_
    have gc := (gc.ex s1.h).upd (o := .lst us) (Ne.symm ng__law_moved)
    have w__law_found := (w__law_found.step s1).other (o := .lst us) d__law_found__law_moved
    have al := fun a h => al_upd (p := p__law_moved) (o := .lst us) (Ex.ne s1.h (al a h))
    have sx : SameX g H0 _ := sx_upd (o := .lst us) (sx.trans (Same.x g s1.h)) fr__law_moved
    have w__law_moved := w1
    have eG := e1
    clear w1 e1
    generalize hv9 : us = vs__law_moved at gc eG w__law_found w__law_moved sx al ⊢
    generalize hy10 : (y_moved_9.set (r1).toNat ((getI y_moved_9 r1) + y_less_8)).set (r30).toNat ((getI y_moved_9 r30) - y_less_8) = y_moved_10 at w__law_moved
    have f__law_moved := w__law_moved.at
    have eG := w__law_moved.ex eG
    have eB := eB.trans (Ex.new (o := .lst vs__law_moved) w__law_moved.n)
    have f_order := At.mono (Ex.new (o := .lst vs__law_moved) w__law_moved.n) f_order
    have f__law_size := At.mono (Ex.new (o := .lst vs__law_moved) w__law_moved.n) f__law_size
    have w__law_found : OwnR C _ _ _ _ _ := ⟨w__law_found.o, by rw [upd_ne d__law_found__law_moved]; exact w__law_found.n, dpExAll (Ex.new (o := .lst vs__law_moved) w__law_moved.n) _ _ w__law_found.d⟩
    have f__law_turned_here := At.mono (Ex.new (o := .lst vs__law_moved) w__law_moved.n) f__law_turned_here
    have nwB := nw_upd (o := .lst vs__law_moved) nwB fr__law_moved
    have ng := (upd_ne (a := p__law_moved) (o := .lst vs__law_moved) (Ne.symm ng__law_moved)).trans ng
    -- _law_found.append(_law_moved)
    have hh13 : (y_found_6).length < 100000 := by rw [← hy6, ← hy4]; simp
    refine q_appD (ed_var (i := 8) rfl f__law_moved) eG (ev_var (i := 7) rfl) w__law_found.o w__law_found.n (by rw [dpa_len w__law_found.d, List.length_map]; exact hh13) fun v1 H1 G1 s1 a1 g1 e1 => ?_
    have ng := s1.nw _ gc.ne ng
    have gc := (gc.ex s1.h).upd (o := .lst (vs__law_found ++ [v1])) (Ne.symm ng__law_found)
    have w__law_found := OwnR.set (w__law_found.step s1) (dpa_append (w__law_found.step s1).d (.cons a1 .nil))
    have w__law_found := OwnR.snocE (e := eId) (x := ((eL PyData.int) y_moved_10)) w__law_found
    have nwB := fun a h n => s1.nw a (al a h) (nwB a h n)
    have al := fun a h => al_upd (p := p__law_found) (o := .lst (vs__law_found ++ [v1])) (Ex.ne s1.h (al a h))
    have sx : SameX g H0 _ := sx_upd (o := .lst (vs__law_found ++ [v1])) (sx.trans (Same.x g s1.h)) fr__law_found
    have eB := eB.trans s1.g
    have eG := e1
    have f_order := At.mono s1.g f_order
    have f__law_size := At.mono s1.g f__law_size
    have f__law_turned_here := At.mono s1.g f__law_turned_here
    have f__law_moved := At.mono s1.g f__law_moved
    generalize hv10 : vs__law_found ++ [v1] = vs__law_found at gc eG w__law_found sx al ⊢
    generalize hy11 : y_found_6 ++ [((eL PyData.int) y_moved_10)] = y_found_11 at w__law_found
    have f__law_found := w__law_found.at
    have eG := w__law_found.ex eG
    have eB := eB.trans (Ex.new (o := .lst vs__law_found) w__law_found.n)
    have f_order := At.mono (Ex.new (o := .lst vs__law_found) w__law_found.n) f_order
    have f__law_size := At.mono (Ex.new (o := .lst vs__law_found) w__law_found.n) f__law_size
    have f__law_turned_here := At.mono (Ex.new (o := .lst vs__law_found) w__law_found.n) f__law_turned_here
    have nwB := nw_upd (o := .lst vs__law_found) nwB fr__law_found
    have ng := (upd_ne (a := p__law_found) (o := .lst vs__law_found) (Ne.symm ng__law_found)).trans ng
    -- return _law_found + [_law_turned_here, [_law_order[0]] * _law_size, _law_order[1:] + _law_order[:1], [_law_item_here * 10 ** 28 for _law_item_here in 
    have hh14 : (((((-((ws).length : Int) ≤ (0 : Int) ∧ (0 : Int) < ((ws).length : Int)))) ∧ (-(2 ^ 62) ≤ y_size_2 ∧ y_size_2 < 2 ^ 62 ∧ (([(getI ws (0 : Int))] : List Int)).length * (y_size_2).toNat ≤ 100000)) ∧ ((((cutL ws (some (1 : Int)) none)).length + ((cutL ws none (some (1 : Int)))).length ≤ 100000)) ∧ (((ws).length ≤ 100000) ∧ (∀ x33 ∈ ws, (((0 ≤ (28 : Int) ∧ (Builtin.Int.intBits (10 : Int) : Int) * (28 : Int) ≤ 2 ^ 27)) ∧ (CMul x33 ((10 : Int) ^ ((28 : Int)).toNat)))))) ∧ ((y_found_11).length + (((([y_turned_here_7, (List.replicate (y_size_2).toNat ([(getI ws (0 : Int))] : List Int)).flatten, ((cutL ws (some (1 : Int)) none) ++ (cutL ws none (some (1 : Int)))), ((ws).map (fun (x33 : Int) => (x33 * ((10 : Int) ^ ((28 : Int)).toNat))))] : List (List Int))).map (eL PyData.int))).length ≤ 100000) := by have c1 := cutL_le ws none (some r1); have c2 := cutL_le ws (some (r1 + 1)) none; have c3 := cutL_le ws (some 1) none; have c4 := cutL_le ws none (some 1); have ef : y_found_11.length = 20 := (by rw [← hy11, ← hy6, ← hy4]; simp); simp only [List.length_append, List.length_cons, List.length_nil, List.length_map]; exact ⟨⟨⟨by omega, by omega, by omega, by omega⟩, by omega, by omega, fun x hx => ⟨⟨by decide, by decide +kernel⟩, .inl ⟨by have := hB x hx; omega, by have := hB x hx; omega⟩⟩⟩, by omega⟩
    have hret : BentsP ((y_found_11 ++ ((([y_turned_here_7, (List.replicate (y_size_2).toNat ([(getI ws (0 : Int))] : List Int)).flatten, ((cutL ws (some (1 : Int)) none) ++ (cutL ws none (some (1 : Int)))), ((ws).map (fun (x33 : Int) => (x33 * ((10 : Int) ^ ((28 : Int)).toNat))))] : List (List Int))).map (eL PyData.int)))) := by 
      have S0 : Sml (10 ^ 12) ws := ⟨by omega, hB⟩
      have big : ∀ {xs : List Int}, Sml (10 ^ 12) xs → ∀ x ∈ xs, x.natAbs < 10 ^ 13 := fun h x hx => Nat.lt_of_lt_of_le (h.2 x hx) (by decide)
      have q1 := hB _ (getI_mem (ws := ws) (i := r1) (by omega))
      have q0 := hB _ (getI_mem (ws := ws) (i := 0) (by omega))
      have q3 := hB _ (getI_mem (ws := ws) (i := r30) (by omega))
      have c1 := cutL_le ws none (some r1)
      have c2 := cutL_le ws (some (r1 + 1)) none
      have c3 := cutL_le ws (some 1) none
      have c4 := cutL_le ws none (some 1)
      have lcut : (cutL ws none (some r1)).length + (cutL ws (some (r1 + 1)) none).length ≤ 14 := by omega
      have sing : ∀ (z : Int), z.natAbs < 10 ^ 13 → ∀ x ∈ [z], x.natAbs < 10 ^ 13 := fun z hz x hx => by rw [List.mem_singleton.mp hx]; exact hz
      have Sc : ∀ z : Int, z.natAbs < 10 ^ 13 → Sml (10 ^ 13) (cutL ws none (some r1) ++ [z] ++ cutL ws (some (r1 + 1)) none) := fun z hz =>
        Sml.app (fun x hx => (List.mem_append.mp hx).elim (big S0.cut x) (sing z hz x)) (big S0.cut) (by rw [List.length_append, List.length_singleton]; omega)
      have e12 : (10 : Nat) ^ 12 = 1000000000000 := by decide
      have e13 : (10 : Nat) ^ 13 = 10000000000000 := by decide
      rw [e12] at q0 q1 q3
      subst hy1 hy2
      refine ⟨?_, ?_⟩
      · rw [← hy11, ← hy6, ← hy4]
        simp only [List.length_append, List.length_map, List.length_cons, List.length_nil]
        decide
      rw [← hy11, ← hy6, ← hy4]
      refine app_all (app_all (app_all (bents_map ?_) ?_) (bents_cons ?_ no_bents)) (bents_map ?_)
      · refine lists_cons (S0.bent (by decide)) (lists_cons ?_ (lists_cons (S0.cut.bent (by decide)) (lists_cons ?_ (lists_cons ?_ (lists_cons ?_ (lists_cons ?_ (lists_cons ?_ no_lists)))))))
        · rw [← hy3]
          exact (Sc _ (by omega)).bent (by decide)
        · exact (Sml.app (B := 10 ^ 13) (big S0) (sing _ (by omega)) (by rw [List.length_singleton]; omega)).bent (by decide)
        · exact (show Sml (10 ^ 12) ws.reverse from ⟨by rw [List.length_reverse]; exact S0.1, fun x hx => hB x (List.mem_reverse.mp hx)⟩).bent (by decide)
        · exact (S0.map (B' := 10 ^ 12) fun x hx => by show (-x).natAbs < _; omega).bent (by decide)
        · exact (S0.map (B' := 10 ^ 13) fun x hx => by show (x + 1).natAbs < _; omega).bent (by decide)
        · exact (S0.map (B' := 10 ^ 13) fun x hx => by show (x + (n : Int)).natAbs < _; omega).bent (by decide)
      · refine bents_cons ?_ (bents_cons ?_ (bents_cons ?_ (bents_cons ?_ (bents_cons ?_ (bents_cons ?_ (bents_cons ?_ (bents_cons ?_ (bents_cons ?_ (bents_cons ?_ (bents_cons ?_ no_bents))))))))))
        · rw [← hy5]
          refine (show Sml (10 ^ 13) _ from ⟨by rw [List.length_map, enumL_len]; omega, fun x hx => ?_⟩).bent (by decide)
          obtain ⟨y, hy, rfl⟩ := List.mem_map.mp hx
          have := hB _ (enumL_mem hy).2
          have b1 : ∀ b : Bool, b2i b = 0 ∨ b2i b = 1 := fun b => by cases b <;> simp [b2i]
          rcases b1 (decide (y.1 = 0)) with z | z <;> rcases b1 (decide (y.1 = (n : Int) - 1)) with z2 | z2 <;> rw [z, z2] <;> omega
        · refine bent_list (fun x hx => ?_) (by rw [List.length_map, List.length_map]; omega)
          obtain ⟨y, hy, rfl⟩ := List.mem_map.mp hx
          obtain ⟨i, hi, rfl⟩ := List.mem_map.mp hy
          have := int_text_length_le10 (k := 12) (by decide) (hB i hi)
          exact tn_text (by omega)
        · exact bent_other (showy_tuple (tn_ints fun x hx => Nat.lt_of_lt_of_le (hB x hx) (by decide)) (by rw [List.length_map]; omega)) fun _ e => by cases e
        · refine bent_list (fun x hx => ?_) (by simp only [List.length_map, List.length_append, List.length_cons, List.length_nil]; omega)
          obtain ⟨y, hy, rfl⟩ := List.mem_map.mp hx
          rcases List.mem_append.mp hy with h | h
          · obtain ⟨b, _, rfl⟩ := List.mem_map.mp h
            exact tn_bool b
          · exact tn_ints (fun x hx => Nat.lt_of_lt_of_le (hB x (cutL_mem hx)) (by decide)) _ h
        · rw [rep_one]
          refine bent_list (fun x hx => ?_) (by rw [List.length_map, List.length_replicate]; omega)
          obtain ⟨y, _, rfl⟩ := List.mem_map.mp hx
          exact tn_none
        · exact bent_other tn_none.showy fun _ e => by cases e
        · exact bent_other (tn_int (by decide)).showy fun _ e => by cases e
        · exact bent_other (tn_text (s := "012") (by decide)).showy fun _ e => by cases e
        · exact bent_other showy_dict fun _ e => by cases e
        · exact bent_list (fun x hx => by cases hx) (by decide)
        · refine bent_list (fun x hx => ?_) (by decide)
          rw [List.mem_singleton.mp hx]
          exact tn_list (fun x hx => by rw [List.mem_singleton.mp hx]; exact ⟨tn_int (by decide), by simp [PyData.depth], by simp [PyData.weight]⟩) (by decide)
      · rw [← hy10, ← hy9]
        refine (show Sml (10 ^ 13) _ from ⟨by rw [List.length_set, List.length_set]; omega, fun x hx => ?_⟩).bent (by decide)
        rcases mem_set_or hx with h | h
        · rcases mem_set_or h with h | h
          · exact Nat.lt_of_lt_of_le (hB x h) (by decide)
          · rw [h]; omega
        · rw [h]; omega
      · refine lists_cons ?_ (lists_cons ?_ (lists_cons ?_ (lists_cons ?_ no_lists)))
        · rw [← hy7]
          exact (Sc _ (by omega)).bent (by decide)
        · rw [rep_one]
          exact (show Sml (10 ^ 12) _ from ⟨by rw [List.length_replicate]; omega, fun x hx => by rw [(List.mem_replicate.mp hx).2]; omega⟩).bent (by decide)
        · exact (Sml.app (B := 10 ^ 12) S0.cut.2 S0.cut.2 (by omega)).bent (by decide)
        · refine (S0.map (B' := 10 ^ 40) fun x hx => ?_).bent (by decide)
          show (x * 10 ^ 28).natAbs < _
          rw [Int.natAbs_mul]
          have : ((10 : Int) ^ 28).natAbs = 10 ^ 28 := by decide
          rw [this]
          exact Nat.lt_of_lt_of_le (Nat.mul_lt_mul_of_pos_right hx (by decide)) (by decide)
    refine s_retD (C := C) (EvN.d (en_catL (ed_var (i := 7) rfl f__law_found) (EvD.is (EvN.d (en_lst (ds := ([y_turned_here_7, (List.replicate (y_size_2).toNat ([(getI ws (0 : Int))] : List Int)).flatten, ((cutL ws (some (1 : Int)) none) ++ (cutL ws none (some (1 : Int)))), ((ws).map (fun (x33 : Int) => (x33 * ((10 : Int) ^ ((28 : Int)).toNat))))] : List (List Int)).map (eL PyData.int)) (as_cons (ed_var (i := 9) rfl f__law_turned_here) (as_cons (EvN.d (en_repL (f := PyData.int) (EvN.d (en_lst (ds := ([(getI ws (0 : Int))] : List Int).map PyData.int) (as_cons (ed_ix (ed_var (i := 2) rfl f_order) ed_i ((((hh14).1).1).1)) as_nil) (show 1 ≤ 100000 by decide))) (ed_var (i := 5) rfl f__law_size) ((((hh14).1).1).2))) (as_cons (EvN.d (en_catL (EvN.d (en_slL (ed_var (i := 2) rfl f_order) (eo_int (C := C) ed_i) eo_none)) (EvN.d (en_slL (ed_var (i := 2) rfl f_order) eo_none (eo_int (C := C) ed_i))) (((hh14).1).2.1))) (as_cons (EvN.d (en_lcA K (e := PyData.int) (e' := PyData.int) (fun (x33 : Int) => (x33 * ((10 : Int) ^ ((28 : Int)).toNat))) (ei_list (ed_var (i := 2) rfl f_order)) ((((hh14).1).2.2).1) (fun _ => rfl) (fun x33 m34 v36 Ge32 e32 a35 => (ed_mul (ed_var (i := 11) rfl a35) (ed_pow ed_i ed_i ((((((hh14).1).2.2).2) x33 m34).1)) ((((((hh14).1).2.2).2) x33 m34).2))))) as_nil)))) (show 4 ≤ 100000 by decide))) (congrArg Da.py (eId_map _).symm)) ((hh14).2))) eG fun v H1 G1 s1 a => ?_
    exact q _ v H1 G1 ⟨_, hret, rfl⟩ ⟨sx.trans (Same.x g s1.h), eB.trans s1.g, s1.gh, fun a h n => s1.nw a (al a h) (nwB a h n)⟩ ((gc.ex s1.h).le (by omega)) a
end
end Sv

/-! Defs that draw, as they stand in the older texts. By the verifier. -/
namespace Sv
open PySem PySem.Spec PyProof.Rows L2 Evl
abbrev gRev (us ws : List V) : List V := gRv us ws
section
variable {K : PySem.W.Frag} {C g : Addr}
theorem ct_spKind : CtR C spKind 6 [] (fun z => ∃ (k : Nm) (n : Nat), okK k n = true ∧ z = .py (toldD k n)) := fun g vs G ng a H1 c e gc hc Q q E => by
  cases a
  obtain ⟨x, b, c', hg, h1, h2⟩ := gc
  refine ⟨g, x, b, c', rfl, hg, ⟨h1, by omega⟩, fun t k n a' c2 H2 hK d0 d1 g2 x2 nt _ ht => ?_⟩
  have hgt : G t = none := fresh_back e nt
  refine q _ _ H2 (L2.upd G t (.tup [.str k.s, .int (n : Int)])) ⟨k, n, hK, rfl⟩ ⟨x2, Ex.new hgt, fun b o h => ?_, fun b z1 z2 => ?_⟩ ⟨a', _, c2, g2, d0, by omega⟩ (.tup upd_same (.cons (.str _) (.cons (.int _) .nil)))
  · by_cases z : b = t
    · subst z
      rw [upd_same] at h
      rw [← h]
      exact ht
    · rw [upd_ne z] at h
      exact x2 _ _ (e _ _ h) (fun w => by rw [w, ng] at h; cases h)
  · by_cases z : b = t
    · subst z
      exact absurd nt z1
    · rw [upd_ne z]
      exact z2
theorem gx_list {G H1 H2 : Hp} {q : Addr} {ws : List Int} (e : Ex G H1) (ng : G g = none) (x2 : SameX g H1 H2) (nq : H1 q = none) (hq : H2 q = some (.lst (ws.map V.int))) : Gx g H1 G H2 (L2.upd G q (.lst (ws.map V.int))) := by
  have hgt : G q = none := fresh_back e nq
  refine ⟨x2, Ex.new hgt, fun b o h => ?_, fun b z1 z2 => ?_⟩
  · by_cases z : b = q
    · subst z
      rw [upd_same] at h
      rw [← h]
      exact hq
    · rw [upd_ne z] at h
      exact x2 _ _ (e _ _ h) (fun w => by rw [w, ng] at h; cases h)
  · by_cases z : b = q
    · subst z
      exact absurd nq z1
    · rw [upd_ne z]
      exact z2
theorem ct_spRow {k : Nm} {n m : Nat} (hK : okK k n = true) (hm : m ≤ 1000) : CtR C (spRow K) (m + 1) [.py (toldD k n), .py (.int (m : Int))] (fun z => ∃ l : List Int, ((∀ s ∈ l, okS k n s) ∧ l.length ≤ m) ∧ z = .py (eL PyData.int l)) := fun g vs G ng a H1 c e gc hc Q q E => by
  obtain ⟨v, w, rfl, a1, a2⟩ := at_all2 a
  obtain ⟨t, rfl, ht⟩ := at_told a1
  rw [at_int a2]
  obtain ⟨x, b, c', hg, h1, h2⟩ := gc
  have hne : t ≠ g := fun z => by rw [z, ng] at ht; cases ht
  refine ⟨g, t, x, b, c', k, n, m, rfl, hg, ⟨h1, by omega⟩, st_of (e _ _ ht), hne, hK, hm, fun p xs a' c2 H2 hx hl d0 d1 g2 x2 np _ hp => ?_⟩
  exact q _ _ H2 _ ⟨xs, ⟨hx, hl⟩, rfl⟩ (gx_list e ng x2 np hp) ⟨a', _, c2, g2, d0, by omega⟩ (.lst upd_same (dpa_ints _))
end
end Sv

namespace Sv
open PySem PySem.Spec PyProof.Rows L2 Evl
section
variable {K : PySem.W.Frag} {C : Addr}
theorem ct_spMade {k : Nm} {n : Nat} {l : List Int} (c0 : okK k n = true) (c1 : (∀ s ∈ l, okS k n s)) : CtN C (spMade K) [.py (toldD k n), .py (eL PyData.int l)] (((run k n (startL k n) l)).map PyData.int) := fun vs G a H1 e Q q E => by
  obtain ⟨v0, v1, rfl, a0, a1⟩ := at_all2 a
  obtain ⟨t, rfl, h_t⟩ := at_told a0
  obtain ⟨r, rfl, h_r⟩ := at_ints a1
  exact ⟨_, _, _, _, _, rfl, st_of (e _ _ h_t), sq_of (e _ _ h_r), c0, c1, fun p H2 s2 np hp => q p _ H2 G (Gs.same e s2) np (fresh_back e np) hp (dpa_ints _)⟩
end
section
variable {K : PySem.W.Frag} {C : Addr}
theorem ct_spCross2 {k : Nm} {n : Nat} {ws : List Int} (c0 : ws.length = n) (c1 : okK k n = true) (c2 : Form k n ws) (c3 : crP k n ws ≤ 60) : Ct C (spCross2 K C) [.kd k n, .py (eL PyData.int ws)] (.py (.int (crP k n ws))) := fun vs G a H1 e Q q E => by
  obtain ⟨v0, v1, rfl, a0, a1⟩ := at_all2 a
  obtain ⟨p, rfl, _, h_p⟩ := a0
  obtain ⟨o, rfl, h_o⟩ := at_ints a1
  exact ⟨_, _, _, _, _, rfl, ⟨⟨_, e _ _ h_p⟩, sq_of (e _ _ h_o), c0, c1⟩, c2, c3, fun H2 s2 => q _ H2 G (Gs.same e s2) (.int _)⟩
end
section
variable {K : PySem.W.Frag} {C g : Addr} {G : Hp} {v : V}
theorem dqa_ints_eq : ∀ {ws : List Int} {ds : List PyData}, DqAll G (ws.map V.int) ds → ds = ws.map PyData.int
  | [], _, .nil => rfl
  | _ :: _, _, .cons a b => by
    cases a
    rw [dqa_ints_eq b]
    rfl
theorem ty_mem : ∀ d : PyData, tyD d = "NoneType" ∨ tyD d = "bool" ∨ tyD d = "int" ∨ tyD d = "str" ∨ tyD d = "list" ∨ tyD d = "tuple" ∨ tyD d = "dict"
  | .none => .inl rfl
  | .bool _ => .inr (.inl rfl)
  | .int _ => .inr (.inr (.inl rfl))
  | .str _ => .inr (.inr (.inr (.inl rfl)))
  | .list _ => .inr (.inr (.inr (.inr (.inl rfl))))
  | .tuple _ => .inr (.inr (.inr (.inr (.inr (.inl rfl)))))
  | .dict _ => .inr (.inr (.inr (.inr (.inr (.inr rfl)))))
theorem ty7_of {d : PyData} (h : Dq G v d) : Ty7 K G v (tyD d) := ⟨dq_ty h, ty_mem d⟩
theorem val_of {d : PyData} (a : At C G v (.py d)) (b : BentD d) : ∃ lv, ValAt K G v lv ∧ (∀ xs, lv = some xs → ∀ x ∈ xs, ∃ d, Dp K G x d ∧ Mild d) ∧ ∀ Pr : List Int → Prop, (∃ ws : List Int, lv = some (ws.map V.int) ∧ Pr ws) ↔ ∃ ws : List Int, d = .list (ws.map PyData.int) ∧ Pr ws := by
  by_cases hl : ∃ ds, d = .list ds
  · obtain ⟨ds, rfl⟩ := hl
    obtain ⟨o, vs, rfl, hs, hd⟩ := at_list a
    have hb := b.it ds rfl
    refine ⟨some vs, ⟨o, rfl, sq_of hs, by rw [dpa_len hd]; exact hb.1, fun x hx => ?_⟩, fun xs e x hx => ?_, fun Pr => ⟨?_, ?_⟩⟩
    · obtain ⟨i, hi, e⟩ := List.mem_iff_getElem.mp hx
      obtain ⟨d, _, h2⟩ := dpa_get hd (List.getElem?_eq_getElem hi)
      rw [e] at h2
      exact ⟨_, ty7_of h2⟩
    · cases e
      obtain ⟨i, hi, e⟩ := List.mem_iff_getElem.mp hx
      obtain ⟨d, h1, h2⟩ := dpa_get hd (List.getElem?_eq_getElem hi)
      rw [e] at h2
      have hm := hb.2 d (List.mem_of_getElem? h1)
      exact ⟨d, Dq.dp h2 (lay_nodict d hm.2), hm⟩
    · rintro ⟨ws, e, h⟩
      cases e
      exact ⟨ws, by rw [dqa_ints_eq hd], h⟩
    · rintro ⟨ws, e, h⟩
      cases e
      exact ⟨ws, by rw [dpa_int_eq hd], h⟩
  · have ht : tyD d ≠ "list" := by cases d <;> first | exact absurd ⟨_, rfl⟩ hl | (simp [tyD])
    exact ⟨none, ⟨_, ty7_of a, ht⟩, fun xs e => (by cases e), fun Pr => ⟨fun ⟨ws, e, _⟩ => (by cases e), fun ⟨ws, e, _⟩ => absurd ⟨_, e⟩ hl⟩⟩
/-- whether data are an order -/
noncomputable def isOrdB (k : Nm) (n : Nat) (d : PyData) : Bool := @decide (∃ ws : List Int, d = .list (ws.map PyData.int) ∧ Form k n ws ∧ (k = .ri → crP k n ws ≤ 60)) (Classical.propDecidable _)
theorem isOrd_iff {k : Nm} {n : Nat} {d : PyData} : isOrdB k n d = true ↔ ∃ ws : List Int, d = .list (ws.map PyData.int) ∧ Form k n ws ∧ (k = .ri → crP k n ws ≤ 60) := @decide_eq_true_iff _ (Classical.propDecidable _)
theorem isOrd_yes {k : Nm} {n : Nat} {ws : List Int} (h : Form k n ws) (c : k = .ri → crP k n ws ≤ 60) : isOrdB k n (eL PyData.int ws) = true := isOrd_iff.mpr ⟨ws, rfl, h, c⟩
theorem int_map_inj : ∀ {a b : List Int}, a.map PyData.int = b.map PyData.int → a = b
  | [], [], _ => rfl
  | [], _ :: _, h => by cases h
  | _ :: _, [], h => by cases h
  | x :: a, y :: b, h => by
    rw [List.map_cons, List.map_cons] at h
    injection h with h1 h2
    injection h1 with h1
    rw [h1, int_map_inj h2]
theorem isOrd_no {k : Nm} {n : Nat} {ws : List Int} (h : ¬ (Form k n ws ∧ (k = .ri → crP k n ws ≤ 60))) : isOrdB k n (eL PyData.int ws) = false := Bool.eq_false_iff.mpr fun z => by
  obtain ⟨us, e, hf⟩ := isOrd_iff.mp z
  injection e with e
  rw [← int_map_inj e] at hf
  exact h hf
theorem ct_isOrder {k : Nm} {n : Nat} {d : PyData} (hK : okK k n = true) (b : BentD d) : Ct C (spIsOrder K C) [.kd k n, .py d] (.py (.bool (isOrdB k n d))) := fun vs G a H1 e Q q E => by
  obtain ⟨v0, v1, rfl, a0, a1⟩ := at_all2 a
  obtain ⟨p, rfl, dx, hp⟩ := a0
  obtain ⟨lv, h1, h2, h3⟩ := val_of (K := K) (a1.mono e) b
  refine ⟨p, v1, k, n, lv, rfl, ⟨dx, e _ _ hp⟩, hK, h1, fun bb H2 hb s2 => ?_⟩
  have eb : bb = isOrdB k n d := Bool.eq_iff_iff.mpr (hb.trans ((h3 _).trans isOrd_iff.symm))
  subst eb
  exact q _ H2 G (Gs.same e s2) (.bl _)
theorem ct_lawIsOrder {k : Nm} {n : Nat} {d : PyData} (hK : okK k n = true) (b : BentD d) : Ct C (spLIsOrder K) [.py (toldD k n), .py d] (.py (.bool (isOrdB k n d))) := fun vs G a H1 e Q q E => by
  obtain ⟨v0, v1, rfl, a0, a1⟩ := at_all2 a
  obtain ⟨t, rfl, ht⟩ := at_told a0
  obtain ⟨lv, h1, h2, h3⟩ := val_of (K := K) (a1.mono e) b
  refine ⟨t, v1, k, n, lv, rfl, st_of (e _ _ ht), hK, h1, h2, fun bb H2 hb s2 => ?_⟩
  have eb : bb = isOrdB k n d := Bool.eq_iff_iff.mpr (hb.trans ((h3 _).trans isOrd_iff.symm))
  subst eb
  exact q _ H2 G (Gs.same e s2) (.bl _)
theorem ct_spRow30 {k : Nm} {n : Nat} (h : okK k n = true ∧ 30 ≤ 1000) : CtR C (spRow K) 31 [.py (toldD k n), .py (.int 30)] (fun z => ∃ l : List Int, ((∀ s ∈ l, okS k n s) ∧ l.length ≤ 30) ∧ z = .py (eL PyData.int l)) := ct_spRow (m := 30) h.1 h.2
end
theorem b2 {a b : Int} (ha : a.natAbs < 10 ^ 40) (hb : b.natAbs < 10 ^ 40) : BentD (eL PyData.int [a, b]) := bent_ints (fun x hx => by
  rcases List.mem_cons.mp hx with h | h
  · rw [h]; exact ha
  · rw [List.mem_singleton.mp h]; exact hb) (by show 2 ≤ 60; decide)
theorem f_a : Form .ri 2 [-60, 61] := ⟨rfl, by decide +kernel, by decide +kernel⟩
theorem f_b : Form .ri 2 [60, -59] := ⟨rfl, by decide +kernel, by decide +kernel⟩
theorem o_a : isOrdB .ri 2 (eL PyData.int [-60, 61]) = true := isOrd_yes f_a fun _ => by decide +kernel
theorem o_b : isOrdB .ri 2 (eL PyData.int [60, -59]) = true := isOrd_yes f_b fun _ => by decide +kernel
theorem no_sum {k : Nm} {n : Nat} {ws : List Int} (hk : k = .ri) (h : ws.sum ≠ (n : Int) * ((n : Int) - 1) / 2) : isOrdB k n (eL PyData.int ws) = false := isOrd_no fun ⟨hf, _⟩ => by
  subst hk
  exact h hf.2.1
theorem no_cr {n : Nat} {ws : List Int} (h : ¬ crP .ri n ws ≤ 60) : isOrdB .ri n (eL PyData.int ws) = false := isOrd_no fun ⟨_, hc⟩ => h (hc rfl)
theorem o_c : isOrdB .ri 2 (eL PyData.int [61, -60]) = false := no_cr (by decide +kernel)
theorem o_d : isOrdB .ri 2 (eL PyData.int [(0 : Int) - (10 : Int) ^ (29 : Int).toNat, (10 : Int) ^ (29 : Int).toNat + 1]) = false := no_cr (by decide +kernel)
theorem o_e : isOrdB .ri 5 (eL PyData.int [(0 : Int) - (10 : Int) ^ (20 : Int).toNat, 1, 2, 3, (10 : Int) ^ (20 : Int).toNat + 4]) = false := no_cr (by decide +kernel)
theorem o_f : isOrdB .ri 2 (eL PyData.int [-61, 62]) = false := no_cr (by decide +kernel)
def pairs3 : List (Int × List Int) := [(3, [1, 4, -2]), (4, [0, 4, -3, 5]), (5, [0, 5, -5, 4, 6])]
theorem p3 : ∀ p ∈ pairs3, (p.1 = ((p.1.toNat : Nat) : Int) ∧ okK .ri p.1.toNat = true) ∧ (∀ x ∈ p.2, x.natAbs < 10 ^ 40) ∧ p.2.length ≤ 60 := by decide +kernel
theorem p4 : ∀ p ∈ pairs3, ¬ (Form .ri p.1.toNat p.2) := by
  intro p hp
  have h : ∀ p ∈ pairs3, ¬ (p.2.sum = ((p.1.toNat : Nat) : Int) * (((p.1.toNat : Nat) : Int) - 1) / 2 ∧ (p.2.map fun x => x % ((p.1.toNat : Nat) : Int)).Perm (startL .ri p.1.toNat)) := by decide +kernel
  exact fun hf => h p hp ⟨hf.2.1, hf.2.2⟩

section
variable {P : Program} {w : World} {K : PySem.W.Frag} {mg : Str → Option Value} {base : Heap} {f C D : Addr} {fd : FuncData}
def spRightG : Sp := fun vs H Q _ => ∃ (g : Addr) (a b c : Int), vs = [.ref g] ∧ GenAt H g a b c ∧ (0 ≤ c ∧ c ≤ 10000) ∧ ∀ H', SameX g H H' → Q (.bl true) H'
theorem ok_right02 (T : Tx K mg) (F : FnP K "_law_right" "_law_right" s__law_right f fd) (c_Kind : Cd P w K mg base "Kind" C ["self", "name", "size"] 2 (spInit C)) (c_law_bent : Gd P w K mg base "_law_bent" ["_law_generator_here", "_law_told", "_law_order"] 3 (spDr C 4 DmBent RBent)) (c_law_is_order : Gd P w K mg base "_law_is_order" ["_law_told", "_law_value"] 6 (spLIsOrder K)) (c_law_kind : Gd P w K mg base "_law_kind" ["_law_generator_here"] 3 (spKind)) (c_law_made : Gd P w K mg base "_law_made" ["_law_told", "_law_row_here"] 3 (spMade K)) (c_law_row : Gd P w K mg base "_law_row" ["_law_generator_here", "_law_told", "_law_most"] 3 (spRow K)) (c_is_order : Gd P w K mg base "is_order" ["kind", "value"] 5 (spIsOrder K C)) (c_is_orderKw : GdK P w K mg base "is_order" ["kind", "value"] ["value", "kind"] gRev 5 (spIsOrder K C)) : FnG P w K mg base 7 f fd ["_law_generator_here"] spRightG := by
  refine okG F sc__law_right (fun vs H Q E h => ?_) (fun cdv A outer s H0 vs Q E gs hr h => ?_)
  · obtain ⟨g, a, b, c, rfl, _⟩ := h
    rfl
  · obtain ⟨g, a, b, c, rfl, hg, ⟨c0, c1⟩, q⟩ := h
    refine ⟨_, (pss_cons (ps_set (i := 1) sc__law_right.nd rfl (by first | exact Or.inl rfl | exact Or.inr rfl) (pe_callG c_law_kind (hr.mono (by decide)) (by rfl) (pa_cons (pv 0) pa_nil)))
      (pss_cons (ps_par (i := 2) (j := 3) (by rfl) sc__law_right.nd rfl rfl (by decide) rfl rfl (pa_cons (pe_makeG c_Kind (hr.mono (by decide)) (by rfl) (pa_cons (pe_ix ix_tup (pv 1) pe_int (fun _ _ => rfl)) (pa_cons (pe_ix ix_tup (pv 1) pe_int (fun _ _ => rfl)) pa_nil))) (pa_cons (pe_callG c_law_made (hr.mono (by decide)) (by rfl) (pa_cons (pv 1) (pa_cons (pe_callG c_law_row (hr.mono (by decide)) (by rfl) (pa_cons (pv 0) (pa_cons (pv 1) (pa_cons pe_int pa_nil)))) pa_nil))) pa_nil)) (by rfl))
      (pss_cons (ps_for PassesOwn.never rfl (pi_list (pe_callG c_law_bent (hr.mono (by decide)) (by rfl) (pa_cons (pv 0) (pa_cons (pv 1) (pa_cons (pv 3) pa_nil))))) (pg_name (i := 4) sc__law_right.nd rfl (Or.inl rfl)) (pss_cons (ps_set (i := 5) sc__law_right.nd rfl (by first | exact Or.inl rfl | exact Or.inr rfl) (pe_callB (call_reprV gs hr) (by rfl) T.m_repr (by decide +kernel) (pa_cons (pv 4) pa_nil)))
      (pss_one (ps_if (PW.pt (pw_or (pt_cmpR op_ne (pe_callB (call_reprV gs hr) (by rfl) T.m_repr (by decide +kernel) (pa_cons (pe_callG c_is_order (hr.mono (by decide)) (by rfl) (pa_cons (pv 2) (pa_cons (pv 4) pa_nil))) pa_nil)) (pe_callB (call_reprV gs hr) (by rfl) T.m_repr (by decide +kernel) (pa_cons (pe_callG c_law_is_order (hr.mono (by decide)) (by rfl) (pa_cons (pv 1) (pa_cons (pv 4) pa_nil))) pa_nil)) (nomark _)) (pw_or1 (pt_cmpR op_ne (pe_callB (call_reprV gs hr) (by rfl) T.m_repr (by decide +kernel) (pa_cons (pv 4) pa_nil)) (pv 5) (nomark _))))) (pss_one (ps_ret pe_bl)) pss_nil))))
      (pss_one (ps_ret (pe_cmpR op_isBl (pe_callKG c_is_orderKw (hr.mono (by decide)) (by rfl) (pk_cons (pv 3) (pk_cons (pv 2) pk_nil))) pe_bl (nomark _))))))), ?_⟩
    have eG := rmv_ex H0 g
    have ng := rmv_none H0 g
    have gc : GenC H0 g 10000 := ⟨a, b, c, hg, c0, c1⟩
    have eB : Ex (rmv H0 g) (rmv H0 g) := Ex.refl _
    -- _law_told = _law_kind(_law_generator_here)
    refine q_asgR (C := C) (er_call (ev_var (i := 0) rfl) as_nil (ct_spKind )) eG ng gc (by omega) fun x1 v__law_told H1 G1 hx s1 g2 f__law_told => ?_
    refine st_eq (σ' := [some (V.ref g), some v__law_told, none, none, none, none]) ?_ rfl
    obtain ⟨k1, n2, hk1, rfl⟩ := hx
    have ng := s1.keepNone gc ng
    have gc := g2
    have eB := eB.trans s1.g
    have eG := s1.gh
    -- _law_kind_here, _law_order = (Kind(_law_told[0], _law_told[1]), _law_made(_law_told, _law_row(_law_generator_here, _law_told, 30)))
    have hh1 : (okK k1 n2 = true) := by exact hk1
    have hh2 : okK k1 n2 = true ∧ 30 ≤ 1000 := by exact ⟨hk1, by decide⟩
    have hh3 : ∀ (l3 : List Int), (∀ s ∈ l3, okS k1 n2 s) ∧ l3.length ≤ 30 → okK (k1) (n2) = true ∧ (∀ s ∈ (l3), okS (k1) (n2) s) := by exact fun l h => ⟨hk1, h.1⟩
    refine q_par2 (C := C) (er_pure (ed_make (as_cons (ed_ix0 (ed_var (i := 1) rfl f__law_told) ed_i) (as_cons (ed_ix1 (ed_var (i := 1) rfl f__law_told) ed_i) as_nil)) (hh1))) (er_callA (Φ := fun z => ∃ (l3 : List Int), ((∀ s ∈ l3, okS k1 n2 s) ∧ l3.length ≤ 30) ∧ z = .py (((eL PyData.int) ((run (k1) (n2) (startL (k1) (n2)) (l3)))))) (rs_cons (er_pure (ed_var (i := 1) rfl f__law_told)) (rs_cons (er_call (ev_var (i := 0) rfl) (as_cons (ed_var (i := 1) rfl f__law_told) (as_cons ed_i as_nil)) (ct_spRow30 hh2)) rs_nil (by omega)) (by omega)) (fun xs hxs => by obtain ⟨_, rfl, _, ⟨_, ⟨l3, hl3, rfl⟩, _, rfl, rfl⟩, rfl⟩ := hxs; exact ⟨_, ⟨l3, hl3, rfl⟩, (ctN_ct (ct_spMade ((hh3 l3 hl3)).1 ((hh3 l3 hl3)).2))⟩)) eG ng gc (by omega) (by omega) fun x0 x1 v__law_kind_here v__law_order H1 G1 hx0 hx1 s1 g2 f__law_kind_here f__law_order => ?_
    refine st_eq (σ' := [some (V.ref g), some v__law_told, some v__law_kind_here, some v__law_order, none, none]) ?_ rfl
    obtain rfl := hx0
    obtain ⟨l3, hl3, rfl⟩ := hx1
    have ng := s1.keepNone gc ng
    have gc := g2
    have eB := eB.trans s1.g
    have eG := s1.gh
    have f__law_told := At.mono s1.g f__law_told
    generalize hy1 : ((run (k1) (n2) (startL (k1) (n2)) (l3))) = y_order_1 at f__law_order
    -- for _law_value in _law_bent(_law_generator_here, _law_told, _law_order):
    have hh4 : DmBent [.py (toldD k1 n2), .py (eL PyData.int y_order_1)] := by subst hy1; exact ⟨k1, n2, _, rfl, hk1, run_len (startL_len _ _), bnd_made hk1 hl3.1 (by omega)⟩
    refine q_forR (C := C) (er_call (ev_var (i := 0) rfl) (as_cons (ed_var (i := 1) rfl f__law_told) (as_cons (ed_var (i := 3) rfl f__law_order) as_nil)) (ct_dr hh4)) eG ng gc (by omega) fun x1 v_it H1 G1 hx s1 g2 f_it => ?_
    obtain ⟨ds4, hds4, rfl⟩ := hx
    have ng := s1.keepNone gc ng
    have gc := g2
    have eB := eB.trans s1.g
    have eG := s1.gh
    have f__law_told := At.mono s1.g f__law_told
    have f__law_kind_here := At.mono s1.g f__law_kind_here
    have f__law_order := At.mono s1.g f__law_order
    obtain ⟨c1, hc1, gc⟩ : ∃ c : Int, c ≤ 20000 ∧ GenC _ g c := ⟨_, (by omega), gc⟩
    refine q_forD (C := C) (e := eId) K (ei_list (C := C) (ed_cv f_it)) eG (fun i σ G H => ∃ (o4 : Option V) (o5 : Option V), (True) ∧ σ = [some (V.ref g), some v__law_told, some v__law_kind_here, some v__law_order, o4, o5] ∧ GenC H g (c1 + (i : Int) * 10) ∧ G g = none) ?_ ?_ ?_
    · intro H1 G1 s1
      exact ⟨_, _, trivial, rfl, by simpa using gc.ex s1.h, s1.nw _ gc.ne ng⟩
    · rintro i1 x_value v__law_value σ' G' H' G2 H2 Gb hx1 ⟨o4, o5, hinv1, rfl, gc, ng⟩ h3 h4 s2 f__law_value
      have hi1 : i1 < (ds4).length := (List.getElem?_eq_some_iff.mp hx1).1
      have hn1 : (i1 : Int) < 1000 := by have := hds4.1; omega
      have eb : Ex Gb G2 := h4.trans s2.g
      have eB := eB.trans ((h3.trans h4).trans s2.g)
      have eG := s2.gh
      have ng := s2.nw _ gc.ne ng
      have gc := gc.ex s2.h
      have f__law_told := At.mono ((h3.trans h4).trans s2.g) f__law_told
      have f__law_kind_here := At.mono ((h3.trans h4).trans s2.g) f__law_kind_here
      have f__law_order := At.mono ((h3.trans h4).trans s2.g) f__law_order
      refine st_eq (σ' := [some (V.ref g), some v__law_told, some v__law_kind_here, some v__law_order, some v__law_value, o5]) ?_ rfl
      -- _law_kept = repr(_law_value)
      have hh5 : (Showy x_value) := by exact (hds4.2 _ (List.mem_of_getElem? hx1)).sh
      refine q_asgD (C := C) (ed_repr (ed_var (i := 4) rfl f__law_value) (hh5)) eG fun v__law_kept H1 G1 s1 f__law_kept => ?_
      refine st_eq (σ' := [some (V.ref g), some v__law_told, some v__law_kind_here, some v__law_order, some v__law_value, some v__law_kept]) ?_ rfl
      have ng := s1.nw _ gc.ne ng
      have gc := gc.ex s1.h
      have eB := eB.trans s1.g
      have eG := s1.gh
      have f__law_told := At.mono s1.g f__law_told
      have f__law_kind_here := At.mono s1.g f__law_kind_here
      have f__law_order := At.mono s1.g f__law_order
      have f__law_value := At.mono s1.g f__law_value
      have eb := eb.trans s1.g
      generalize hy2 : (PyData.shown x_value) = y_kept_2 at f__law_kept
      -- if repr(is_order(_law_kind_here, _law_value)) != repr(_law_is_order(_law_told, _law_value)) or repr(_law_value) != _law_kept:
      have hh6 : ((((okK k1 n2 = true ∧ BentD x_value)) ∧ (Showy (PyData.bool (isOrdB k1 n2 x_value)))) ∧ (((okK k1 n2 = true ∧ BentD x_value)) ∧ (Showy (PyData.bool (isOrdB k1 n2 x_value))))) ∧ ((!decide ((PyData.shown (PyData.bool (isOrdB k1 n2 x_value))) = (PyData.shown (PyData.bool (isOrdB k1 n2 x_value))))) = false → ((Showy x_value))) := by have bd := hds4.2 _ (List.mem_of_getElem? hx1); exact ⟨⟨⟨⟨hk1, bd⟩, (tn_bool _).showy⟩, ⟨hk1, bd⟩, (tn_bool _).showy⟩, fun _ => bd.sh⟩
      have hh7 : ((!decide ((PyData.shown (PyData.bool (isOrdB k1 n2 x_value))) = (PyData.shown (PyData.bool (isOrdB k1 n2 x_value))))) || (!decide ((PyData.shown x_value) = y_kept_2))) = false := by rw [hy2]; simp
      refine s_noD (et_or (et_of (C := C) (ed_neS (ed_repr (ed_call (as_cons (ed_var (i := 2) rfl f__law_kind_here) (as_cons (ed_var (i := 4) rfl f__law_value) as_nil)) (ct_isOrder (((((hh6).1).1).1)).1 (((((hh6).1).1).1)).2)) ((((hh6).1).1).2)) (ed_repr (ed_call (as_cons (ed_var (i := 1) rfl f__law_told) (as_cons (ed_var (i := 4) rfl f__law_value) as_nil)) (ct_lawIsOrder (((((hh6).1).2).1)).1 (((((hh6).1).2).1)).2)) ((((hh6).1).2).2)))) (fun z5 => (et_of (C := C) (ed_neS (ed_repr (ed_var (i := 4) rfl f__law_value) (((hh6).2) z5)) (ed_var (i := 5) rfl f__law_kept))))) eG hh7 fun H1 s1 => ?_
      have ng := s1.nw _ gc.ne ng
      have gc := gc.ex s1.h
      have eB := eB.trans s1.g
      have eG := s1.gh
      have f__law_told := At.mono s1.g f__law_told
      have f__law_kind_here := At.mono s1.g f__law_kind_here
      have f__law_order := At.mono s1.g f__law_order
      have f__law_value := At.mono s1.g f__law_value
      have f__law_kept := At.mono s1.g f__law_kept
      have eb := eb.trans s1.g
      first | refine Lk.mk eb eG ?_ | (unfold tNext; refine Lk.mk eb eG ?_)
      exact ⟨_, _, trivial, rfl, gc.le (by push_cast; omega), ng⟩
    · rintro σ' G' H' ⟨o4, o5, hinv1, rfl, gc, ng⟩ e1 e2
      have eB := eB.trans e1
      have eG := e2
      have f__law_told := At.mono e1 f__law_told
      have f__law_kind_here := At.mono e1 f__law_kind_here
      have f__law_order := At.mono e1 f__law_order
      have gc := gc.le (show _ ≤ c1 + (1000 : Int) * 10 by have := hds4.1; omega)
      -- return is_order(value=_law_order, kind=_law_kind_here) is True
      have hh8 : ((okK k1 n2 = true ∧ BentD ((eL PyData.int) y_order_1))) := by subst hy1; exact ⟨hk1, bent_ints (fun x hx => Nat.lt_of_lt_of_le (bnd_made hk1 hl3.1 (by omega) x hx) (by decide)) (by rw [run_len (startL_len _ _)]; have := okK_le hk1; omega)⟩
      have hh9 : (decide ((isOrdB k1 n2 ((eL PyData.int) y_order_1)) = true)) = true := by subst hy1; exact decide_eq_true (isOrd_yes (run_form hk1 hl3.1 (form_start hk1)).1 (fun _ => by have h := (run_form hk1 hl3.1 (form_start hk1)).2; rw [cr_start hk1] at h; have := hl3.2; omega))
      refine s_retD (C := C) (ed_isB (ed_callK (as_cons (ed_var (i := 3) rfl f__law_order) (as_cons (ed_var (i := 2) rfl f__law_kind_here) as_nil)) rfl (ct_isOrder ((hh8)).1 ((hh8)).2)) ed_b) eG fun v H1 G1 s1 a => ?_
      rw [at_bool a, hh9]
      exact q H1 (rmv_same ((eB.trans eG).trans s1.h))
def spLaw (K : PySem.W.Frag) : Sp := fun vs H Q _ => ∃ (a : Addr) (ns : List Int), vs = [.ref a] ∧ SqL K H a (ns.map V.int) ∧ ns.length ≤ 63 ∧ ∀ H', Q (.bl true) H'
theorem ok_law02 (T : Tk K w mg C D) (F : FnP K "law" "law" s_law f fd) (c_law_right : GdG P w K mg base "_law_right" ["_law_generator_here"] 7 spRightG) (c_law_generator : Gd P w K mg base "_law_generator" ["_law_script", "_law_index"] 2 (spGen K)) (c_Kind : Cd P w K mg base "Kind" C ["self", "name", "size"] 2 (spInit C)) (c_crossings : Gd P w K mg base "crossings" ["kind", "order"] 6 (spCross2 K C)) (c_is_order : Gd P w K mg base "is_order" ["kind", "value"] 5 (spIsOrder K C)) : FnG P w K mg base 8 f fd ["_law_script"] (spLaw K) := by
  refine okG F sc_law (fun vs H Q E h => ?_) (fun cdv A outer s H vs Q E gs hr h => ?_)
  · obtain ⟨a, ns, rfl, _⟩ := h
    rfl
  · obtain ⟨a, ns, rfl, hA, hlen, q⟩ := h
    refine ⟨_, (pss_cons (ps_for PassesOwn.never rfl (pi_range1 (by rfl) T.m_range (pa_cons pe_int pa_nil)) (pg_name (i := 1) sc_law.nd rfl (Or.inl rfl)) (pss_one (ps_if (pt_not (pt_val (pe_callGG c_law_right gs (hr.mono (by decide)) (by rfl) (pa_cons (pe_callG c_law_generator (hr.mono (by decide)) (by rfl) (pa_cons (pv 0) (pa_cons (pv 1) pa_nil))) pa_nil)))) (pss_one (ps_ret pe_bl)) pss_nil)))
      (pss_cons (ps_set (i := 2) sc_law.nd rfl (by first | exact Or.inl rfl | exact Or.inr rfl) (pe_makeG c_Kind (hr.mono (by decide)) (by rfl) (pa_cons pe_str (pa_cons pe_int pa_nil))))
      (pss_cons (ps_if (PW.pt (pw_or (pt_cmpR op_notBl (pe_callG c_is_order (hr.mono (by decide)) (by rfl) (pa_cons (pv 2) (pa_cons (pe_lst (pa_cons (pe_un un_neg pe_int) (pa_cons pe_int pa_nil))) pa_nil))) pe_bl (nomark _)) (pw_or (pt_cmpR op_ne (pe_callG c_crossings (hr.mono (by decide)) (by rfl) (pa_cons (pv 2) (pa_cons (pe_lst (pa_cons (pe_un un_neg pe_int) (pa_cons pe_int pa_nil))) pa_nil))) pe_int (nomark _)) (pw_or1 (pt_cmpR op_notBl (pe_callG c_is_order (hr.mono (by decide)) (by rfl) (pa_cons (pv 2) (pa_cons (pe_lst (pa_cons pe_int (pa_cons (pe_un un_neg pe_int) pa_nil))) pa_nil))) pe_bl (nomark _)))))) (pss_one (ps_ret pe_bl)) pss_nil)
      (pss_cons (ps_if (PW.pt (pw_or (pt_cmpR op_notBl (pe_callG c_is_order (hr.mono (by decide)) (by rfl) (pa_cons (pv 2) (pa_cons (pe_lst (pa_cons (pe_op op_sub pe_int (pe_op op_powX pe_int pe_int)) (pa_cons (pe_op op_add (pe_op op_powX pe_int pe_int) pe_int) pa_nil))) pa_nil))) pe_bl (nomark _)) (pw_or1 (pt_cmpR op_notBl (pe_callG c_is_order (hr.mono (by decide)) (by rfl) (pa_cons (pe_makeG c_Kind (hr.mono (by decide)) (by rfl) (pa_cons pe_str (pa_cons pe_int pa_nil))) (pa_cons (pe_lst (pa_cons (pe_op op_sub pe_int (pe_op op_powX pe_int pe_int)) (pa_cons pe_int (pa_cons pe_int (pa_cons pe_int (pa_cons (pe_op op_add (pe_op op_powX pe_int pe_int) pe_int) pa_nil)))))) pa_nil))) pe_bl (nomark _))))) (pss_one (ps_ret pe_bl)) pss_nil)
      (pss_cons (ps_for PassesOwn.never rfl (pi_list (pe_lst (pa_cons (pe_tup (pa_cons pe_int (pa_cons (pe_lst (pa_cons pe_int (pa_cons pe_int (pa_cons (pe_un un_neg pe_int) pa_nil)))) pa_nil))) (pa_cons (pe_tup (pa_cons pe_int (pa_cons (pe_lst (pa_cons pe_int (pa_cons pe_int (pa_cons (pe_un un_neg pe_int) (pa_cons pe_int pa_nil))))) pa_nil))) (pa_cons (pe_tup (pa_cons pe_int (pa_cons (pe_lst (pa_cons pe_int (pa_cons pe_int (pa_cons (pe_un un_neg pe_int) (pa_cons pe_int (pa_cons pe_int pa_nil)))))) pa_nil))) pa_nil))))) (pg_tup rfl (pgs_cons (pg_name (i := 3) sc_law.nd rfl (Or.inl rfl)) (pgs_cons (pg_name (i := 4) sc_law.nd rfl (Or.inl rfl)) pgs_nil))) (pss_one (ps_if (pt_cmpR op_notBl (pe_callG c_is_order (hr.mono (by decide)) (by rfl) (pa_cons (pe_makeG c_Kind (hr.mono (by decide)) (by rfl) (pa_cons pe_str (pa_cons (pv 3) pa_nil))) (pa_cons (pv 4) pa_nil))) pe_bl (nomark _)) (pss_one (ps_ret pe_bl)) pss_nil)))
      (pss_one (ps_ret (pe_and (pe_cmpR op_isBl (pe_callG c_is_order (hr.mono (by decide)) (by rfl) (pa_cons (pv 2) (pa_cons (pe_lst (pa_cons pe_int (pa_cons (pe_un un_neg pe_int) pa_nil))) pa_nil))) pe_bl (nomark _)) (pe_and (pe_cmpR op_eq (pe_callG c_crossings (hr.mono (by decide)) (by rfl) (pa_cons (pv 2) (pa_cons (pe_lst (pa_cons pe_int (pa_cons (pe_un un_neg pe_int) pa_nil))) pa_nil))) pe_int (nomark _)) (pe_one (pe_cmpR op_isBl (pe_callG c_is_order (hr.mono (by decide)) (by rfl) (pa_cons (pv 2) (pa_cons (pe_lst (pa_cons (pe_un un_neg pe_int) (pa_cons pe_int pa_nil))) pa_nil))) pe_bl (nomark _)))))))))))), ?_⟩
    refine ⟨3, rfl, by decide, by decide, ?_⟩
    refine for_range (lo := 0) (n := 3) (fun i σ H2 => ∃ v1 : Option V, σ = [some (.ref a), v1, none, none, none] ∧ Same H H2) ⟨none, rfl, Same.refl H⟩ ?_ ?_
    · rintro i σ H2 hi ⟨v1, rfl, s2⟩
      refine ⟨_, rfl, _, rfl, a, ns, i, (by rw [Int.zero_add]; rfl), s2.seq hA, by omega, fun g ga gb H3 ng s3 hg => ?_⟩
      refine ⟨g, ga, gb, _, rfl, hg, ⟨by omega, by omega⟩, fun H4 x4 => ⟨true, rfl, ?_⟩⟩
      exact ⟨_, rfl, fun b o e => x4 b o (s3 b o (s2 b o e)) (ne_of_none (s2 b o e) ng)⟩
    · rintro σ H2 ⟨v1, rfl, s2⟩
      have eG : Ex H2 H2 := Ex.refl _
      -- _law_ring = Kind('ring', 2)
      have hh1 : (okK Nm.ri 2 = true) := by decide
      refine q_asgD (C := C) (ed_make (as_cons (ed_m Nm.ri) (as_cons ed_i as_nil)) (hh1)) eG fun v__law_ring H1 G1 s1 f__law_ring => ?_
      refine st_eq (σ' := [some (V.ref a), v1, some v__law_ring, none, none]) ?_ rfl
      have eG := s1.gh
      -- if is_order(_law_ring, [-60, 61]) is not True or crossings(_law_ring, [-60, 61]) != 60 or is_order(_law_ring, [61, -60]) is not False:
      have hh2 : (((okK Nm.ri 2 = true ∧ BentD ((eL PyData.int) ([(-(60 : Int)), (61 : Int)] : List Int))))) ∧ ((!decide ((isOrdB Nm.ri 2 ((eL PyData.int) ([(-(60 : Int)), (61 : Int)] : List Int))) = true)) = false → ((((([(-(60 : Int)), (61 : Int)] : List Int)).length = (2) ∧ okK (Nm.ri) (2) = true ∧ Form (Nm.ri) (2) (([(-(60 : Int)), (61 : Int)] : List Int)) ∧ crP (Nm.ri) (2) (([(-(60 : Int)), (61 : Int)] : List Int)) ≤ 60))) ∧ ((!decide (((crP (Nm.ri) (2) (([(-(60 : Int)), (61 : Int)] : List Int)))) = (60 : Int))) = false → ((okK Nm.ri 2 = true ∧ BentD ((eL PyData.int) ([(61 : Int), (-(60 : Int))] : List Int)))))) := by exact ⟨⟨by decide, b2 (by decide) (by decide)⟩, fun _ => ⟨⟨rfl, by decide, f_a, by decide +kernel⟩, fun _ => ⟨by decide, b2 (by decide) (by decide)⟩⟩⟩
      have hh3 : ((!decide ((isOrdB Nm.ri 2 ((eL PyData.int) ([(-(60 : Int)), (61 : Int)] : List Int))) = true)) || ((!decide (((crP (Nm.ri) (2) (([(-(60 : Int)), (61 : Int)] : List Int)))) = (60 : Int))) || (!decide ((isOrdB Nm.ri 2 ((eL PyData.int) ([(61 : Int), (-(60 : Int))] : List Int))) = false)))) = false := by rw [show isOrdB Nm.ri 2 (eL PyData.int [-(60 : Int), 61]) = true from o_a, show isOrdB Nm.ri 2 (eL PyData.int [61, -(60 : Int)]) = false from o_c]; decide +kernel
      refine q_noD (et_or (et_of (C := C) (ed_notB (ed_call (as_cons (ed_var (i := 2) rfl f__law_ring) (as_cons (EvN.d (en_lst (ds := ([(-(60 : Int)), (61 : Int)] : List Int).map PyData.int) (as_cons (ed_neg ed_i) (as_cons ed_i as_nil)) (show 2 ≤ 100000 by decide))) as_nil)) (ct_isOrder (((hh2).1)).1 (((hh2).1)).2)) ed_b)) (fun z1 => (et_or (et_of (C := C) (ed_ne (ed_call (as_cons (ed_var (i := 2) rfl f__law_ring) (as_cons (EvN.d (en_lst (ds := ([(-(60 : Int)), (61 : Int)] : List Int).map PyData.int) (as_cons (ed_neg ed_i) (as_cons ed_i as_nil)) (show 2 ≤ 100000 by decide))) as_nil)) (ct_spCross2 (((((hh2).2) z1).1)).1 (((((hh2).2) z1).1)).2.1 (((((hh2).2) z1).1)).2.2.1 (((((hh2).2) z1).1)).2.2.2)) ed_i)) (fun z2 => (et_of (C := C) (ed_notB (ed_call (as_cons (ed_var (i := 2) rfl f__law_ring) (as_cons (EvN.d (en_lst (ds := ([(61 : Int), (-(60 : Int))] : List Int).map PyData.int) (as_cons ed_i (as_cons (ed_neg ed_i) as_nil)) (show 2 ≤ 100000 by decide))) as_nil)) (ct_isOrder ((((((hh2).2) z1).2) z2)).1 ((((((hh2).2) z1).2) z2)).2)) ed_b)))))) eG hh3 fun H1 s1 => ?_
      have eG := s1.gh
      have f__law_ring := At.mono s1.g f__law_ring
      -- if is_order(_law_ring, [0 - 10 ** 29, 10 ** 29 + 1]) is not False or is_order(Kind('ring', 5), [0 - 10 ** 20, 1, 2, 3, 10 ** 20 + 4]) is not False:
      have hh4 : ((((((0 ≤ (29 : Int) ∧ (Builtin.Int.intBits (10 : Int) : Int) * (29 : Int) ≤ 2 ^ 27))) ∧ (((0 ≤ (29 : Int) ∧ (Builtin.Int.intBits (10 : Int) : Int) * (29 : Int) ≤ 2 ^ 27)))) ∧ (okK Nm.ri 2 = true ∧ BentD ((eL PyData.int) ([((0 : Int) - ((10 : Int) ^ ((29 : Int)).toNat)), (((10 : Int) ^ ((29 : Int)).toNat) + (1 : Int))] : List Int))))) ∧ ((!decide ((isOrdB Nm.ri 2 ((eL PyData.int) ([((0 : Int) - ((10 : Int) ^ ((29 : Int)).toNat)), (((10 : Int) ^ ((29 : Int)).toNat) + (1 : Int))] : List Int))) = false)) = false → (((okK Nm.ri 5 = true)) ∧ ((((0 ≤ (20 : Int) ∧ (Builtin.Int.intBits (10 : Int) : Int) * (20 : Int) ≤ 2 ^ 27))) ∧ (((0 ≤ (20 : Int) ∧ (Builtin.Int.intBits (10 : Int) : Int) * (20 : Int) ≤ 2 ^ 27)))) ∧ (okK Nm.ri 5 = true ∧ BentD ((eL PyData.int) ([((0 : Int) - ((10 : Int) ^ ((20 : Int)).toNat)), (1 : Int), (2 : Int), (3 : Int), (((10 : Int) ^ ((20 : Int)).toNat) + (4 : Int))] : List Int))))) := by exact ⟨⟨⟨⟨by decide, by decide +kernel⟩, by decide, by decide +kernel⟩, by decide, b2 (by decide) (by decide)⟩, fun _ => ⟨by decide, ⟨⟨by decide, by decide +kernel⟩, by decide, by decide +kernel⟩, by decide, bent_ints (by decide) (by decide)⟩⟩
      have hh5 : ((!decide ((isOrdB Nm.ri 2 ((eL PyData.int) ([((0 : Int) - ((10 : Int) ^ ((29 : Int)).toNat)), (((10 : Int) ^ ((29 : Int)).toNat) + (1 : Int))] : List Int))) = false)) || (!decide ((isOrdB Nm.ri 5 ((eL PyData.int) ([((0 : Int) - ((10 : Int) ^ ((20 : Int)).toNat)), (1 : Int), (2 : Int), (3 : Int), (((10 : Int) ^ ((20 : Int)).toNat) + (4 : Int))] : List Int))) = false))) = false := by rw [o_d, o_e]; decide
      refine q_noD (et_or (et_of (C := C) (ed_notB (ed_call (as_cons (ed_var (i := 2) rfl f__law_ring) (as_cons (EvN.d (en_lst (ds := ([((0 : Int) - ((10 : Int) ^ ((29 : Int)).toNat)), (((10 : Int) ^ ((29 : Int)).toNat) + (1 : Int))] : List Int).map PyData.int) (as_cons (ed_sub ed_i (ed_pow ed_i ed_i ((((hh4).1).1).1))) (as_cons (ed_add (ed_pow ed_i ed_i ((((hh4).1).1).2)) ed_i) as_nil)) (show 2 ≤ 100000 by decide))) as_nil)) (ct_isOrder ((((hh4).1).2)).1 ((((hh4).1).2)).2)) ed_b)) (fun z3 => (et_of (C := C) (ed_notB (ed_call (as_cons (ed_make (k := Nm.ri) (n := 5) (as_cons (ed_m Nm.ri) (as_cons ed_i as_nil)) ((((hh4).2) z3).1)) (as_cons (EvN.d (en_lst (ds := ([((0 : Int) - ((10 : Int) ^ ((20 : Int)).toNat)), (1 : Int), (2 : Int), (3 : Int), (((10 : Int) ^ ((20 : Int)).toNat) + (4 : Int))] : List Int).map PyData.int) (as_cons (ed_sub ed_i (ed_pow ed_i ed_i (((((hh4).2) z3).2.1).1))) (as_cons ed_i (as_cons ed_i (as_cons ed_i (as_cons (ed_add (ed_pow ed_i ed_i (((((hh4).2) z3).2.1).2)) ed_i) as_nil))))) (show 5 ≤ 100000 by decide))) as_nil)) (ct_isOrder (((((hh4).2) z3).2.2)).1 (((((hh4).2) z3).2.2)).2)) ed_b)))) eG hh5 fun H1 s1 => ?_
      have eG := s1.gh
      have f__law_ring := At.mono s1.g f__law_ring
      -- for _law_size, _law_value in [(3, [1, 4, -2]), (4, [0, 4, -3, 5]), (5, [0, 5, -5, 4, 6])]:
      refine q_forP (K := K) (C := C) (e := PyData.int) (e' := (eL PyData.int)) (ei_list (C := C) (EvN.d (en_lst (ds := ([((3 : Int), ([(1 : Int), (4 : Int), (-(2 : Int))] : List Int)), ((4 : Int), ([(0 : Int), (4 : Int), (-(3 : Int)), (5 : Int)] : List Int)), ((5 : Int), ([(0 : Int), (5 : Int), (-(5 : Int)), (4 : Int), (6 : Int)] : List Int))] : List (Int × (List Int))).map (eP PyData.int (eL PyData.int))) (as_cons (ed_tup (ds := [(PyData.int (3 : Int)), ((eL PyData.int) ([(1 : Int), (4 : Int), (-(2 : Int))] : List Int))]) (as_cons ed_i (as_cons (EvN.d (en_lst (ds := ([(1 : Int), (4 : Int), (-(2 : Int))] : List Int).map PyData.int) (as_cons ed_i (as_cons ed_i (as_cons (ed_neg ed_i) as_nil))) (show 3 ≤ 100000 by decide))) as_nil)) (show 2 ≤ 100000 by decide)) (as_cons (ed_tup (ds := [(PyData.int (4 : Int)), ((eL PyData.int) ([(0 : Int), (4 : Int), (-(3 : Int)), (5 : Int)] : List Int))]) (as_cons ed_i (as_cons (EvN.d (en_lst (ds := ([(0 : Int), (4 : Int), (-(3 : Int)), (5 : Int)] : List Int).map PyData.int) (as_cons ed_i (as_cons ed_i (as_cons (ed_neg ed_i) (as_cons ed_i as_nil)))) (show 4 ≤ 100000 by decide))) as_nil)) (show 2 ≤ 100000 by decide)) (as_cons (ed_tup (ds := [(PyData.int (5 : Int)), ((eL PyData.int) ([(0 : Int), (5 : Int), (-(5 : Int)), (4 : Int), (6 : Int)] : List Int))]) (as_cons ed_i (as_cons (EvN.d (en_lst (ds := ([(0 : Int), (5 : Int), (-(5 : Int)), (4 : Int), (6 : Int)] : List Int).map PyData.int) (as_cons ed_i (as_cons ed_i (as_cons (ed_neg ed_i) (as_cons ed_i (as_cons ed_i as_nil))))) (show 5 ≤ 100000 by decide))) as_nil)) (show 2 ≤ 100000 by decide)) as_nil))) (show 3 ≤ 100000 by decide)))) eG (fun i σ G H => ∃ (o0 : Option V) (o1 : Option V) (o3 : Option V) (o4 : Option V), σ = [o0, o1, some v__law_ring, o3, o4]) ?_ ?_ ?_
      · intro H1 G1 s1
        exact ⟨_, _, _, _, rfl⟩
      · rintro i2 x_size x_value v__law_size v__law_value σ' G' H' G2 H2 Gb hx2 ⟨o0, o1, o3, o4, rfl⟩ h3 h4 s2 f__law_size f__law_value
        have eb : Ex Gb G2 := h4.trans s2.g
        have eG := s2.gh
        have f__law_ring := At.mono ((h3.trans h4).trans s2.g) f__law_ring
        refine st_eq (σ' := [o0, o1, some v__law_ring, some v__law_size, some v__law_value]) ?_ rfl
        -- if is_order(Kind('ring', _law_size), _law_value) is not False:
        have hh6 : (((x_size = ((Int.toNat x_size : Nat) : Int)) ∧ (okK Nm.ri (Int.toNat x_size) = true)) ∧ (okK Nm.ri (Int.toNat x_size) = true ∧ BentD ((eL PyData.int) x_value))) := by have h := p3 _ (List.mem_of_getElem? hx2); exact ⟨⟨h.1.1, h.1.2⟩, h.1.2, bent_ints h.2.1 h.2.2⟩
        have hh7 : (!decide ((isOrdB Nm.ri (Int.toNat x_size) ((eL PyData.int) x_value)) = false)) = false := by rw [isOrd_no (fun h => p4 _ (List.mem_of_getElem? hx2) h.1)]; decide
        refine s_noD (et_of (C := C) (ed_notB (ed_call (as_cons (ed_make (k := Nm.ri) (n := (Int.toNat x_size)) (as_cons (ed_m Nm.ri) (as_cons (EvD.is (ed_var (i := 3) rfl f__law_size) (congrArg (fun z => Da.py (PyData.int z)) (((hh6).1).1))) as_nil)) (((hh6).1).2)) (as_cons (ed_var (i := 4) rfl f__law_value) as_nil)) (ct_isOrder (((hh6).2)).1 (((hh6).2)).2)) ed_b)) eG hh7 fun H1 s1 => ?_
        have eG := s1.gh
        have f__law_ring := At.mono s1.g f__law_ring
        have f__law_size := At.mono s1.g f__law_size
        have f__law_value := At.mono s1.g f__law_value
        have eb := eb.trans s1.g
        first | refine Lk.mk eb eG ?_ | (unfold tNext; refine Lk.mk eb eG ?_)
        exact ⟨_, _, _, _, rfl⟩
      · rintro σ' G' H' ⟨o0, o1, o3, o4, rfl⟩ e1 e2
        have eG := e2
        have f__law_ring := At.mono e1 f__law_ring
        -- return is_order(_law_ring, [60, -59]) is True and crossings(_law_ring, [60, -59]) == 60 and (is_order(_law_ring, [-61, 62]) is False)
        have hh8 : (((okK Nm.ri 2 = true ∧ BentD ((eL PyData.int) ([(60 : Int), (-(59 : Int))] : List Int))))) ∧ ((decide ((isOrdB Nm.ri 2 ((eL PyData.int) ([(60 : Int), (-(59 : Int))] : List Int))) = true)) = true → ((((([(60 : Int), (-(59 : Int))] : List Int)).length = (2) ∧ okK (Nm.ri) (2) = true ∧ Form (Nm.ri) (2) (([(60 : Int), (-(59 : Int))] : List Int)) ∧ crP (Nm.ri) (2) (([(60 : Int), (-(59 : Int))] : List Int)) ≤ 60))) ∧ ((decide (((crP (Nm.ri) (2) (([(60 : Int), (-(59 : Int))] : List Int)))) = (60 : Int))) = true → ((okK Nm.ri 2 = true ∧ BentD ((eL PyData.int) ([(-(61 : Int)), (62 : Int)] : List Int)))))) := by exact ⟨⟨by decide, b2 (by decide) (by decide)⟩, fun _ => ⟨⟨rfl, by decide, f_b, by decide +kernel⟩, fun _ => ⟨by decide, b2 (by decide) (by decide)⟩⟩⟩
        have hh9 : ((decide ((isOrdB Nm.ri 2 ((eL PyData.int) ([(60 : Int), (-(59 : Int))] : List Int))) = true)) && ((decide (((crP (Nm.ri) (2) (([(60 : Int), (-(59 : Int))] : List Int)))) = (60 : Int))) && (decide ((isOrdB Nm.ri 2 ((eL PyData.int) ([(-(61 : Int)), (62 : Int)] : List Int))) = false)))) = true := by rw [show isOrdB Nm.ri 2 (eL PyData.int [(60 : Int), -(59 : Int)]) = true from o_b, show isOrdB Nm.ri 2 (eL PyData.int [-(61 : Int), 62]) = false from o_f]; decide +kernel
        refine s_retD (C := C) (ed_and (ed_isB (ed_call (as_cons (ed_var (i := 2) rfl f__law_ring) (as_cons (EvN.d (en_lst (ds := ([(60 : Int), (-(59 : Int))] : List Int).map PyData.int) (as_cons ed_i (as_cons (ed_neg ed_i) as_nil)) (show 2 ≤ 100000 by decide))) as_nil)) (ct_isOrder (((hh8).1)).1 (((hh8).1)).2)) ed_b) (fun z4 => (ed_and (ed_eq (ed_call (as_cons (ed_var (i := 2) rfl f__law_ring) (as_cons (EvN.d (en_lst (ds := ([(60 : Int), (-(59 : Int))] : List Int).map PyData.int) (as_cons ed_i (as_cons (ed_neg ed_i) as_nil)) (show 2 ≤ 100000 by decide))) as_nil)) (ct_spCross2 (((((hh8).2) z4).1)).1 (((((hh8).2) z4).1)).2.1 (((((hh8).2) z4).1)).2.2.1 (((((hh8).2) z4).1)).2.2.2)) ed_i) (fun z5 => (ed_isB (ed_call (as_cons (ed_var (i := 2) rfl f__law_ring) (as_cons (EvN.d (en_lst (ds := ([(-(61 : Int)), (62 : Int)] : List Int).map PyData.int) (as_cons (ed_neg ed_i) (as_cons ed_i as_nil)) (show 2 ≤ 100000 by decide))) as_nil)) (ct_isOrder ((((((hh8).2) z4).2) z5)).1 ((((((hh8).2) z4).2) z5)).2)) ed_b))))) eG fun v H1 G1 s1 a => ?_
        rw [at_bool a, hh9]
        exact q H1
end
end Sv

namespace Sv
open PySem PySem.Spec PyProof.Rows L2
/-! ### the head: facts by names -/
def tupAt (K : PySem.W.Frag) (a : Addr) (vs : List V) : Bool := match K.lookup a with
  | some ⟨.type c, _, .seq its _, _⟩ => decide (c = "tuple") && (decide (its.size ≤ sizeLine) && He.relAll vs its.toList)
  | _ => false
theorem tupAt_ok {K : PySem.W.Frag} {a : Addr} {vs : List V} (h : tupAt K a vs = true) (H : Hp) : SqT K H a vs := by
  unfold tupAt at h
  cases q : K.lookup a with
  | none =>
    rw [q] at h
    cases h
  | some o =>
    obtain ⟨oc, od, dt, osl⟩ := o
    rw [q] at h
    cases oc with
    | type c =>
      cases dt with
      | seq its n =>
        obtain ⟨h1, h2⟩ := He.ba (show (decide (c = "tuple") && (decide (its.size ≤ sizeLine) && He.relAll vs its.toList)) = true from h)
        obtain ⟨h3, h4⟩ := He.ba h2
        exact .inr ⟨_, its, n, q, congrArg Value.type (of_decide_eq_true h1), rfl, of_decide_eq_true h3, He.relAll_ok h4⟩
      | _ => cases h
    | _ => cases dt <;> cases h
def szB (K : PySem.W.Frag) (D : Addr) (x : Str) (lo hi : Int) : Bool := match PySem.W.nsIn K D x with
  | some (some (.ref t)) => tupAt K t [.int lo, .int hi]
  | _ => false
theorem szB_ok {K : PySem.W.Frag} {D : Addr} {x : Str} {lo hi : Int} (h : szB K D x lo hi = true) : ∃ t : Addr, PySem.W.nsIn K D x = some (some (.ref t)) ∧ ∀ H, SqT K H t [.int lo, .int hi] := by
  unfold szB at h
  cases q : PySem.W.nsIn K D x with
  | none =>
    rw [q] at h
    cases h
  | some r =>
    rw [q] at h
    cases r with
    | none => cases h
    | some v =>
      cases v with
      | ref t => exact ⟨t, rfl, tupAt_ok h⟩
      | _ => cases h
/-- what more is asked of the class and the table -/
def exB (C D : Addr) (K : PySem.W.Frag) : Bool :=
  He.eqO (PySem.W.findIn K (.ref C) "__class__") (some (some (.builtin "object.__class__"))) && (He.eqO (PySem.W.specialIn K (.builtin "object.__class__") "__get__") (some (some (.builtin "getset_descriptor.__get__"))) &&
  (decide (PySem.W.takesIn K (.builtin "object.__class__") = some true) && (decide (PySem.W.mroIn K C (.type "object") = some true) && (decide (PySem.W.kitOne K (.ref C) (.ref C) = some true) &&
  (decide (PySem.W.kitOne K (.type "tuple") (.ref C) = some false) && (PySem.W.notFirst K C (.type "tuple") && (He.eqO (PySem.W.nsIn K mainGlobals "combinations") (some (some (.type "itertools.combinations"))) && (szB K D "plain" 1 7 && (szB K D "mirror" 1 5 && szB K D "ring" 2 5)))))))))
def ex (K : PySem.W.Frag) : Bool := exB (He.ga K "Kind") (He.ga K "SIZES") K
def d_Kind___init__ : He.DefD := ⟨("Kind", some "__init__"), "__init__", "Kind.__init__", defArgs s_Kind___init__, defBody s_Kind___init__, defScope s_Kind___init__, [], []⟩
def d_Kind___eq__ : He.DefD := ⟨("Kind", some "__eq__"), "__eq__", "Kind.__eq__", defArgs s_Kind___eq__, defBody s_Kind___eq__, defScope s_Kind___eq__, [], []⟩
def d_Kind_name : He.DefD := ⟨("Kind", some "name"), "name", "Kind.name", defArgs s_Kind_name, defBody s_Kind_name, defScope s_Kind_name, [], []⟩
def d_Kind_size : He.DefD := ⟨("Kind", some "size"), "size", "Kind.size", defArgs s_Kind_size, defBody s_Kind_size, defScope s_Kind_size, [], []⟩
def d_Kind_steps : He.DefD := ⟨("Kind", some "steps"), "steps", "Kind.steps", defArgs s_Kind_steps, defBody s_Kind_steps, defScope s_Kind_steps, [], []⟩
def d_Kind_start : He.DefD := ⟨("Kind", some "start"), "start", "Kind.start", defArgs s_Kind_start, defBody s_Kind_start, defScope s_Kind_start, [], []⟩
def d_is_whole : He.DefD := ⟨("is_whole", none), "is_whole", "is_whole", defArgs s_is_whole, defBody s_is_whole, defScope s_is_whole, [], []⟩
def d_are_whole : He.DefD := ⟨("are_whole", none), "are_whole", "are_whole", defArgs s_are_whole, defBody s_are_whole, defScope s_are_whole, [], []⟩
def d_check_kind : He.DefD := ⟨("check_kind", none), "check_kind", "check_kind", defArgs s_check_kind, defBody s_check_kind, defScope s_check_kind, [], []⟩
def d_count_crossings : He.DefD := ⟨("count_crossings", none), "count_crossings", "count_crossings", defArgs s_count_crossings, defBody s_count_crossings, defScope s_count_crossings, [], []⟩
def d_has_order_form : He.DefD := ⟨("has_order_form", none), "has_order_form", "has_order_form", defArgs s_has_order_form, defBody s_has_order_form, defScope s_has_order_form, [], []⟩
def d_is_told_order : He.DefD := ⟨("is_told_order", none), "is_told_order", "is_told_order", defArgs s_is_told_order, defBody s_is_told_order, defScope s_is_told_order, [], []⟩
def d_check_orders : He.DefD := ⟨("check_orders", none), "check_orders", "check_orders", defArgs s_check_orders, defBody s_check_orders, defScope s_check_orders, [], []⟩
def d_is_order : He.DefD := ⟨("is_order", none), "is_order", "is_order", defArgs s_is_order, defBody s_is_order, defScope s_is_order, [], []⟩
def d_crossings : He.DefD := ⟨("crossings", none), "crossings", "crossings", defArgs s_crossings, defBody s_crossings, defScope s_crossings, [], []⟩
def d__law_hash : He.DefD := ⟨("_law_hash", none), "_law_hash", "_law_hash", defArgs s__law_hash, defBody s__law_hash, defScope s__law_hash, [], []⟩
def d__law_random : He.DefD := ⟨("_law_random", none), "_law_random", "_law_random", defArgs s__law_random, defBody s__law_random, defScope s__law_random, [], []⟩
def d__law_cell : He.DefD := ⟨("_law_cell", none), "_law_cell", "_law_cell", defArgs s__law_cell, defBody s__law_cell, defScope s__law_cell, [], []⟩
def d__law_generator : He.DefD := ⟨("_law_generator", none), "_law_generator", "_law_generator", defArgs s__law_generator, defBody s__law_generator, defScope s__law_generator, [], []⟩
def d__law_kind : He.DefD := ⟨("_law_kind", none), "_law_kind", "_law_kind", defArgs s__law_kind, defBody s__law_kind, defScope s__law_kind, [], []⟩
def d__law_many : He.DefD := ⟨("_law_many", none), "_law_many", "_law_many", defArgs s__law_many, defBody s__law_many, defScope s__law_many, [], []⟩
def d__law_start : He.DefD := ⟨("_law_start", none), "_law_start", "_law_start", defArgs s__law_start, defBody s__law_start, defScope s__law_start, [], []⟩
def d__law_item : He.DefD := ⟨("_law_item", none), "_law_item", "_law_item", defArgs s__law_item, defBody s__law_item, defScope s__law_item, [], []⟩
def d__law_turned : He.DefD := ⟨("_law_turned", none), "_law_turned", "_law_turned", defArgs s__law_turned, defBody s__law_turned, defScope s__law_turned, [], []⟩
def d__law_stepped : He.DefD := ⟨("_law_stepped", none), "_law_stepped", "_law_stepped", defArgs s__law_stepped, defBody s__law_stepped, defScope s__law_stepped, [], []⟩
def d__law_is_crossed : He.DefD := ⟨("_law_is_crossed", none), "_law_is_crossed", "_law_is_crossed", defArgs s__law_is_crossed, defBody s__law_is_crossed, defScope s__law_is_crossed, [], []⟩
def d__law_falls : He.DefD := ⟨("_law_falls", none), "_law_falls", "_law_falls", defArgs s__law_falls, defBody s__law_falls, defScope s__law_falls, [], []⟩
def d__law_least : He.DefD := ⟨("_law_least", none), "_law_least", "_law_least", defArgs s__law_least, defBody s__law_least, defScope s__law_least, [], []⟩
def d__law_made : He.DefD := ⟨("_law_made", none), "_law_made", "_law_made", defArgs s__law_made, defBody s__law_made, defScope s__law_made, [], []⟩
def d__law_crossings : He.DefD := ⟨("_law_crossings", none), "_law_crossings", "_law_crossings", defArgs s__law_crossings, defBody s__law_crossings, defScope s__law_crossings, [], []⟩
def d__law_row : He.DefD := ⟨("_law_row", none), "_law_row", "_law_row", defArgs s__law_row, defBody s__law_row, defScope s__law_row, [], []⟩
def d__law_is_order : He.DefD := ⟨("_law_is_order", none), "_law_is_order", "_law_is_order", defArgs s__law_is_order, defBody s__law_is_order, defScope s__law_is_order, [], []⟩
def d__law_bent : He.DefD := ⟨("_law_bent", none), "_law_bent", "_law_bent", defArgs s__law_bent, defBody s__law_bent, defScope s__law_bent, [], []⟩
def d__law_right : He.DefD := ⟨("_law_right", none), "_law_right", "_law_right", defArgs s__law_right, defBody s__law_right, defScope s__law_right, [], []⟩
def d_law : He.DefD := ⟨("law", none), "law", "law", defArgs s_law, defBody s_law, defScope s_law, [], []⟩
def fn : List He.DefD := [d_Kind___init__, d_Kind___eq__, d_Kind_name, d_Kind_size, d_Kind_steps, d_Kind_start, d_is_whole, d_are_whole, d_check_kind, d_count_crossings, d_has_order_form, d_is_told_order, d_check_orders, d_is_order, d_crossings, d__law_hash, d__law_random, d__law_cell, d__law_generator, d__law_kind, d__law_many, d__law_start, d__law_item, d__law_turned, d__law_stepped, d__law_is_crossed, d__law_falls, d__law_least, d__law_made, d__law_crossings, d__law_row, d__law_is_order, d__law_bent, d__law_right, d_law]
def fa : List He.Fa := [.glo "is_whole", .glo "are_whole", .glo "check_kind", .glo "count_crossings", .glo "has_order_form", .glo "is_told_order", .glo "check_orders", .glo "is_order", .glo "crossings", .glo "_law_hash", .glo "_law_random", .glo "_law_cell", .glo "_law_generator", .glo "_law_kind", .glo "_law_many", .glo "_law_start", .glo "_law_item", .glo "_law_turned", .glo "_law_stepped", .glo "_law_is_crossed", .glo "_law_falls", .glo "_law_least", .glo "_law_made", .glo "_law_crossings", .glo "_law_row", .glo "_law_is_order", .glo "_law_bent", .glo "_law_right", .glo "law", .glo "Kind", .glo "SIZES", .int "MOST_CROSSINGS" 60, .free "int", .free "str", .free "bool", .free "range", .free "list", .free "abs", .free "max", .free "min", .free "sum", .free "len", .free "repr", .free "isinstance", .free "all", .free "sorted", .free "enumerate", .free "tuple", .free "reversed", .cls "Kind", .noat "Kind" "_name", .noat "Kind" "_size", .mkr "Kind", .meth "Kind" "__eq__", .meth "Kind" "name", .meth "Kind" "size", .meth "Kind" "steps", .meth "Kind" "start"]
def tsx : List He.Tab := [((fun K => He.ga K "SIZES"), ["plain", "mirror", "ring"])]
theorem vals_rev : ∀ {vs : List V} {us : List Value}, Vals vs us → Vals vs.reverse us.reverse
  | _, _, .nil => .nil
  | _, _, .cons r t => by
    rw [List.reverse_cons, List.reverse_cons]
    exact (vals_rev t).append (.cons r .nil)
/-- how keywords alone bind where the written names are the last parameters, turned about -/
theorem kb_rev {K : PySem.W.Frag} {x qual : Str} {params : Arguments} {body : List Stmt} {scope : Scope} {f : Addr} {fd : FuncData} {ps : List Str} (F : FunD K x qual params body scope [] [] f fd) (n : Nat) (ks : List Str)
    (h : ∀ (kV doc pm : Value) (an : Option Addr) (cdv ct : Value) (us ws : List Value), us.length = n → ws.length = ks.length → bindArgs (PySem.W.fnOf x qual params body scope .none kV doc pm an cdv ct) ⟨us, ks.zip ws⟩ = pure (ps.zip (us ++ ws.reverse))) :
    KBn K fd ps n ks (fun us ws => us ++ ws.reverse) gRev := by
  obtain ⟨oc, od, dV, kV, doc, pm, an, cdv, ct, osl, rfl, lk, hcd, hD, hK⟩ := F.ex
  rcases hD with ⟨_, rfl⟩ | ⟨e, _⟩
  · refine ⟨fun s us ws X l1 l2 => .of_eq (h kV doc pm an cdv ct us ws l1 l2), fun r1 r2 => r1.append ?_⟩
    exact vals_rev r2
  · exact absurd rfl e
theorem facts {P : Program} {w : World} {K : PySem.W.Frag} {h : Heap} {mg : Str → Option Value} {f : Addr} (X : K.In h) (G : h.Ns mainGlobals mg) (hfa : mg ("law" : Str) = some (.ref f)) (z : He.SaysX fa fn tsx [] ex w h K) :
    ∃ fd : FuncData, (∀ (s : Shared) (v : Value), BindsTo s fd ⟨[v], []⟩ [("_law_script", v)]) ∧ ∀ base : Heap, K.In base → base.Ns mainGlobals mg → FnG P w K mg base 8 f fd ["_law_script"] (spLaw K) := by
  have c : He.SaysD fa fn K := z.t.d
  obtain ⟨fd_Kind___init__, F_Kind___init__⟩ := c.def_ 0 (d := d_Kind___init__) rfl
  obtain ⟨fd_Kind___eq__, F_Kind___eq__⟩ := c.def_ 1 (d := d_Kind___eq__) rfl
  obtain ⟨fd_Kind_name, F_Kind_name⟩ := c.def_ 2 (d := d_Kind_name) rfl
  obtain ⟨fd_Kind_size, F_Kind_size⟩ := c.def_ 3 (d := d_Kind_size) rfl
  obtain ⟨fd_Kind_steps, F_Kind_steps⟩ := c.def_ 4 (d := d_Kind_steps) rfl
  obtain ⟨fd_Kind_start, F_Kind_start⟩ := c.def_ 5 (d := d_Kind_start) rfl
  obtain ⟨fd_is_whole, F_is_whole⟩ := c.def_ 6 (d := d_is_whole) rfl
  obtain ⟨fd_are_whole, F_are_whole⟩ := c.def_ 7 (d := d_are_whole) rfl
  obtain ⟨fd_check_kind, F_check_kind⟩ := c.def_ 8 (d := d_check_kind) rfl
  obtain ⟨fd_count_crossings, F_count_crossings⟩ := c.def_ 9 (d := d_count_crossings) rfl
  obtain ⟨fd_has_order_form, F_has_order_form⟩ := c.def_ 10 (d := d_has_order_form) rfl
  obtain ⟨fd_is_told_order, F_is_told_order⟩ := c.def_ 11 (d := d_is_told_order) rfl
  obtain ⟨fd_check_orders, F_check_orders⟩ := c.def_ 12 (d := d_check_orders) rfl
  obtain ⟨fd_is_order, F_is_order⟩ := c.def_ 13 (d := d_is_order) rfl
  obtain ⟨fd_crossings, F_crossings⟩ := c.def_ 14 (d := d_crossings) rfl
  obtain ⟨fd__law_hash, F__law_hash⟩ := c.def_ 15 (d := d__law_hash) rfl
  obtain ⟨fd__law_random, F__law_random⟩ := c.def_ 16 (d := d__law_random) rfl
  obtain ⟨fd__law_cell, F__law_cell⟩ := c.def_ 17 (d := d__law_cell) rfl
  obtain ⟨fd__law_generator, F__law_generator⟩ := c.def_ 18 (d := d__law_generator) rfl
  obtain ⟨fd__law_kind, F__law_kind⟩ := c.def_ 19 (d := d__law_kind) rfl
  obtain ⟨fd__law_many, F__law_many⟩ := c.def_ 20 (d := d__law_many) rfl
  obtain ⟨fd__law_start, F__law_start⟩ := c.def_ 21 (d := d__law_start) rfl
  obtain ⟨fd__law_item, F__law_item⟩ := c.def_ 22 (d := d__law_item) rfl
  obtain ⟨fd__law_turned, F__law_turned⟩ := c.def_ 23 (d := d__law_turned) rfl
  obtain ⟨fd__law_stepped, F__law_stepped⟩ := c.def_ 24 (d := d__law_stepped) rfl
  obtain ⟨fd__law_is_crossed, F__law_is_crossed⟩ := c.def_ 25 (d := d__law_is_crossed) rfl
  obtain ⟨fd__law_falls, F__law_falls⟩ := c.def_ 26 (d := d__law_falls) rfl
  obtain ⟨fd__law_least, F__law_least⟩ := c.def_ 27 (d := d__law_least) rfl
  obtain ⟨fd__law_made, F__law_made⟩ := c.def_ 28 (d := d__law_made) rfl
  obtain ⟨fd__law_crossings, F__law_crossings⟩ := c.def_ 29 (d := d__law_crossings) rfl
  obtain ⟨fd__law_row, F__law_row⟩ := c.def_ 30 (d := d__law_row) rfl
  obtain ⟨fd__law_is_order, F__law_is_order⟩ := c.def_ 31 (d := d__law_is_order) rfl
  obtain ⟨fd__law_bent, F__law_bent⟩ := c.def_ 32 (d := d__law_bent) rfl
  obtain ⟨fd__law_right, F__law_right⟩ := c.def_ 33 (d := d__law_right) rfl
  obtain ⟨fd_law, F_law⟩ := c.def_ 34 (d := d_law) rfl
  have e := hfa.symm.trans (He.glo_ok X G (c.fact 28 (f := .glo "law") rfl))
  cases e
  have b := FunD.bindsA (ps := ["_law_script"]) F_law fun _ _ _ _ _ _ us hl => match us, hl with | [_], _ => rfl
  obtain ⟨x1, y⟩ := He.ba z.more
  obtain ⟨x2, y⟩ := He.ba y
  obtain ⟨x3, y⟩ := He.ba y
  obtain ⟨x4, y⟩ := He.ba y
  obtain ⟨x5, y⟩ := He.ba y
  obtain ⟨x6, y⟩ := He.ba y
  obtain ⟨x7, y⟩ := He.ba y
  obtain ⟨x8, y⟩ := He.ba y
  obtain ⟨x9, y⟩ := He.ba y
  obtain ⟨x10, x11⟩ := He.ba y
  obtain ⟨es, nn, kd⟩ := z.t.tab 0 (t := ((fun K => He.ga K "SIZES"), ["plain", "mirror", "ring"])) rfl
  have T0 : Tx K mg := ⟨He.free_ok X G (c.fact 32 (f := .free "int") rfl), He.free_ok X G (c.fact 33 (f := .free "str") rfl), He.free_ok X G (c.fact 34 (f := .free "bool") rfl), He.free_ok X G (c.fact 35 (f := .free "range") rfl), He.free_ok X G (c.fact 36 (f := .free "list") rfl), He.free_ok X G (c.fact 37 (f := .free "abs") rfl), He.free_ok X G (c.fact 38 (f := .free "max") rfl), He.free_ok X G (c.fact 39 (f := .free "min") rfl), He.free_ok X G (c.fact 40 (f := .free "sum") rfl), He.free_ok X G (c.fact 41 (f := .free "len") rfl), He.free_ok X G (c.fact 42 (f := .free "repr") rfl), He.free_ok X G (c.fact 43 (f := .free "isinstance") rfl), He.free_ok X G (c.fact 44 (f := .free "all") rfl), He.free_ok X G (c.fact 45 (f := .free "sorted") rfl), He.free_ok X G (c.fact 46 (f := .free "enumerate") rfl), He.free_ok X G (c.fact 47 (f := .free "tuple") rfl), He.free_ok X G (c.fact 48 (f := .free "reversed") rfl)⟩
  have T : Tk K w mg (He.ga K "Kind") (He.ga K "SIZES") := ⟨T0, He.cls_ok (c.fact 49 (f := .cls "Kind") rfl), He.noat_ok (c.fact 50 (f := .noat "Kind" "_name") rfl), He.noat_ok (c.fact 51 (f := .noat "Kind" "_size") rfl), He.glo_ok X G (c.fact 29 (f := .glo "Kind") rfl), He.glo_ok X G (c.fact 30 (f := .glo "SIZES") rfl),
    He.eqO_ok x1, He.eqO_ok x2, of_decide_eq_true x3, of_decide_eq_true x4, of_decide_eq_true x5, of_decide_eq_true x6, x7, ⟨es, nn, kd⟩, PySem.W.mg_of X G (He.eqO_ok x8), fun k => match k with
    | .pl => let ⟨t, e1, e2⟩ := szB_ok x9; ⟨t, 1, 7, e1, e2, fun n h => by have := of_decide_eq_true h; omega⟩
    | .mi => let ⟨t, e1, e2⟩ := szB_ok x10; ⟨t, 1, 5, e1, e2, fun n h => by have := of_decide_eq_true h; omega⟩
    | .ri => let ⟨t, e1, e2⟩ := szB_ok x11; ⟨t, 2, 5, e1, e2, fun n h => by have := of_decide_eq_true h; omega⟩⟩
  refine ⟨fd_law, fun s v => b s [v] rfl, fun base _ _ => ?_⟩
  have c_law_hash : Gd P w K mg base "_law_hash" ["_law_seed", "_law_index"] 1 (spHash) := ⟨_, _, ok_hash T0 F__law_hash, He.glo_ok X G (c.fact 9 (f := .glo "_law_hash") rfl), F__law_hash.kp, F__law_hash.bindsN fun _ _ _ _ _ _ us hl => match us, hl with | [_, _], _ => rfl⟩
  have c_law_random : Gd P w K mg base "_law_random" ["_law_generator_here", "_law_bound"] 2 (spRandom) := ⟨_, _, ok_random T0 F__law_random c_law_hash, He.glo_ok X G (c.fact 10 (f := .glo "_law_random") rfl), F__law_random.kp, F__law_random.bindsN fun _ _ _ _ _ _ us hl => match us, hl with | [_, _], _ => rfl⟩
  have c_law_cell : Gd P w K mg base "_law_cell" ["_law_script", "_law_index"] 1 (spCell K) := ⟨_, _, ok_cell T0 F__law_cell, He.glo_ok X G (c.fact 11 (f := .glo "_law_cell") rfl), F__law_cell.kp, F__law_cell.bindsN fun _ _ _ _ _ _ us hl => match us, hl with | [_, _], _ => rfl⟩
  have c_law_generator : Gd P w K mg base "_law_generator" ["_law_script", "_law_index"] 2 (spGen K) := ⟨_, _, ok_generator T0 F__law_generator c_law_cell, He.glo_ok X G (c.fact 12 (f := .glo "_law_generator") rfl), F__law_generator.kp, F__law_generator.bindsN fun _ _ _ _ _ _ us hl => match us, hl with | [_, _], _ => rfl⟩
  have c_is_whole : Gd P w K mg base "is_whole" ["value"] 1 (spIsWhole) := ⟨_, _, ok_is_whole T F_is_whole, He.glo_ok X G (c.fact 0 (f := .glo "is_whole") rfl), F_is_whole.kp, F_is_whole.bindsN fun _ _ _ _ _ _ us hl => match us, hl with | [_], _ => rfl⟩
  have c_m_name : Md P w K mg base (He.ga K "Kind") "name" ["self"] 1 (spName (He.ga K "Kind")) := ⟨_, _, ok_name T F_Kind_name, He.meth_ok (c.fact 54 (f := .meth "Kind" "name") rfl), F_Kind_name.bindsN fun _ _ _ _ _ _ us hl => match us, hl with | [_], _ => rfl⟩
  have c_m_size : Md P w K mg base (He.ga K "Kind") "size" ["self"] 1 (spSize (He.ga K "Kind")) := ⟨_, _, ok_size T F_Kind_size, He.meth_ok (c.fact 55 (f := .meth "Kind" "size") rfl), F_Kind_size.bindsN fun _ _ _ _ _ _ us hl => match us, hl with | [_], _ => rfl⟩
  have c_m_steps : Md P w K mg base (He.ga K "Kind") "steps" ["self"] 1 (spSteps (He.ga K "Kind")) := ⟨_, _, ok_steps T F_Kind_steps, He.meth_ok (c.fact 56 (f := .meth "Kind" "steps") rfl), F_Kind_steps.bindsN fun _ _ _ _ _ _ us hl => match us, hl with | [_], _ => rfl⟩
  have c_m___eq__ : Md P w K mg base (He.ga K "Kind") "__eq__" ["self", "other"] 1 (spEqK (He.ga K "Kind")) := ⟨_, _, ok_eqK T F_Kind___eq__, He.meth_ok (c.fact 53 (f := .meth "Kind" "__eq__") rfl), F_Kind___eq__.bindsN fun _ _ _ _ _ _ us hl => match us, hl with | [_, _], _ => rfl⟩
  have c_m_start : Md P w K mg base (He.ga K "Kind") "start" ["self"] 1 (spStartM (He.ga K "Kind")) := ⟨_, _, ok_startM T F_Kind_start, He.meth_ok (c.fact 57 (f := .meth "Kind" "start") rfl), F_Kind_start.bindsN fun _ _ _ _ _ _ us hl => match us, hl with | [_], _ => rfl⟩
  have Mi := He.mkr_ok (c.fact 52 (f := .mkr "Kind") rfl)
  have gK := He.glo_ok X G (c.fact 29 (f := .glo "Kind") rfl)
  have c_Kind : Cd P w K mg base "Kind" (He.ga K "Kind") ["self", "name", "size"] 2 (spInit (He.ga K "Kind")) := ⟨_, _, ok_init T F_Kind___init__ c_is_whole, gK, Mi, F_Kind___init__.bindsN fun _ _ _ _ _ _ us hl => match us, hl with | [_, _, _], _ => rfl⟩
  have c_check_kind : Gd P w K mg base "check_kind" ["kind"] 1 (spCk (He.ga K "Kind")) := ⟨_, _, ok_check_kind T F_check_kind, He.glo_ok X G (c.fact 2 (f := .glo "check_kind") rfl), F_check_kind.kp, F_check_kind.bindsN fun _ _ _ _ _ _ us hl => match us, hl with | [_], _ => rfl⟩
  have c_count_crossings : Gd P w K mg base "count_crossings" ["kind", "order"] 2 (spCount K (He.ga K "Kind")) := ⟨_, _, ok_count_crossings T F_count_crossings c_m_name, He.glo_ok X G (c.fact 3 (f := .glo "count_crossings") rfl), F_count_crossings.kp, F_count_crossings.bindsN fun _ _ _ _ _ _ us hl => match us, hl with | [_, _], _ => rfl⟩
  have c_law_kind : Gd P w K mg base "_law_kind" ["_law_generator_here"] 3 (spKind) := ⟨_, _, ok_kind T0 F__law_kind c_law_random, He.glo_ok X G (c.fact 13 (f := .glo "_law_kind") rfl), F__law_kind.kp, F__law_kind.bindsN fun _ _ _ _ _ _ us hl => match us, hl with | [_], _ => rfl⟩
  have c_law_many : Gd P w K mg base "_law_many" ["_law_told"] 1 (spMany K) := ⟨_, _, ok_many T0 F__law_many, He.glo_ok X G (c.fact 14 (f := .glo "_law_many") rfl), F__law_many.kp, F__law_many.bindsN fun _ _ _ _ _ _ us hl => match us, hl with | [_], _ => rfl⟩
  have c_law_start : Gd P w K mg base "_law_start" ["_law_told"] 1 (spStart K) := ⟨_, _, ok_start T0 F__law_start, He.glo_ok X G (c.fact 15 (f := .glo "_law_start") rfl), F__law_start.kp, F__law_start.bindsN fun _ _ _ _ _ _ us hl => match us, hl with | [_], _ => rfl⟩
  have c_law_item : Gd P w K mg base "_law_item" ["_law_told", "_law_order", "_law_place"] 1 (spItem K) := ⟨_, _, ok_item T0 F__law_item, He.glo_ok X G (c.fact 16 (f := .glo "_law_item") rfl), F__law_item.kp, F__law_item.bindsN fun _ _ _ _ _ _ us hl => match us, hl with | [_, _, _], _ => rfl⟩
  have c_law_turned : Gd P w K mg base "_law_turned" ["_law_told", "_law_step", "_law_place"] 1 (spTurned K) := ⟨_, _, ok_turned T0 F__law_turned, He.glo_ok X G (c.fact 17 (f := .glo "_law_turned") rfl), F__law_turned.kp, F__law_turned.bindsN fun _ _ _ _ _ _ us hl => match us, hl with | [_, _, _], _ => rfl⟩
  have c_law_stepped : Gd P w K mg base "_law_stepped" ["_law_told", "_law_order", "_law_step"] 2 (spStepped K) := ⟨_, _, ok_stepped T0 F__law_stepped c_law_start c_law_item c_law_turned, He.glo_ok X G (c.fact 18 (f := .glo "_law_stepped") rfl), F__law_stepped.kp, F__law_stepped.bindsN fun _ _ _ _ _ _ us hl => match us, hl with | [_, _, _], _ => rfl⟩
  have c_law_is_crossed : Gd P w K mg base "_law_is_crossed" ["_law_told", "_law_order", "_law_step"] 2 (spCrossed K) := ⟨_, _, ok_crossed T0 F__law_is_crossed c_law_item c_law_turned, He.glo_ok X G (c.fact 19 (f := .glo "_law_is_crossed") rfl), F__law_is_crossed.kp, F__law_is_crossed.bindsN fun _ _ _ _ _ _ us hl => match us, hl with | [_, _, _], _ => rfl⟩
  have c_law_row : Gd P w K mg base "_law_row" ["_law_generator_here", "_law_told", "_law_most"] 3 (spRow K) := ⟨_, _, ok_row T0 F__law_row c_law_many c_law_random, He.glo_ok X G (c.fact 24 (f := .glo "_law_row") rfl), F__law_row.kp, F__law_row.bindsN fun _ _ _ _ _ _ us hl => match us, hl with | [_, _, _], _ => rfl⟩
  have c_law_falls : Gd P w K mg base "_law_falls" ["_law_told", "_law_order"] 3 (spLFalls K) := ⟨_, _, ok_lfalls T0 F__law_falls c_law_many c_law_is_crossed, He.glo_ok X G (c.fact 20 (f := .glo "_law_falls") rfl), F__law_falls.kp, F__law_falls.bindsN fun _ _ _ _ _ _ us hl => match us, hl with | [_, _], _ => rfl⟩
  have c_law_made : Gd P w K mg base "_law_made" ["_law_told", "_law_row_here"] 3 (spMade K) := ⟨_, _, ok_made T0 F__law_made c_law_start c_law_stepped, He.glo_ok X G (c.fact 22 (f := .glo "_law_made") rfl), F__law_made.kp, F__law_made.bindsN fun _ _ _ _ _ _ us hl => match us, hl with | [_, _], _ => rfl⟩
  have c_law_least : Gd P w K mg base "_law_least" ["_law_told", "_law_order"] 4 (spLeast K) := ⟨_, _, ok_least T0 F__law_least c_law_falls c_law_stepped, He.glo_ok X G (c.fact 21 (f := .glo "_law_least") rfl), F__law_least.kp, F__law_least.bindsN fun _ _ _ _ _ _ us hl => match us, hl with | [_, _], _ => rfl⟩
  have c_law_crossings : Gd P w K mg base "_law_crossings" ["_law_told", "_law_order"] 5 (spLCr K) := ⟨_, _, ok_lcr T0 F__law_crossings c_law_least, He.glo_ok X G (c.fact 23 (f := .glo "_law_crossings") rfl), F__law_crossings.kp, F__law_crossings.bindsN fun _ _ _ _ _ _ us hl => match us, hl with | [_, _], _ => rfl⟩
  have c_law_is_order : Gd P w K mg base "_law_is_order" ["_law_told", "_law_value"] 6 (spLIsOrder K) := ⟨_, _, ok_law_is_order T0 F__law_is_order c_law_crossings, He.glo_ok X G (c.fact 25 (f := .glo "_law_is_order") rfl), F__law_is_order.kp, F__law_is_order.bindsN fun _ _ _ _ _ _ us hl => match us, hl with | [_, _], _ => rfl⟩
  have c_are_whole : Gd P w K mg base "are_whole" ["values"] 2 (spAreWhole K) := ⟨_, _, ok_are_whole T F_are_whole, He.glo_ok X G (c.fact 1 (f := .glo "are_whole") rfl), F_are_whole.kp, F_are_whole.bindsN fun _ _ _ _ _ _ us hl => match us, hl with | [_], _ => rfl⟩
  have c_has_order_form : Gd P w K mg base "has_order_form" ["kind", "value"] 3 (spForm K (He.ga K "Kind")) := ⟨_, _, ok_has_order_form T F_has_order_form c_m_name c_m_size c_m_start c_are_whole, He.glo_ok X G (c.fact 4 (f := .glo "has_order_form") rfl), F_has_order_form.kp, F_has_order_form.bindsN fun _ _ _ _ _ _ us hl => match us, hl with | [_, _], _ => rfl⟩
  have c_is_told_order : Gd P w K mg base "is_told_order" ["kind", "value"] 4 (spTold K (He.ga K "Kind")) := ⟨_, _, ok_is_told_order T F_is_told_order (He.int_ok X G (c.fact 31 (f := .int "MOST_CROSSINGS" 60) rfl)) c_has_order_form c_count_crossings c_m_name, He.glo_ok X G (c.fact 5 (f := .glo "is_told_order") rfl), F_is_told_order.kp, F_is_told_order.bindsN fun _ _ _ _ _ _ us hl => match us, hl with | [_, _], _ => rfl⟩
  have CKO : Rd P w K mg base "check_orders" 5 (spCkO K (He.ga K "Kind")) := ⟨_, ok_check_orders T F_check_orders c_check_kind c_is_told_order, He.glo_ok X G (c.fact 6 (f := .glo "check_orders") rfl), F_check_orders.kp⟩
  have c_crossings : Gd P w K mg base "crossings" ["kind", "order"] 6 (spCross2 K (He.ga K "Kind")) := ⟨_, _, ok_crossings T F_crossings CKO c_count_crossings, He.glo_ok X G (c.fact 8 (f := .glo "crossings") rfl), F_crossings.kp, F_crossings.bindsN fun _ _ _ _ _ _ us hl => match us, hl with | [_, _], _ => rfl⟩
  have c_are_whole : Gd P w K mg base "are_whole" ["values"] 2 (spAreWholeV K) := ⟨_, _, ok_are_wholeV T F_are_whole, He.glo_ok X G (c.fact 1 (f := .glo "are_whole") rfl), F_are_whole.kp, F_are_whole.bindsN fun _ _ _ _ _ _ us hl => match us, hl with | [_], _ => rfl⟩
  have c_has_order_form : Gd P w K mg base "has_order_form" ["kind", "value"] 3 (spFormV K (He.ga K "Kind")) := ⟨_, _, ok_has_order_formV T F_has_order_form c_m_name c_m_size c_m_start c_are_whole, He.glo_ok X G (c.fact 4 (f := .glo "has_order_form") rfl), F_has_order_form.kp, F_has_order_form.bindsN fun _ _ _ _ _ _ us hl => match us, hl with | [_, _], _ => rfl⟩
  have c_is_told_order : Gd P w K mg base "is_told_order" ["kind", "value"] 4 (spToldV K (He.ga K "Kind")) := ⟨_, _, ok_is_told_orderV T F_is_told_order (He.int_ok X G (c.fact 31 (f := .int "MOST_CROSSINGS" 60) rfl)) c_has_order_form c_count_crossings c_m_name, He.glo_ok X G (c.fact 5 (f := .glo "is_told_order") rfl), F_is_told_order.kp, F_is_told_order.bindsN fun _ _ _ _ _ _ us hl => match us, hl with | [_, _], _ => rfl⟩
  have c_is_order : Gd P w K mg base "is_order" ["kind", "value"] 5 (spIsOrder K (He.ga K "Kind")) := ⟨_, _, ok_is_order T F_is_order c_check_kind c_is_told_order, He.glo_ok X G (c.fact 7 (f := .glo "is_order") rfl), F_is_order.kp, F_is_order.bindsN fun _ _ _ _ _ _ us hl => match us, hl with | [_, _], _ => rfl⟩
  have c_is_orderKw : GdK P w K mg base "is_order" ["kind", "value"] ["value", "kind"] gRev 5 (spIsOrder K (He.ga K "Kind")) := ⟨_, _, _, ok_is_order T F_is_order c_check_kind c_is_told_order, He.glo_ok X G (c.fact 7 (f := .glo "is_order") rfl), F_is_order.kp, kb_rev F_is_order 0 ["value", "kind"] fun _ _ _ _ _ _ us ws h1 h2 => match us, ws, h1, h2 with | [], [_, _], _, _ => rfl⟩
  have c_law_bent : Gd P w K mg base "_law_bent" ["_law_generator_here", "_law_told", "_law_order"] 3 (spDr (He.ga K "Kind") 4 DmBent RBent) := ⟨_, _, ok_bent T0 F__law_bent c_law_random, He.glo_ok X G (c.fact 26 (f := .glo "_law_bent") rfl), F__law_bent.kp, F__law_bent.bindsN fun _ _ _ _ _ _ us hl => match us, hl with | [_, _, _], _ => rfl⟩
  have c_law_right : GdG P w K mg base "_law_right" ["_law_generator_here"] 7 (spRightG) := ⟨_, _, ok_right02 T0 F__law_right c_Kind c_law_bent c_law_is_order c_law_kind c_law_made c_law_row c_is_order c_is_orderKw, He.glo_ok X G (c.fact 27 (f := .glo "_law_right") rfl), F__law_right.kp, F__law_right.bindsN fun _ _ _ _ _ _ us hl => match us, hl with | [_], _ => rfl⟩
  exact ok_law02 T F_law c_law_right c_law_generator c_Kind c_crossings c_is_order
end Sv
open PySem PySem.W PyProof.Rows
theorem PySem.Challenge.cw_seamlayers_k02_orders_told_apart_holds : PySem.Challenge.rw_seamlayers_k02_orders_told_apart.Holds := by
  w_on; o_law; k_head; (case hw => w_witness2)
  k_fill
  refine Sv.walkG (l := PySem.Challenge.rw_seamlayers_k02_orders_told_apart) (n := 63) (k := 8) (x := "_law_script") (sp := fun w => Sv.spLaw _) rfl (by decide) rfl ⟨rfl, by decide, by decide⟩ (fun w h Y => PySem.W.kIn_of Y) ?F (fun _ _ a ns hl hS => ⟨a, ns, rfl, hS, hl, fun _ => rfl⟩)
  case F =>
    intro w mg fa h KX G hmg
    refine Sv.facts KX G hmg ⟨?t, ?m, (fun p hp => nomatch hp), (fun p hp => nomatch hp), (fun p hp => nomatch hp)⟩
    case t =>
      show He.obsT Sv.fa Sv.fn Sv.tsx _ = He.valT Sv.fn Sv.tsx w
      kernel_rfl
    case m => kernel_rfl


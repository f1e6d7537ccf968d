import PyProof.Rows.All
import Wide.All
import OpenK.AllK
import Wide.FinOn
import HandS.ForMost
import HandS.IsInst
import HandS.Conv
import HandS.Style
import HandS.More
import HandS.WideBits
import HandS.Defaults
import HandS.MakeKw
import HandS.MakeKwOnly
import HandS.SlotsOwn
import HandS.OwnEq
import KE.KEqSeq
import KE.KStateDown
import Lean
import HandS.Words
import HandS.WordsExc
import HandS.Head0
import HandS.Head1
import HandS.Head2
import HandS.HeadEnd
import HandS.HeadHook1
import HandS.HeadHook2
import HandS.HeadHook3
import HandS.HeadHook4
import PySem.Challenge.RW_seamlayers_k01_kinds_and_waits
set_option Elab.async false
set_option linter.all false
set_option maxRecDepth 100000
set_option maxHeartbeats 4000000
/-! Kinds of orders, their items and steps, by the verifier: plain mathematics. -/
namespace Sv
open PySem L2
inductive Nm where | pl | mi | ri
  deriving DecidableEq
def Nm.s : Nm → Str | .pl => "plain" | .mi => "mirror" | .ri => "ring"
theorem s_mi (k : Nm) : decide (V.str k.s = V.str "mirror") = decide (k = .mi) := by cases k <;> decide +kernel
theorem s_pl (k : Nm) : decide (V.str k.s = V.str "plain") = decide (k = .pl) := by cases k <;> decide +kernel
theorem s_ri (k : Nm) : decide (V.str k.s = V.str "ring") = decide (k = .ri) := by cases k <;> decide +kernel
theorem s_inj {k j : Nm} : (k.s = j.s) ↔ k = j := by cases k <;> cases j <;> decide +kernel
/-- the kinds that there are -/
def okK : Nm → Nat → Bool
  | .pl, n => decide (1 ≤ n ∧ n ≤ 7)
  | .mi, n => decide (1 ≤ n ∧ n ≤ 5)
  | .ri, n => decide (2 ≤ n ∧ n ≤ 5)
theorem okK_le {k : Nm} {n : Nat} (h : okK k n = true) : 1 ≤ n ∧ n ≤ 7 := by
  cases k <;> (have := of_decide_eq_true h; omega)
def off (k : Nm) : Int := if k = .mi then 1 else 0
def many (k : Nm) (n : Nat) : Int := (n : Int) - (if k = .pl then 1 else 0)
def startL (k : Nm) (n : Nat) : List Int := (List.range n).map fun (i : Nat) => off k + (i : Int)
def sg (p : Int) : Int := if 0 < p then 1 else -1
def item (k : Nm) (n : Nat) (w : List Int) (p : Int) : Int :=
  if k = .mi then w.getD (p.natAbs - 1) 0 * sg p else w.getD (p % (n : Int)).toNat 0 + p - p % (n : Int)
def turned (k : Nm) (n : Nat) (s p : Int) : Int :=
  if k = .mi then
    if s = 0 then (if p.natAbs = 1 then -p else p)
    else if (p.natAbs : Int) = s ∨ (p.natAbs : Int) = s + 1 then (2 * s + 1 - (p.natAbs : Int)) * sg p else p
  else if (p - s) % (n : Int) = 0 then p + 1 else if (p - s) % (n : Int) = 1 then p - 1 else p
def stepped (k : Nm) (n : Nat) (w : List Int) (s : Int) : List Int := (startL k n).map fun p => item k n w (turned k n s p)
def low (k : Nm) (s : Int) : Int := if k = .mi then (if 0 < s then s else -1) else s
def crossed (k : Nm) (n : Nat) (w : List Int) (s : Int) : Bool := decide (item k n w (turned k n s (low k s)) < item k n w (low k s))
def gained (k : Nm) (n : Nat) (w : List Int) (s : Int) : List Int := if crossed k n w s = true then w else stepped k n w s
def okP (k : Nm) (n : Nat) (p : Int) : Prop := k = .mi → p ≠ 0 ∧ p.natAbs ≤ n
def okS (k : Nm) (n : Nat) (s : Int) : Prop := 0 ≤ s ∧ s < many k n
theorem sg_pos {p : Int} (h : 0 < p) : sg p = 1 := if_pos h
theorem sg_neg {p : Int} (h : p < 0) : sg p = -1 := if_neg (by omega)
theorem startL_len (k : Nm) (n : Nat) : (startL k n).length = n := by unfold startL; rw [List.length_map, List.length_range]
theorem startL_get (k : Nm) (n i : Nat) (h : i < n) : (startL k n)[i]? = some (off k + (i : Int)) := by
  unfold startL
  rw [List.getElem?_map, List.getElem?_range h]
  rfl
theorem stepped_len (k : Nm) (n : Nat) (w : List Int) (s : Int) : (stepped k n w s).length = n := by unfold stepped; rw [List.length_map, startL_len]
theorem stepped_getD (k : Nm) (n : Nat) (w : List Int) (s : Int) (i : Nat) (h : i < n) : (stepped k n w s).getD i 0 = item k n w (turned k n s (off k + (i : Int))) := by
  unfold stepped
  rw [List.getD_eq_getElem?_getD, List.getElem?_map, startL_get k n i h]
  rfl
theorem startL_getD (k : Nm) (n i : Nat) (h : i < n) : (startL k n).getD i 0 = off k + (i : Int) := by
  rw [List.getD_eq_getElem?_getD, startL_get k n i h]
  rfl
theorem mem_startL {k : Nm} {n : Nat} {p : Int} (h : p ∈ startL k n) : ∃ i : Nat, i < n ∧ p = off k + (i : Int) := by
  unfold startL at h
  obtain ⟨i, hi, e⟩ := List.mem_map.mp h
  exact ⟨i, List.mem_range.mp hi, e.symm⟩
theorem startL_okP {k : Nm} {n : Nat} {p : Int} (h : p ∈ startL k n) : okP k n p := by
  obtain ⟨i, hi, rfl⟩ := mem_startL h
  intro hk
  subst hk
  show (1 : Int) + i ≠ 0 ∧ ((1 : Int) + i).natAbs ≤ n
  omega
/-- steps there are only where there are two items, for plain and ring -/
theorem okS_two {k : Nm} {n : Nat} {s : Int} (hK : okK k n = true) (hk : k ≠ .mi) (h : okS k n s) : 2 ≤ n ∧ n ≤ 7 := by
  have h7 := okK_le hK
  obtain ⟨h1, h2⟩ := h
  unfold many at h2
  cases k with
  | mi => exact absurd rfl hk
  | pl => rw [if_pos rfl] at h2; omega
  | ri => have := of_decide_eq_true hK; omega
theorem okS_mi {n : Nat} {s : Int} (h : okS .mi n s) : 0 ≤ s ∧ s < (n : Int) := by
  obtain ⟨h1, h2⟩ := h
  unfold many at h2
  rw [if_neg (by decide)] at h2
  omega
theorem upto7 {n : Nat} (h : 2 ≤ n ∧ n ≤ 7) : n = 2 ∨ n = 3 ∨ n = 4 ∨ n = 5 ∨ n = 6 ∨ n = 7 := by omega
theorem item_nm {k : Nm} (hk : k ≠ .mi) (n : Nat) (w : List Int) (p : Int) : item k n w p = w.getD (p % (n : Int)).toNat 0 + p - p % (n : Int) := if_neg hk
theorem item_mi (n : Nat) (w : List Int) (p : Int) : item .mi n w p = w.getD (p.natAbs - 1) 0 * sg p := if_pos rfl
theorem turned_nm {k : Nm} (hk : k ≠ .mi) (n : Nat) (s p : Int) : turned k n s p = if (p - s) % (n : Int) = 0 then p + 1 else if (p - s) % (n : Int) = 1 then p - 1 else p := if_neg hk
theorem turned_mi (n : Nat) (s p : Int) : turned .mi n s p = if s = 0 then (if p.natAbs = 1 then -p else p) else if (p.natAbs : Int) = s ∨ (p.natAbs : Int) = s + 1 then (2 * s + 1 - (p.natAbs : Int)) * sg p else p := if_pos rfl
/-- what turned does on the mirror side, by cases without products -/
theorem turned_mi' (n : Nat) (s p : Int) (h0 : p ≠ 0) (hs0 : 0 ≤ s) : turned .mi n s p = if s = 0 then (if p = 1 ∨ p = -1 then -p else p) else if p = s then s + 1 else if p = s + 1 then s else if p = -s then -(s + 1) else if p = -(s + 1) then -s else p := by
  rw [turned_mi]
  unfold sg
  by_cases hs : s = 0
  · subst hs
    simp only [if_true]
    by_cases h1 : p.natAbs = 1
    · rw [if_pos h1, if_pos (by omega)]
    · rw [if_neg h1, if_neg (by omega)]
  · rw [if_neg hs, if_neg hs]
    by_cases hp : 0 < p
    · rw [if_pos hp, Int.mul_one]
      repeat' split
      all_goals omega
    · rw [if_neg hp, Int.mul_neg, Int.mul_one]
      repeat' split
      all_goals omega
theorem turned_ok {k : Nm} {n : Nat} {s p : Int} (hs : okS k n s) (hp : okP k n p) : okP k n (turned k n s p) := by
  intro hk
  subst hk
  obtain ⟨h0, h1⟩ := hp rfl
  have h2 := okS_mi hs
  rw [turned_mi' n s p h0 h2.1]
  repeat' split
  all_goals omega
theorem turned_inv {k : Nm} {n : Nat} {s p : Int} (hK : okK k n = true) (hs : okS k n s) (hp : okP k n p) : turned k n s (turned k n s p) = p := by
  by_cases hk : k = .mi
  · subst hk
    obtain ⟨h0, h1⟩ := hp rfl
    have h2 := okS_mi hs
    have h3 := turned_ok hs hp rfl
    rw [turned_mi' n s _ h3.1 h2.1]
    rw [turned_mi' n s p h0 h2.1]
    repeat' split
    all_goals omega
  · have h2 := okS_two hK hk hs
    rw [turned_nm hk, turned_nm hk]
    rcases upto7 h2 with rfl | rfl | rfl | rfl | rfl | rfl <;> (repeat' split) <;> omega
theorem turned_inj {k : Nm} {n : Nat} {s p q : Int} (hK : okK k n = true) (hs : okS k n s) (hp : okP k n p) (hq : okP k n q) (e : turned k n s p = turned k n s q) : p = q := by
  rw [← turned_inv hK hs hp, e, turned_inv hK hs hq]
theorem item_neg (n : Nat) (w : List Int) (p : Int) (h : p ≠ 0) : item .mi n w (-p) = - item .mi n w p := by
  rw [item_mi, item_mi, Int.natAbs_neg]
  by_cases hp : 0 < p
  · rw [sg_pos hp, sg_neg (by omega)]
    omega
  · rw [sg_neg (by omega : p < 0), sg_pos (by omega)]
    omega
theorem turned_neg (n : Nat) (s p : Int) (hs : 0 ≤ s) (h : p ≠ 0) : turned .mi n s (-p) = - turned .mi n s p := by
  rw [turned_mi' n s p h hs, turned_mi' n s (-p) (by omega) hs]
  repeat' split
  all_goals omega
theorem item_step {k : Nm} {n : Nat} {w : List Int} {s p : Int} (hK : okK k n = true) (hs : okS k n s) (hp : okP k n p) : item k n (stepped k n w s) p = item k n w (turned k n s p) := by
  by_cases hk : k = .mi
  · subst hk
    obtain ⟨h0, h1⟩ := hp rfl
    have h2 := okS_mi hs
    rw [item_mi, stepped_getD .mi n w s _ (by omega)]
    have e : off .mi + ((p.natAbs - 1 : Nat) : Int) = (p.natAbs : Int) := by
      show (1 : Int) + _ = _
      omega
    rw [e]
    by_cases hp0 : 0 < p
    · rw [sg_pos hp0, Int.mul_one]
      have e2 : (p.natAbs : Int) = p := by omega
      rw [e2]
    · rw [sg_neg (by omega : p < 0)]
      have e2 : (p.natAbs : Int) = -p := by omega
      have h3 := turned_ok hs hp rfl
      rw [e2, turned_neg n s p h2.1 h0, item_neg n w _ h3.1]
      omega
  · have h2 := okS_two hK hk hs
    have hn : (0 : Int) < (n : Int) := by omega
    have hm1 : 0 ≤ p % (n : Int) := Int.emod_nonneg p (by omega)
    have hm2 : p % (n : Int) < (n : Int) := Int.emod_lt_of_pos p hn
    rw [item_nm hk, stepped_getD k n w s _ (by omega)]
    have e0 : off k = 0 := if_neg hk
    have e1 : off k + ((p % (n : Int)).toNat : Int) = p % (n : Int) := by rw [e0]; omega
    rw [e1, item_nm hk, item_nm hk, turned_nm hk, turned_nm hk]
    have key : ∀ (a b : Int), a % (n : Int) = b % (n : Int) → a + p - p % (n : Int) = b → w.getD (a % (n : Int)).toNat 0 + a - a % (n : Int) + p - p % (n : Int) = w.getD (b % (n : Int)).toNat 0 + b - b % (n : Int) := by
      intro a b h3 h4
      rw [h3]
      omega
    apply key
    · rcases upto7 h2 with rfl | rfl | rfl | rfl | rfl | rfl <;> (repeat' split) <;> omega
    · rcases upto7 h2 with rfl | rfl | rfl | rfl | rfl | rfl <;> (repeat' split) <;> omega
/-- an order: unlike places have unlike items -/
structure Good (k : Nm) (n : Nat) (w : List Int) : Prop where
  len : w.length = n
  inj : ∀ p q, okP k n p → okP k n q → item k n w p = item k n w q → p = q
theorem item_start {k : Nm} {n : Nat} {p : Int} (hn : 1 ≤ n) (hp : okP k n p) : item k n (startL k n) p = p := by
  by_cases hk : k = .mi
  · subst hk
    obtain ⟨h0, h1⟩ := hp rfl
    rw [item_mi, startL_getD .mi n _ (by omega)]
    have e : off .mi + ((p.natAbs - 1 : Nat) : Int) = (p.natAbs : Int) := by
      show (1 : Int) + _ = _
      omega
    rw [e]
    by_cases hp0 : 0 < p
    · rw [sg_pos hp0]; omega
    · rw [sg_neg (by omega : p < 0)]; omega
  · have hn' : (0 : Int) < (n : Int) := by omega
    have hm1 : 0 ≤ p % (n : Int) := Int.emod_nonneg p (by omega)
    have hm2 : p % (n : Int) < (n : Int) := Int.emod_lt_of_pos p hn'
    rw [item_nm hk, startL_getD k n _ (by omega)]
    have e0 : off k = 0 := if_neg hk
    rw [e0]
    omega
theorem good_start {k : Nm} {n : Nat} (hn : 1 ≤ n) : Good k n (startL k n) := ⟨startL_len k n, fun p q hp hq e => by rw [item_start hn hp, item_start hn hq] at e; exact e⟩
theorem good_stepped {k : Nm} {n : Nat} {w : List Int} {s : Int} (hK : okK k n = true) (hs : okS k n s) (g : Good k n w) : Good k n (stepped k n w s) :=
  ⟨stepped_len k n w s, fun p q hp hq e => by
    rw [item_step hK hs hp, item_step hK hs hq] at e
    exact turned_inj hK hs hp hq (g.inj _ _ (turned_ok hs hp) (turned_ok hs hq) e)⟩
theorem good_gained {k : Nm} {n : Nat} {w : List Int} {s : Int} (hK : okK k n = true) (hs : okS k n s) (g : Good k n w) : Good k n (gained k n w s) := by
  unfold gained
  split
  · exact g
  · exact good_stepped hK hs g
theorem low_okP {k : Nm} {n : Nat} {s : Int} (hs : okS k n s) : okP k n (low k s) := by
  intro hk
  subst hk
  have h2 := okS_mi hs
  show (if 0 < s then s else -1) ≠ 0 ∧ (if 0 < s then s else -1).natAbs ≤ n
  split <;> omega
/-! ### rows of steps on orders -/
def run (k : Nm) (n : Nat) (w : List Int) (l : List Int) : List Int := l.foldl (stepped k n) w
def turns (k : Nm) (n : Nat) : List Int → Int → Int
  | [], p => p
  | s :: l, p => turned k n s (turns k n l p)
theorem turns_ok {k : Nm} {n : Nat} : ∀ {l : List Int} {p : Int}, (∀ s ∈ l, okS k n s) → okP k n p → okP k n (turns k n l p)
  | [], _, _, hp => hp
  | s :: l, p, hl, hp => turned_ok (hl s List.mem_cons_self) (turns_ok (fun t ht => hl t (List.mem_cons_of_mem _ ht)) hp)
theorem item_run {k : Nm} {n : Nat} (hK : okK k n = true) : ∀ {l : List Int} {w : List Int} {p : Int}, (∀ s ∈ l, okS k n s) → okP k n p → item k n (run k n w l) p = item k n w (turns k n l p)
  | [], _, _, _, _ => rfl
  | s :: l, w, p, hl, hp => by
    have hl' : ∀ t ∈ l, okS k n t := fun t ht => hl t (List.mem_cons_of_mem _ ht)
    show item k n (run k n (stepped k n w s) l) p = item k n w (turned k n s (turns k n l p))
    rw [item_run hK hl' hp, item_step hK (hl s List.mem_cons_self) (turns_ok hl' hp)]
theorem run_len {k : Nm} {n : Nat} : ∀ {l : List Int} {w : List Int}, w.length = n → (run k n w l).length = n
  | [], _, h => h
  | s :: l, w, h => run_len (l := l) (w := stepped k n w s) (stepped_len k n w s)
theorem map_item {k : Nm} {n : Nat} {u : List Int} (h : u.length = n) : (startL k n).map (item k n u) = u := by
  apply List.ext_getElem?
  intro i
  rw [List.getElem?_map]
  by_cases hi : i < n
  · rw [startL_get k n i hi, List.getElem?_eq_getElem (by omega)]
    show some (item k n u (off k + (i : Int))) = some u[i]
    congr 1
    by_cases hk : k = .mi
    · subst hk
      rw [item_mi]
      show u.getD ((1 + (i : Int)).natAbs - 1) 0 * sg (1 + (i : Int)) = u[i]
      have e : (1 + (i : Int)).natAbs - 1 = i := by omega
      rw [e, sg_pos (by omega), Int.mul_one, List.getD_eq_getElem?_getD, List.getElem?_eq_getElem (by omega)]
      rfl
    · rw [item_nm hk]
      have e0 : off k = 0 := if_neg hk
      have e1 : (0 + (i : Int)) % (n : Int) = (i : Int) := by
        rw [Int.zero_add]
        exact Int.emod_eq_of_lt (by omega) (by omega)
      rw [e0, e1, Int.toNat_natCast, List.getD_eq_getElem?_getD, List.getElem?_eq_getElem (by omega)]
      show u[i] + (0 + (i : Int)) - (i : Int) = u[i]
      omega
  · rw [List.getElem?_eq_none (by rw [startL_len]; omega), List.getElem?_eq_none (by omega)]
    rfl
theorem run_eq_iff {k : Nm} {n : Nat} {w : List Int} {l m : List Int} (hK : okK k n = true) (g : Good k n w) (hl : ∀ s ∈ l, okS k n s) (hm : ∀ s ∈ m, okS k n s) :
    run k n w l = run k n w m ↔ ∀ p ∈ startL k n, turns k n l p = turns k n m p := by
  constructor
  · intro e p hp
    have ho := startL_okP hp
    refine g.inj _ _ (turns_ok hl ho) (turns_ok hm ho) ?_
    rw [← item_run hK hl ho, ← item_run hK hm ho, e]
  · intro h
    rw [← map_item (run_len (l := l) g.len), ← map_item (run_len (l := m) g.len)]
    apply List.map_congr_left
    intro p hp
    have ho := startL_okP hp
    rw [item_run hK hl ho, item_run hK hm ho, h p hp]
theorem run_snoc (k : Nm) (n : Nat) (w l : List Int) (s : Int) : run k n w (l ++ [s]) = stepped k n (run k n w l) s := by
  unfold run
  rw [List.foldl_append]
  rfl
/-- the two ways by turns: after how many steps they agree -/
def lw (k : Nm) (n : Nat) (a b : Int) : Nat → Nat → List Int → List Int → Option Nat
  | 0, _, _, _ => none
  | f + 1, t, xs, ys =>
    if stepped k n xs (if t % 2 = 1 then a else b) = stepped k n ys (if t % 2 = 1 then b else a) then some t
    else lw k n a b f (t + 1) (stepped k n xs (if t % 2 = 1 then a else b)) (stepped k n ys (if t % 2 = 1 then b else a))
theorem lw_any {k : Nm} {n : Nat} {w : List Int} {a b : Int} (hK : okK k n = true) (g : Good k n w) (ha : okS k n a) (hb : okS k n b) : ∀ (f t : Nat) (l m : List Int), (∀ s ∈ l, okS k n s) → (∀ s ∈ m, okS k n s) →
    lw k n a b f t (run k n w l) (run k n w m) = lw k n a b f t (run k n (startL k n) l) (run k n (startL k n) m)
  | 0, _, _, _, _, _ => rfl
  | f + 1, t, l, m, hl, hm => by
    have g0 : Good k n (startL k n) := good_start (okK_le hK).1
    have h1 : ∀ s ∈ l ++ [if t % 2 = 1 then a else b], okS k n s := by
      intro s hs
      rcases List.mem_append.mp hs with h | h
      · exact hl s h
      · rw [List.mem_singleton.mp h]; split <;> assumption
    have h2 : ∀ s ∈ m ++ [if t % 2 = 1 then b else a], okS k n s := by
      intro s hs
      rcases List.mem_append.mp hs with h | h
      · exact hm s h
      · rw [List.mem_singleton.mp h]; split <;> assumption
    unfold lw
    rw [← run_snoc, ← run_snoc, ← run_snoc, ← run_snoc]
    have ih := lw_any hK g ha hb f (t + 1) _ _ h1 h2
    rw [ih]
    have e : (run k n w (l ++ [if t % 2 = 1 then a else b]) = run k n w (m ++ [if t % 2 = 1 then b else a])) ↔ (run k n (startL k n) (l ++ [if t % 2 = 1 then a else b]) = run k n (startL k n) (m ++ [if t % 2 = 1 then b else a])) :=
      (run_eq_iff hK g h1 h2).trans (run_eq_iff hK g0 h1 h2).symm
    by_cases q : run k n w (l ++ [if t % 2 = 1 then a else b]) = run k n w (m ++ [if t % 2 = 1 then b else a])
    · rw [if_pos q, if_pos (e.mp q)]
    · rw [if_neg q, if_neg (fun z => q (e.mpr z))]
/-- what wait tells -/
def waitN (k : Nm) (n : Nat) (a b : Int) : Option Nat :=
  if k = .mi ∧ a + b = 1 then some 4
  else if k = .ri then (if n = 2 then none else some (if (if (n : Int) - (if a - b < 0 then -(a - b) else a - b) < (if a - b < 0 then -(a - b) else a - b) then (n : Int) - (if a - b < 0 then -(a - b) else a - b) else (if a - b < 0 then -(a - b) else a - b)) = 1 then 3 else 2))
  else some (if (if a - b < 0 then -(a - b) else a - b) = 1 then 3 else 2)
def allK : List (Nm × Nat) := [(.pl, 1), (.pl, 2), (.pl, 3), (.pl, 4), (.pl, 5), (.pl, 6), (.pl, 7), (.mi, 1), (.mi, 2), (.mi, 3), (.mi, 4), (.mi, 5), (.ri, 2), (.ri, 3), (.ri, 4), (.ri, 5)]
theorem okK_mem {k : Nm} {n : Nat} (h : okK k n = true) : (k, n) ∈ allK := by
  cases k with
  | pl =>
    have := of_decide_eq_true h
    have : n = 1 ∨ n = 2 ∨ n = 3 ∨ n = 4 ∨ n = 5 ∨ n = 6 ∨ n = 7 := by omega
    rcases this with rfl | rfl | rfl | rfl | rfl | rfl | rfl <;> decide
  | mi =>
    have := of_decide_eq_true h
    have : n = 1 ∨ n = 2 ∨ n = 3 ∨ n = 4 ∨ n = 5 := by omega
    rcases this with rfl | rfl | rfl | rfl | rfl <;> decide
  | ri =>
    have := of_decide_eq_true h
    have : n = 2 ∨ n = 3 ∨ n = 4 ∨ n = 5 := by omega
    rcases this with rfl | rfl | rfl | rfl <;> decide
def chk1 (k : Nm) (n : Nat) : Bool := (List.range n).all fun (a : Nat) => (List.range n).all fun (b : Nat) => (a == b) || (decide (many k n ≤ (a : Int)) || decide (many k n ≤ (b : Int))) || decide (lw k n (a : Int) (b : Int) 12 1 (startL k n) (startL k n) = waitN k n (a : Int) (b : Int))
theorem chk_all : (allK.all fun q => chk1 q.1 q.2) = true := by decide +kernel
theorem many_le (k : Nm) (n : Nat) : many k n ≤ (n : Int) := by unfold many; split <;> omega
theorem wait_right {k : Nm} {n : Nat} {w : List Int} {a b : Int} (hK : okK k n = true) (g : Good k n w) (ha : okS k n a) (hb : okS k n b) (hab : a ≠ b) : lw k n a b 12 1 w w = waitN k n a b := by
  have e := lw_any hK g ha hb 12 1 [] [] (fun _ h => by cases h) (fun _ h => by cases h)
  show lw k n a b 12 1 (run k n w []) (run k n w []) = _
  rw [e]
  show lw k n a b 12 1 (startL k n) (startL k n) = _
  have c := List.all_eq_true.mp chk_all (k, n) (okK_mem hK)
  have hl := many_le k n
  obtain ⟨a1, a2⟩ := ha
  obtain ⟨b1, b2⟩ := hb
  obtain ⟨x, rfl⟩ : ∃ x : Nat, a = (x : Int) := ⟨a.toNat, by omega⟩
  obtain ⟨y, rfl⟩ : ∃ y : Nat, b = (y : Int) := ⟨b.toNat, by omega⟩
  have c1 := List.all_eq_true.mp (List.all_eq_true.mp c x (List.mem_range.mpr (by omega))) y (List.mem_range.mpr (by omega))
  have hxy : (x == y) = false := by
    cases q : (x == y) with
    | false => rfl
    | true => exact absurd (congrArg Int.ofNat (eq_of_beq q)) hab
  rw [hxy, decide_eq_false (by omega : ¬ many k n ≤ (x : Int)), decide_eq_false (by omega : ¬ many k n ≤ (y : Int))] at c1
  exact of_decide_eq_true (by simpa using c1)
end Sv

/-! Calls by what a def is told to keep; == of own classes either way; repr of None: by the verifier. -/
namespace Sv
open PySem PySem.Spec PyProof.Rows L2
/-- the module's name x is a def that keeps sp -/
structure Gd (P : Program) (w : World) (K : PySem.W.Frag) (mg : Str → Option Value) (base : Heap) (x : Str) (ps : List Str) (k : Nat) (sp : Sp) : Prop where
  ex : ∃ (f : Addr) (fd : FuncData), FnOk P w K mg base CX0 k f fd ps sp ∧ mg x = some (.ref f) ∧ PySem.W.keepIn K (.ref f) = true ∧ Binds K fd ps []
/-- the class at C has a method m that keeps sp -/
structure Md (P : Program) (w : World) (K : PySem.W.Frag) (mg : Str → Option Value) (base : Heap) (C : Addr) (m : Str) (ps : List Str) (k : Nat) (sp : Sp) : Prop where
  ex : ∃ (f : Addr) (fd : FuncData), FnOk P w K mg base CX0 k f fd ps sp ∧ Meth K C m f ∧ Binds K fd ps []
/-- the module's name x is a class at C, made by an __init__ that keeps sp -/
structure Cd (P : Program) (w : World) (K : PySem.W.Frag) (mg : Str → Option Value) (base : Heap) (x : Str) (C : Addr) (ps : List Str) (k : Nat) (sp : Sp) : Prop where
  ex : ∃ (f : Addr) (fd : FuncData), FnOk P w K mg base CX0 k f fd ps sp ∧ mg x = some (.ref C) ∧ Mk K C f ∧ Binds K fd ps []
/-- .. called by keywords alone: ks the written names, gV puts self and the values in the parameters' order -/
structure CdK (P : Program) (w : World) (K : PySem.W.Frag) (mg : Str → Option Value) (base : Heap) (x : Str) (C : Addr) (ps ks : List Str) (gV : List V → List V → List V) (k : Nat) (sp : Sp) : Prop where
  ex : ∃ (f : Addr) (fd : FuncData) (g : List Value → List Value → List Value), FnOk P w K mg base CX0 k f fd ps sp ∧ mg x = some (.ref C) ∧ Mk K C f ∧ KBn K fd ps 1 ks g gV
structure GdK (P : Program) (w : World) (K : PySem.W.Frag) (mg : Str → Option Value) (base : Heap) (x : Str) (ps ks : List Str) (gV : List V → List V → List V) (k : Nat) (sp : Sp) : Prop where
  ex : ∃ (f : Addr) (fd : FuncData) (g : List Value → List Value → List Value), FnOk P w K mg base CX0 k f fd ps sp ∧ mg x = some (.ref f) ∧ PySem.W.keepIn K (.ref f) = true ∧ KBn K fd ps 0 ks g gV
section
variable {X : Cx} {k : Nat} {C : Addr} {ps ks : List Str} {sp : Sp} {x m : Str} {p pos apos : Pos} {e o : Expr} {es : List Expr} {kws : List Keyword} {t tk : TA} {ta : TE} {gV : List V → List V → List V}
theorem pe_callG (G : Gd X.prog X.w X.K X.mg X.base x ps k sp) (hr : Room k X.A) (hg : Gl X x)
    (ha : PA X (e :: es) t) (hdb : (x == ("__debug__" : Str)) = false := by decide) (he : starEach (e :: es) X.env = (false, eval e X.env) :: starEach es X.env := by rfl) (hpl : (backTo pos (starEach es X.env)).any (·.1) = false := by rfl) :
    PE X (.Call (.Name x p) (e :: es) [] pos) (tCall sp [] E0 t) := by
  obtain ⟨f, fd, F, gm, kp, b⟩ := G.ex
  exact pe_call F hr hg gm kp b .nil pass0 ha hdb he hpl
theorem pe_methG0 {pl : Sem Bool} (c : Cls X.K C) (M : Md X.prog X.w X.K X.mg X.base C m ps k sp) (hr : Room k X.A) (he : PE X o ta)
    (ht : eval (.Call (.Attribute o m apos) [] [] pos) X.env = (do
      let ov ← eval o X.env
      standAt apos.atName
      let (f, first) ← holding [ov] (getMethod ov m pl)
      callWith pos f first (backTo pos (starEach [] X.env)) (backToKw pos (keywordEach [] X.env))) := by rfl) :
    PE X (.Call (.Attribute o m apos) [] [] pos) (tMeth C m sp [] E0 ta tNil) := by
  obtain ⟨f, fd, F, hm, b⟩ := M.ex
  exact pe_meth0 he c hm F hr b .nil pass0 ht
theorem pe_makeG (G : Cd X.prog X.w X.K X.mg X.base x C ps k sp) (hr : Room (k + 1) X.A) (hg : Gl X x)
    (ha : PA X (e :: es) t) (hdb : (x == ("__debug__" : Str)) = false := by decide) (he : starEach (e :: es) X.env = (false, eval e X.env) :: starEach es X.env := by rfl) (hpl : (backTo pos (starEach es X.env)).any (·.1) = false := by rfl) :
    PE X (.Call (.Name x p) (e :: es) [] pos) (tMake C sp [] E0 t) := by
  obtain ⟨f, fd, F, gm, M, b⟩ := G.ex
  exact pe_make M F hr hg gm b .nil pass0 ha hdb he hpl
theorem pe_makeKG (G : CdK X.prog X.w X.K X.mg X.base x C ps ks gV k sp) (hr : Room (k + 1) X.A) (hg : Gl X x) (hkw : PK X kws tk)
    (hall : (backToKw pos (keywordEach kws X.env)).all (·.1.isSome) = true := by rfl) (hks : (backToKw pos (keywordEach kws X.env)).filterMap (·.1) = ks := by rfl) (hdb : (x == ("__debug__" : Str)) = false := by decide)
    (hpl : ((backTo pos (starEach [] X.env)).any (·.1) || (backToKw pos (keywordEach kws X.env)).any (·.1.isNone)) = false := by rfl) :
    PE X (.Call (.Name x p) [] kws pos) (tMakeK C 0 ks.length sp gV E0 tNil tk) := by
  obtain ⟨f, fd, g, F, gm, M, b⟩ := G.ex
  exact pe_makeK0 M F hr hg gm b pass0 hkw hall hks hdb hpl
/-- f(k = v, ..) -/
theorem pe_callKG (G : GdK X.prog X.w X.K X.mg X.base x ps ks gV k sp) (hr : Room k X.A) (hg : Gl X x) (hkw : PK X kws tk)
    (hall : (backToKw pos (keywordEach kws X.env)).all (·.1.isSome) = true := by rfl) (hks : (backToKw pos (keywordEach kws X.env)).filterMap (·.1) = ks := by rfl) (hdb : (x == ("__debug__" : Str)) = false := by decide)
    (hpl : ((backTo pos (starEach [] X.env)).any (·.1) || (backToKw pos (keywordEach kws X.env)).any (·.1.isNone)) = false := by rfl) :
    PE X (.Call (.Name x p) [] kws pos) (tCallN 0 ks.length sp gV E0 tNil tk) := by
  obtain ⟨f, fd, g, F, gm, kp, b⟩ := G.ex
  refine ⟨fun pins s σ H Q I h => ?_⟩
  refine wpAny_Call_Name_kw (ld_glob I hg gm ?_ hdb)
  refine PySem.W.callWith_KW0 (h₀ := X.base) I.ok.mod.kin kp hall ?_ hpl
  refine thn (hkw.run pos pins s σ H _ I h) fun ws s2 ⟨zs, H2, I2, rz, l1, l2, q2⟩ => ⟨I2.kIn, ?_⟩
  rw [hks]
  exact run_fnN (us := []) (vs := []) F hr b pass0 I2 .nil rz rfl l2 q2
/-- a def's body keeps its promise; nothing is raised -/
theorem okN {P : Program} {w : World} {K : PySem.W.Frag} {mg : Str → Option Value} {base : Heap} {x qual : Str} {params : Arguments} {body : List Stmt} {scope : Scope} {dvs : List V} {kws : List (Str × V)} {f : Addr} {fd : FuncData} {N ps : List Str} {k : Nat} {sp : Sp}
    (F : FunD K x qual params body scope dvs kws f fd) (S : FnScope N ps scope) (len : ∀ vs H Q E, sp vs H Q E → vs.length = ps.length)
    (hbody : ∀ (cdv : Value) (A : Around) (outer : List Env) (s : Shared) (H : Hp) (vs : List V) (Q : VK) (E : XK), Room k (A.deeper (envOfC qual scope s.heap.objs.size f cdv)) → sp vs H Q E →
      ∃ t, PSs (cxOf CX0 P w K mg base N qual scope f cdv A outer s H E).nox body t ∧ t { nx := fun _ H' => Q .non H', rt := Q } (start N vs) H) : FnOk P w K mg base CX0 (k + 1) f fd ps sp :=
  F.ok S len fun cdv A outer s H vs Q E hr h => let ⟨t, p, q⟩ := hbody cdv A outer s H vs Q E hr h; ⟨t, p.nox, q⟩
/-! ### == by an own __eq__, both answers -/
def rOwnEq (K : PySem.W.Frag) (C : Addr) (sp : Sp) : R2 := fun x y H Q => ∃ a b dx fs, x = .ref a ∧ y = .ref b ∧ H a = some (.ins C dx fs) ∧
  ((∃ dy gs, H b = some (.ins C dy gs)) ∨ ((∃ ys, H b = some (.tup ys)) ∧ PySem.W.notFirst K C (.type "tuple") = true)) ∧ sp [x, y] H Q E0
theorem op_own_eq (M : Md X.prog X.w X.K X.mg X.base C "__eq__" ps k sp) (hr : Room k X.A) : OpR X (compareOp .Eq) (rOwnEq X.K C sp) := by
  obtain ⟨f, fd, F, hm, bd⟩ := M.ex
  intro pins s σ H x y v u Q I rx ry h
  obtain ⟨a, b, dx, fs, rfl, rfl, ha, hb, q⟩ := h
  cases (show v = Value.ref a from rx)
  cases (show u = Value.ref b from ry)
  obtain ⟨mA, J, _⟩ := ins_get I.hok ha
  obtain ⟨od, J, _⟩ := J.look
  obtain ⟨m, hF⟩ := I.fr
  have r2 : Vals [V.ref a, V.ref b] [Value.ref a, Value.ref b] := .cons rfl (.cons rfl .nil)
  have run : wpAny (model X.prog X.w) X.A (call (.ref f) [.ref a, .ref b]) (PySem.W.CmpBack (EP X pins σ Q)) X.xe s := by
    refine wpAny_mono (run_fn F hr bd .nil pass0 I r2 q) (fun w s' z => ?_) fun _ _ z => z
    obtain ⟨z', H', I', rz, qz⟩ := z
    exact SlX.cmpback rz ⟨z', H', I', rz, qz⟩
  show wpAny (model X.prog X.w) X.A (richCompare .Eq (.ref a) (.ref b)) (EP X pins σ Q) X.xe s
  rcases hb with ⟨dy, gs, hb⟩ | ⟨⟨ys, hb⟩, hn⟩
  · obtain ⟨mB, J', _⟩ := ins_get I.hok hb
    obtain ⟨od', J', _⟩ := J'.look
    exact PySem.W.cmp_K (op := .Eq) (tb := .ref C) hr.units0 hF I.ok.mod.kin J J'.type (by simp [PySem.W.notFirst]) hm.at_ hm.fn run
  · obtain ⟨_, its, _, o, ho, hc, _⟩ := (show ObjOk X.prog X.w H s.heap b (.tup ys) from I.hok b _ hb)
    exact PySem.W.cmp_K (op := .Eq) (tb := .type "tuple") hr.units0 hF I.ok.mod.kin J (fun A' Q' E' s' k' q' => wpAny_typeOf ⟨o, k' _ _ ho, hc⟩ q') hn hm.at_ hm.fn run
/-! ### repr of a whole number or of None -/
def vOf : Option Nat → V
  | some n => .int n
  | none => .non
def rpr : V → Str
  | .int i => toString i
  | _ => "None"
theorem call_reprN : CallR X (.builtin "repr") (fun xs H Q => ((∃ i, xs = [.int i] ∧ i.natAbs.log2 < 1920) ∨ xs = [.non]) ∧ ∀ z, xs = [z] → Q (.str (rpr z)) H) := by
  intro pins s σ H xs us Q I r h
  obtain ⟨h, q⟩ := h
  rcases h with ⟨i, rfl, hz⟩ | rfl
  · obtain ⟨u, rfl, t, rfl⟩ := vals1 r
    exact PySem.P.repr_of_int hz ⟨.str _, H, I.tok _, ⟨_, rfl⟩, q _ rfl⟩
  · obtain ⟨u, rfl, hu⟩ := vals1 r
    cases (show u = Value.none from hu)
    exact PySem.P.repr_of_none ⟨.str _, H, I.tok _, ⟨_, rfl⟩, q _ rfl⟩
/-! ### ** of great numbers -/
theorem op_powX : OpR X (binaryOp .Pow) (rI (fun i j => 0 ≤ j ∧ (Builtin.Int.intBits i : Int) * j ≤ 2 ^ 27) fun i j => .int (i ^ j.toNat)) := opI fun _ _ _ _ _ _ _ hc q => pow_int hc.1 hc.2 q
end
/-! ### heaps -/
theorem Same.tup {K : PySem.W.Frag} {H H' : Hp} {a : Addr} {xs : List V} (e : Same H H') (h : SqT K H a xs) : SqT K H' a xs := by
  rcases h with (h | ⟨o, h⟩) | h
  · exact .inl (.inl (e _ _ h))
  · exact .inl (.inr ⟨o, e _ _ h⟩)
  · exact .inr h
theorem Same.upd {H : Hp} {p : Addr} {o : HO} (h : H p = none) : Same H (upd H p o) := fun b x e => by
  rw [upd_ne (ne_of_none e h)]
  exact e
/-- all but g is as it was -/
def SameX (g : Addr) (H H' : Hp) : Prop := ∀ b o, H b = some o → b ≠ g → H' b = some o
theorem Same.x {H H' : Hp} (g : Addr) (e : Same H H') : SameX g H H' := fun b o h _ => e b o h
theorem SameX.refl (g : Addr) (H : Hp) : SameX g H H := fun _ _ h _ => h
theorem SameX.trans {g : Addr} {H H1 H2 : Hp} (a : SameX g H H1) (b : SameX g H1 H2) : SameX g H H2 := fun c o h n => b c o (a c o h n) n
theorem SameX.upd {g : Addr} {H : Hp} {o : HO} : SameX g H (L2.upd H g o) := fun b x e n => by
  rw [upd_ne n]
  exact e
theorem SameX.free {g : Addr} {H H' : Hp} {o : HO} (e : SameX g H H') (hg : H g = some o) {l : Addr} {u : HO} (h' : H' g = some u) (h : H' l = none) : H l = none := by
  cases q : H l with
  | none => rfl
  | some x =>
    by_cases hl : l = g
    · rw [hl, h'] at h
      cases h
    · rw [e l x q hl] at h
      cases h
theorem SameX.seq {K : PySem.W.Frag} {g : Addr} {H H' : Hp} {a : Addr} {xs : List V} (e : SameX g H H') (n : a ≠ g) (h : SqL K H a xs) : SqL K H' a xs := by
  rcases h with (h | ⟨o, h⟩) | h
  · exact .inl (.inl (e _ _ h n))
  · exact .inl (.inr ⟨o, e _ _ h n⟩)
  · exact .inr h
theorem SameX.tup {K : PySem.W.Frag} {g : Addr} {H H' : Hp} {a : Addr} {xs : List V} (e : SameX g H H') (n : a ≠ g) (h : SqT K H a xs) : SqT K H' a xs := by
  rcases h with (h | ⟨o, h⟩) | h
  · exact .inl (.inl (e _ _ h n))
  · exact .inl (.inr ⟨o, e _ _ h n⟩)
  · exact .inr h
/-! ### data of whole numbers and texts -/
theorem dp_ints {K : PySem.W.Frag} {H : Hp} : ∀ xs : List Int, DpAll K H (xs.map V.int) (xs.map PyData.int)
  | [] => .nil
  | x :: xs => .cons (.int x) (dp_ints xs)
theorem eqv_ints : ∀ xs ys : List Int, PyData.eqvAll (xs.map PyData.int) (ys.map PyData.int) = decide (xs = ys)
  | [], [] => rfl
  | [], y :: ys => rfl
  | x :: xs, [] => rfl
  | x :: xs, y :: ys => by
    rw [List.map_cons, List.map_cons, PyData.eqvAll, eqv_ints xs ys]
    show ((x == y) && decide (xs = ys)) = decide (x :: xs = y :: ys)
    rw [Bool.eq_iff_iff]
    simp
theorem shaped_ints (xs : List Int) : SeqAt.shaped (.list (xs.map PyData.int)) = true := PySem.W.ke_shaped_ints xs
end Sv

namespace Sv
open PySem PySem.Spec PyProof.Rows L2
/-! ### the text by places -/
def top (i : Nat) : Stmt := PySem.Challenge.pw_seamlayers_k01_kinds_and_waits.main.body.getD i (.Pass ⟨0, 0, 0, 0⟩)
abbrev s_InvalidKind___init__ : Stmt := inClass (top 2) 0
abbrev s_InvalidNumber___init__ : Stmt := inClass (top 3) 0
abbrev s_Kind___init__ : Stmt := inClass (top 8) 0
abbrev s_Kind___eq__ : Stmt := inClass (top 8) 1
abbrev s_Kind_name : Stmt := inClass (top 8) 2
abbrev s_Kind_size : Stmt := inClass (top 8) 3
abbrev s_Kind_steps : Stmt := inClass (top 8) 4
abbrev s_Kind_start : Stmt := inClass (top 8) 5
abbrev s_is_whole : Stmt := top 5
abbrev s_check_kind : Stmt := top 9
abbrev s_is_step : Stmt := top 10
abbrev s_check_step : Stmt := top 11
abbrev s_wait_of : Stmt := top 12
abbrev s_wait : Stmt := top 13
abbrev s__law_hash : Stmt := top 15
abbrev s__law_random : Stmt := top 16
abbrev s__law_cell : Stmt := top 17
abbrev s__law_generator : Stmt := top 18
abbrev s__law_kind : Stmt := top 19
abbrev s__law_many : Stmt := top 20
abbrev s__law_start : Stmt := top 21
abbrev s__law_item : Stmt := top 22
abbrev s__law_turned : Stmt := top 23
abbrev s__law_stepped : Stmt := top 24
abbrev s__law_is_crossed : Stmt := top 25
abbrev s__law_row : Stmt := top 26
abbrev s__law_gained : Stmt := top 27
abbrev s__law_order : Stmt := top 28
abbrev s__law_wait : Stmt := top 29
abbrev s__law_kind_right : Stmt := top 30
abbrev s_law : Stmt := top 31
abbrev FnP (K : PySem.W.Frag) (x qual : Str) (st : Stmt) (f : Addr) (fd : FuncData) : Prop := FunD K x qual (defArgs st) (defBody st) (defScope st) [] [] f fd
theorem sc_InvalidKind___init__ : FnScope ["self", "value"] ["self", "value"] (defScope s_InvalidKind___init__) := ⟨rfl, rfl, rfl, by decide +kernel, rfl, by decide +kernel, by decide +kernel⟩
theorem sc_InvalidNumber___init__ : FnScope ["self", "value"] ["self", "value"] (defScope s_InvalidNumber___init__) := ⟨rfl, rfl, rfl, by decide +kernel, rfl, by decide +kernel, by decide +kernel⟩
theorem sc_Kind___init__ : FnScope ["self", "name", "size", "least", "most"] ["self", "name", "size"] (defScope s_Kind___init__) := ⟨rfl, rfl, rfl, by decide +kernel, rfl, by decide +kernel, by decide +kernel⟩
theorem sc_Kind___eq__ : FnScope ["self", "other"] ["self", "other"] (defScope s_Kind___eq__) := ⟨rfl, rfl, rfl, by decide +kernel, rfl, by decide +kernel, by decide +kernel⟩
theorem sc_Kind_name : FnScope ["self"] ["self"] (defScope s_Kind_name) := ⟨rfl, rfl, rfl, by decide +kernel, rfl, by decide +kernel, by decide +kernel⟩
theorem sc_Kind_size : FnScope ["self"] ["self"] (defScope s_Kind_size) := ⟨rfl, rfl, rfl, by decide +kernel, rfl, by decide +kernel, by decide +kernel⟩
theorem sc_Kind_steps : FnScope ["self"] ["self"] (defScope s_Kind_steps) := ⟨rfl, rfl, rfl, by decide +kernel, rfl, by decide +kernel, by decide +kernel⟩
theorem sc_Kind_start : FnScope ["self"] ["self"] (defScope s_Kind_start) := ⟨rfl, rfl, rfl, by decide +kernel, rfl, by decide +kernel, by decide +kernel⟩
theorem sc_is_whole : FnScope ["value"] ["value"] (defScope s_is_whole) := ⟨rfl, rfl, rfl, by decide +kernel, rfl, by decide +kernel, by decide +kernel⟩
theorem sc_check_kind : FnScope ["kind"] ["kind"] (defScope s_check_kind) := ⟨rfl, rfl, rfl, by decide +kernel, rfl, by decide +kernel, by decide +kernel⟩
theorem sc_is_step : FnScope ["kind", "value"] ["kind", "value"] (defScope s_is_step) := ⟨rfl, rfl, rfl, by decide +kernel, rfl, by decide +kernel, by decide +kernel⟩
theorem sc_check_step : FnScope ["kind", "step"] ["kind", "step"] (defScope s_check_step) := ⟨rfl, rfl, rfl, by decide +kernel, rfl, by decide +kernel, by decide +kernel⟩
theorem sc_wait_of : FnScope ["kind", "one", "other", "apart"] ["kind", "one", "other"] (defScope s_wait_of) := ⟨rfl, rfl, rfl, by decide +kernel, rfl, by decide +kernel, by decide +kernel⟩
theorem sc_wait : FnScope ["kind", "one", "other"] ["kind", "one", "other"] (defScope s_wait) := ⟨rfl, rfl, rfl, by decide +kernel, rfl, by decide +kernel, by decide +kernel⟩
theorem sc__law_hash : FnScope ["_law_seed", "_law_index", "_law_mixed"] ["_law_seed", "_law_index"] (defScope s__law_hash) := ⟨rfl, rfl, rfl, by decide +kernel, rfl, by decide +kernel, by decide +kernel⟩
theorem sc__law_random : FnScope ["_law_generator_here", "_law_bound", "_law_drawn", "_law_turn"] ["_law_generator_here", "_law_bound"] (defScope s__law_random) := ⟨rfl, rfl, rfl, by decide +kernel, rfl, by decide +kernel, by decide +kernel⟩
theorem sc__law_cell : FnScope ["_law_script", "_law_index"] ["_law_script", "_law_index"] (defScope s__law_cell) := ⟨rfl, rfl, rfl, by decide +kernel, rfl, by decide +kernel, by decide +kernel⟩
theorem sc__law_generator : FnScope ["_law_script", "_law_index", "_law_seed"] ["_law_script", "_law_index"] (defScope s__law_generator) := ⟨rfl, rfl, rfl, by decide +kernel, rfl, by decide +kernel, by decide +kernel⟩
theorem sc__law_kind : FnScope ["_law_generator_here", "_law_name", "_law_size", "_law_great", "_law_chosen"] ["_law_generator_here"] (defScope s__law_kind) := ⟨rfl, rfl, rfl, by decide +kernel, rfl, by decide +kernel, by decide +kernel⟩
theorem sc__law_many : FnScope ["_law_told"] ["_law_told"] (defScope s__law_many) := ⟨rfl, rfl, rfl, by decide +kernel, rfl, by decide +kernel, by decide +kernel⟩
theorem sc__law_start : FnScope ["_law_told"] ["_law_told"] (defScope s__law_start) := ⟨rfl, rfl, rfl, by decide +kernel, rfl, by decide +kernel, by decide +kernel⟩
theorem sc__law_item : FnScope ["_law_told", "_law_order_here", "_law_place"] ["_law_told", "_law_order_here", "_law_place"] (defScope s__law_item) := ⟨rfl, rfl, rfl, by decide +kernel, rfl, by decide +kernel, by decide +kernel⟩
theorem sc__law_turned : FnScope ["_law_told", "_law_step", "_law_place", "_law_apart"] ["_law_told", "_law_step", "_law_place"] (defScope s__law_turned) := ⟨rfl, rfl, rfl, by decide +kernel, rfl, by decide +kernel, by decide +kernel⟩
theorem sc__law_stepped : FnScope ["_law_told", "_law_order_here", "_law_step", "_law_place"] ["_law_told", "_law_order_here", "_law_step"] (defScope s__law_stepped) := ⟨rfl, rfl, rfl, by decide +kernel, rfl, by decide +kernel, by decide +kernel⟩
theorem sc__law_is_crossed : FnScope ["_law_told", "_law_order_here", "_law_step", "_law_low"] ["_law_told", "_law_order_here", "_law_step"] (defScope s__law_is_crossed) := ⟨rfl, rfl, rfl, by decide +kernel, rfl, by decide +kernel, by decide +kernel⟩
theorem sc__law_row : FnScope ["_law_generator_here", "_law_told", "_law_most", "_law_turn"] ["_law_generator_here", "_law_told", "_law_most"] (defScope s__law_row) := ⟨rfl, rfl, rfl, by decide +kernel, rfl, by decide +kernel, by decide +kernel⟩
theorem sc__law_gained : FnScope ["_law_told", "_law_order_here", "_law_step"] ["_law_told", "_law_order_here", "_law_step"] (defScope s__law_gained) := ⟨rfl, rfl, rfl, by decide +kernel, rfl, by decide +kernel, by decide +kernel⟩
theorem sc__law_order : FnScope ["_law_generator_here", "_law_told", "_law_most", "_law_found", "_law_step"] ["_law_generator_here", "_law_told", "_law_most"] (defScope s__law_order) := ⟨rfl, rfl, rfl, by decide +kernel, rfl, by decide +kernel, by decide +kernel⟩
theorem sc__law_wait : FnScope ["_law_told", "_law_order_here", "_law_one", "_law_other", "_law_low", "_law_high", "_law_turn"] ["_law_told", "_law_order_here", "_law_one", "_law_other"] (defScope s__law_wait) := ⟨rfl, rfl, rfl, by decide +kernel, rfl, by decide +kernel, by decide +kernel⟩
theorem sc__law_kind_right : FnScope ["_law_told", "_law_order_here", "_law_kind_here", "_law_one", "_law_other", "_law_due"] ["_law_told", "_law_order_here"] (defScope s__law_kind_right) := ⟨rfl, rfl, rfl, by decide +kernel, rfl, by decide +kernel, by decide +kernel⟩
theorem sc_law : FnScope ["_law_script", "_law_kinds", "_law_told", "_law_index", "_law_generator_here", "_law_beside", "_law_size"] ["_law_script"] (defScope s_law) := ⟨rfl, rfl, rfl, by decide +kernel, rfl, by decide +kernel, by decide +kernel⟩
/-- what the module's names are -/
structure Tx (K : PySem.W.Frag) (mg : Str → Option Value) : Prop where
  m_int : mg "int" = none
  m_str : mg "str" = none
  m_bool : mg "bool" = none
  m_range : mg "range" = none
  m_list : mg "list" = none
  m_abs : mg "abs" = none
  m_max : mg "max" = none
  m_min : mg "min" = none
  m_sum : mg "sum" = none
  m_len : mg "len" = none
  m_repr : mg "repr" = none
  m_isinstance : mg "isinstance" = none
  m_all : mg "all" = none
  m_sorted : mg "sorted" = none
  m_enumerate : mg "enumerate" = none
  m_tuple : mg "tuple" = none
  m_reversed : mg "reversed" = none
section
variable {P : Program} {w : World} {K : PySem.W.Frag} {mg : Str → Option Value} {base : Heap} {f : Addr} {fd : FuncData}
/-! ### drawing -/
def spHash : Sp := fun vs H Q _ => ∃ a b : Int, vs = [.int a, .int b] ∧ (-(2 ^ 64) < b ∧ b < 2 ^ 64) ∧ ∀ z : Int, Q (.int z) H
theorem ok_hash (T : Tx K mg) (F : FnP K "_law_hash" "_law_hash" s__law_hash f fd) : FnOk P w K mg base CX0 1 f fd ["_law_seed", "_law_index"] spHash := by
  refine okN F sc__law_hash (fun vs H Q E h => ?_) (fun cdv A outer s H vs Q E hr h => ?_)
  · obtain ⟨a, b, rfl, _⟩ := h
    rfl
  · obtain ⟨a, b, rfl, hb, q⟩ := h
    refine ⟨_, (pss_cons (ps_set (i := 2) sc__law_hash.nd rfl (by first | exact Or.inl rfl | exact Or.inr rfl) (pe_op op_mod (pe_callTy call_int1 (by rfl) T.m_int (by decide +kernel) (pa_cons (pe_op op_add (pe_op op_add (pe_op op_add (pe_op op_mul (pv 0) pe_int) (pe_op op_mul (pe_op op_mul pe_int (pv 1)) (pv 1))) (pe_op op_mul pe_int (pv 1))) pe_int) pa_nil)) pe_int))
      (pss_cons (ps_set (i := 2) sc__law_hash.nd rfl (by first | exact Or.inl rfl | exact Or.inr rfl) (pe_op op_mod (pe_callTy call_int1 (by rfl) T.m_int (by decide +kernel) (pa_cons (pe_op op_add (pe_op op_add (pe_op op_mul (pv 2) (pv 2)) (pe_op op_mul pe_int (pv 1))) pe_int) pa_nil)) pe_int))
      (pss_one (ps_ret (pe_op op_mod (pe_callTy call_int1 (by rfl) T.m_int (by decide +kernel) (pa_cons (pe_op op_mul (pv 2) pe_int) pa_nil)) pe_int))))), ?_⟩
    refine ⟨_, rfl, _, _, rfl, rfl, .inr ⟨by decide, by decide⟩, _, rfl, _, _, rfl, rfl, .inl ⟨by decide, by decide⟩, _, rfl, _, _, rfl, rfl, .inr hb, _, _, rfl, rfl, _, rfl, _, _, rfl, rfl, .inl ⟨by decide, by decide⟩, _, _, rfl, rfl, _, _, rfl, rfl, .inl ⟨_, rfl, ?_⟩⟩
    refine ⟨_, _, rfl, rfl, (by show (0 : Int) < 2147483629; decide), ?_⟩
    have h1 := Int.emod_nonneg (a * 1140671 + 27644437 * b * b + 131 * b + 19) (by decide : (2147483629 : Int) ≠ 0)
    have h2 := Int.emod_lt_of_pos (a * 1140671 + 27644437 * b * b + 131 * b + 19) (by decide : (0 : Int) < 2147483629)
    refine ⟨_, rfl, _, rfl, _, _, rfl, rfl, .inl ⟨by omega, by omega⟩, _, rfl, _, _, rfl, rfl, .inl ⟨by decide, by decide⟩, _, _, rfl, rfl, _, _, rfl, rfl, .inl ⟨_, rfl, ?_⟩⟩
    refine ⟨_, _, rfl, rfl, (by show (0 : Int) < 2147483587; decide), ?_⟩
    refine ⟨_, rfl, _, _, rfl, rfl, .inr ⟨by decide, by decide⟩, .inl ⟨_, rfl, ?_⟩⟩
    refine ⟨_, _, rfl, rfl, (by show (0 : Int) < 2147483647; decide), ?_⟩
    exact q _
/-- a generator stands at g: its first number a, the second b, the third c -/
def GenAt (H : Hp) (g : Addr) (a b c : Int) : Prop := H g = some (.lst [.int a, .int b, .int c])
def spRandom : Sp := fun vs H Q _ => ∃ (g : Addr) (a b c n : Int), vs = [.ref g, .int n] ∧ GenAt H g a b c ∧ (0 < n ∧ n < 2 ^ 29) ∧ (0 ≤ c ∧ c ≤ 1000000) ∧
  ∀ (r a' c' : Int) (H' : Hp), 0 ≤ r → r < n → 0 ≤ c' → c' ≤ c + 1 → GenAt H' g a' b c' → SameX g H H' → Q (.int r) H'
theorem bits_small {n : Int} (h0 : 0 < n) (h1 : n < 2 ^ 29) : (1 : Int) + ((Builtin.Int.intBits n : Nat) : Int) / 30 = 1 := by
  have h : Builtin.Int.intBits n ≤ 29 := intBits_le (by omega)
  omega
theorem ok_random (T : Tx K mg) (F : FnP K "_law_random" "_law_random" s__law_random f fd) (c_law_hash : Gd P w K mg base "_law_hash" ["_law_seed", "_law_index"] 1 spHash) : FnOk P w K mg base CX0 2 f fd ["_law_generator_here", "_law_bound"] spRandom := by
  refine okN F sc__law_random (fun vs H Q E h => ?_) (fun cdv A outer s H vs Q E hr h => ?_)
  · obtain ⟨g, a, b, c, n, rfl, _⟩ := h
    rfl
  · obtain ⟨g, a, b, c, n, rfl, hg, ⟨n0, n1⟩, ⟨c0, c1⟩, q⟩ := h
    refine ⟨_, (pss_cons (ps_if (pt_cmpR op_gt (pe_ix ix_list (pv 0) pe_int (fun _ _ => rfl)) pe_int (nomark _)) (pss_cons (ps_set (i := 2) sc__law_random.nd rfl (by first | exact Or.inl rfl | exact Or.inr rfl) (pe_op op_mod (pe_callTy call_int1 (by rfl) T.m_int (by decide +kernel) (pa_cons (pe_ix ix_list (pv 0) pe_int (fun _ _ => rfl)) pa_nil)) (pv 1)))
      (pss_cons (ps_asg (pe_op op_fdiv (pe_ix ix_list (pv 0) pe_int (fun _ _ => rfl)) (pv 1)) (pg_sub (pv 0) pe_int set_list))
      (pss_one (ps_ret (pv 2))))) pss_nil)
      (pss_cons (ps_set (i := 2) sc__law_random.nd rfl (by first | exact Or.inl rfl | exact Or.inr rfl) pe_int)
      (pss_cons (ps_for PassesOwn.never rfl (pi_range1 (by rfl) T.m_range (pa_cons (pe_op op_add pe_int (pe_op op_fdiv (pe_bits (pv 1)) pe_int)) pa_nil)) (pg_name (i := 3) sc__law_random.nd rfl (Or.inl rfl)) (pss_cons (ps_asg (pe_op op_add (pe_ix ix_list (pv 0) pe_int (fun _ _ => rfl)) pe_int) (pg_sub (pv 0) pe_int set_list))
      (pss_one (ps_set (i := 2) sc__law_random.nd rfl (by first | exact Or.inl rfl | exact Or.inr rfl) (pe_op op_add (pe_op op_mul (pv 2) pe_int) (pe_callG c_law_hash (hr.mono (by decide)) (by rfl) (pa_cons (pe_ix ix_list (pv 0) pe_int (fun _ _ => rfl)) (pa_cons (pe_ix ix_list (pv 0) pe_int (fun _ _ => rfl)) pa_nil))))))))
      (pss_one (ps_ret (pe_op op_mod (pe_callTy call_int1 (by rfl) T.m_int (by decide +kernel) (pa_cons (pv 2) pa_nil)) (pv 1))))))), ?_⟩
    have hL : SqL K H g [.int a, .int b, .int c] := SqL.of hg
    refine ⟨_, rfl, g, _, 0, _, rfl, rfl, hL, atI_nat (j := 0) rfl, _, _, rfl, rfl, _, rfl, ?_⟩
    refine ite2 (fun hpos => ?_) (fun hneg => ?_)
    · refine ⟨_, rfl, g, _, 0, _, rfl, rfl, hL, atI_nat (j := 0) rfl, .inl ⟨_, rfl, ?_⟩⟩
      refine ⟨_, rfl, _, _, rfl, rfl, n0, ?_⟩
      refine ⟨_, rfl, g, _, 0, _, rfl, rfl, hL, atI_nat (j := 0) rfl, _, rfl, _, _, rfl, rfl, ⟨n0, by omega⟩, ?_⟩
      refine ⟨_, rfl, g, _, 0, 0, rfl, rfl, hg, rfl, ?_⟩
      refine ⟨_, rfl, ?_⟩
      exact q (a % n) (a / n) c _ (Int.emod_nonneg _ (by omega)) (Int.emod_lt_of_pos _ n0) c0 (by omega) upd_same SameX.upd
    · refine ⟨_, rfl, _, rfl, _, _, rfl, rfl, ⟨by decide, by decide⟩, _, _, rfl, rfl, 1, (by show [V.int (1 + ((Builtin.Int.intBits n : Nat) : Int) / 30)] = _; rw [bits_small n0 n1]), by decide, by decide, ?_⟩
      refine for_range (n := 1) (fun i σ H2 => ∃ (d : Int) (v : Option V), σ = [some (.ref g), some (.int n), some (.int d), v] ∧ GenAt H2 g a b (c + (i : Int)) ∧ SameX g H H2) ⟨0, none, rfl, (by show H g = _; rw [hg]; simp), SameX.refl g H⟩ ?_ ?_
      · rintro i σ H2 hi ⟨d, v, rfl, hg2, sx⟩
        refine ⟨_, rfl, g, _, 2, _, rfl, rfl, SqL.of hg2, atI_nat (j := 2) rfl, _, _, rfl, rfl, ?_⟩
        refine ⟨_, rfl, g, _, 2, 2, rfl, rfl, hg2, rfl, ?_⟩
        refine ⟨_, rfl, _, _, rfl, rfl, .inr ⟨by decide, by decide⟩, ?_⟩
        refine ⟨_, rfl, g, _, 1, _, rfl, rfl, SqL.of upd_same, atI_nat (j := 1) rfl, _, rfl, g, _, 2, _, rfl, rfl, SqL.of upd_same, atI_nat (j := 2) rfl, _, _, rfl, ⟨by omega, by omega⟩, fun z => ?_⟩
        refine ⟨_, _, rfl, rfl, ?_⟩
        refine ⟨_, _, rfl, ?_, sx.trans SameX.upd⟩
        show L2.upd H2 g _ g = _
        rw [upd_same]
        have e : c + (i : Int) + 1 = c + ((i + 1 : Nat) : Int) := by omega
        rw [← e]
        rfl
      · rintro σ H2 ⟨d, v, rfl, hg2, sx⟩
        refine ⟨_, rfl, .inl ⟨_, rfl, ?_⟩⟩
        refine ⟨_, rfl, _, _, rfl, rfl, n0, ?_⟩
        exact q (d % n) a _ H2 (Int.emod_nonneg _ (by omega)) (Int.emod_lt_of_pos _ n0) (by omega) (by omega) hg2 sx
/-! ### the script's cells, the generator -/
def spCell (K : PySem.W.Frag) : Sp := fun vs H Q _ => ∃ (a : Addr) (ns : List Int) (i : Nat), vs = [.ref a, .int i] ∧ SqL K H a (ns.map V.int) ∧ ∀ (z : Int) (H' : Hp), Same H H' → Q (.int z) H'
theorem cut_one (ns : List Int) : cutV (ns.map V.int) none (some 1) = (ns.take 1).map V.int := by
  unfold cutV
  rw [show HT.sIx (ns.map V.int).length (ns.map V.int).length (some 1) = min 1 (ns.map V.int).length from HT.sIx_nat _ _ 1, HT.sIx_none]
  cases ns with
  | nil => rfl
  | cons x r =>
    rw [show min 1 (List.map V.int (x :: r)).length = 1 by simp]
    rfl
theorem ok_cell (T : Tx K mg) (F : FnP K "_law_cell" "_law_cell" s__law_cell f fd) : FnOk P w K mg base CX0 1 f fd ["_law_script", "_law_index"] (spCell K) := by
  refine okN F sc__law_cell (fun vs H Q E h => ?_) (fun cdv A outer s H vs Q E hr h => ?_)
  · obtain ⟨a, ns, i, rfl, _⟩ := h
    rfl
  · obtain ⟨a, ns, i, rfl, hS, q⟩ := h
    refine ⟨_, (pss_cons (ps_if (pt_cmpR op_lt (pv 1) (pe_callB call_len_seq (by rfl) T.m_len (by decide +kernel) (pa_cons (pv 0) pa_nil)) (nomark _)) (pss_one (ps_ret (pe_ix ix_list (pv 0) (pv 1) (fun _ _ => rfl)))) pss_nil)
      (pss_one (ps_ret (pe_op op_mod (pe_callB (cr_sum rfl) (by rfl) T.m_sum (by decide +kernel) (pa_cons (pe_slice sl_list (pv 0) po_none (po_some pe_int)) pa_nil)) pe_int)))), ?_⟩
    refine ⟨_, rfl, _, rfl, a, _, rfl, .inl hS, _, _, rfl, rfl, _, rfl, ?_⟩
    refine ite2 (fun hlt => ?_) (fun hge => ?_)
    · have hi : i < ns.length := by
        have := of_decide_eq_true hlt
        rw [List.length_map] at this
        omega
      refine ⟨_, rfl, _, rfl, a, _, (i : Int), .int ns[i], rfl, rfl, hS, atI_nat (j := i) ?_, q _ _ (Same.refl _)⟩
      rw [List.getElem?_map, List.getElem?_eq_getElem hi]
      rfl
    · refine ⟨_, rfl, 1, rfl, a, _, rfl, hS, fun p np => ?_⟩
      refine ⟨p, ns.take 1, rfl, SqL.of (by rw [upd_same, cut_one]), ?_⟩
      refine ⟨_, _, rfl, rfl, (by show (0 : Int) < 1000003; decide), ?_⟩
      exact q _ _ (Same.upd np)
def spGen (K : PySem.W.Frag) : Sp := fun vs H Q _ => ∃ (s : Addr) (ns : List Int) (i : Nat), vs = [.ref s, .int i] ∧ SqL K H s (ns.map V.int) ∧ i ≤ 10 ∧
  ∀ (g : Addr) (a b : Int) (H' : Hp), H g = none → Same H H' → GenAt H' g a b (1000 * (i : Int)) → Q (.ref g) H'
theorem ok_generator (T : Tx K mg) (F : FnP K "_law_generator" "_law_generator" s__law_generator f fd) (c_law_cell : Gd P w K mg base "_law_cell" ["_law_script", "_law_index"] 1 (spCell K)) : FnOk P w K mg base CX0 2 f fd ["_law_script", "_law_index"] (spGen K) := by
  refine okN F sc__law_generator (fun vs H Q E h => ?_) (fun cdv A outer s H vs Q E hr h => ?_)
  · obtain ⟨a, ns, i, rfl, _⟩ := h
    rfl
  · obtain ⟨a, ns, i, rfl, hS, hi, q⟩ := h
    refine ⟨_, (pss_cons (ps_set (i := 2) sc__law_generator.nd rfl (by first | exact Or.inl rfl | exact Or.inr rfl) (pe_callG c_law_cell (hr.mono (by decide)) (by rfl) (pa_cons (pv 0) (pa_cons (pv 1) pa_nil))))
      (pss_one (ps_ret (pe_lst (pa_cons (pe_op op_mod (pe_callTy call_int1 (by rfl) T.m_int (by decide +kernel) (pa_cons (pe_callB (call_max2 rfl) (by rfl) T.m_max (by decide +kernel) (pa_cons (pe_op op_sub (pv 2) (pe_op op_powX pe_int pe_int)) (pa_cons pe_int pa_nil))) pa_nil)) (pe_op op_powX (pe_op op_powX pe_int pe_int) pe_int)) (pa_cons (pe_op op_mod (pe_callTy call_int1 (by rfl) T.m_int (by decide +kernel) (pa_cons (pv 2) pa_nil)) pe_int) (pa_cons (pe_op op_mul pe_int (pv 1)) pa_nil))))))), ?_⟩
    refine ⟨_, rfl, _, rfl, a, ns, i, rfl, hS, fun z H1 s1 => ?_⟩
    refine ⟨_, rfl, 10, 18, rfl, rfl, ⟨by decide, by decide +kernel⟩, _, _, rfl, rfl, _, _, rfl, .inl ⟨_, rfl, ?_⟩⟩
    refine ⟨10, 60, rfl, rfl, ⟨by decide, by decide +kernel⟩, _, 10, rfl, rfl, ⟨by decide, by decide +kernel⟩, _, _, rfl, rfl, (by show (0 : Int) < (10 ^ (Int.toNat 60)) ^ (Int.toNat 10); decide +kernel), ?_⟩
    refine ⟨_, rfl, .inl ⟨_, rfl, ?_⟩⟩
    refine ⟨_, _, rfl, rfl, (by show (0 : Int) < 2147483647; decide), _, rfl, _, _, rfl, rfl, .inl ⟨by decide, by decide⟩, (by show 3 ≤ sizeLine; decide), fun g ng => ?_⟩
    exact q g _ _ _ (s1.free ng) (s1.trans (Same.upd ng)) upd_same
/-! ### a kind drawn -/
/-- the tuple of a kind's name and size -/
def Told (K : PySem.W.Frag) (H : Hp) (t : Addr) (k : Nm) (n : Nat) : Prop := SqT K H t [.str k.s, .int (n : Int)]
def spKind : Sp := fun vs H Q _ => ∃ (g : Addr) (a b c : Int), vs = [.ref g] ∧ GenAt H g a b c ∧ (0 ≤ c ∧ c ≤ 900000) ∧
  ∀ (t : Addr) (k : Nm) (n : Nat) (a' c' : Int) (H' : Hp), okK k n = true → 0 ≤ c' → c' ≤ c + 6 → GenAt H' g a' b c' → SameX g H H' → H t = none → t ≠ g → H' t = some (.tup [.str k.s, .int (n : Int)]) → Q (.ref t) H'
def names3 : List V := [.str "plain", .str "mirror", .str "ring"]
theorem nm_of {r : Int} (h0 : 0 ≤ r) (h1 : r < 3) : ∃ k : Nm, atI names3 r = some (.str k.s) := by
  have : r = 0 ∨ r = 1 ∨ r = 2 := by omega
  rcases this with rfl | rfl | rfl
  · exact ⟨.pl, rfl⟩
  · exact ⟨.mi, rfl⟩
  · exact ⟨.ri, rfl⟩
def nmIx : Nm → Nat | .pl => 0 | .mi => 1 | .ri => 2
theorem nm_ix (k : Nm) : names3[nmIx k]? = some (.str k.s) := by cases k <;> rfl
theorem nm_first (k : Nm) : ∀ (m : Nat) (z : V), m < nmIx k → names3[m]? = some z → eqV z (.str k.s) = false := by
  intro m z hm hz
  cases k with
  | pl => cases hm
  | mi =>
    have e : m = 0 := by
      have : nmIx .mi = 1 := rfl
      omega
    subst e
    have ez : z = .str "plain" := (Option.some.inj hz).symm
    subst ez
    decide +kernel
  | ri =>
    have e : m = 0 ∨ m = 1 := by
      have : nmIx .ri = 2 := rfl
      omega
    rcases e with rfl | rfl
    · have ez : z = .str "plain" := (Option.some.inj hz).symm
      subst ez
      decide +kernel
    · have ez : z = .str "mirror" := (Option.some.inj hz).symm
      subst ez
      decide +kernel
theorem eqV_self (x : Str) : eqV (.str x) (.str x) = true := by
  show (x == x) = true
  exact beq_self_eq_true x
theorem size_of (k : Nm) {x1 x2 x3 : Int} (h1 : 1 ≤ x1 ∧ x1 ≤ 7) (h2 : 1 ≤ x2 ∧ x2 ≤ 5) (h3 : 2 ≤ x3 ∧ x3 ≤ 5) : ∃ n : Nat, ([.int x1, .int x2, .int x3] : List V)[nmIx k]? = some (.int (n : Int)) ∧ okK k n = true := by
  cases k with
  | pl =>
    refine ⟨x1.toNat, ?_, decide_eq_true (by omega)⟩
    rw [Int.toNat_of_nonneg (by omega)]
    rfl
  | mi =>
    refine ⟨x2.toNat, ?_, decide_eq_true (by omega)⟩
    rw [Int.toNat_of_nonneg (by omega)]
    rfl
  | ri =>
    refine ⟨x3.toNat, ?_, decide_eq_true (by omega)⟩
    rw [Int.toNat_of_nonneg (by omega)]
    rfl
theorem GenAt.upd {H : Hp} {g : Addr} {a b c : Int} (h : GenAt H g a b c) {p : Addr} {o : HO} (n : H p = none) : GenAt (L2.upd H p o) g a b c := by
  show L2.upd H p o g = _
  rw [upd_ne (ne_of_none h n)]
  exact h
theorem ok_kind (T : Tx K mg) (F : FnP K "_law_kind" "_law_kind" s__law_kind f fd) (c_law_random : Gd P w K mg base "_law_random" ["_law_generator_here", "_law_bound"] 2 spRandom) : FnOk P w K mg base CX0 3 f fd ["_law_generator_here"] spKind := by
  refine okN F sc__law_kind (fun vs H Q E h => ?_) (fun cdv A outer s H vs Q E hr h => ?_)
  · obtain ⟨g, a, b, c, rfl, _⟩ := h
    rfl
  · obtain ⟨g, a, b, c, rfl, hg, ⟨c0, c1⟩, q⟩ := h
    refine ⟨_, (pss_cons (ps_set (i := 1) sc__law_kind.nd rfl (by first | exact Or.inl rfl | exact Or.inr rfl) (pe_ix ix_list (pe_lst (pa_cons pe_str (pa_cons pe_str (pa_cons pe_str pa_nil)))) (pe_callG c_law_random (hr.mono (by decide)) (by rfl) (pa_cons (pv 0) (pa_cons pe_int pa_nil))) (fun _ _ => rfl)))
      (pss_cons (ps_set (i := 2) sc__law_kind.nd rfl (by first | exact Or.inl rfl | exact Or.inr rfl) (pe_lst (pa_cons (pe_op op_add pe_int (pe_callG c_law_random (hr.mono (by decide)) (by rfl) (pa_cons (pv 0) (pa_cons pe_int pa_nil)))) (pa_cons (pe_op op_add pe_int (pe_callG c_law_random (hr.mono (by decide)) (by rfl) (pa_cons (pv 0) (pa_cons pe_int pa_nil)))) (pa_cons (pe_op op_add pe_int (pe_callG c_law_random (hr.mono (by decide)) (by rfl) (pa_cons (pv 0) (pa_cons pe_int pa_nil)))) pa_nil)))))
      (pss_cons (ps_set (i := 3) sc__law_kind.nd rfl (by first | exact Or.inl rfl | exact Or.inr rfl) (pe_lst (pa_cons (pe_op op_add pe_int (pe_callG c_law_random (hr.mono (by decide)) (by rfl) (pa_cons (pv 0) (pa_cons pe_int pa_nil)))) (pa_cons pe_int (pa_cons pe_int pa_nil)))))
      (pss_cons (ps_set (i := 4) sc__law_kind.nd rfl (by first | exact Or.inl rfl | exact Or.inr rfl) (pe_ifExp (pt_cmpR op_eq (pe_callG c_law_random (hr.mono (by decide)) (by rfl) (pa_cons (pv 0) (pa_cons pe_int pa_nil))) pe_int (nomark _)) (pv 3) (pv 2)))
      (pss_one (ps_ret (pe_tup (pa_cons (pv 1) (pa_cons (pe_ix ix_list (pv 4) (pe_bm PySem.F.plainAttrs_list PySem.F.slot_list_index PySem.F.type_list_index mt_index (pe_lst (pa_cons pe_str (pa_cons pe_str (pa_cons pe_str pa_nil)))) (pa_cons (pv 1) pa_nil)) (fun _ _ => rfl)) pa_nil))))))))), ?_⟩
    -- the name
    refine ⟨(by show 3 ≤ sizeLine; decide), fun l1 n1 => ?_⟩
    have f0 : Same H (L2.upd H l1 (.lst names3)) := Same.upd n1
    refine ⟨_, rfl, g, a, b, c, 3, rfl, hg.upd n1, ⟨by decide, by decide⟩, ⟨c0, by omega⟩, fun r1 a1 c2 H1 p0 p1 p2 p3 g1 x1 => ?_⟩
    have l1g : l1 ≠ g := (ne_of_none hg n1).symm
    obtain ⟨k, hk⟩ := nm_of p0 p1
    have e1 : H1 l1 = some (.lst names3) := x1 _ _ upd_same l1g
    refine ⟨l1, names3, r1, .str k.s, rfl, rfl, SqL.of e1, hk, ?_⟩
    have s1 : SameX g H H1 := (Same.x g f0).trans x1
    -- the sizes
    refine ⟨_, rfl, g, a1, b, c2, 5, rfl, g1, ⟨by decide, by decide⟩, ⟨p2, by omega⟩, fun r2 a2 c3 H2 q0 q1 q2 q3 g2 x2 => ?_⟩
    refine ⟨_, _, rfl, rfl, _, rfl, g, a2, b, c3, 4, rfl, g2, ⟨by decide, by decide⟩, ⟨q2, by omega⟩, fun r3 a3 c4 H3 t0 t1 t2 t3 g3 x3 => ?_⟩
    refine ⟨_, _, rfl, rfl, _, rfl, g, a3, b, c4, 3, rfl, g3, ⟨by decide, by decide⟩, ⟨t2, by omega⟩, fun r4 a4 c5 H4 u0 u1 u2 u3 g4 x4 => ?_⟩
    refine ⟨_, _, rfl, rfl, (by show 3 ≤ sizeLine; decide), fun l2 n2 => ?_⟩
    have s4 : SameX g H H4 := ((s1.trans x2).trans x3).trans x4
    -- the great ones
    refine ⟨_, rfl, g, a4, b, c5, 2, rfl, g4.upd n2, ⟨by decide, by decide⟩, ⟨u2, by omega⟩, fun r5 a5 c6 H5 v0 v1 v2 v3 g5 x5 => ?_⟩
    refine ⟨_, _, rfl, rfl, (by show 3 ≤ sizeLine; decide), fun l3 n3 => ?_⟩
    have l2g : l2 ≠ g := (ne_of_none g4 n2).symm
    have e2 : H5 l2 = some (.lst [.int (1 + r2), .int (1 + r3), .int (2 + r4)]) := x5 _ _ upd_same l2g
    have s5 : SameX g H H5 := (s4.trans (Same.x g (Same.upd n2))).trans x5
    have l3g : l3 ≠ g := (ne_of_none g5 n3).symm
    -- which
    refine ⟨_, rfl, g, a5, b, c6, 8, rfl, g5.upd n3, ⟨by decide, by decide⟩, ⟨v2, by omega⟩, fun r6 a6 c7 H6 w0 w1 w2 w3 g6 x6 => ?_⟩
    have s6 : SameX g H H6 := (s5.trans (Same.x g (Same.upd n3))).trans x6
    have e3 : H6 l3 = some (.lst [.int (6 + r5), .int 5, .int 5]) := x6 _ _ upd_same l3g
    have e2' : H6 l2 = some (.lst [.int (1 + r2), .int (1 + r3), .int (2 + r4)]) := x6 _ _ (by rw [upd_ne (ne_of_none e2 n3)]; exact e2) l2g
    refine ⟨rfl, _, rfl, ite2 (fun _ => ?_) (fun _ => ?_)⟩
    · obtain ⟨n, hn, hok⟩ := size_of k (x1 := 6 + r5) (x2 := 5) (x3 := 5) ⟨by omega, by omega⟩ ⟨by omega, by omega⟩ ⟨by omega, by omega⟩
      refine ⟨_, rfl, _, rfl, _, rfl, (by show 3 ≤ sizeLine; decide), fun l5 n5 => ?_⟩
      refine ⟨.inl ⟨rfl, _, SqL.of upd_same⟩, _, rfl, l5, names3, .str k.s, nmIx k, .str k.s, rfl, rfl, SqL.of upd_same, rfl, rfl, nm_ix k, eqV_self _, nm_first k, ?_⟩
      refine ⟨l3, _, _, _, rfl, rfl, SqL.of (by rw [upd_ne (ne_of_none e3 n5)]; exact e3), atI_nat hn, (by show 2 ≤ sizeLine; decide), fun t nt => ?_⟩
      have g7 : GenAt (L2.upd H6 l5 (.lst names3)) g a6 b c7 := g6.upd n5
      have s7 : SameX g H (L2.upd H6 l5 (.lst names3)) := s6.trans (Same.x g (Same.upd n5))
      exact q t k n a6 c7 _ hok w2 (by omega) (g7.upd nt) (s7.trans (Same.x g (Same.upd nt))) (s7.free hg g7 nt) (ne_of_none g7 nt).symm upd_same
    · obtain ⟨n, hn, hok⟩ := size_of k (x1 := 1 + r2) (x2 := 1 + r3) (x3 := 2 + r4) ⟨by omega, by omega⟩ ⟨by omega, by omega⟩ ⟨by omega, by omega⟩
      refine ⟨_, rfl, _, rfl, _, rfl, (by show 3 ≤ sizeLine; decide), fun l5 n5 => ?_⟩
      refine ⟨.inl ⟨rfl, _, SqL.of upd_same⟩, _, rfl, l5, names3, .str k.s, nmIx k, .str k.s, rfl, rfl, SqL.of upd_same, rfl, rfl, nm_ix k, eqV_self _, nm_first k, ?_⟩
      refine ⟨l2, _, _, _, rfl, rfl, SqL.of (by rw [upd_ne (ne_of_none e2' n5)]; exact e2'), atI_nat hn, (by show 2 ≤ sizeLine; decide), fun t nt => ?_⟩
      have g7 : GenAt (L2.upd H6 l5 (.lst names3)) g a6 b c7 := g6.upd n5
      have s7 : SameX g H (L2.upd H6 l5 (.lst names3)) := s6.trans (Same.x g (Same.upd n5))
      exact q t k n a6 c7 _ hok w2 (by omega) (g7.upd nt) (s7.trans (Same.x g (Same.upd nt))) (s7.free hg g7 nt) (ne_of_none g7 nt).symm upd_same
end
end Sv

namespace Sv
open PySem PySem.Spec PyProof.Rows L2
section
variable {P : Program} {w : World} {K : PySem.W.Frag} {mg : Str → Option Value} {base : Heap} {f : Addr} {fd : FuncData}
theorem qI {Q : VK} {i j : Int} {H : Hp} (h : Q (.int j) H) (e : i = j) : Q (.int i) H := by
  subst e
  exact h
theorem qB {Q : VK} {i j : Bool} {H : Hp} (h : Q (.bl j) H) (e : i = j) : Q (.bl i) H := by
  subst e
  exact h
theorem is_mi {k : Nm} (h : decide (V.str k.s = V.str "mirror") = true) : k = .mi := by rw [s_mi] at h; exact of_decide_eq_true h
theorem not_mi {k : Nm} (h : ¬ decide (V.str k.s = V.str "mirror") = true) : k ≠ .mi := fun e => h (by rw [s_mi, e]; rfl)
theorem off_dec (k : Nm) : (if decide (V.str k.s = V.str "mirror") = true then (1 : Int) else 0) = off k := by
  rw [s_mi]
  cases k <;> rfl
theorem many_dec (k : Nm) (n : Nat) : (n : Int) - (if decide (V.str k.s = V.str "plain") = true then (1 : Int) else 0) = many k n := by
  rw [s_pl]
  cases k <;> rfl
theorem rg_start (k : Nm) (n : Nat) : rgV (off k) ((n : Int) + off k) = (startL k n).map V.int := by
  unfold rgV startL
  rw [List.map_map]
  have e : ((n : Int) + off k - off k).toNat = n := by omega
  rw [e]
  rfl
theorem map_getD {ws : List Int} {i : Nat} (h : i < ws.length) : (ws.map V.int)[i]? = some (.int (ws.getD i 0)) := by
  rw [List.getElem?_map, List.getD_eq_getElem?_getD, List.getElem?_eq_getElem h]
  rfl
theorem abs_eq (p : Int) : (if p < 0 then -p else p) = (p.natAbs : Int) := by split <;> omega
def spMany (K : PySem.W.Frag) : Sp := fun vs H Q _ => ∃ (t : Addr) (k : Nm) (n : Nat), vs = [.ref t] ∧ Told K H t k n ∧ Q (.int (many k n)) H
theorem ok_many (T : Tx K mg) (F : FnP K "_law_many" "_law_many" s__law_many f fd) : FnOk P w K mg base CX0 1 f fd ["_law_told"] (spMany K) := by
  refine okN F sc__law_many (fun vs H Q E h => ?_) (fun cdv A outer s H vs Q E hr h => ?_)
  · obtain ⟨t, k, n, rfl, _⟩ := h
    rfl
  · obtain ⟨t, k, n, rfl, hT, q⟩ := h
    refine ⟨_, (pss_one (ps_ret (pe_op op_sub (pe_ix ix_tup (pv 0) pe_int (fun _ _ => rfl)) (pe_callTy call_int1 (by rfl) T.m_int (by decide +kernel) (pa_cons (pe_cmpR op_eq (pe_ix ix_tup (pv 0) pe_int (fun _ _ => rfl)) pe_str (nomark _)) pa_nil))))), ?_⟩
    refine ⟨_, rfl, t, _, 1, _, rfl, rfl, hT, atI_nat (j := 1) rfl, _, rfl, t, _, 0, _, rfl, rfl, hT, atI_nat (j := 0) rfl, rfl, .inr ⟨_, rfl, _, _, rfl, rfl, ?_⟩⟩
    exact qI q (many_dec k n)
def spStart (K : PySem.W.Frag) : Sp := fun vs H Q _ => ∃ (t : Addr) (k : Nm) (n : Nat), vs = [.ref t] ∧ Told K H t k n ∧ n ≤ 100 ∧ ∀ q, H q = none → Q (.ref q) (L2.upd H q (.lst ((startL k n).map V.int)))
theorem ok_start (T : Tx K mg) (F : FnP K "_law_start" "_law_start" s__law_start f fd) : FnOk P w K mg base CX0 1 f fd ["_law_told"] (spStart K) := by
  refine okN F sc__law_start (fun vs H Q E h => ?_) (fun cdv A outer s H vs Q E hr h => ?_)
  · obtain ⟨t, k, n, rfl, _⟩ := h
    rfl
  · obtain ⟨t, k, n, rfl, hT, hn, q⟩ := h
    refine ⟨_, (pss_one (ps_ret (pe_listRg rfl (by rfl) T.m_list (prg_2 (by rfl) T.m_range (pe_callTy call_int1 (by rfl) T.m_int (by decide +kernel) (pa_cons (pe_cmpR op_eq (pe_ix ix_tup (pv 0) pe_int (fun _ _ => rfl)) pe_str (nomark _)) pa_nil)) (pe_op op_add (pe_ix ix_tup (pv 0) pe_int (fun _ _ => rfl)) (pe_callTy call_int1 (by rfl) T.m_int (by decide +kernel) (pa_cons (pe_cmpR op_eq (pe_ix ix_tup (pv 0) pe_int (fun _ _ => rfl)) pe_str (nomark _)) pa_nil))))))), ?_⟩
    refine ⟨_, rfl, t, _, 0, _, rfl, rfl, hT, atI_nat (j := 0) rfl, rfl, .inr ⟨_, rfl, _, rfl, t, _, 1, _, rfl, rfl, hT, atI_nat (j := 1) rfl, _, rfl, t, _, 0, _, rfl, rfl, hT, atI_nat (j := 0) rfl, rfl, .inr ⟨_, rfl, _, _, rfl, rfl, _, _, rfl, rfl, ?_, fun l nl => ?_⟩⟩⟩
    · have e := off_dec k
      have h0 : 0 ≤ off k ∧ off k ≤ 1 := by unfold off; split <;> omega
      rw [e]
      exact RgOk.of_le h0.1 (by omega) (by omega) (by omega)
    · have e := off_dec k
      rw [e, rg_start]
      exact q l nl
def spItem (K : PySem.W.Frag) : Sp := fun vs H Q _ => ∃ (t o : Addr) (p : Int) (k : Nm) (n : Nat) (ws : List Int), vs = [.ref t, .ref o, .int p] ∧ Told K H t k n ∧ SqL K H o (ws.map V.int) ∧ ws.length = n ∧ 1 ≤ n ∧ okP k n p ∧ Q (.int (item k n ws p)) H
theorem ok_item (T : Tx K mg) (F : FnP K "_law_item" "_law_item" s__law_item f fd) : FnOk P w K mg base CX0 1 f fd ["_law_told", "_law_order_here", "_law_place"] (spItem K) := by
  refine okN F sc__law_item (fun vs H Q E h => ?_) (fun cdv A outer s H vs Q E hr h => ?_)
  · obtain ⟨t, o, p, k, n, ws, rfl, _⟩ := h
    rfl
  · obtain ⟨t, o, p, k, n, ws, rfl, hT, hO, hl, hn, hp, q⟩ := h
    refine ⟨_, (pss_cons (ps_if (pt_cmpR op_eq (pe_ix ix_tup (pv 0) pe_int (fun _ _ => rfl)) pe_str (nomark _)) (pss_one (ps_ret (pe_op op_mul (pe_ix ix_list (pv 1) (pe_op op_sub (pe_callB call_abs (by rfl) T.m_abs (by decide +kernel) (pa_cons (pv 2) pa_nil)) pe_int) (fun _ _ => rfl)) (pe_ifExp (pt_cmpR op_gt (pv 2) pe_int (nomark _)) pe_int (pe_un un_neg pe_int))))) pss_nil)
      (pss_one (ps_ret (pe_op op_sub (pe_op op_add (pe_ix ix_list (pv 1) (pe_op op_mod (pe_callTy call_int1 (by rfl) T.m_int (by decide +kernel) (pa_cons (pv 2) pa_nil)) (pe_ix ix_tup (pv 0) pe_int (fun _ _ => rfl))) (fun _ _ => rfl)) (pv 2)) (pe_op op_mod (pe_callTy call_int1 (by rfl) T.m_int (by decide +kernel) (pa_cons (pv 2) pa_nil)) (pe_ix ix_tup (pv 0) pe_int (fun _ _ => rfl))))))), ?_⟩
    refine ⟨_, rfl, t, _, 0, _, rfl, rfl, hT, atI_nat (j := 0) rfl, rfl, _, rfl, ite2 (fun hk => ?_) (fun hk => ?_)⟩
    · have ek := is_mi hk
      subst ek
      obtain ⟨p0, p1⟩ := hp rfl
      have hi : p.natAbs - 1 < ws.length := by omega
      refine ⟨_, rfl, _, rfl, _, rfl, _, _, rfl, rfl, o, _, _, _, rfl, rfl, hO, at_of ?_ (map_getD hi), _, rfl, _, _, rfl, rfl, _, rfl, ite2 (fun hp => ?_) (fun hp => ?_)⟩
      · rw [abs_eq]
        omega
      · refine ⟨_, _, rfl, rfl, .inr ⟨by decide, by decide⟩, qI q ?_⟩
        rw [item_mi, sg_pos (of_decide_eq_true hp)]
      · refine ⟨_, rfl, _, _, rfl, rfl, .inr ⟨by decide, by decide⟩, qI q ?_⟩
        have : ¬ (0 : Int) < p := fun z => hp (decide_eq_true z)
        rw [item_mi, sg_neg (by omega)]
    · have ek := not_mi hk
      have hn' : (0 : Int) < (n : Int) := by omega
      have hm1 : 0 ≤ p % (n : Int) := Int.emod_nonneg p (by omega)
      have hm2 : p % (n : Int) < (n : Int) := Int.emod_lt_of_pos p hn'
      have hi : (p % (n : Int)).toNat < ws.length := by omega
      refine ⟨_, rfl, _, rfl, .inl ⟨_, rfl, _, rfl, t, _, 1, _, rfl, rfl, hT, atI_nat (j := 1) rfl, _, _, rfl, rfl, hn', o, _, _, _, rfl, rfl, hO, at_of (Int.toNat_of_nonneg hm1).symm (map_getD hi), _, rfl, _, _, rfl, rfl, _, rfl, .inl ⟨_, rfl, _, rfl, t, _, 1, _, rfl, rfl, hT, atI_nat (j := 1) rfl, _, _, rfl, rfl, hn', _, _, rfl, rfl, qI q ?_⟩⟩⟩
      rw [item_nm ek]
def spTurned (K : PySem.W.Frag) : Sp := fun vs H Q _ => ∃ (t : Addr) (s p : Int) (k : Nm) (n : Nat), vs = [.ref t, .int s, .int p] ∧ Told K H t k n ∧ 1 ≤ n ∧ ∀ H', Same H H' → Q (.int (turned k n s p)) H'
theorem ok_turned (T : Tx K mg) (F : FnP K "_law_turned" "_law_turned" s__law_turned f fd) : FnOk P w K mg base CX0 1 f fd ["_law_told", "_law_step", "_law_place"] (spTurned K) := by
  refine okN F sc__law_turned (fun vs H Q E h => ?_) (fun cdv A outer s H vs Q E hr h => ?_)
  · obtain ⟨t, s, p, k, n, rfl, _⟩ := h
    rfl
  · obtain ⟨t, z, p, k, n, rfl, hT, hn, q⟩ := h
    refine ⟨_, (pss_cons (ps_if (pt_cmpR op_eq (pe_ix ix_tup (pv 0) pe_int (fun _ _ => rfl)) pe_str (nomark _)) (pss_cons (ps_if (pt_cmpR op_eq (pv 1) pe_int (nomark _)) (pss_one (ps_ret (pe_ifExp (pt_cmpR op_eq (pe_callB call_abs (by rfl) T.m_abs (by decide +kernel) (pa_cons (pv 2) pa_nil)) pe_int (nomark _)) (pe_un un_neg (pv 2)) (pv 2)))) pss_nil)
      (pss_cons (ps_if (pt_cmpR op_in_seq (pe_callB call_abs (by rfl) T.m_abs (by decide +kernel) (pa_cons (pv 2) pa_nil)) (pe_lst (pa_cons (pv 1) (pa_cons (pe_op op_add (pv 1) pe_int) pa_nil))) (by with_unfolding_all rfl)) (pss_one (ps_ret (pe_op op_mul (pe_op op_sub (pe_op op_add (pe_op op_mul pe_int (pv 1)) pe_int) (pe_callB call_abs (by rfl) T.m_abs (by decide +kernel) (pa_cons (pv 2) pa_nil))) (pe_ifExp (pt_cmpR op_gt (pv 2) pe_int (nomark _)) pe_int (pe_un un_neg pe_int))))) pss_nil)
      (pss_one (ps_ret (pv 2))))) pss_nil)
      (pss_cons (ps_set (i := 3) sc__law_turned.nd rfl (by first | exact Or.inl rfl | exact Or.inr rfl) (pe_op op_mod (pe_callTy call_int1 (by rfl) T.m_int (by decide +kernel) (pa_cons (pe_op op_sub (pv 2) (pv 1)) pa_nil)) (pe_ix ix_tup (pv 0) pe_int (fun _ _ => rfl))))
      (pss_one (ps_ret (pe_ifExp (pt_cmpR op_eq (pv 3) pe_int (nomark _)) (pe_op op_add (pv 2) pe_int) (pe_ifExp (pt_cmpR op_eq (pv 3) pe_int (nomark _)) (pe_op op_sub (pv 2) pe_int) (pv 2))))))), ?_⟩
    refine ⟨_, rfl, t, _, 0, _, rfl, rfl, hT, atI_nat (j := 0) rfl, rfl, _, rfl, ite2 (fun hk => ?_) (fun hk => ?_)⟩
    · have ek := is_mi hk
      subst ek
      have q' := q H (Same.refl H)
      refine ⟨_, rfl, rfl, _, rfl, ite2 (fun h0 => ?_) (fun h0 => ?_)⟩
      · have e0 : z = 0 := V.int.inj (of_decide_eq_true h0)
        refine ⟨_, rfl, _, rfl, rfl, _, rfl, ite2 (fun h1 => ?_) (fun h1 => ?_)⟩
        · have e1 : (if p < 0 then -p else p) = 1 := V.int.inj (of_decide_eq_true h1)
          rw [abs_eq] at e1
          refine ⟨_, rfl, _, rfl, qI q' ?_⟩
          rw [turned_mi, if_pos e0, if_pos (by omega)]
        · have e1 : ¬ (if p < 0 then -p else p) = 1 := fun e => h1 (decide_eq_true (congrArg V.int e))
          rw [abs_eq] at e1
          refine ⟨_, rfl, qI q' ?_⟩
          rw [turned_mi, if_pos e0, if_neg (by omega)]
      · have e0 : ¬ z = 0 := fun e => h0 (decide_eq_true (congrArg V.int e))
        refine ⟨_, rfl, _, rfl, _, rfl, _, rfl, _, _, rfl, rfl, (by show 2 ≤ sizeLine; decide), fun l nl => ?_⟩
        refine ⟨l, _, rfl, .inl (SqL.of upd_same), rfl, rfl, _, rfl, ite2 (fun h1 => ?_) (fun h1 => ?_)⟩
        · have e1 : ((z == (if p < 0 then -p else p)) || ((z + 1 == (if p < 0 then -p else p)) || false)) = true := h1
          have e2 : (p.natAbs : Int) = z ∨ (p.natAbs : Int) = z + 1 := by
            rw [abs_eq] at e1
            simp at e1
            omega
          refine ⟨_, rfl, _, _, rfl, rfl, .inl ⟨by decide, by decide⟩, _, _, rfl, rfl, _, rfl, _, rfl, _, _, rfl, rfl, _, rfl, _, _, rfl, rfl, _, rfl, ite2 (fun hp => ?_) (fun hp => ?_)⟩
          · refine ⟨_, _, rfl, rfl, .inr ⟨by decide, by decide⟩, qI (q _ (Same.upd nl)) ?_⟩
            rw [turned_mi, if_neg e0, if_pos e2, sg_pos (of_decide_eq_true hp), abs_eq]
          · refine ⟨_, rfl, _, _, rfl, rfl, .inr ⟨by decide, by decide⟩, qI (q _ (Same.upd nl)) ?_⟩
            have : ¬ (0 : Int) < p := fun z => hp (decide_eq_true z)
            rw [turned_mi, if_neg e0, if_pos e2, abs_eq]
            unfold sg
            rw [if_neg this]
        · have e1 : ¬ ((z == (if p < 0 then -p else p)) || ((z + 1 == (if p < 0 then -p else p)) || false)) = true := h1
          have e2 : ¬ ((p.natAbs : Int) = z ∨ (p.natAbs : Int) = z + 1) := by
            rw [abs_eq] at e1
            simp at e1
            omega
          refine ⟨_, rfl, qI (q _ (Same.upd nl)) ?_⟩
          rw [turned_mi, if_neg e0, if_neg e2]
    · have ek := not_mi hk
      have q' := q H (Same.refl H)
      have hn' : (0 : Int) < (n : Int) := by omega
      refine ⟨_, rfl, _, rfl, _, _, rfl, rfl, .inl ⟨_, rfl, _, rfl, t, _, 1, _, rfl, rfl, hT, atI_nat (j := 1) rfl, _, _, rfl, rfl, hn', ?_⟩⟩
      refine ⟨_, rfl, rfl, _, rfl, ite2 (fun h0 => ?_) (fun h0 => ?_)⟩
      · have e0 : (p - z) % (n : Int) = 0 := V.int.inj (of_decide_eq_true h0)
        refine ⟨_, rfl, _, _, rfl, rfl, qI q' ?_⟩
        rw [turned_nm ek, if_pos e0]
      · have e0 : ¬ (p - z) % (n : Int) = 0 := fun e => h0 (decide_eq_true (congrArg V.int e))
        refine ⟨_, rfl, rfl, _, rfl, ite2 (fun h1 => ?_) (fun h1 => ?_)⟩
        · have e1 : (p - z) % (n : Int) = 1 := V.int.inj (of_decide_eq_true h1)
          refine ⟨_, rfl, _, _, rfl, rfl, qI q' ?_⟩
          rw [turned_nm ek, if_neg e0, if_pos e1]
        · have e1 : ¬ (p - z) % (n : Int) = 1 := fun e => h1 (decide_eq_true (congrArg V.int e))
          refine ⟨_, rfl, qI q' ?_⟩
          rw [turned_nm ek, if_neg e0, if_neg e1]
def spStepped (K : PySem.W.Frag) : Sp := fun vs H Q _ => ∃ (t o : Addr) (s : Int) (k : Nm) (n : Nat) (ws : List Int), vs = [.ref t, .ref o, .int s] ∧ Told K H t k n ∧ SqL K H o (ws.map V.int) ∧ ws.length = n ∧ okK k n = true ∧ okS k n s ∧
  ∀ (q : Addr) (H' : Hp), Same H H' → H q = none → H' q = some (.lst ((stepped k n ws s).map V.int)) → Q (.ref q) H'
theorem ok_stepped (T : Tx K mg) (F : FnP K "_law_stepped" "_law_stepped" s__law_stepped f fd) (c_law_start : Gd P w K mg base "_law_start" ["_law_told"] 1 (spStart K))
    (c_law_item : Gd P w K mg base "_law_item" ["_law_told", "_law_order_here", "_law_place"] 1 (spItem K)) (c_law_turned : Gd P w K mg base "_law_turned" ["_law_told", "_law_step", "_law_place"] 1 (spTurned K)) :
    FnOk P w K mg base CX0 2 f fd ["_law_told", "_law_order_here", "_law_step"] (spStepped K) := by
  refine okN F sc__law_stepped (fun vs H Q E h => ?_) (fun cdv A outer s H vs Q E hr h => ?_)
  · obtain ⟨t, o, s, k, n, ws, rfl, _⟩ := h
    rfl
  · obtain ⟨t, o, z, k, n, ws, rfl, hT, hO, hl, hK, hs, q⟩ := h
    have hn := okK_le hK
    refine ⟨_, (pss_one (ps_ret (pe_lc (own := [(("_law_place" : Str), 3)]) (g := (gName 3)) (tt := tYes) rfl sc__law_stepped.nd (pi_list (pe_callG c_law_start (hr.mono (by decide)) (by rfl) (pa_cons (pv 0) pa_nil))) (blkOk_by (own := [(("_law_place" : Str), 3)]) (N := ["_law_told", "_law_order_here", "_law_step", "_law_place"]) (sc := defScope s__law_stepped) (by decide +kernel)) (fun _ _ _ _ _ => (pg_name (i := 3) sc__law_stepped.nd rfl (Or.inl rfl))) (fun _ _ _ _ _ => pts_nil) (fun _ _ _ _ _ => (pe_callG c_law_item (hr.mono (by decide)) (by rfl) (pa_cons (pv 0) (pa_cons (pv 1) (pa_cons (pe_callG c_law_turned (hr.mono (by decide)) (by rfl) (pa_cons (pv 0) (pa_cons (pv 2) (pa_cons (pv 3) pa_nil)))) pa_nil)))))))), ?_⟩
    refine ⟨_, rfl, t, k, n, rfl, hT, by omega, fun l nl => ?_⟩
    refine ⟨l, rfl, ⟨_, SqL.of upd_same⟩, fun D nD => ?_⟩
    have f0 : Same H (L2.upd H l (.lst ((startL k n).map V.int))) := Same.upd nl
    refine lc_list (K := K) (a := l) (xs := (startL k n).map V.int) (fun i H2 => H2 D = some (.lst (((stepped k n ws z).take i).map V.int)) ∧ Same (L2.upd H l (.lst ((startL k n).map V.int))) H2) ⟨upd_same, Same.upd nD⟩ (fun i H2 _ h2 => h2.2.seq (SqL.of upd_same)) ?_ ?_
    · rintro i x H2 hi ⟨hD, s2⟩
      have hin : i < n := by
        have := (List.getElem?_eq_some_iff.mp hi).1
        rw [List.length_map, startL_len] at this
        exact this
      rw [List.getElem?_map, startL_get k n i hin] at hi
      have ex : x = .int (off k + (i : Int)) := (Option.some.inj hi).symm
      subst ex
      have hp : okP k n (off k + (i : Int)) := startL_okP (List.mem_of_getElem? (startL_get k n i hin))
      refine ⟨rfl, ?_⟩
      refine ⟨_, rfl, _, rfl, _, rfl, _, rfl, _, rfl, t, z, _, k, n, rfl, Same.tup (f0.trans s2) hT, hn.1, fun H3 s3 => ?_⟩
      refine ⟨t, o, _, k, n, ws, rfl, Same.tup ((f0.trans s2).trans s3) hT, ((f0.trans s2).trans s3).seq hO, hl, hn.1, turned_ok hs hp, ?_⟩
      refine ⟨_, s3 _ _ hD, ?_, ?_, fun b y e => ?_⟩
      · rw [List.length_map, List.length_take]
        exact Nat.lt_of_le_of_lt (Nat.min_le_left _ _) (small1000 (by omega))
      · rw [upd_same]
        have g : (stepped k n ws z)[i]? = some (item k n ws (turned k n z (off k + (i : Int)))) := by
          unfold stepped
          rw [List.getElem?_map, startL_get k n i hin]
          rfl
        rw [List.take_add_one, g, List.map_append]
        rfl
      · rw [upd_ne (ne_of_none e nD)]
        exact s3 _ _ (s2 _ _ e)
    · rintro H2 ⟨hD, s2⟩
      rw [List.length_map, startL_len, List.take_of_length_le (by rw [stepped_len]; omega)] at hD
      exact q D H2 (f0.trans s2) (f0.free nD) hD
def spCrossed (K : PySem.W.Frag) : Sp := fun vs H Q _ => ∃ (t o : Addr) (s : Int) (k : Nm) (n : Nat) (ws : List Int), vs = [.ref t, .ref o, .int s] ∧ Told K H t k n ∧ SqL K H o (ws.map V.int) ∧ ws.length = n ∧ okK k n = true ∧ okS k n s ∧
  ∀ (H' : Hp), Same H H' → Q (.bl (crossed k n ws s)) H'
theorem ok_crossed (T : Tx K mg) (F : FnP K "_law_is_crossed" "_law_is_crossed" s__law_is_crossed f fd)
    (c_law_item : Gd P w K mg base "_law_item" ["_law_told", "_law_order_here", "_law_place"] 1 (spItem K)) (c_law_turned : Gd P w K mg base "_law_turned" ["_law_told", "_law_step", "_law_place"] 1 (spTurned K)) :
    FnOk P w K mg base CX0 2 f fd ["_law_told", "_law_order_here", "_law_step"] (spCrossed K) := by
  refine okN F sc__law_is_crossed (fun vs H Q E h => ?_) (fun cdv A outer s H vs Q E hr h => ?_)
  · obtain ⟨t, o, s, k, n, ws, rfl, _⟩ := h
    rfl
  · obtain ⟨t, o, z, k, n, ws, rfl, hT, hO, hl, hK, hs, q⟩ := h
    have hn := okK_le hK
    refine ⟨_, (pss_cons (ps_set (i := 3) sc__law_is_crossed.nd rfl (by first | exact Or.inl rfl | exact Or.inr rfl) (pe_ifExp (pt_cmpR op_ne (pe_ix ix_tup (pv 0) pe_int (fun _ _ => rfl)) pe_str (nomark _)) (pv 2) (pe_ifExp (pt_cmpR op_gt (pv 2) pe_int (nomark _)) (pv 2) (pe_un un_neg pe_int))))
      (pss_one (ps_ret (pe_cmpR op_gt (pe_callG c_law_item (hr.mono (by decide)) (by rfl) (pa_cons (pv 0) (pa_cons (pv 1) (pa_cons (pv 3) pa_nil)))) (pe_callG c_law_item (hr.mono (by decide)) (by rfl) (pa_cons (pv 0) (pa_cons (pv 1) (pa_cons (pe_callG c_law_turned (hr.mono (by decide)) (by rfl) (pa_cons (pv 0) (pa_cons (pv 2) (pa_cons (pv 3) pa_nil)))) pa_nil)))) (nomark _))))), ?_⟩
    refine ⟨_, rfl, t, _, 0, _, rfl, rfl, hT, atI_nat (j := 0) rfl, rfl, _, rfl, ite2 (fun hk => ?_) (fun hk => ?_)⟩
    · have ek : k ≠ .mi := by
        intro e
        subst e
        exact absurd hk (by decide +kernel)
      have el : z = low k z := by unfold low; rw [if_neg ek]
      refine ⟨_, rfl, ?_⟩
      have hp : okP k n z := by have := low_okP hs; rw [← el] at this; exact this
      refine ⟨_, rfl, _, rfl, _, rfl, t, o, z, k, n, ws, rfl, hT, hO, hl, hn.1, hp, ?_⟩
      refine ⟨_, rfl, _, rfl, _, rfl, _, rfl, _, rfl, t, z, z, k, n, rfl, hT, hn.1, fun H3 s3 => ?_⟩
      refine ⟨t, o, _, k, n, ws, rfl, Same.tup s3 hT, s3.seq hO, hl, hn.1, turned_ok hs hp, _, _, rfl, rfl, qB (q H3 s3) ?_⟩
      unfold crossed
      rw [← el]
    · have ek : k = .mi := by
        cases k with
        | mi => rfl
        | pl => exact absurd (by decide +kernel) hk
        | ri => exact absurd (by decide +kernel) hk
      subst ek
      refine ⟨_, rfl, _, _, rfl, rfl, _, rfl, ite2 (fun hz => ?_) (fun hz => ?_)⟩
      · have el : z = low .mi z := (if_pos (of_decide_eq_true hz)).symm
        refine ⟨_, rfl, ?_⟩
        have hp : okP .mi n z := by have := low_okP hs; rw [← el] at this; exact this
        refine ⟨_, rfl, _, rfl, _, rfl, t, o, z, .mi, n, ws, rfl, hT, hO, hl, hn.1, hp, ?_⟩
        refine ⟨_, rfl, _, rfl, _, rfl, _, rfl, _, rfl, t, z, z, .mi, n, rfl, hT, hn.1, fun H3 s3 => ?_⟩
        refine ⟨t, o, _, .mi, n, ws, rfl, Same.tup s3 hT, s3.seq hO, hl, hn.1, turned_ok hs hp, _, _, rfl, rfl, qB (q H3 s3) ?_⟩
        unfold crossed
        rw [← el]
      · have el : -1 = low .mi z := (if_neg (fun h => hz (decide_eq_true h))).symm
        refine ⟨_, rfl, ?_⟩
        have hp : okP .mi n (-1) := by have := low_okP hs; rw [← el] at this; exact this
        refine ⟨_, rfl, _, rfl, _, rfl, t, o, -1, .mi, n, ws, rfl, hT, hO, hl, hn.1, hp, ?_⟩
        refine ⟨_, rfl, _, rfl, _, rfl, _, rfl, _, rfl, t, z, -1, .mi, n, rfl, hT, hn.1, fun H3 s3 => ?_⟩
        refine ⟨t, o, _, .mi, n, ws, rfl, Same.tup s3 hT, s3.seq hO, hl, hn.1, turned_ok hs hp, _, _, rfl, rfl, qB (q H3 s3) ?_⟩
        unfold crossed
        rw [← el]
end
end Sv

namespace Sv
open PySem PySem.Spec PyProof.Rows L2
section
variable {P : Program} {w : World} {K : PySem.W.Frag} {mg : Str → Option Value} {base : Heap} {f : Addr} {fd : FuncData}
theorem many_nn {k : Nm} {n : Nat} (hK : okK k n = true) : 0 ≤ many k n ∧ many k n ≤ 7 := by
  have := okK_le hK
  unfold many
  split <;> omega
theorem Same.gen {H H' : Hp} {g : Addr} {a b c : Int} (s : L2.Same H H') (h : GenAt H g a b c) : GenAt H' g a b c := s _ _ h
def spRow (K : PySem.W.Frag) : Sp := fun vs H Q _ => ∃ (g t : Addr) (a b c : Int) (k : Nm) (n m : Nat), vs = [.ref g, .ref t, .int (m : Int)] ∧ GenAt H g a b c ∧ (0 ≤ c ∧ c ≤ 800000) ∧ Told K H t k n ∧ t ≠ g ∧ okK k n = true ∧ m ≤ 1000 ∧
  ∀ (q : Addr) (xs : List Int) (a' c' : Int) (H' : Hp), (∀ x ∈ xs, okS k n x) → xs.length ≤ m → 0 ≤ c' → c' ≤ c + 1 + m → GenAt H' g a' b c' → SameX g H H' → H q = none → q ≠ g → H' q = some (.lst (xs.map V.int)) → Q (.ref q) H'
theorem ok_row (T : Tx K mg) (F : FnP K "_law_row" "_law_row" s__law_row f fd) (c_law_many : Gd P w K mg base "_law_many" ["_law_told"] 1 (spMany K))
    (c_law_random : Gd P w K mg base "_law_random" ["_law_generator_here", "_law_bound"] 2 spRandom) : FnOk P w K mg base CX0 3 f fd ["_law_generator_here", "_law_told", "_law_most"] (spRow K) := by
  refine okN F sc__law_row (fun vs H Q E h => ?_) (fun cdv A outer s H vs Q E hr h => ?_)
  · obtain ⟨g, t, a, b, c, k, n, m, rfl, _⟩ := h
    rfl
  · obtain ⟨g, t, a, b, c, k, n, m, rfl, hg, ⟨c0, c1⟩, hT, htg, hK, hm, q⟩ := h
    have hmn := many_nn hK
    refine ⟨_, (pss_cons (ps_if (pt_cmpR op_eq (pe_callG c_law_many (hr.mono (by decide)) (by rfl) (pa_cons (pv 1) pa_nil)) pe_int (nomark _)) (pss_one (ps_ret (pe_lst pa_nil))) pss_nil)
      (pss_one (ps_ret (pe_lc (own := [(("_law_turn" : Str), 3)]) (g := (gName 3)) (tt := tYes) rfl sc__law_row.nd (pi_range1 (by rfl) T.m_range (pa_cons (pe_callG c_law_random (hr.mono (by decide)) (by rfl) (pa_cons (pv 0) (pa_cons (pe_op op_add (pv 2) pe_int) pa_nil))) pa_nil)) (blkOk_by (own := [(("_law_turn" : Str), 3)]) (N := ["_law_generator_here", "_law_told", "_law_most", "_law_turn"]) (sc := defScope s__law_row) (by decide +kernel)) (fun _ _ _ _ _ => (pg_name (i := 3) sc__law_row.nd rfl (Or.inl rfl))) (fun _ _ _ _ _ => pts_nil) (fun _ _ _ _ _ => (pe_callG c_law_random (hr.mono (by decide)) (by rfl) (pa_cons (pv 0) (pa_cons (pe_callG c_law_many (hr.mono (by decide)) (by rfl) (pa_cons (pv 1) pa_nil)) pa_nil)))))))), ?_⟩
    refine ⟨_, rfl, t, k, n, rfl, hT, rfl, _, rfl, ite2 (fun h0 => ?_) (fun h0 => ?_)⟩
    · refine ⟨Nat.zero_le _, fun l nl => ?_⟩
      exact q l [] a c _ (fun x hx => by cases hx) (Nat.zero_le _) c0 (by omega) (hg.upd nl) (Same.x g (Same.upd nl)) nl (ne_of_none hg nl).symm upd_same
    · have hm0 : 0 < many k n := by
        have : ¬ many k n = 0 := fun e => h0 (decide_eq_true (congrArg V.int e))
        omega
      refine ⟨_, rfl, _, rfl, _, _, rfl, rfl, g, a, b, c, _, rfl, hg, ⟨by omega, by omega⟩, ⟨c0, by omega⟩, fun r a1 c2 H1 p0 p1 p2 p3 g1 x1 => ?_⟩
      refine ⟨r, rfl, by omega, by omega, fun D nD => ?_⟩
      have nDg : D ≠ g := (ne_of_none g1 nD).symm
      refine lc_range (lo := 0) (n := r.toNat) (fun i H2 => ∃ (xs : List Int) (a' c' : Int), H2 D = some (.lst (xs.map V.int)) ∧ xs.length = i ∧ (∀ x ∈ xs, okS k n x) ∧ (0 ≤ c' ∧ c' ≤ c + 1 + i) ∧ GenAt H2 g a' b c' ∧ SameX g H1 H2)
        ⟨[], a1, c2, upd_same, rfl, (fun x hx => by cases hx), ⟨p2, by omega⟩, g1.upd nD, Same.x g (Same.upd nD)⟩ ?_ ?_
      · rintro i H2 hi ⟨xs, a', c', hD, hl, hx, ⟨d0, d1⟩, g2, x2⟩
        refine ⟨rfl, ?_⟩
        refine ⟨_, rfl, _, rfl, t, k, n, rfl, x2.tup htg (x1.tup htg hT), g, a', b, c', _, rfl, g2, ⟨hm0, by omega⟩, ⟨d0, by omega⟩, fun z a3 c4 H3 q0 q1 q2 q3 g3 x3 => ?_⟩
        have hD3 : H3 D = some (.lst (xs.map V.int)) := x3 _ _ hD nDg
        refine ⟨_, hD3, ?_, xs ++ [z], a3, c4, ?_, ?_, ?_, ⟨q2, by omega⟩, ?_, ?_⟩
        · rw [List.length_map]
          exact small1000 (by omega)
        · rw [upd_same, List.map_append]
          rfl
        · rw [List.length_append, hl]
          rfl
        · intro y hy
          rcases List.mem_append.mp hy with h | h
          · exact hx y h
          · rw [List.mem_singleton.mp h]
            exact ⟨q0, q1⟩
        · show L2.upd H3 D _ g = _
          rw [upd_ne nDg.symm]
          exact g3
        · intro y o e ny
          rw [upd_ne (ne_of_none e nD)]
          exact x3 _ _ (x2 _ _ e ny) ny
      · rintro H2 ⟨xs, a', c', hD, hl, hx, ⟨d0, d1⟩, g2, x2⟩
        exact q D xs a' c' H2 hx (by omega) d0 (by omega) g2 (x1.trans x2) (x1.free hg g1 nD) nDg hD
def spGained (K : PySem.W.Frag) : Sp := fun vs H Q _ => ∃ (t o : Addr) (s : Int) (k : Nm) (n : Nat) (ws : List Int), vs = [.ref t, .ref o, .int s] ∧ Told K H t k n ∧ SqL K H o (ws.map V.int) ∧ ws.length = n ∧ okK k n = true ∧ okS k n s ∧
  ∀ (q : Addr) (H' : Hp), Same H H' → (q = o ∨ H q = none) → SqL K H' q ((gained k n ws s).map V.int) → Q (.ref q) H'
theorem ok_gained (T : Tx K mg) (F : FnP K "_law_gained" "_law_gained" s__law_gained f fd)
    (c_law_is_crossed : Gd P w K mg base "_law_is_crossed" ["_law_told", "_law_order_here", "_law_step"] 2 (spCrossed K)) (c_law_stepped : Gd P w K mg base "_law_stepped" ["_law_told", "_law_order_here", "_law_step"] 2 (spStepped K)) :
    FnOk P w K mg base CX0 3 f fd ["_law_told", "_law_order_here", "_law_step"] (spGained K) := by
  refine okN F sc__law_gained (fun vs H Q E h => ?_) (fun cdv A outer s H vs Q E hr h => ?_)
  · obtain ⟨t, o, s, k, n, ws, rfl, _⟩ := h
    rfl
  · obtain ⟨t, o, z, k, n, ws, rfl, hT, hO, hl, hK, hs, q⟩ := h
    refine ⟨_, (pss_one (ps_ret (pe_ifExp (pt_val (pe_callG c_law_is_crossed (hr.mono (by decide)) (by rfl) (pa_cons (pv 0) (pa_cons (pv 1) (pa_cons (pv 2) pa_nil))))) (pv 1) (pe_callG c_law_stepped (hr.mono (by decide)) (by rfl) (pa_cons (pv 0) (pa_cons (pv 1) (pa_cons (pv 2) pa_nil))))))), ?_⟩
    refine ⟨_, rfl, _, rfl, _, rfl, t, o, z, k, n, ws, rfl, hT, hO, hl, hK, hs, fun H1 s1 => ?_⟩
    refine ⟨_, rfl, ite2 (fun hc => ?_) (fun hc => ?_)⟩
    · refine ⟨_, rfl, q o H1 s1 (.inl rfl) ?_⟩
      unfold gained
      rw [if_pos hc]
      exact s1.seq hO
    · refine ⟨_, rfl, _, rfl, _, rfl, t, o, z, k, n, ws, rfl, Same.tup s1 hT, s1.seq hO, hl, hK, hs, fun l H2 s2 nl hL => ?_⟩
      refine q l H2 (s1.trans s2) (.inr (s1.free nl)) ?_
      unfold gained
      rw [if_neg hc]
      exact SqL.of hL
def spOrder (K : PySem.W.Frag) : Sp := fun vs H Q _ => ∃ (g t : Addr) (a b c : Int) (k : Nm) (n m : Nat), vs = [.ref g, .ref t, .int (m : Int)] ∧ GenAt H g a b c ∧ (0 ≤ c ∧ c ≤ 800000) ∧ Told K H t k n ∧ t ≠ g ∧ okK k n = true ∧ m ≤ 1000 ∧
  ∀ (q : Addr) (ws : List Int) (a' c' : Int) (H' : Hp), Good k n ws → 0 ≤ c' → c' ≤ c + 1 + m → GenAt H' g a' b c' → SameX g H H' → q ≠ g → SqL K H' q (ws.map V.int) → Q (.ref q) H'
theorem ok_order (T : Tx K mg) (F : FnP K "_law_order" "_law_order" s__law_order f fd) (c_law_start : Gd P w K mg base "_law_start" ["_law_told"] 1 (spStart K))
    (c_law_row : Gd P w K mg base "_law_row" ["_law_generator_here", "_law_told", "_law_most"] 3 (spRow K)) (c_law_gained : Gd P w K mg base "_law_gained" ["_law_told", "_law_order_here", "_law_step"] 3 (spGained K)) :
    FnOk P w K mg base CX0 4 f fd ["_law_generator_here", "_law_told", "_law_most"] (spOrder K) := by
  refine okN F sc__law_order (fun vs H Q E h => ?_) (fun cdv A outer s H vs Q E hr h => ?_)
  · obtain ⟨g, t, a, b, c, k, n, m, rfl, _⟩ := h
    rfl
  · obtain ⟨g, t, a, b, c, k, n, m, rfl, hg, ⟨c0, c1⟩, hT, htg, hK, hm, q⟩ := h
    have hn := okK_le hK
    refine ⟨_, (pss_cons (ps_set (i := 3) sc__law_order.nd rfl (by first | exact Or.inl rfl | exact Or.inr rfl) (pe_callG c_law_start (hr.mono (by decide)) (by rfl) (pa_cons (pv 1) pa_nil)))
      (pss_cons (ps_for PassesOwn.never rfl (pi_list (pe_callG c_law_row (hr.mono (by decide)) (by rfl) (pa_cons (pv 0) (pa_cons (pv 1) (pa_cons (pv 2) pa_nil))))) (pg_name (i := 4) sc__law_order.nd rfl (Or.inl rfl)) (pss_one (ps_set (i := 3) sc__law_order.nd rfl (by first | exact Or.inl rfl | exact Or.inr rfl) (pe_callG c_law_gained (hr.mono (by decide)) (by rfl) (pa_cons (pv 1) (pa_cons (pv 3) (pa_cons (pv 4) pa_nil)))))))
      (pss_one (ps_ret (pv 3))))), ?_⟩
    refine ⟨_, rfl, t, k, n, rfl, hT, by omega, fun l0 n0 => ?_⟩
    have l0g : l0 ≠ g := (ne_of_none hg n0).symm
    refine ⟨_, rfl, _, rfl, _, rfl, g, t, a, b, c, k, n, m, rfl, hg.upd n0, ⟨c0, c1⟩, Same.tup (Same.upd n0) hT, htg, hK, hm, fun l xs a1 c2 H1 hxs hlen p2 p3 g1 x1 nl lg hL => ?_⟩
    have x01 : SameX g H H1 := (Same.x g (Same.upd n0)).trans x1
    refine ⟨l, rfl, ⟨_, SqL.of hL⟩, ?_⟩
    refine for_list (K := K) (a := l) (xs := xs.map V.int) (fun i σ H2 => ∃ (fo : Addr) (ws : List Int) (v : Option V), σ = [some (.ref g), some (.ref t), some (.int (m : Int)), some (.ref fo), v] ∧ Good k n ws ∧ SqL K H2 fo (ws.map V.int) ∧ fo ≠ g ∧ Same H1 H2)
      ⟨l0, _, none, rfl, good_start hn.1, SqL.of (x1 _ _ upd_same l0g), l0g, Same.refl H1⟩ (fun i σ H2 _ ⟨_, _, _, _, _, _, _, s2⟩ => s2.seq (SqL.of hL)) ?_ ?_
    · rintro i x σ H2 hi ⟨fo, ws, v, rfl, hG, hF, hfg, s2⟩
      obtain ⟨z, hz, rfl⟩ : ∃ z, z ∈ xs ∧ x = V.int z := by
        rw [List.getElem?_map] at hi
        cases e : xs[i]? with
        | none =>
          rw [e] at hi
          cases hi
        | some z =>
          rw [e] at hi
          exact ⟨z, List.mem_of_getElem? e, (Option.some.inj hi).symm⟩
      refine ⟨_, rfl, _, rfl, _, rfl, t, fo, z, k, n, ws, rfl, Same.tup s2 (x01.tup htg hT), hF, hG.len, hK, hxs z hz, fun q2 H3 s3 hq hq3 => ?_⟩
      refine ⟨q2, _, _, rfl, good_gained hK (hxs z hz) hG, hq3, ?_, s2.trans s3⟩
      rcases hq with rfl | hq
      · exact hfg
      · exact (ne_of_none (s2 _ _ g1) hq).symm
    · rintro σ H2 ⟨fo, ws, v, rfl, hG, hF, hfg, s2⟩
      refine ⟨_, rfl, ?_⟩
      exact q fo ws a1 c2 H2 hG p2 (by omega) (s2 _ _ g1) (x01.trans (Same.x g s2)) hfg hF
/-! ### both ways by turns -/
def spWait (K : PySem.W.Frag) : Sp := fun vs H Q _ => ∃ (t o : Addr) (a b : Int) (k : Nm) (n : Nat) (ws : List Int), vs = [.ref t, .ref o, .int a, .int b] ∧ Told K H t k n ∧ SqL K H o (ws.map V.int) ∧ ws.length = n ∧ okK k n = true ∧ okS k n a ∧ okS k n b ∧
  ∀ (H' : Hp), Same H H' → Q (vOf (lw k n a b 12 1 ws ws)) H'
theorem ix_two (x y : Int) (i : Nat) : atI ([.int x, .int y] : List V) ((1 + (i : Int)) % 2) = some (.int (if (1 + i) % 2 = 1 then y else x)) := by
  by_cases h : (1 + i) % 2 = 1
  · rw [if_pos h, show (1 + (i : Int)) % 2 = ((1 : Nat) : Int) by omega]
    rfl
  · rw [if_neg h, show (1 + (i : Int)) % 2 = ((0 : Nat) : Int) by omega]
    rfl
theorem eqv_l (xs ys : List Int) : PyData.eqv (.list (xs.map PyData.int)) (.list (ys.map PyData.int)) = decide (xs = ys) := by
  rw [PyData.eqv]
  exact eqv_ints xs ys
theorem lw_hit {k : Nm} {n : Nat} {a b : Int} {f t : Nat} {xs ys : List Int} (h : stepped k n xs (if t % 2 = 1 then a else b) = stepped k n ys (if t % 2 = 1 then b else a)) : lw k n a b (f + 1) t xs ys = some t := by
  unfold lw
  rw [if_pos h]
theorem lw_miss {k : Nm} {n : Nat} {a b : Int} {f t : Nat} {xs ys : List Int} (h : ¬ stepped k n xs (if t % 2 = 1 then a else b) = stepped k n ys (if t % 2 = 1 then b else a)) :
    lw k n a b (f + 1) t xs ys = lw k n a b f (t + 1) (stepped k n xs (if t % 2 = 1 then a else b)) (stepped k n ys (if t % 2 = 1 then b else a)) := by
  show (if _ then _ else _) = _
  rw [if_neg h]
theorem ok_lwait (T : Tx K mg) (F : FnP K "_law_wait" "_law_wait" s__law_wait f fd) (c_law_stepped : Gd P w K mg base "_law_stepped" ["_law_told", "_law_order_here", "_law_step"] 2 (spStepped K)) :
    FnOk P w K mg base CX0 3 f fd ["_law_told", "_law_order_here", "_law_one", "_law_other"] (spWait K) := by
  refine okN F sc__law_wait (fun vs H Q E h => ?_) (fun cdv A outer s H vs Q E hr h => ?_)
  · obtain ⟨t, o, a, b, k, n, ws, rfl, _⟩ := h
    rfl
  · obtain ⟨t, o, a, b, k, n, ws, rfl, hT, hO, hl, hK, ha, hb, q⟩ := h
    refine ⟨_, (pss_cons (ps_par (i := 4) (j := 5) (by rfl) sc__law_wait.nd rfl rfl (by decide) rfl rfl (pa_cons (pe_callTy call_list_of (by rfl) T.m_list (by decide +kernel) (pa_cons (pv 1) pa_nil)) (pa_cons (pe_callTy call_list_of (by rfl) T.m_list (by decide +kernel) (pa_cons (pv 1) pa_nil)) pa_nil)) (by rfl))
      (pss_cons (ps_for PassesOwn.never rfl (pi_range2 (by rfl) T.m_range (pa_cons pe_int (pa_cons pe_int pa_nil))) (pg_name (i := 6) sc__law_wait.nd rfl (Or.inl rfl)) (pss_cons (ps_set (i := 4) sc__law_wait.nd rfl (by first | exact Or.inl rfl | exact Or.inr rfl) (pe_callG c_law_stepped (hr.mono (by decide)) (by rfl) (pa_cons (pv 0) (pa_cons (pv 4) (pa_cons (pe_ix ix_list (pe_lst (pa_cons (pv 3) (pa_cons (pv 2) pa_nil))) (pe_op op_mod (pe_callTy call_int1 (by rfl) T.m_int (by decide +kernel) (pa_cons (pv 6) pa_nil)) pe_int) (fun _ _ => rfl)) pa_nil)))))
      (pss_cons (ps_set (i := 5) sc__law_wait.nd rfl (by first | exact Or.inl rfl | exact Or.inr rfl) (pe_callG c_law_stepped (hr.mono (by decide)) (by rfl) (pa_cons (pv 0) (pa_cons (pv 5) (pa_cons (pe_ix ix_list (pe_lst (pa_cons (pv 2) (pa_cons (pv 3) pa_nil))) (pe_op op_mod (pe_callTy call_int1 (by rfl) T.m_int (by decide +kernel) (pa_cons (pv 6) pa_nil)) pe_int) (fun _ _ => rfl)) pa_nil)))))
      (pss_one (ps_if (pt_cmpR (op_eqD hr.units) (pv 4) (pv 5) (nomark _)) (pss_one (ps_ret (pv 6))) pss_nil)))))
      (pss_one (ps_ret pe_non)))), ?_⟩
    refine ⟨_, rfl, o, _, rfl, .inl hO, fun l nl => ?_⟩
    have f1 : Same H (L2.upd H l (.lst (ws.map V.int))) := Same.upd nl
    refine ⟨_, rfl, o, _, rfl, .inl (f1.seq hO), fun h nh => ?_⟩
    have f2 : Same H (L2.upd (L2.upd H l (.lst (ws.map V.int))) h (.lst (ws.map V.int))) := f1.trans (Same.upd nh)
    refine ⟨_, _, rfl, 1, 13, rfl, ⟨by decide, by decide, by decide, by decide⟩, ?_⟩
    refine for_range (lo := 1) (n := 12) (fun i σ H2 => ∃ (l h : Addr) (xs ys : List Int) (v : Option V), σ = [some (.ref t), some (.ref o), some (.int a), some (.int b), some (.ref l), some (.ref h), v] ∧ i ≤ 12 ∧ Same H H2 ∧
        SqL K H2 l (xs.map V.int) ∧ SqL K H2 h (ys.map V.int) ∧ xs.length = n ∧ ys.length = n ∧ lw k n a b 12 1 ws ws = lw k n a b (12 - i) (1 + i) xs ys)
      ⟨l, h, ws, ws, none, rfl, by decide, f2, (Same.upd nh).seq (SqL.of upd_same), SqL.of upd_same, hl, hl, rfl⟩ ?_ ?_
    · rintro i σ H2 hi ⟨l, h, xs, ys, v, rfl, hi2, s2, hx, hy, lx, ly, e⟩
      have hab : okS k n (if (1 + i) % 2 = 1 then a else b) := by split <;> assumption
      have hba : okS k n (if (1 + i) % 2 = 1 then b else a) := by split <;> assumption
      refine ⟨_, rfl, _, rfl, _, rfl, _, rfl, (by show 2 ≤ sizeLine; decide), fun l1 n1 => ?_⟩
      refine ⟨_, rfl, .inl ⟨_, rfl, _, _, rfl, rfl, (by show (0 : Int) < 2; decide), l1, _, _, _, rfl, rfl, SqL.of upd_same, ix_two b a i, ?_⟩⟩
      have u1 := Same.upd (o := .lst [.int b, .int a]) n1
      refine ⟨t, l, _, k, n, xs, rfl, Same.tup (s2.trans u1) hT, u1.seq hx, lx, hK, hab, fun l' H3 s3 nl' hl' => ?_⟩
      refine ⟨_, rfl, _, rfl, _, rfl, _, rfl, (by show 2 ≤ sizeLine; decide), fun l2 n2 => ?_⟩
      refine ⟨_, rfl, .inl ⟨_, rfl, _, _, rfl, rfl, (by show (0 : Int) < 2; decide), l2, _, _, _, rfl, rfl, SqL.of upd_same, ix_two a b i, ?_⟩⟩
      have u2 := Same.upd (o := .lst [.int a, .int b]) n2
      have s23 := (u1.trans s3).trans u2
      refine ⟨t, h, _, k, n, ys, rfl, Same.tup (s2.trans s23) hT, s23.seq hy, ly, hK, hba, fun h' H4 s4 nh' hh' => ?_⟩
      have hl4 : SqL K H4 l' ((stepped k n xs (if (1 + i) % 2 = 1 then a else b)).map V.int) := SqL.of (s4 _ _ (u2 _ _ hl'))
      have hh4 : SqL K H4 h' ((stepped k n ys (if (1 + i) % 2 = 1 then b else a)).map V.int) := SqL.of hh'
      have e12 : 12 - i = (11 - i) + 1 := by omega
      refine ⟨_, rfl, _, rfl, _, _, Dp.lst hl4 (dp_ints _), Dp.lst hh4 (dp_ints _), shaped_ints _, shaped_ints _, _, rfl, ite2 (fun hc => ?_) (fun hc => ?_)⟩
      · rw [eqv_l] at hc
        have hc2 := of_decide_eq_true hc
        refine ⟨_, rfl, ?_⟩
        have q2 := q H4 ((s2.trans s23).trans s4)
        rw [e, e12, lw_hit hc2] at q2
        exact qI q2 (by omega)
      · rw [eqv_l] at hc
        have hc2 : ¬ _ := fun z => hc (decide_eq_true z)
        refine ⟨l', h', _, _, _, rfl, by omega, (s2.trans s23).trans s4, hl4, hh4, stepped_len _ _ _ _, stepped_len _ _ _ _, ?_⟩
        rw [e, e12, lw_miss hc2, show 12 - (i + 1) = 11 - i by omega]
        rfl
    · rintro σ H2 ⟨l, h, xs, ys, v, rfl, hi2, s2, hx, hy, lx, ly, e⟩
      have q2 := q H2 s2
      rw [e] at q2
      exact q2
end
end Sv

namespace Sv
open PySem PySem.Spec PyProof.Rows L2
theorem iteP {c A B : Prop} [Decidable c] (h : c) (a : A) : if c then A else B := by
  rw [if_pos h]
  exact a
theorem iteN {c A B : Prop} [Decidable c] (h : ¬ c) (b : B) : if c then A else B := by
  rw [if_neg h]
  exact b
/-! ### what stands of the class Kind -/
theorem nms : ¬ (("_name" : Str) = "_size") := by decide +kernel
def flds (k : Nm) (n : Nat) : List (Str × V) := putF "_size" (.int (n : Int)) (putF "_name" (.str k.s) [])
theorem flds_eq (k : Nm) (n : Nat) : flds k n = ([("_name", V.str k.s), ("_size", V.int (n : Int))] : List (Str × V)) := by
  show (if ("_name" : Str) = "_size" then [(("_name" : Str), V.int (n : Int))] else (("_name" : Str), V.str k.s) :: putF "_size" (V.int (n : Int)) []) = ([("_name", V.str k.s), ("_size", V.int (n : Int))] : List (Str × V))
  rw [if_neg nms]
  all_goals rfl
theorem flds_name (k : Nm) (n : Nat) : (flds k n).lookup ("_name" : Str) = some (.str k.s) := by
  unfold flds
  rw [lookup_putF, if_neg nms, lookup_putF, if_pos rfl]
theorem flds_size (k : Nm) (n : Nat) : (flds k n).lookup ("_size" : Str) = some (.int (n : Int)) := by
  unfold flds
  rw [lookup_putF, if_pos rfl]
theorem flds_no (k : Nm) (n : Nat) {m : Str} (h1 : ¬ m = "_size") (h2 : ¬ m = "_name") : (flds k n).lookup m = none := by
  unfold flds
  rw [lookup_putF, if_neg h1, lookup_putF, if_neg h2]
  all_goals rfl
structure Tk (K : PySem.W.Frag) (w : World) (mg : Str → Option Value) (C D : Addr) : Prop extends Tx K mg where
  cl : Cls K C
  nN : NoAttr K C "_name"
  nS : NoAttr K C "_size"
  gC : mg "Kind" = some (.ref C)
  gD : mg "SIZES" = some (.ref D)
  ha : PySem.W.findIn K (.ref C) "__class__" = some (some (.builtin "object.__class__"))
  hn : PySem.W.specialIn K (.builtin "object.__class__") "__get__" = some (some (.builtin "getset_descriptor.__get__"))
  htk : PySem.W.takesIn K (.builtin "object.__class__") = some true
  hm : PySem.W.mroIn K C (.type "object") = some true
  me : PySem.W.kitOne K (.ref C) (.ref C) = some true
  nt : PySem.W.kitOne K (.type "tuple") (.ref C) = some false
  nf : PySem.W.notFirst K C (.type "tuple") = true
  kd : ∃ es n, KDict K w D es n
  sz : ∀ k : Nm, ∃ (t : Addr) (lo hi : Int), PySem.W.nsIn K D k.s = some (some (.ref t)) ∧ (∀ H, SqT K H t [.int lo, .int hi]) ∧ ∀ n : Nat, okK k n = true → lo ≤ (n : Int) ∧ (n : Int) ≤ hi
/-- a Kind stands at p -/
def KAt (C : Addr) (H : Hp) (p : Addr) (k : Nm) (n : Nat) : Prop := ∃ dx, H p = some (.ins C dx (flds k n))
section
variable {P : Program} {w : World} {K : PySem.W.Frag} {mg : Str → Option Value} {base : Heap} {f C D : Addr} {fd : FuncData}
def spIsWhole : Sp := fun vs H Q _ => ∃ i : Int, vs = [.int i] ∧ Q (.bl true) H
theorem ok_is_whole (T : Tk K w mg C D) (F : FnP K "is_whole" "is_whole" s_is_whole f fd) : FnOk P w K mg base CX0 1 f fd ["value"] spIsWhole := by
  refine okN F sc_is_whole (fun vs H Q E h => ?_) (fun cdv A outer s H vs Q E hr h => ?_)
  · obtain ⟨i, rfl, _⟩ := h
    rfl
  · obtain ⟨i, rfl, q⟩ := h
    refine ⟨_, (pss_one (ps_ret (pe_and (pe_callB call_isi (by rfl) T.m_isinstance (by decide +kernel) (pa_cons (pv 0) (pa_cons (pe_bltn (v := .ty "int") (by rfl) T.m_int (by decide +kernel) rfl) pa_nil))) (pe_one (pe_not (pe_callB call_isi (by rfl) T.m_isinstance (by decide +kernel) (pa_cons (pv 0) (pa_cons (pe_bltn (v := .ty "bool") (by rfl) T.m_bool (by decide +kernel) rfl) pa_nil)))))))), ?_⟩
    refine ⟨_, rfl, .int i, .ty "int", .type "int", .type "int", true, rfl, .ty _, .base (.int i), kit_ty (by decide +kernel), true, rfl, ?_⟩
    refine ⟨_, rfl, .int i, .ty "bool", .type "int", .type "bool", false, rfl, .ty _, .base (.int i), kit_ty (by decide +kernel), false, rfl, q⟩
def spInit (C : Addr) : Sp := fun vs H Q _ => ∃ (p dx : Addr) (k : Nm) (n : Nat), vs = [.ref p, .str k.s, .int (n : Int)] ∧ okK k n = true ∧ H p = some (.ins C dx []) ∧
  ∀ H' : Hp, H' p = some (.ins C dx (flds k n)) → (∀ b o, H b = some o → b ≠ p → H' b = some o) → Q .non H'
theorem ok_init (T : Tk K w mg C D) (F : FnP K "__init__" "Kind.__init__" s_Kind___init__ f fd) (c_is_whole : Gd P w K mg base "is_whole" ["value"] 1 spIsWhole) : FnOk P w K mg base CX0 2 f fd ["self", "name", "size"] (spInit C) := by
  refine okN F sc_Kind___init__ (fun vs H Q E h => ?_) (fun cdv A outer s H vs Q E hr h => ?_)
  · obtain ⟨p, dx, k, n, rfl, _⟩ := h
    rfl
  · obtain ⟨p, dx, k, n, rfl, hK, hp, q⟩ := h
    obtain ⟨es, nn, kd⟩ := T.kd
    obtain ⟨t, lo, hi, hns, hsq, hb⟩ := T.sz k
    obtain ⟨b1, b2⟩ := hb n hK
    refine ⟨_, (pss_cons (ps_if (pt_not (PW.pt (pw_and (pt_val (pe_callB call_isi (by rfl) T.m_isinstance (by decide +kernel) (pa_cons (pv 1) (pa_cons (pe_bltn (v := .ty "str") (by rfl) T.m_str (by decide +kernel) rfl) pa_nil)))) (pw_and1 (pt_cmpR (op_in_kd kd) (pv 1) (pe_glob (v := .ref D) (by rfl) T.gD rfl) (by rfl)))))) (pss_one ps_never) pss_nil)
      (pss_cons (ps_asg (pe_ix ix_kdict (pe_glob (v := .ref D) (by rfl) T.gD rfl) (pv 1) (fun _ _ => rfl)) (pg_tup rfl (pgs_cons (pg_name (i := 3) sc_Kind___init__.nd rfl (Or.inl rfl)) (pgs_cons (pg_name (i := 4) sc_Kind___init__.nd rfl (Or.inl rfl)) pgs_nil))))
      (pss_cons (ps_if (pt_not (PW.pt (pw_and (pt_val (pe_callG c_is_whole (hr.mono (by decide)) (by rfl) (pa_cons (pv 2) pa_nil))) (pw_and1 (pt_chain op_le op_le (pv 3) (pv 2) (pv 4)))))) (pss_one ps_never) pss_nil)
      (pss_cons (ps_fld (pv 0) (pv 1) (by rfl))
      (pss_one (ps_fld (pv 0) (pv 2) (by rfl))))))), ?_⟩
    refine ⟨_, rfl, .str k.s, .ty "str", .type "str", .type "str", true, rfl, .ty _, .base (.str _), kit_ty (by decide +kernel), true, rfl, ?_⟩
    refine ⟨_, rfl, k.s, some (.ref t), rfl, rfl, hns, true, rfl, ?_⟩
    refine ⟨_, rfl, D, k.s, .ref t, rfl, rfl, ⟨es, nn, _, kd.at_, kd.lit, hns, rfl⟩, t, _, rfl, hsq H, rfl, _, _, rfl, _, _, rfl, rfl, ?_⟩
    refine ⟨_, rfl, _, rfl, true, rfl, ?_⟩
    refine ⟨_, rfl, _, rfl, _, _, rfl, rfl, _, rfl, ?_⟩
    refine iteP (decide_eq_true b1) ?_
    refine ⟨_, rfl, _, _, rfl, rfl, _, rfl, ?_⟩
    refine iteN ?_ ?_
    · rw [decide_eq_true b2]
      decide
    refine ⟨_, rfl, _, rfl, p, C, dx, [], rfl, hp, T.cl, T.nN, (by show 0 < 1000; decide), _, rfl, _, rfl, p, C, dx, _, rfl, upd_same, T.cl, T.nS, (by show 1 < 1000; decide), ?_⟩
    refine q _ upd_same fun b o e hb => ?_
    rw [upd_ne hb, upd_ne hb]
    exact e
def spName (C : Addr) : Sp := fun vs H Q _ => ∃ (p : Addr) (k : Nm) (n : Nat), vs = [.ref p] ∧ KAt C H p k n ∧ Q (.str k.s) H
theorem ok_name (T : Tk K w mg C D) (F : FnP K "name" "Kind.name" s_Kind_name f fd) : FnOk P w K mg base CX0 1 f fd ["self"] (spName C) := by
  refine okN F sc_Kind_name (fun vs H Q E h => ?_) (fun cdv A outer s H vs Q E hr h => ?_)
  · obtain ⟨p, k, n, rfl, _⟩ := h
    rfl
  · obtain ⟨p, k, n, rfl, ⟨dx, hp⟩, q⟩ := h
    refine ⟨_, (pss_one (ps_ret (pe_fld (pv 0) (by rfl)))), ?_⟩
    exact ⟨_, rfl, p, C, dx, _, _, rfl, hp, T.cl, T.nN, flds_name k n, q⟩
def spSize (C : Addr) : Sp := fun vs H Q _ => ∃ (p : Addr) (k : Nm) (n : Nat), vs = [.ref p] ∧ KAt C H p k n ∧ Q (.int (n : Int)) H
theorem ok_size (T : Tk K w mg C D) (F : FnP K "size" "Kind.size" s_Kind_size f fd) : FnOk P w K mg base CX0 1 f fd ["self"] (spSize C) := by
  refine okN F sc_Kind_size (fun vs H Q E h => ?_) (fun cdv A outer s H vs Q E hr h => ?_)
  · obtain ⟨p, k, n, rfl, _⟩ := h
    rfl
  · obtain ⟨p, k, n, rfl, ⟨dx, hp⟩, q⟩ := h
    refine ⟨_, (pss_one (ps_ret (pe_fld (pv 0) (by rfl)))), ?_⟩
    exact ⟨_, rfl, p, C, dx, _, _, rfl, hp, T.cl, T.nS, flds_size k n, q⟩
def spSteps (C : Addr) : Sp := fun vs H Q _ => ∃ (p : Addr) (k : Nm) (n : Nat), vs = [.ref p] ∧ KAt C H p k n ∧ Q (.int (many k n)) H
theorem ok_steps (T : Tk K w mg C D) (F : FnP K "steps" "Kind.steps" s_Kind_steps f fd) : FnOk P w K mg base CX0 1 f fd ["self"] (spSteps C) := by
  refine okN F sc_Kind_steps (fun vs H Q E h => ?_) (fun cdv A outer s H vs Q E hr h => ?_)
  · obtain ⟨p, k, n, rfl, _⟩ := h
    rfl
  · obtain ⟨p, k, n, rfl, ⟨dx, hp⟩, q⟩ := h
    refine ⟨_, (pss_cons (ps_if (pt_cmpR op_eq (pe_fld (pv 0) (by rfl)) pe_str (nomark _)) (pss_one (ps_ret (pe_op op_sub (pe_fld (pv 0) (by rfl)) pe_int))) pss_nil)
      (pss_one (ps_ret (pe_fld (pv 0) (by rfl))))), ?_⟩
    refine ⟨_, rfl, p, C, dx, _, _, rfl, hp, T.cl, T.nN, flds_name k n, rfl, _, rfl, ite2 (fun hk => ?_) (fun hk => ?_)⟩
    · rw [s_pl] at hk
      refine ⟨_, rfl, p, C, dx, _, _, rfl, hp, T.cl, T.nS, flds_size k n, _, _, rfl, rfl, qI q ?_⟩
      unfold many
      rw [if_pos (of_decide_eq_true hk)]
    · rw [s_pl] at hk
      refine ⟨_, rfl, p, C, dx, _, _, rfl, hp, T.cl, T.nS, flds_size k n, qI q ?_⟩
      unfold many
      rw [if_neg (fun e => hk (decide_eq_true e))]
      omega
def spStartM (C : Addr) : Sp := fun vs H Q _ => ∃ (p : Addr) (k : Nm) (n : Nat), vs = [.ref p] ∧ KAt C H p k n ∧ n ≤ 100 ∧ ∀ q, H q = none → Q (.ref q) (L2.upd H q (.lst ((startL k n).map V.int)))
theorem rg_start0 {k : Nm} (hk : k ≠ .mi) (n : Nat) : rgV 0 (n : Int) = (startL k n).map V.int := by
  have h := rg_start k n
  have e0 : off k = 0 := if_neg hk
  rw [e0, Int.add_zero] at h
  exact h
theorem ok_startM (T : Tk K w mg C D) (F : FnP K "start" "Kind.start" s_Kind_start f fd) : FnOk P w K mg base CX0 1 f fd ["self"] (spStartM C) := by
  refine okN F sc_Kind_start (fun vs H Q E h => ?_) (fun cdv A outer s H vs Q E hr h => ?_)
  · obtain ⟨p, k, n, rfl, _⟩ := h
    rfl
  · obtain ⟨p, k, n, rfl, ⟨dx, hp⟩, hn, q⟩ := h
    refine ⟨_, (pss_cons (ps_if (pt_cmpR op_eq (pe_fld (pv 0) (by rfl)) pe_str (nomark _)) (pss_one (ps_ret (pe_listRg rfl (by rfl) T.m_list (prg_2 (by rfl) T.m_range pe_int (pe_op op_add (pe_fld (pv 0) (by rfl)) pe_int))))) pss_nil)
      (pss_one (ps_ret (pe_listRg rfl (by rfl) T.m_list (prg_1 (by rfl) T.m_range (pe_fld (pv 0) (by rfl))))))), ?_⟩
    refine ⟨_, rfl, p, C, dx, _, _, rfl, hp, T.cl, T.nN, flds_name k n, rfl, _, rfl, ite2 (fun hk => ?_) (fun hk => ?_)⟩
    · have ek := is_mi hk
      subst ek
      refine ⟨_, rfl, p, C, dx, _, _, rfl, hp, T.cl, T.nS, flds_size _ n, _, _, rfl, rfl, _, _, rfl, rfl, RgOk.of_le (by decide) (by omega) (by decide) (by omega), fun l nl => ?_⟩
      have e := rg_start .mi n
      rw [show off .mi = 1 from rfl] at e
      rw [e]
      exact q l nl
    · have ek := not_mi hk
      refine ⟨_, rfl, p, C, dx, _, _, rfl, hp, T.cl, T.nS, flds_size _ n, _, rfl, RgOk.of_le (by decide) (by omega) (by decide) (by omega), fun l nl => ?_⟩
      rw [rg_start0 ek]
      exact q l nl
def spEqK (C : Addr) : Sp := fun vs H Q _ => ∃ (p o : Addr) (k : Nm) (n : Nat), vs = [.ref p, .ref o] ∧ KAt C H p k n ∧
  ((∃ (j : Nm) (m : Nat), KAt C H o j m ∧ Q (.bl (decide (k = j ∧ n = m))) H) ∨ ((∃ ys, H o = some (.tup ys)) ∧ Q (.bl false) H))
theorem ok_eqK (T : Tk K w mg C D) (F : FnP K "__eq__" "Kind.__eq__" s_Kind___eq__ f fd) : FnOk P w K mg base CX0 1 f fd ["self", "other"] (spEqK C) := by
  refine okN F sc_Kind___eq__ (fun vs H Q E h => ?_) (fun cdv A outer s H vs Q E hr h => ?_)
  · obtain ⟨p, o, k, n, rfl, _⟩ := h
    rfl
  · obtain ⟨p, o, k, n, rfl, ⟨dx, hp⟩, h⟩ := h
    refine ⟨_, (pss_one (ps_ret (pe_and (pe_callB call_isi (by rfl) T.m_isinstance (by decide +kernel) (pa_cons (pv 1) (pa_cons (pe_glob (v := .ref C) (by rfl) T.gC rfl) pa_nil))) (pe_and (pe_cmpR op_eq (pe_fld (pv 0) (by rfl)) (pe_fld (pv 1) (by rfl)) (nomark _)) (pe_one (pe_cmpR op_eq (pe_fld (pv 0) (by rfl)) (pe_fld (pv 1) (by rfl)) (nomark _))))))), ?_⟩
    rcases h with ⟨j, m, ⟨dy, ho⟩, q⟩ | ⟨⟨ys, ho⟩, q⟩
    · refine ⟨_, rfl, .ref o, .ref C, .ref C, .ref C, true, rfl, .own C, .base (.ins ho T.cl T.ha T.hn T.htk T.hm), T.me, true, rfl, ?_⟩
      refine ⟨_, rfl, p, C, dx, _, _, rfl, hp, T.cl, T.nN, flds_name k n, _, rfl, o, C, dy, _, _, rfl, ho, T.cl, T.nN, flds_name j m, rfl, _, rfl, ite2 (fun hk => ?_) (fun hk => ?_)⟩
      · have ek : k = j := s_inj.mp (V.str.inj (of_decide_eq_true hk))
        refine ⟨_, rfl, p, C, dx, _, _, rfl, hp, T.cl, T.nS, flds_size k n, _, rfl, o, C, dy, _, _, rfl, ho, T.cl, T.nS, flds_size j m, rfl, qB q ?_⟩
        rw [Bool.eq_iff_iff]
        simp [ek]
        omega
      · have ek : ¬ k = j := fun e => hk (by rw [e]; exact decide_eq_true rfl)
        exact qB q (decide_eq_false (fun e => ek e.1)).symm
    · exact ⟨_, rfl, .ref o, .ref C, .type "tuple", .ref C, false, rfl, .own C, .base (.tup ho), T.nt, false, rfl, q⟩
def spCk (C : Addr) : Sp := fun vs H Q _ => ∃ (p : Addr) (k : Nm) (n : Nat), vs = [.ref p] ∧ KAt C H p k n ∧ Q .non H
theorem ok_check_kind (T : Tk K w mg C D) (F : FnP K "check_kind" "check_kind" s_check_kind f fd) : FnOk P w K mg base CX0 1 f fd ["kind"] (spCk C) := by
  refine okN F sc_check_kind (fun vs H Q E h => ?_) (fun cdv A outer s H vs Q E hr h => ?_)
  · obtain ⟨p, k, n, rfl, _⟩ := h
    rfl
  · obtain ⟨p, k, n, rfl, ⟨dx, hp⟩, q⟩ := h
    refine ⟨_, (pss_one (ps_if (pt_not (pt_val (pe_callB call_isi (by rfl) T.m_isinstance (by decide +kernel) (pa_cons (pv 0) (pa_cons (pe_glob (v := .ref C) (by rfl) T.gC rfl) pa_nil))))) (pss_one ps_never) pss_nil)), ?_⟩
    exact ⟨_, rfl, .ref p, .ref C, .ref C, .ref C, true, rfl, .own C, .base (.ins hp T.cl T.ha T.hn T.htk T.hm), T.me, true, rfl, q⟩
def spIsStep (C : Addr) : Sp := fun vs H Q _ => ∃ (p : Addr) (k : Nm) (n : Nat) (i : Int), vs = [.ref p, .int i] ∧ KAt C H p k n ∧ okS k n i ∧ Q (.bl true) H
theorem ok_is_step (T : Tk K w mg C D) (F : FnP K "is_step" "is_step" s_is_step f fd) (c_is_whole : Gd P w K mg base "is_whole" ["value"] 1 spIsWhole) (c_m_steps : Md P w K mg base C "steps" ["self"] 1 (spSteps C)) : FnOk P w K mg base CX0 2 f fd ["kind", "value"] (spIsStep C) := by
  refine okN F sc_is_step (fun vs H Q E h => ?_) (fun cdv A outer s H vs Q E hr h => ?_)
  · obtain ⟨p, k, n, i, rfl, _⟩ := h
    rfl
  · obtain ⟨p, k, n, i, rfl, hp, ⟨i0, i1⟩, q⟩ := h
    obtain ⟨dx, hp'⟩ := id hp
    refine ⟨_, (pss_one (ps_ret (pe_and (pe_callG c_is_whole (hr.mono (by decide)) (by rfl) (pa_cons (pv 1) pa_nil)) (pe_one (pe_chain op_le op_lt pe_int (pv 1) (pe_methG0 T.cl c_m_steps (hr.mono (by decide)) (pv 0))))))), ?_⟩
    refine ⟨_, rfl, _, rfl, true, rfl, ?_⟩
    refine ⟨_, rfl, _, _, rfl, rfl, _, rfl, ?_⟩
    refine iteP (decide_eq_true i0) ?_
    refine ⟨_, rfl, p, dx, _, rfl, hp', flds_no _ _ (by decide +kernel) (by decide +kernel), p, k, n, rfl, hp, _, _, rfl, rfl, qB q (decide_eq_true i1)⟩
def spCkS (C : Addr) : Sp := fun vs H Q _ => ∃ (p : Addr) (k : Nm) (n : Nat) (i : Int), vs = [.ref p, .int i] ∧ KAt C H p k n ∧ okS k n i ∧ Q .non H
theorem ok_check_step (T : Tk K w mg C D) (F : FnP K "check_step" "check_step" s_check_step f fd) (c_is_step : Gd P w K mg base "is_step" ["kind", "value"] 2 (spIsStep C)) : FnOk P w K mg base CX0 3 f fd ["kind", "step"] (spCkS C) := by
  refine okN F sc_check_step (fun vs H Q E h => ?_) (fun cdv A outer s H vs Q E hr h => ?_)
  · obtain ⟨p, k, n, i, rfl, _⟩ := h
    rfl
  · obtain ⟨p, k, n, i, rfl, hp, hi, q⟩ := h
    refine ⟨_, (pss_one (ps_if (pt_not (pt_val (pe_callG c_is_step (hr.mono (by decide)) (by rfl) (pa_cons (pv 0) (pa_cons (pv 1) pa_nil))))) (pss_one ps_never) pss_nil)), ?_⟩
    exact ⟨_, rfl, _, rfl, p, k, n, i, rfl, hp, hi, true, rfl, q⟩
def spWaitOf (C : Addr) : Sp := fun vs H Q _ => ∃ (p : Addr) (k : Nm) (n : Nat) (a b : Int), vs = [.ref p, .int a, .int b] ∧ KAt C H p k n ∧ Q (vOf (waitN k n a b)) H
theorem ok_wait_of (T : Tk K w mg C D) (F : FnP K "wait_of" "wait_of" s_wait_of f fd) (c_m_name : Md P w K mg base C "name" ["self"] 1 (spName C)) (c_m_size : Md P w K mg base C "size" ["self"] 1 (spSize C)) : FnOk P w K mg base CX0 2 f fd ["kind", "one", "other"] (spWaitOf C) := by
  refine okN F sc_wait_of (fun vs H Q E h => ?_) (fun cdv A outer s H vs Q E hr h => ?_)
  · obtain ⟨p, k, n, a, b, rfl, _⟩ := h
    rfl
  · obtain ⟨p, k, n, a, b, rfl, hp, q⟩ := h
    obtain ⟨dx, hp'⟩ := id hp
    have noN : (flds k n).lookup ("name" : Str) = none := flds_no _ _ (by decide +kernel) (by decide +kernel)
    have noS : (flds k n).lookup ("size" : Str) = none := flds_no _ _ (by decide +kernel) (by decide +kernel)
    refine ⟨_, (pss_cons (ps_set (i := 3) sc_wait_of.nd rfl (by first | exact Or.inl rfl | exact Or.inr rfl) (pe_callB call_abs (by rfl) T.m_abs (by decide +kernel) (pa_cons (pe_op op_sub (pv 1) (pv 2)) pa_nil)))
      (pss_cons (ps_if (PW.pt (pw_and (pt_cmpR op_eq (pe_methG0 T.cl c_m_name (hr.mono (by decide)) (pv 0)) pe_str (nomark _)) (pw_and1 (pt_cmpR op_eq (pe_op op_add (pv 1) (pv 2)) pe_int (nomark _))))) (pss_one (ps_ret pe_int)) pss_nil)
      (pss_cons (ps_if (pt_cmpR op_eq (pe_methG0 T.cl c_m_name (hr.mono (by decide)) (pv 0)) pe_str (nomark _)) (pss_cons (ps_if (pt_cmpR op_eq (pe_methG0 T.cl c_m_size (hr.mono (by decide)) (pv 0)) pe_int (nomark _)) (pss_one (ps_ret pe_non)) pss_nil)
      (pss_one (ps_set (i := 3) sc_wait_of.nd rfl (by first | exact Or.inl rfl | exact Or.inr rfl) (pe_callB (call_min2 rfl) (by rfl) T.m_min (by decide +kernel) (pa_cons (pv 3) (pa_cons (pe_op op_sub (pe_methG0 T.cl c_m_size (hr.mono (by decide)) (pv 0)) (pv 3)) pa_nil)))))) pss_nil)
      (pss_one (ps_ret (pe_ifExp (pt_cmpR op_eq (pv 3) pe_int (nomark _)) pe_int pe_int)))))), ?_⟩
    refine ⟨_, rfl, _, rfl, _, _, rfl, rfl, _, rfl, ?_⟩
    refine ⟨_, rfl, p, dx, _, rfl, hp', noN, p, k, n, rfl, hp, rfl, _, rfl, ite2 (fun hk => ?_) (fun hk => ?_)⟩
    · have ek := is_mi hk
      subst ek
      refine ⟨_, rfl, _, rfl, _, _, rfl, rfl, rfl, _, rfl, ite2 (fun h1 => ?_) (fun h1 => ?_)⟩
      · have e1 : a + b = 1 := V.int.inj (of_decide_eq_true h1)
        have e : waitN .mi n a b = some 4 := if_pos ⟨rfl, e1⟩
        rw [e] at q
        exact q
      · have e1 : ¬ a + b = 1 := fun e => h1 (decide_eq_true (congrArg V.int e))
        have e : waitN .mi n a b = some (if (if a - b < 0 then -(a - b) else a - b) = 1 then 3 else 2) := by
          unfold waitN
          rw [if_neg (fun z => e1 z.2), if_neg (by decide)]
        rw [e] at q
        refine ⟨_, rfl, p, dx, _, rfl, hp', noN, p, .mi, n, rfl, hp, rfl, _, rfl, iteN (by decide +kernel) ?_⟩
        refine ⟨_, rfl, rfl, _, rfl, ite2 (fun h2 => ?_) (fun h2 => ?_)⟩
        · rw [if_pos (V.int.inj (of_decide_eq_true h2))] at q
          exact q
        · rw [if_neg (fun e => h2 (decide_eq_true (congrArg V.int e)))] at q
          exact q
    · have ek := not_mi hk
      refine ⟨_, rfl, p, dx, _, rfl, hp', noN, p, k, n, rfl, hp, rfl, _, rfl, ite2 (fun hr2 => ?_) (fun hr2 => ?_)⟩
      · rw [s_ri] at hr2
        have er := of_decide_eq_true hr2
        subst er
        refine ⟨_, rfl, p, dx, _, rfl, hp', noS, p, .ri, n, rfl, hp, rfl, _, rfl, ite2 (fun h2 => ?_) (fun h2 => ?_)⟩
        · have e2 : (n : Int) = 2 := V.int.inj (of_decide_eq_true h2)
          have e : waitN .ri n a b = none := by
            unfold waitN
            rw [if_neg (fun z => ek z.1), if_pos rfl, if_pos (by omega)]
          rw [e] at q
          exact q
        · have e2 : ¬ (n : Int) = 2 := fun e => h2 (decide_eq_true (congrArg V.int e))
          refine ⟨_, rfl, _, rfl, p, dx, _, rfl, hp', noS, p, .ri, n, rfl, hp, _, rfl, _, _, rfl, rfl, _, _, rfl, ?_⟩
          have e : waitN .ri n a b = some (if (if (n : Int) - (if a - b < 0 then -(a - b) else a - b) < (if a - b < 0 then -(a - b) else a - b) then (n : Int) - (if a - b < 0 then -(a - b) else a - b) else (if a - b < 0 then -(a - b) else a - b)) = 1 then 3 else 2) := by
            unfold waitN
            rw [if_neg (fun z => ek z.1), if_pos rfl, if_neg (by omega)]
          rw [e] at q
          refine ⟨_, rfl, rfl, _, rfl, ite2 (fun h3 => ?_) (fun h3 => ?_)⟩
          · rw [if_pos (V.int.inj (of_decide_eq_true h3))] at q
            exact q
          · rw [if_neg (fun e => h3 (decide_eq_true (congrArg V.int e)))] at q
            exact q
      · rw [s_ri] at hr2
        have er : ¬ k = .ri := fun e => hr2 (decide_eq_true e)
        have e : waitN k n a b = some (if (if a - b < 0 then -(a - b) else a - b) = 1 then 3 else 2) := by
          unfold waitN
          rw [if_neg (fun z => ek z.1), if_neg er]
        rw [e] at q
        refine ⟨_, rfl, rfl, _, rfl, ite2 (fun h3 => ?_) (fun h3 => ?_)⟩
        · rw [if_pos (V.int.inj (of_decide_eq_true h3))] at q
          exact q
        · rw [if_neg (fun e => h3 (decide_eq_true (congrArg V.int e)))] at q
          exact q
def spWaitP (C : Addr) : Sp := fun vs H Q _ => ∃ (p : Addr) (k : Nm) (n : Nat) (a b : Int), vs = [.ref p, .int a, .int b] ∧ KAt C H p k n ∧ okS k n a ∧ okS k n b ∧ a ≠ b ∧ Q (vOf (waitN k n a b)) H
theorem ok_wait (T : Tk K w mg C D) (F : FnP K "wait" "wait" s_wait f fd) (c_check_kind : Gd P w K mg base "check_kind" ["kind"] 1 (spCk C)) (c_check_step : Gd P w K mg base "check_step" ["kind", "step"] 3 (spCkS C))
    (c_wait_of : Gd P w K mg base "wait_of" ["kind", "one", "other"] 2 (spWaitOf C)) : FnOk P w K mg base CX0 4 f fd ["kind", "one", "other"] (spWaitP C) := by
  refine okN F sc_wait (fun vs H Q E h => ?_) (fun cdv A outer s H vs Q E hr h => ?_)
  · obtain ⟨p, k, n, a, b, rfl, _⟩ := h
    rfl
  · obtain ⟨p, k, n, a, b, rfl, hp, ha, hb, hab, q⟩ := h
    refine ⟨_, (pss_cons (ps_expr (pe_callG c_check_kind (hr.mono (by decide)) (by rfl) (pa_cons (pv 0) pa_nil)))
      (pss_cons (ps_expr (pe_callG c_check_step (hr.mono (by decide)) (by rfl) (pa_cons (pv 0) (pa_cons (pv 1) pa_nil))))
      (pss_cons (ps_expr (pe_callG c_check_step (hr.mono (by decide)) (by rfl) (pa_cons (pv 0) (pa_cons (pv 2) pa_nil))))
      (pss_cons (ps_if (pt_cmpR op_eq (pv 1) (pv 2) (nomark _)) (pss_one ps_never) pss_nil)
      (pss_one (ps_ret (pe_callG c_wait_of (hr.mono (by decide)) (by rfl) (pa_cons (pv 0) (pa_cons (pv 1) (pa_cons (pv 2) pa_nil)))))))))), ?_⟩
    refine ⟨_, rfl, p, k, n, rfl, hp, ?_⟩
    refine ⟨_, rfl, _, rfl, p, k, n, a, rfl, hp, ha, ?_⟩
    refine ⟨_, rfl, _, rfl, p, k, n, b, rfl, hp, hb, ?_⟩
    refine ⟨_, rfl, _, rfl, rfl, _, rfl, iteN (fun h => hab (V.int.inj (of_decide_eq_true h))) ?_⟩
    exact ⟨_, rfl, _, rfl, _, rfl, p, k, n, a, b, rfl, hp, q⟩
end
end Sv

namespace Sv
open PySem PySem.Spec PyProof.Rows L2
def gRev (us ws : List V) : List V := us ++ ws.reverse
theorem vOf_wait (k : Nm) (n : Nat) (a b : Int) : (∃ i : Int, vOf (waitN k n a b) = .int i ∧ i.natAbs.log2 < 1920) ∨ vOf (waitN k n a b) = .non := by
  unfold waitN
  repeat' split
  all_goals first
    | exact .inr rfl
    | exact .inl ⟨4, rfl, by decide⟩
    | exact .inl ⟨3, rfl, by decide⟩
    | exact .inl ⟨2, rfl, by decide⟩
theorem same_via {H1 H2 H3 : Hp} {g : Addr} (s : Same H1 H2) (ng : H1 g = none) (x : SameX g H2 H3) : Same H1 H3 := fun b o e => x b o (s b o e) (ne_of_none e ng)
section
variable {P : Program} {w : World} {K : PySem.W.Frag} {mg : Str → Option Value} {base : Heap} {f C D : Addr} {fd : FuncData}
def spRight (K : PySem.W.Frag) : Sp := fun vs H Q _ => ∃ (t o : Addr) (k : Nm) (n : Nat) (ws : List Int), vs = [.ref t, .ref o] ∧ H t = some (.tup [.str k.s, .int (n : Int)]) ∧ SqL K H o (ws.map V.int) ∧ okK k n = true ∧ Good k n ws ∧ ∀ (H' : Hp), Same H H' → Q (.bl true) H'
theorem ok_right (T : Tk K w mg C D) (F : FnP K "_law_kind_right" "_law_kind_right" s__law_kind_right f fd)
    (c_Kind : Cd P w K mg base "Kind" C ["self", "name", "size"] 2 (spInit C)) (c_KindKw : CdK P w K mg base "Kind" C ["self", "name", "size"] ["size", "name"] gRev 2 (spInit C))
    (c_m_name : Md P w K mg base C "name" ["self"] 1 (spName C)) (c_m_size : Md P w K mg base C "size" ["self"] 1 (spSize C)) (c_m_steps : Md P w K mg base C "steps" ["self"] 1 (spSteps C)) (c_m_start : Md P w K mg base C "start" ["self"] 1 (spStartM C))
    (c_m___eq__ : Md P w K mg base C "__eq__" ["self", "other"] 1 (spEqK C)) (c_law_many : Gd P w K mg base "_law_many" ["_law_told"] 1 (spMany K)) (c_law_start : Gd P w K mg base "_law_start" ["_law_told"] 1 (spStart K))
    (c_law_wait : Gd P w K mg base "_law_wait" ["_law_told", "_law_order_here", "_law_one", "_law_other"] 3 (spWait K)) (c_wait : Gd P w K mg base "wait" ["kind", "one", "other"] 4 (spWaitP C))
    (c_waitKw : GdK P w K mg base "wait" ["kind", "one", "other"] ["other", "one", "kind"] gRev 4 (spWaitP C)) :
    FnOk P w K mg base CX0 5 f fd ["_law_told", "_law_order_here"] (spRight K) := by
  refine okN F sc__law_kind_right (fun vs H Q E h => ?_) (fun cdv A outer s H vs Q E hr h => ?_)
  · obtain ⟨t, o, k, n, ws, rfl, _⟩ := h
    rfl
  · obtain ⟨t, o, k, n, ws, rfl, hT, hO, hK, hG, q⟩ := h
    have hn := okK_le hK
    have hmn := many_nn hK
    have hS : Told K H t k n := SqT.of hT
    have noN : (flds k n).lookup ("name" : Str) = none := flds_no _ _ (by decide +kernel) (by decide +kernel)
    have noS : (flds k n).lookup ("size" : Str) = none := flds_no _ _ (by decide +kernel) (by decide +kernel)
    have noP : (flds k n).lookup ("steps" : Str) = none := flds_no _ _ (by decide +kernel) (by decide +kernel)
    have noT : (flds k n).lookup ("start" : Str) = none := flds_no _ _ (by decide +kernel) (by decide +kernel)
    refine ⟨_, (pss_cons (ps_set (i := 2) sc__law_kind_right.nd rfl (by first | exact Or.inl rfl | exact Or.inr rfl) (pe_makeG c_Kind (hr.mono (by decide)) (by rfl) (pa_cons (pe_ix ix_tup (pv 0) pe_int (fun _ _ => rfl)) (pa_cons (pe_ix ix_tup (pv 0) pe_int (fun _ _ => rfl)) pa_nil))))
      (pss_cons (ps_if (PW.pt (pw_or (pt_cmpR op_ne (pe_methG0 T.cl c_m_name (hr.mono (by decide)) (pv 2)) (pe_ix ix_tup (pv 0) pe_int (fun _ _ => rfl)) (nomark _)) (pw_or (pt_cmpR op_ne (pe_methG0 T.cl c_m_size (hr.mono (by decide)) (pv 2)) (pe_ix ix_tup (pv 0) pe_int (fun _ _ => rfl)) (nomark _)) (pw_or (pt_cmpR op_ne (pe_methG0 T.cl c_m_steps (hr.mono (by decide)) (pv 2)) (pe_callG c_law_many (hr.mono (by decide)) (by rfl) (pa_cons (pv 0) pa_nil)) (nomark _)) (pw_or1 (pt_cmpR (op_neD hr.units) (pe_methG0 T.cl c_m_start (hr.mono (by decide)) (pv 2)) (pe_callG c_law_start (hr.mono (by decide)) (by rfl) (pa_cons (pv 0) pa_nil)) (nomark _))))))) (pss_one (ps_ret pe_bl)) pss_nil)
      (pss_cons (ps_expr (pe_bm PySem.F.plainAttrs_list PySem.F.slot_list_append PySem.F.type_list_append mt_append (pe_methG0 T.cl c_m_start (hr.mono (by decide)) (pv 2)) (pa_cons pe_int pa_nil)))
      (pss_cons (ps_if (PW.pt (pw_or (pt_cmpR (op_neD hr.units) (pe_methG0 T.cl c_m_start (hr.mono (by decide)) (pv 2)) (pe_callG c_law_start (hr.mono (by decide)) (by rfl) (pa_cons (pv 0) pa_nil)) (nomark _)) (pw_or (pt_cmpR op_notBl (pe_cmpR (op_own_eq c_m___eq__ (hr.mono (by decide))) (pe_makeKG c_KindKw (hr.mono (by decide)) (by rfl) (pk_cons (pe_ix ix_tup (pv 0) pe_int (fun _ _ => rfl)) (pk_cons (pe_ix ix_tup (pv 0) pe_int (fun _ _ => rfl)) pk_nil))) (pv 2) (nomark _)) pe_bl (nomark _)) (pw_or1 (pt_cmpR op_notBl (pe_cmpR (op_own_eq c_m___eq__ (hr.mono (by decide))) (pv 2) (pv 0) (nomark _)) pe_bl (nomark _)))))) (pss_one (ps_ret pe_bl)) pss_nil)
      (pss_cons (ps_for PassesOwn.never rfl (pi_range1 (by rfl) T.m_range (pa_cons (pe_callG c_law_many (hr.mono (by decide)) (by rfl) (pa_cons (pv 0) pa_nil)) pa_nil)) (pg_name (i := 3) sc__law_kind_right.nd rfl (Or.inl rfl)) (pss_one (ps_for PassesOwn.never rfl (pi_range1 (by rfl) T.m_range (pa_cons (pe_callG c_law_many (hr.mono (by decide)) (by rfl) (pa_cons (pv 0) pa_nil)) pa_nil)) (pg_name (i := 4) sc__law_kind_right.nd rfl (Or.inl rfl)) (pss_one (ps_if (pt_cmpR op_ne (pv 3) (pv 4) (nomark _)) (pss_cons (ps_set (i := 5) sc__law_kind_right.nd rfl (by first | exact Or.inl rfl | exact Or.inr rfl) (pe_callG c_law_wait (hr.mono (by decide)) (by rfl) (pa_cons (pv 0) (pa_cons (pv 1) (pa_cons (pv 3) (pa_cons (pv 4) pa_nil))))))
      (pss_one (ps_if (PW.pt (pw_or (pt_cmpR op_ne (pe_callB call_reprN (by rfl) T.m_repr (by decide +kernel) (pa_cons (pe_callG c_wait (hr.mono (by decide)) (by rfl) (pa_cons (pv 2) (pa_cons (pv 3) (pa_cons (pv 4) pa_nil)))) pa_nil)) (pe_callB call_reprN (by rfl) T.m_repr (by decide +kernel) (pa_cons (pv 5) pa_nil)) (nomark _)) (pw_or1 (pt_cmpR op_ne (pe_callB call_reprN (by rfl) T.m_repr (by decide +kernel) (pa_cons (pe_callKG c_waitKw (hr.mono (by decide)) (by rfl) (pk_cons (pv 4) (pk_cons (pv 3) (pk_cons (pv 2) pk_nil)))) pa_nil)) (pe_callB call_reprN (by rfl) T.m_repr (by decide +kernel) (pa_cons (pv 5) pa_nil)) (nomark _))))) (pss_one (ps_ret pe_bl)) pss_nil))) pss_nil)))))
      (pss_one (ps_ret pe_bl))))))), ?_⟩
    -- a kind
    refine ⟨_, rfl, t, _, 0, _, rfl, rfl, hS, atI_nat (j := 0) rfl, _, rfl, t, _, 1, _, rfl, rfl, hS, atI_nat (j := 1) rfl, fun x dx nx ndx nex => ?_⟩
    refine ⟨x, dx, k, n, rfl, hK, upd_same, fun H1 h1 kp => ⟨rfl, ?_⟩⟩
    have s1 : Same H H1 := L2.Same.made nx ndx kp
    have k1 : KAt C H1 x k n := ⟨dx, h1⟩
    have t1 : Told K H1 t k n := Same.tup s1 hS
    -- what it tells
    refine ⟨_, rfl, x, dx, _, rfl, h1, noN, x, k, n, rfl, k1, _, rfl, t, _, 0, _, rfl, rfl, t1, atI_nat (j := 0) rfl, rfl, _, rfl, iteN (by simp) ?_⟩
    refine ⟨_, rfl, x, dx, _, rfl, h1, noS, x, k, n, rfl, k1, _, rfl, t, _, 1, _, rfl, rfl, t1, atI_nat (j := 1) rfl, rfl, _, rfl, iteN (by simp) ?_⟩
    refine ⟨_, rfl, x, dx, _, rfl, h1, noP, x, k, n, rfl, k1, _, rfl, t, k, n, rfl, t1, rfl, _, rfl, iteN (by simp) ?_⟩
    refine ⟨_, rfl, x, dx, _, rfl, h1, noT, x, k, n, rfl, k1, by omega, fun l2 n2 => ?_⟩
    have u2 := Same.upd (o := .lst ((startL k n).map V.int)) n2
    refine ⟨_, rfl, t, k, n, rfl, Same.tup u2 t1, by omega, fun l3 n3 => ?_⟩
    have u3 := Same.upd (o := .lst ((startL k n).map V.int)) n3
    refine ⟨_, _, Dp.lst (SqL.of (u3 _ _ upd_same)) (dp_ints _), Dp.lst (SqL.of upd_same) (dp_ints _), shaped_ints _, shaped_ints _, _, rfl, iteN (by rw [eqv_l]; simp) ?_⟩
    have s3 := (s1.trans u2).trans u3
    have k3 := u3 _ _ (u2 _ _ h1)
    -- its start may be changed
    refine ⟨_, rfl, x, dx, _, rfl, k3, noT, x, k, n, rfl, ⟨dx, k3⟩, by omega, fun l4 n4 => ?_⟩
    have u4 := Same.upd (o := .lst ((startL k n).map V.int)) n4
    refine ⟨.inl ⟨rfl, _, SqL.of upd_same⟩, l4, _, _, rfl, rfl, upd_same, (by rw [List.length_map, startL_len]; exact small1000 (by omega)), ?_⟩
    rw [upd_upd]
    have u4' := Same.upd (o := .lst ((startL k n).map V.int ++ [.int 7])) n4
    have s4 := s3.trans u4'
    have k4 := u4' _ _ k3
    have t4 : Told K _ t k n := Same.tup s4 hS
    refine ⟨_, rfl, x, dx, _, rfl, k4, noT, x, k, n, rfl, ⟨dx, k4⟩, by omega, fun l5 n5 => ?_⟩
    have u5 := Same.upd (o := .lst ((startL k n).map V.int)) n5
    refine ⟨_, rfl, t, k, n, rfl, Same.tup u5 t4, by omega, fun l6 n6 => ?_⟩
    have u6 := Same.upd (o := .lst ((startL k n).map V.int)) n6
    refine ⟨_, _, Dp.lst (SqL.of (u6 _ _ upd_same)) (dp_ints _), Dp.lst (SqL.of upd_same) (dp_ints _), shaped_ints _, shaped_ints _, _, rfl, iteN (by rw [eqv_l]; simp) ?_⟩
    have s6 := (s4.trans u5).trans u6
    have k6 := u6 _ _ (u5 _ _ k4)
    have t6 : Told K _ t k n := Same.tup s6 hS
    -- equal to one made by keywords
    refine ⟨_, rfl, t, _, 1, _, rfl, rfl, t6, atI_nat (j := 1) rfl, _, rfl, t, _, 0, _, rfl, rfl, t6, atI_nat (j := 0) rfl, rfl, rfl, fun y dy ny ndy ney => ?_⟩
    refine ⟨y, dy, k, n, rfl, hK, upd_same, fun H7 h7 kp7 => ⟨rfl, ?_⟩⟩
    have u7 : Same _ H7 := L2.Same.made ny ndy kp7
    have s7 := s6.trans u7
    have k7 := u7 _ _ k6
    refine ⟨_, rfl, y, x, dy, _, rfl, rfl, h7, .inl ⟨_, _, k7⟩, y, x, k, n, rfl, ⟨dy, h7⟩, .inl ⟨k, n, ⟨dx, k7⟩, ?_⟩⟩
    refine ⟨_, _, rfl, rfl, _, rfl, iteN (by simp) ?_⟩
    have hT7 := s7 _ _ hT
    refine ⟨_, rfl, _, rfl, x, t, dx, _, rfl, rfl, k7, .inr ⟨⟨_, hT7⟩, T.nf⟩, x, t, k, n, rfl, ⟨dx, k7⟩, .inr ⟨⟨_, hT7⟩, ?_⟩⟩
    refine ⟨_, _, rfl, rfl, _, rfl, iteN (by simp) ?_⟩
    -- the waits
    have hmI : ((many k n).toNat : Int) = many k n := Int.toNat_of_nonneg hmn.1
    refine ⟨_, rfl, t, k, n, rfl, Same.tup s7 hS, many k n, rfl, by omega, by omega, ?_⟩
    refine for_range (lo := 0) (n := (many k n).toNat) (fun i σ H2 => ∃ (v3 v4 v5 : Option V), σ = [some (.ref t), some (.ref o), some (.ref x), v3, v4, v5] ∧ Same H H2 ∧ H2 x = some (.ins C dx (flds k n)))
      ⟨none, none, none, rfl, s7, k7⟩ ?_ ?_
    · rintro i σ H2 hi ⟨v3, v4, v5, rfl, s2, kx⟩
      refine ⟨_, rfl, t, k, n, rfl, Same.tup s2 hS, many k n, rfl, by omega, by omega, ?_⟩
      refine for_range (lo := 0) (n := (many k n).toNat) (fun j σ H2 => ∃ (v4 v5 : Option V), σ = [some (.ref t), some (.ref o), some (.ref x), some (.int (0 + (i : Int))), v4, v5] ∧ Same H H2 ∧ H2 x = some (.ins C dx (flds k n)))
        ⟨v4, v5, rfl, s2, kx⟩ ?_ ?_
      · rintro j σ H3 hj ⟨v4, v5, rfl, s3, kx3⟩
        refine ⟨_, rfl, _, rfl, rfl, _, rfl, ite2 (fun hne => ?_) (fun hne => ?_)⟩
        · have hab : (0 + (i : Int)) ≠ (0 + (j : Int)) := fun e => by
            rw [e] at hne
            simp at hne
          have ha : okS k n (0 + (i : Int)) := ⟨by omega, by omega⟩
          have hb : okS k n (0 + (j : Int)) := ⟨by omega, by omega⟩
          refine ⟨_, rfl, _, rfl, _, rfl, _, rfl, t, o, _, _, k, n, ws, rfl, Same.tup s3 hS, s3.seq hO, hG.len, hK, ha, hb, fun H4 s4 => ?_⟩
          rw [wait_right hK hG ha hb hab]
          have kx4 := s4 _ _ kx3
          have vr := vOf_wait k n (0 + (i : Int)) (0 + (j : Int))
          have hrep : (∃ z : Int, [vOf (waitN k n (0 + (i : Int)) (0 + (j : Int)))] = [V.int z] ∧ z.natAbs.log2 < 1920) ∨ [vOf (waitN k n (0 + (i : Int)) (0 + (j : Int)))] = [V.non] := by
            rcases vr with ⟨z, e, hz⟩ | e
            · exact .inl ⟨z, by rw [e], hz⟩
            · exact .inr (by rw [e])
          refine ⟨_, rfl, _, rfl, _, rfl, x, k, n, _, _, rfl, ⟨dx, kx4⟩, ha, hb, hab, hrep, fun z hz => ?_⟩
          have ez : z = vOf (waitN k n (0 + (i : Int)) (0 + (j : Int))) := (List.cons.inj hz).1.symm
          subst ez
          refine ⟨_, rfl, hrep, fun z hz => ?_⟩
          have ez : z = vOf (waitN k n (0 + (i : Int)) (0 + (j : Int))) := (List.cons.inj hz).1.symm
          subst ez
          refine ⟨rfl, _, rfl, iteN (by simp) ?_⟩
          refine ⟨_, rfl, _, rfl, _, rfl, rfl, rfl, x, k, n, _, _, rfl, ⟨dx, kx4⟩, ha, hb, hab, hrep, fun z hz => ?_⟩
          have ez : z = vOf (waitN k n (0 + (i : Int)) (0 + (j : Int))) := (List.cons.inj hz).1.symm
          subst ez
          refine ⟨_, rfl, hrep, fun z hz => ?_⟩
          have ez : z = vOf (waitN k n (0 + (i : Int)) (0 + (j : Int))) := (List.cons.inj hz).1.symm
          subst ez
          refine ⟨rfl, _, rfl, iteN (by simp) ?_⟩
          exact ⟨_, _, rfl, s3.trans s4, kx4⟩
        · exact ⟨_, _, rfl, s3, kx3⟩
      · rintro σ H3 ⟨v4, v5, rfl, s3, kx3⟩
        exact ⟨_, _, _, rfl, s3, kx3⟩
    · rintro σ H2 ⟨v3, v4, v5, rfl, s2, kx⟩
      exact q H2 s2
end
end Sv

namespace Sv
open PySem PySem.Spec PyProof.Rows L2
/-- each of these addresses is a kind's tuple -/
def Kinds (H : Hp) (ts : List Addr) : Prop := ∀ t ∈ ts, ∃ (k : Nm) (n : Nat), okK k n = true ∧ H t = some (.tup [.str k.s, .int (n : Int)])
theorem Kinds.keep {H H' : Hp} {ts : List Addr} (h : Kinds H ts) (s : Same H H') : Kinds H' ts := fun t ht => let ⟨k, n, e, z⟩ := h t ht; ⟨k, n, e, s _ _ z⟩
theorem Kinds.app {H : Hp} {ts us : List Addr} (h : Kinds H ts) (g : Kinds H us) : Kinds H (ts ++ us) := fun t ht => (List.mem_append.mp ht).elim (h t) (g t)
theorem eqv_told (k j : Nm) (n m : Nat) : PyData.eqv (.tuple [.str k.s, .int (n : Int)]) (.tuple [.str j.s, .int (m : Int)]) = decide (k = j ∧ n = m) := by
  rw [PyData.eqv, PyData.eqvAll, PyData.eqvAll, PyData.eqvAll, PyData.eqv, PyData.eqv]
  rw [Bool.eq_iff_iff]
  simp [s_inj]
  omega
theorem shaped_told (k : Nm) (n : Nat) : SeqAt.shaped (.tuple [.str k.s, .int (n : Int)]) = true := by
  have e : PyData.strOk k.s = true := by cases k <;> decide +kernel
  simp [SeqAt.shaped, PyData.canLay0, PyData.canLayAll0, PyData.depth, PyData.depthAll, e]
section
variable {P : Program} {w : World} {K : PySem.W.Frag} {mg : Str → Option Value} {base : Heap} {f C D : Addr} {fd : FuncData}
/-- [(name, size) for size in range(lo, lo + c)] -/
theorem lc_kinds (k : Nm) (lo hi : Nat) (hlo : lo ≤ hi) (hhi : hi ≤ 1000) (hk : ∀ i, lo ≤ i → i < hi → okK k i = true) {σ : L2.St} {H : Hp} {Q : VK} (hσ : σ.length = 7)
    (q : ∀ (D : Addr) (ts : List Addr) (H' : Hp), Same H H' → H D = none → H' D = some (.lst (ts.map V.ref)) → ts.length = hi - lo → Kinds H' ts → Q (.ref D) H') :
    tLc (iRng2 (tCons (tC (.int (lo : Int))) (tCons (tC (.int (hi : Int))) tNil))) (gName 6) tYes (tTup (tCons (tC (.str k.s)) (tCons (tVar 6) tNil))) [6] σ H Q := by
  refine ⟨_, _, rfl, ⟨by omega, by omega, by omega, by omega⟩, fun D nD => ?_⟩
  have en : ((hi : Int) - (lo : Int)).toNat = hi - lo := by omega
  rw [en]
  refine lc_range (lo := (lo : Int)) (n := hi - lo) (fun i H2 => ∃ ts : List Addr, H2 D = some (.lst (ts.map V.ref)) ∧ ts.length = i ∧ Kinds H2 ts ∧ Same H H2) ⟨[], upd_same, rfl, (fun t ht => by cases ht), Same.upd nD⟩ ?_ ?_
  · rintro i H2 hi2 ⟨ts, hD, hl, hks, s2⟩
    refine ⟨?_, .int ((lo : Int) + (i : Int)), ?_, (by show 2 ≤ sizeLine; decide), fun t nt => ?_⟩
    · simp [wipe]
    · show ((wipe σ [6]).set 6 (some (.int ((lo : Int) + (i : Int)))))[6]? = _
      rw [List.getElem?_set_self (by rw [wipe_length]; omega)]
    · have hDt : D ≠ t := ne_of_none hD nt
      refine ⟨_, (upd_ne hDt).trans hD, ?_, ts ++ [t], ?_, ?_, ?_, ?_⟩
      · rw [List.length_map]
        exact small1000 (by omega)
      · rw [upd_same, List.map_append]
        rfl
      · rw [List.length_append, hl]
        rfl
      · intro u hu
        rcases List.mem_append.mp hu with h | h
        · obtain ⟨j, m, e, z⟩ := hks u h
          have hu2 : u ≠ D := fun e2 => by
            rw [e2, hD] at z
            cases z
          exact ⟨j, m, e, by rw [upd_ne hu2, upd_ne (ne_of_none z nt)]; exact z⟩
        · rw [List.mem_singleton.mp h]
          refine ⟨k, lo + i, hk _ (by omega) (by omega), ?_⟩
          rw [upd_ne hDt.symm, upd_same]
          rfl
      · intro b y e
        rw [upd_ne (ne_of_none e nD), upd_ne (ne_of_none (s2 _ _ e) nt)]
        exact s2 _ _ e
  · rintro H2 ⟨ts, hD, hl, hks, s2⟩
    exact q D ts H2 s2 nD hD hl hks
def spLaw (K : PySem.W.Frag) : Sp := fun vs H Q _ => ∃ (a : Addr) (ns : List Int), vs = [.ref a] ∧ SqL K H a (ns.map V.int) ∧ ns.length ≤ 63 ∧ ∀ H', Q (.bl true) H'
theorem ok_law (T : Tk K w mg C D) (F : FnP K "law" "law" s_law f fd)
    (c_Kind : Cd P w K mg base "Kind" C ["self", "name", "size"] 2 (spInit C)) (c_m___eq__ : Md P w K mg base C "__eq__" ["self", "other"] 1 (spEqK C))
    (c_law_start : Gd P w K mg base "_law_start" ["_law_told"] 1 (spStart K)) (c_law_kind_right : Gd P w K mg base "_law_kind_right" ["_law_told", "_law_order_here"] 5 (spRight K))
    (c_law_generator : Gd P w K mg base "_law_generator" ["_law_script", "_law_index"] 2 (spGen K)) (c_law_kind : Gd P w K mg base "_law_kind" ["_law_generator_here"] 3 spKind)
    (c_law_order : Gd P w K mg base "_law_order" ["_law_generator_here", "_law_told", "_law_most"] 4 (spOrder K)) : FnOk P w K mg base CX0 6 f fd ["_law_script"] (spLaw K) := by
  refine okN F sc_law (fun vs H Q E h => ?_) (fun cdv A outer s H vs Q E hr h => ?_)
  · obtain ⟨a, ns, rfl, _⟩ := h
    rfl
  · obtain ⟨a, ns, rfl, hA, hlen, q⟩ := h
    refine ⟨_, (pss_cons (ps_set (i := 1) sc_law.nd rfl (by first | exact Or.inl rfl | exact Or.inr rfl) (pe_op op_cat (pe_op op_cat (pe_lc (own := [(("_law_size" : Str), 6)]) (g := (gName 6)) (tt := tYes) rfl sc_law.nd (pi_range2 (by rfl) T.m_range (pa_cons pe_int (pa_cons pe_int pa_nil))) (blkOk_by (own := [(("_law_size" : Str), 6)]) (N := ["_law_script", "_law_kinds", "_law_told", "_law_index", "_law_generator_here", "_law_beside", "_law_size"]) (sc := defScope s_law) (by decide +kernel)) (fun _ _ _ _ _ => (pg_name (i := 6) sc_law.nd rfl (Or.inl rfl))) (fun _ _ _ _ _ => pts_nil) (fun _ _ _ _ _ => (pe_tup (pa_cons pe_str (pa_cons (pv 6) pa_nil))))) (pe_lc (own := [(("_law_size" : Str), 6)]) (g := (gName 6)) (tt := tYes) rfl sc_law.nd (pi_range2 (by rfl) T.m_range (pa_cons pe_int (pa_cons pe_int pa_nil))) (blkOk_by (own := [(("_law_size" : Str), 6)]) (N := ["_law_script", "_law_kinds", "_law_told", "_law_index", "_law_generator_here", "_law_beside", "_law_size"]) (sc := defScope s_law) (by decide +kernel)) (fun _ _ _ _ _ => (pg_name (i := 6) sc_law.nd rfl (Or.inl rfl))) (fun _ _ _ _ _ => pts_nil) (fun _ _ _ _ _ => (pe_tup (pa_cons pe_str (pa_cons (pv 6) pa_nil)))))) (pe_lc (own := [(("_law_size" : Str), 6)]) (g := (gName 6)) (tt := tYes) rfl sc_law.nd (pi_range2 (by rfl) T.m_range (pa_cons pe_int (pa_cons pe_int pa_nil))) (blkOk_by (own := [(("_law_size" : Str), 6)]) (N := ["_law_script", "_law_kinds", "_law_told", "_law_index", "_law_generator_here", "_law_beside", "_law_size"]) (sc := defScope s_law) (by decide +kernel)) (fun _ _ _ _ _ => (pg_name (i := 6) sc_law.nd rfl (Or.inl rfl))) (fun _ _ _ _ _ => pts_nil) (fun _ _ _ _ _ => (pe_tup (pa_cons pe_str (pa_cons (pv 6) pa_nil)))))))
      (pss_cons (ps_for PassesOwn.never rfl (pi_list (pv 1)) (pg_name (i := 2) sc_law.nd rfl (Or.inl rfl)) (pss_one (ps_if (pt_not (pt_val (pe_callG c_law_kind_right (hr.mono (by decide)) (by rfl) (pa_cons (pv 2) (pa_cons (pe_callG c_law_start (hr.mono (by decide)) (by rfl) (pa_cons (pv 2) pa_nil)) pa_nil))))) (pss_one (ps_ret pe_bl)) pss_nil)))
      (pss_cons (ps_for PassesOwn.never rfl (pi_range1 (by rfl) T.m_range (pa_cons pe_int pa_nil)) (pg_name (i := 3) sc_law.nd rfl (Or.inl rfl)) (pss_cons (ps_set (i := 4) sc_law.nd rfl (by first | exact Or.inl rfl | exact Or.inr rfl) (pe_callG c_law_generator (hr.mono (by decide)) (by rfl) (pa_cons (pv 0) (pa_cons (pv 3) pa_nil))))
      (pss_cons (ps_par (i := 2) (j := 5) (by rfl) sc_law.nd rfl rfl (by decide) rfl rfl (pa_cons (pe_callG c_law_kind (hr.mono (by decide)) (by rfl) (pa_cons (pv 4) pa_nil)) (pa_cons (pe_callG c_law_kind (hr.mono (by decide)) (by rfl) (pa_cons (pv 4) pa_nil)) pa_nil)) (by rfl))
      (pss_cons (ps_if (pt_not (pt_val (pe_callG c_law_kind_right (hr.mono (by decide)) (by rfl) (pa_cons (pv 2) (pa_cons (pe_callG c_law_order (hr.mono (by decide)) (by rfl) (pa_cons (pv 4) (pa_cons (pv 2) (pa_cons pe_int pa_nil)))) pa_nil))))) (pss_one (ps_ret pe_bl)) pss_nil)
      (pss_one (ps_if (pt_cmpR op_ne (pe_cmpR (op_own_eq c_m___eq__ (hr.mono (by decide))) (pe_makeG c_Kind (hr.mono (by decide)) (by rfl) (pa_cons (pe_ix ix_tup (pv 2) pe_int (fun _ _ => rfl)) (pa_cons (pe_ix ix_tup (pv 2) pe_int (fun _ _ => rfl)) pa_nil))) (pe_makeG c_Kind (hr.mono (by decide)) (by rfl) (pa_cons (pe_ix ix_tup (pv 5) pe_int (fun _ _ => rfl)) (pa_cons (pe_ix ix_tup (pv 5) pe_int (fun _ _ => rfl)) pa_nil))) (nomark _)) (pe_cmpR (op_eqD hr.units) (pv 2) (pv 5) (nomark _)) (nomark _)) (pss_one (ps_ret pe_bl)) pss_nil))))))
      (pss_one (ps_ret pe_bl))))), ?_⟩
    simp only [tSeq, tAsg, tOp]
    refine lc_kinds .pl 1 8 (by decide) (by decide) (fun i h1 h2 => decide_eq_true (by omega)) ?_ fun D1 ts1 H1 s1 n1 e1 l1 k1 => ?_
    · rfl
    refine lc_kinds .mi 1 6 (by decide) (by decide) (fun i h1 h2 => decide_eq_true (by omega)) ?_ fun D2 ts2 H2 s2 n2 e2 l2 k2 => ?_
    · rfl
    refine ⟨D1, D2, _, _, rfl, rfl, s2 _ _ e1, e2, (by rw [List.length_map, List.length_map, l1, l2]; show 12 ≤ sizeLine; decide), fun D3 n3 => ?_⟩
    have u3 := Same.upd (o := .lst (ts1.map V.ref ++ ts2.map V.ref)) n3
    refine lc_kinds .ri 2 6 (by decide) (by decide) (fun i h1 h2 => decide_eq_true (by omega)) ?_ fun D4 ts4 H4 s4 n4 e4 l4 k4 => ?_
    · rfl
    refine ⟨D3, D4, _, _, rfl, rfl, s4 _ _ upd_same, e4, (by rw [List.length_append, List.length_map, List.length_map, List.length_map, l1, l2, l4]; show 16 ≤ sizeLine; decide), fun D5 n5 => ?_⟩
    have u5 := Same.upd (o := .lst (ts1.map V.ref ++ ts2.map V.ref ++ ts4.map V.ref)) n5
    have s04 : Same H H4 := ((s1.trans s2).trans u3).trans s4
    have s05 := s04.trans u5
    have kk : Kinds (L2.upd H4 D5 (.lst (ts1.map V.ref ++ ts2.map V.ref ++ ts4.map V.ref))) (ts1 ++ ts2 ++ ts4) := ((((k1.keep s2).app k2).keep (u3.trans s4)).app k4).keep u5
    have e5 : L2.upd H4 D5 (.lst (ts1.map V.ref ++ ts2.map V.ref ++ ts4.map V.ref)) D5 = some (.lst ((ts1 ++ ts2 ++ ts4).map V.ref)) := by
      rw [upd_same, List.map_append, List.map_append]
    generalize L2.upd H4 D5 (.lst (ts1.map V.ref ++ ts2.map V.ref ++ ts4.map V.ref)) = H5 at *
    generalize ts1 ++ ts2 ++ ts4 = ts at *
    -- all kinds
    refine ⟨_, rfl, D5, rfl, ⟨_, SqL.of e5⟩, ?_⟩
    refine for_list (K := K) (a := D5) (xs := ts.map V.ref) (fun i σ H2 => ∃ v2 : Option V, σ = [some (.ref a), some (.ref D5), v2, none, none, none, none] ∧ Same H5 H2) ⟨none, rfl, Same.refl _⟩ (fun i σ H2 _ ⟨_, _, z⟩ => z.seq (SqL.of e5)) ?_ ?_
    · rintro i x σ H6 hi ⟨v2, rfl, s6⟩
      obtain ⟨t, ht, rfl⟩ : ∃ t, t ∈ ts ∧ x = V.ref t := by
        rw [List.getElem?_map] at hi
        cases e : ts[i]? with
        | none =>
          rw [e] at hi
          cases hi
        | some z =>
          rw [e] at hi
          exact ⟨z, List.mem_of_getElem? e, (Option.some.inj hi).symm⟩
      obtain ⟨k, n, hK, hT⟩ := kk t ht
      have hT6 := s6 _ _ hT
      have hn := okK_le hK
      refine ⟨_, rfl, _, rfl, t, k, n, rfl, SqT.of hT6, by omega, fun l nl => ?_⟩
      have u7 := Same.upd (o := .lst ((startL k n).map V.int)) nl
      refine ⟨t, l, k, n, _, rfl, u7 _ _ hT6, SqL.of upd_same, hK, good_start hn.1, fun H8 s8 => ?_⟩
      exact ⟨true, rfl, _, rfl, (s6.trans u7).trans s8⟩
    · rintro σ H6 ⟨v2, rfl, s6⟩
      have s06 := s05.trans s6
      -- drawn ones
      refine ⟨3, rfl, by decide, by decide, ?_⟩
      refine for_range (lo := 0) (n := 3) (fun i σ H2 => ∃ v2 v3 v4 v5 : Option V, σ = [some (.ref a), some (.ref D5), v2, v3, v4, v5, none] ∧ Same H H2) ⟨v2, none, none, none, rfl, s06⟩ ?_ ?_
      · rintro i σ H7 hi ⟨v2, v3, v4, v5, rfl, s7⟩
        refine ⟨_, rfl, _, rfl, a, ns, i, (by rw [Int.zero_add]; rfl), s7.seq hA, by omega, fun g ga gb H8 ng s8 hg => ?_⟩
        refine ⟨_, rfl, g, ga, gb, _, rfl, hg, ⟨by omega, by omega⟩, fun t k n a1 c1 H9 hK c10 c11 hg9 x9 nt htg hT => ?_⟩
        refine ⟨_, rfl, g, a1, gb, c1, rfl, hg9, ⟨by omega, by omega⟩, fun t2 k2 n2 a2 c2 H10 hK2 c20 c21 hg10 x10 nt2 htg2 hT2 => ?_⟩
        refine ⟨_, _, rfl, ?_⟩
        have hT10 := x10 _ _ hT htg
        refine ⟨_, rfl, _, rfl, _, rfl, g, t, a2, gb, c2, k, n, 12, rfl, hg10, ⟨by omega, by omega⟩, SqT.of hT10, htg, hK, by decide, fun o ws a3 c3 H11 hG c30 c31 hg11 x11 hog hO => ?_⟩
        have hT11 := x11 _ _ hT10 htg
        have hT211 := x11 _ _ hT2 htg2
        refine ⟨t, o, k, n, ws, rfl, hT11, hO, hK, hG, fun H12 s12 => ?_⟩
        have hT12 := s12 _ _ hT11
        have hT212 := s12 _ _ hT211
        have s712 : Same H H12 := (same_via (s7.trans s8) (s7.free ng) ((x9.trans x10).trans x11)).trans s12
        refine ⟨true, rfl, ?_⟩
        refine ⟨_, rfl, t, _, 0, _, rfl, rfl, SqT.of hT12, atI_nat (j := 0) rfl, _, rfl, t, _, 1, _, rfl, rfl, SqT.of hT12, atI_nat (j := 1) rfl, fun x dx nx ndx nex => ?_⟩
        refine ⟨x, dx, k, n, rfl, hK, upd_same, fun H13 h13 kp13 => ⟨rfl, ?_⟩⟩
        have s13 : Same H12 H13 := L2.Same.made nx ndx kp13
        have hT13 := s13 _ _ hT12
        have hT213 := s13 _ _ hT212
        refine ⟨_, rfl, t2, _, 0, _, rfl, rfl, SqT.of hT213, atI_nat (j := 0) rfl, _, rfl, t2, _, 1, _, rfl, rfl, SqT.of hT213, atI_nat (j := 1) rfl, fun y dy ny ndy ney => ?_⟩
        refine ⟨y, dy, k2, n2, rfl, hK2, upd_same, fun H14 h14 kp14 => ⟨rfl, ?_⟩⟩
        have s14 : Same H13 H14 := L2.Same.made ny ndy kp14
        refine ⟨x, y, dx, _, rfl, rfl, s14 _ _ h13, .inl ⟨_, _, h14⟩, x, y, k, n, rfl, ⟨dx, s14 _ _ h13⟩, .inl ⟨k2, n2, ⟨dy, h14⟩, ?_⟩⟩
        refine ⟨_, rfl, _, rfl, _, _, Dp.tup (SqT.of (s14 _ _ hT13)) (.cons (.str _) (.cons (.int _) .nil)), Dp.tup (SqT.of (s14 _ _ hT213)) (.cons (.str _) (.cons (.int _) .nil)), shaped_told k n, shaped_told k2 n2, ?_⟩
        rw [eqv_told]
        refine ⟨rfl, _, rfl, iteN (by simp) ?_⟩
        exact ⟨_, _, _, _, rfl, (s712.trans s13).trans s14⟩
      · rintro σ H7 ⟨v2, v3, v4, v5, rfl, s7⟩
        exact q H7
end
end Sv

namespace Sv
open PySem PySem.Spec PyProof.Rows L2
/-! ### the head: facts by names -/
def tupAt (K : PySem.W.Frag) (a : Addr) (vs : List V) : Bool := match K.lookup a with
  | some ⟨.type c, _, .seq its _, _⟩ => decide (c = "tuple") && (decide (its.size ≤ sizeLine) && He.relAll vs its.toList)
  | _ => false
theorem tupAt_ok {K : PySem.W.Frag} {a : Addr} {vs : List V} (h : tupAt K a vs = true) (H : Hp) : SqT K H a vs := by
  unfold tupAt at h
  cases q : K.lookup a with
  | none =>
    rw [q] at h
    cases h
  | some o =>
    obtain ⟨oc, od, dt, osl⟩ := o
    rw [q] at h
    cases oc with
    | type c =>
      cases dt with
      | seq its n =>
        obtain ⟨h1, h2⟩ := He.ba (show (decide (c = "tuple") && (decide (its.size ≤ sizeLine) && He.relAll vs its.toList)) = true from h)
        obtain ⟨h3, h4⟩ := He.ba h2
        exact .inr ⟨_, its, n, q, congrArg Value.type (of_decide_eq_true h1), rfl, of_decide_eq_true h3, He.relAll_ok h4⟩
      | _ => cases h
    | _ => cases dt <;> cases h
def szB (K : PySem.W.Frag) (D : Addr) (x : Str) (lo hi : Int) : Bool := match PySem.W.nsIn K D x with
  | some (some (.ref t)) => tupAt K t [.int lo, .int hi]
  | _ => false
theorem szB_ok {K : PySem.W.Frag} {D : Addr} {x : Str} {lo hi : Int} (h : szB K D x lo hi = true) : ∃ t : Addr, PySem.W.nsIn K D x = some (some (.ref t)) ∧ ∀ H, SqT K H t [.int lo, .int hi] := by
  unfold szB at h
  cases q : PySem.W.nsIn K D x with
  | none =>
    rw [q] at h
    cases h
  | some r =>
    rw [q] at h
    cases r with
    | none => cases h
    | some v =>
      cases v with
      | ref t => exact ⟨t, rfl, tupAt_ok h⟩
      | _ => cases h
/-- what more is asked of the class and the table -/
def exB (C D : Addr) (K : PySem.W.Frag) : Bool :=
  He.eqO (PySem.W.findIn K (.ref C) "__class__") (some (some (.builtin "object.__class__"))) && (He.eqO (PySem.W.specialIn K (.builtin "object.__class__") "__get__") (some (some (.builtin "getset_descriptor.__get__"))) &&
  (decide (PySem.W.takesIn K (.builtin "object.__class__") = some true) && (decide (PySem.W.mroIn K C (.type "object") = some true) && (decide (PySem.W.kitOne K (.ref C) (.ref C) = some true) &&
  (decide (PySem.W.kitOne K (.type "tuple") (.ref C) = some false) && (PySem.W.notFirst K C (.type "tuple") && (szB K D "plain" 1 7 && (szB K D "mirror" 1 5 && szB K D "ring" 2 5))))))))
def ex (K : PySem.W.Frag) : Bool := exB (He.ga K "Kind") (He.ga K "SIZES") K
def d_Kind___init__ : He.DefD := ⟨("Kind", some "__init__"), "__init__", "Kind.__init__", defArgs s_Kind___init__, defBody s_Kind___init__, defScope s_Kind___init__, [], []⟩
def d_Kind___eq__ : He.DefD := ⟨("Kind", some "__eq__"), "__eq__", "Kind.__eq__", defArgs s_Kind___eq__, defBody s_Kind___eq__, defScope s_Kind___eq__, [], []⟩
def d_Kind_name : He.DefD := ⟨("Kind", some "name"), "name", "Kind.name", defArgs s_Kind_name, defBody s_Kind_name, defScope s_Kind_name, [], []⟩
def d_Kind_size : He.DefD := ⟨("Kind", some "size"), "size", "Kind.size", defArgs s_Kind_size, defBody s_Kind_size, defScope s_Kind_size, [], []⟩
def d_Kind_steps : He.DefD := ⟨("Kind", some "steps"), "steps", "Kind.steps", defArgs s_Kind_steps, defBody s_Kind_steps, defScope s_Kind_steps, [], []⟩
def d_Kind_start : He.DefD := ⟨("Kind", some "start"), "start", "Kind.start", defArgs s_Kind_start, defBody s_Kind_start, defScope s_Kind_start, [], []⟩
def d_is_whole : He.DefD := ⟨("is_whole", none), "is_whole", "is_whole", defArgs s_is_whole, defBody s_is_whole, defScope s_is_whole, [], []⟩
def d_check_kind : He.DefD := ⟨("check_kind", none), "check_kind", "check_kind", defArgs s_check_kind, defBody s_check_kind, defScope s_check_kind, [], []⟩
def d_is_step : He.DefD := ⟨("is_step", none), "is_step", "is_step", defArgs s_is_step, defBody s_is_step, defScope s_is_step, [], []⟩
def d_check_step : He.DefD := ⟨("check_step", none), "check_step", "check_step", defArgs s_check_step, defBody s_check_step, defScope s_check_step, [], []⟩
def d_wait_of : He.DefD := ⟨("wait_of", none), "wait_of", "wait_of", defArgs s_wait_of, defBody s_wait_of, defScope s_wait_of, [], []⟩
def d_wait : He.DefD := ⟨("wait", none), "wait", "wait", defArgs s_wait, defBody s_wait, defScope s_wait, [], []⟩
def d__law_hash : He.DefD := ⟨("_law_hash", none), "_law_hash", "_law_hash", defArgs s__law_hash, defBody s__law_hash, defScope s__law_hash, [], []⟩
def d__law_random : He.DefD := ⟨("_law_random", none), "_law_random", "_law_random", defArgs s__law_random, defBody s__law_random, defScope s__law_random, [], []⟩
def d__law_cell : He.DefD := ⟨("_law_cell", none), "_law_cell", "_law_cell", defArgs s__law_cell, defBody s__law_cell, defScope s__law_cell, [], []⟩
def d__law_generator : He.DefD := ⟨("_law_generator", none), "_law_generator", "_law_generator", defArgs s__law_generator, defBody s__law_generator, defScope s__law_generator, [], []⟩
def d__law_kind : He.DefD := ⟨("_law_kind", none), "_law_kind", "_law_kind", defArgs s__law_kind, defBody s__law_kind, defScope s__law_kind, [], []⟩
def d__law_many : He.DefD := ⟨("_law_many", none), "_law_many", "_law_many", defArgs s__law_many, defBody s__law_many, defScope s__law_many, [], []⟩
def d__law_start : He.DefD := ⟨("_law_start", none), "_law_start", "_law_start", defArgs s__law_start, defBody s__law_start, defScope s__law_start, [], []⟩
def d__law_item : He.DefD := ⟨("_law_item", none), "_law_item", "_law_item", defArgs s__law_item, defBody s__law_item, defScope s__law_item, [], []⟩
def d__law_turned : He.DefD := ⟨("_law_turned", none), "_law_turned", "_law_turned", defArgs s__law_turned, defBody s__law_turned, defScope s__law_turned, [], []⟩
def d__law_stepped : He.DefD := ⟨("_law_stepped", none), "_law_stepped", "_law_stepped", defArgs s__law_stepped, defBody s__law_stepped, defScope s__law_stepped, [], []⟩
def d__law_is_crossed : He.DefD := ⟨("_law_is_crossed", none), "_law_is_crossed", "_law_is_crossed", defArgs s__law_is_crossed, defBody s__law_is_crossed, defScope s__law_is_crossed, [], []⟩
def d__law_row : He.DefD := ⟨("_law_row", none), "_law_row", "_law_row", defArgs s__law_row, defBody s__law_row, defScope s__law_row, [], []⟩
def d__law_gained : He.DefD := ⟨("_law_gained", none), "_law_gained", "_law_gained", defArgs s__law_gained, defBody s__law_gained, defScope s__law_gained, [], []⟩
def d__law_order : He.DefD := ⟨("_law_order", none), "_law_order", "_law_order", defArgs s__law_order, defBody s__law_order, defScope s__law_order, [], []⟩
def d__law_wait : He.DefD := ⟨("_law_wait", none), "_law_wait", "_law_wait", defArgs s__law_wait, defBody s__law_wait, defScope s__law_wait, [], []⟩
def d__law_kind_right : He.DefD := ⟨("_law_kind_right", none), "_law_kind_right", "_law_kind_right", defArgs s__law_kind_right, defBody s__law_kind_right, defScope s__law_kind_right, [], []⟩
def d_law : He.DefD := ⟨("law", none), "law", "law", defArgs s_law, defBody s_law, defScope s_law, [], []⟩
def fn : List He.DefD := [d_Kind___init__, d_Kind___eq__, d_Kind_name, d_Kind_size, d_Kind_steps, d_Kind_start, d_is_whole, d_check_kind, d_is_step, d_check_step, d_wait_of, d_wait, d__law_hash, d__law_random, d__law_cell, d__law_generator, d__law_kind, d__law_many, d__law_start, d__law_item, d__law_turned, d__law_stepped, d__law_is_crossed, d__law_row, d__law_gained, d__law_order, d__law_wait, d__law_kind_right, d_law]
def fa : List He.Fa := [.glo "is_whole", .glo "check_kind", .glo "is_step", .glo "check_step", .glo "wait_of", .glo "wait", .glo "_law_hash", .glo "_law_random", .glo "_law_cell", .glo "_law_generator", .glo "_law_kind", .glo "_law_many", .glo "_law_start", .glo "_law_item", .glo "_law_turned", .glo "_law_stepped", .glo "_law_is_crossed", .glo "_law_row", .glo "_law_gained", .glo "_law_order", .glo "_law_wait", .glo "_law_kind_right", .glo "law", .glo "Kind", .glo "SIZES", .free "int", .free "str", .free "bool", .free "range", .free "list", .free "abs", .free "max", .free "min", .free "sum", .free "len", .free "repr", .free "isinstance", .free "all", .free "sorted", .free "enumerate", .free "tuple", .free "reversed", .cls "Kind", .noat "Kind" "_name", .noat "Kind" "_size", .mkr "Kind", .meth "Kind" "__eq__", .meth "Kind" "name", .meth "Kind" "size", .meth "Kind" "steps", .meth "Kind" "start"]
def tsx : List He.Tab := [((fun K => He.ga K "SIZES"), ["plain", "mirror", "ring"])]
theorem vals_rev : ∀ {vs : List V} {us : List Value}, Vals vs us → Vals vs.reverse us.reverse
  | _, _, .nil => .nil
  | _, _, .cons r t => by
    rw [List.reverse_cons, List.reverse_cons]
    exact (vals_rev t).append (.cons r .nil)
/-- how keywords alone bind where the written names are the last parameters, turned about -/
theorem kb_rev {K : PySem.W.Frag} {x qual : Str} {params : Arguments} {body : List Stmt} {scope : Scope} {f : Addr} {fd : FuncData} {ps : List Str} (F : FunD K x qual params body scope [] [] f fd) (n : Nat) (ks : List Str)
    (h : ∀ (kV doc pm : Value) (an : Option Addr) (cdv ct : Value) (us ws : List Value), us.length = n → ws.length = ks.length → bindArgs (PySem.W.fnOf x qual params body scope .none kV doc pm an cdv ct) ⟨us, ks.zip ws⟩ = pure (ps.zip (us ++ ws.reverse))) :
    KBn K fd ps n ks (fun us ws => us ++ ws.reverse) gRev := by
  obtain ⟨oc, od, dV, kV, doc, pm, an, cdv, ct, osl, rfl, lk, hcd, hD, hK⟩ := F.ex
  rcases hD with ⟨_, rfl⟩ | ⟨e, _⟩
  · refine ⟨fun s us ws X l1 l2 => .of_eq (h kV doc pm an cdv ct us ws l1 l2), fun r1 r2 => r1.append ?_⟩
    exact vals_rev r2
  · exact absurd rfl e
theorem facts {P : Program} {w : World} {K : PySem.W.Frag} {h : Heap} {mg : Str → Option Value} {f : Addr} (X : K.In h) (G : h.Ns mainGlobals mg) (hfa : mg ("law" : Str) = some (.ref f)) (z : He.SaysX fa fn tsx [] ex w h K) :
    ∃ fd : FuncData, (∀ (s : Shared) (v : Value), BindsTo s fd ⟨[v], []⟩ [("_law_script", v)]) ∧ ∀ base : Heap, K.In base → base.Ns mainGlobals mg → FnOk P w K mg base CX0 6 f fd ["_law_script"] (spLaw K) := by
  have c : He.SaysD fa fn K := z.t.d
  obtain ⟨fd_Kind___init__, F_Kind___init__⟩ := c.def_ 0 (d := d_Kind___init__) rfl
  obtain ⟨fd_Kind___eq__, F_Kind___eq__⟩ := c.def_ 1 (d := d_Kind___eq__) rfl
  obtain ⟨fd_Kind_name, F_Kind_name⟩ := c.def_ 2 (d := d_Kind_name) rfl
  obtain ⟨fd_Kind_size, F_Kind_size⟩ := c.def_ 3 (d := d_Kind_size) rfl
  obtain ⟨fd_Kind_steps, F_Kind_steps⟩ := c.def_ 4 (d := d_Kind_steps) rfl
  obtain ⟨fd_Kind_start, F_Kind_start⟩ := c.def_ 5 (d := d_Kind_start) rfl
  obtain ⟨fd_is_whole, F_is_whole⟩ := c.def_ 6 (d := d_is_whole) rfl
  obtain ⟨fd_check_kind, F_check_kind⟩ := c.def_ 7 (d := d_check_kind) rfl
  obtain ⟨fd_is_step, F_is_step⟩ := c.def_ 8 (d := d_is_step) rfl
  obtain ⟨fd_check_step, F_check_step⟩ := c.def_ 9 (d := d_check_step) rfl
  obtain ⟨fd_wait_of, F_wait_of⟩ := c.def_ 10 (d := d_wait_of) rfl
  obtain ⟨fd_wait, F_wait⟩ := c.def_ 11 (d := d_wait) rfl
  obtain ⟨fd__law_hash, F__law_hash⟩ := c.def_ 12 (d := d__law_hash) rfl
  obtain ⟨fd__law_random, F__law_random⟩ := c.def_ 13 (d := d__law_random) rfl
  obtain ⟨fd__law_cell, F__law_cell⟩ := c.def_ 14 (d := d__law_cell) rfl
  obtain ⟨fd__law_generator, F__law_generator⟩ := c.def_ 15 (d := d__law_generator) rfl
  obtain ⟨fd__law_kind, F__law_kind⟩ := c.def_ 16 (d := d__law_kind) rfl
  obtain ⟨fd__law_many, F__law_many⟩ := c.def_ 17 (d := d__law_many) rfl
  obtain ⟨fd__law_start, F__law_start⟩ := c.def_ 18 (d := d__law_start) rfl
  obtain ⟨fd__law_item, F__law_item⟩ := c.def_ 19 (d := d__law_item) rfl
  obtain ⟨fd__law_turned, F__law_turned⟩ := c.def_ 20 (d := d__law_turned) rfl
  obtain ⟨fd__law_stepped, F__law_stepped⟩ := c.def_ 21 (d := d__law_stepped) rfl
  obtain ⟨fd__law_is_crossed, F__law_is_crossed⟩ := c.def_ 22 (d := d__law_is_crossed) rfl
  obtain ⟨fd__law_row, F__law_row⟩ := c.def_ 23 (d := d__law_row) rfl
  obtain ⟨fd__law_gained, F__law_gained⟩ := c.def_ 24 (d := d__law_gained) rfl
  obtain ⟨fd__law_order, F__law_order⟩ := c.def_ 25 (d := d__law_order) rfl
  obtain ⟨fd__law_wait, F__law_wait⟩ := c.def_ 26 (d := d__law_wait) rfl
  obtain ⟨fd__law_kind_right, F__law_kind_right⟩ := c.def_ 27 (d := d__law_kind_right) rfl
  obtain ⟨fd_law, F_law⟩ := c.def_ 28 (d := d_law) rfl
  have e := hfa.symm.trans (He.glo_ok X G (c.fact 22 (f := .glo "law") rfl))
  cases e
  have b := FunD.bindsA (ps := ["_law_script"]) F_law fun _ _ _ _ _ _ us hl => match us, hl with | [_], _ => rfl
  obtain ⟨x1, y⟩ := He.ba z.more
  obtain ⟨x2, y⟩ := He.ba y
  obtain ⟨x3, y⟩ := He.ba y
  obtain ⟨x4, y⟩ := He.ba y
  obtain ⟨x5, y⟩ := He.ba y
  obtain ⟨x6, y⟩ := He.ba y
  obtain ⟨x7, y⟩ := He.ba y
  obtain ⟨x8, y⟩ := He.ba y
  obtain ⟨x9, x10⟩ := He.ba y
  obtain ⟨es, nn, kd⟩ := z.t.tab 0 (t := ((fun K => He.ga K "SIZES"), ["plain", "mirror", "ring"])) rfl
  have T0 : Tx K mg := ⟨He.free_ok X G (c.fact 25 (f := .free "int") rfl), He.free_ok X G (c.fact 26 (f := .free "str") rfl), He.free_ok X G (c.fact 27 (f := .free "bool") rfl), He.free_ok X G (c.fact 28 (f := .free "range") rfl), He.free_ok X G (c.fact 29 (f := .free "list") rfl), He.free_ok X G (c.fact 30 (f := .free "abs") rfl), He.free_ok X G (c.fact 31 (f := .free "max") rfl), He.free_ok X G (c.fact 32 (f := .free "min") rfl), He.free_ok X G (c.fact 33 (f := .free "sum") rfl), He.free_ok X G (c.fact 34 (f := .free "len") rfl), He.free_ok X G (c.fact 35 (f := .free "repr") rfl), He.free_ok X G (c.fact 36 (f := .free "isinstance") rfl), He.free_ok X G (c.fact 37 (f := .free "all") rfl), He.free_ok X G (c.fact 38 (f := .free "sorted") rfl), He.free_ok X G (c.fact 39 (f := .free "enumerate") rfl), He.free_ok X G (c.fact 40 (f := .free "tuple") rfl), He.free_ok X G (c.fact 41 (f := .free "reversed") rfl)⟩
  have T : Tk K w mg (He.ga K "Kind") (He.ga K "SIZES") := ⟨T0, He.cls_ok (c.fact 42 (f := .cls "Kind") rfl), He.noat_ok (c.fact 43 (f := .noat "Kind" "_name") rfl), He.noat_ok (c.fact 44 (f := .noat "Kind" "_size") rfl), He.glo_ok X G (c.fact 23 (f := .glo "Kind") rfl), He.glo_ok X G (c.fact 24 (f := .glo "SIZES") rfl),
    He.eqO_ok x1, He.eqO_ok x2, of_decide_eq_true x3, of_decide_eq_true x4, of_decide_eq_true x5, of_decide_eq_true x6, x7, ⟨es, nn, kd⟩, fun k => match k with
    | .pl => let ⟨t, e1, e2⟩ := szB_ok x8; ⟨t, 1, 7, e1, e2, fun n h => by have := of_decide_eq_true h; omega⟩
    | .mi => let ⟨t, e1, e2⟩ := szB_ok x9; ⟨t, 1, 5, e1, e2, fun n h => by have := of_decide_eq_true h; omega⟩
    | .ri => let ⟨t, e1, e2⟩ := szB_ok x10; ⟨t, 2, 5, e1, e2, fun n h => by have := of_decide_eq_true h; omega⟩⟩
  refine ⟨fd_law, fun s v => b s [v] rfl, fun base _ _ => ?_⟩
  have c_law_hash : Gd P w K mg base "_law_hash" ["_law_seed", "_law_index"] 1 (spHash) := ⟨_, _, ok_hash T0 F__law_hash, He.glo_ok X G (c.fact 6 (f := .glo "_law_hash") rfl), F__law_hash.kp, F__law_hash.bindsN fun _ _ _ _ _ _ us hl => match us, hl with | [_, _], _ => rfl⟩
  have c_law_random : Gd P w K mg base "_law_random" ["_law_generator_here", "_law_bound"] 2 (spRandom) := ⟨_, _, ok_random T0 F__law_random c_law_hash, He.glo_ok X G (c.fact 7 (f := .glo "_law_random") rfl), F__law_random.kp, F__law_random.bindsN fun _ _ _ _ _ _ us hl => match us, hl with | [_, _], _ => rfl⟩
  have c_law_cell : Gd P w K mg base "_law_cell" ["_law_script", "_law_index"] 1 (spCell K) := ⟨_, _, ok_cell T0 F__law_cell, He.glo_ok X G (c.fact 8 (f := .glo "_law_cell") rfl), F__law_cell.kp, F__law_cell.bindsN fun _ _ _ _ _ _ us hl => match us, hl with | [_, _], _ => rfl⟩
  have c_law_generator : Gd P w K mg base "_law_generator" ["_law_script", "_law_index"] 2 (spGen K) := ⟨_, _, ok_generator T0 F__law_generator c_law_cell, He.glo_ok X G (c.fact 9 (f := .glo "_law_generator") rfl), F__law_generator.kp, F__law_generator.bindsN fun _ _ _ _ _ _ us hl => match us, hl with | [_, _], _ => rfl⟩
  have c_law_kind : Gd P w K mg base "_law_kind" ["_law_generator_here"] 3 (spKind) := ⟨_, _, ok_kind T0 F__law_kind c_law_random, He.glo_ok X G (c.fact 10 (f := .glo "_law_kind") rfl), F__law_kind.kp, F__law_kind.bindsN fun _ _ _ _ _ _ us hl => match us, hl with | [_], _ => rfl⟩
  have c_law_many : Gd P w K mg base "_law_many" ["_law_told"] 1 (spMany K) := ⟨_, _, ok_many T0 F__law_many, He.glo_ok X G (c.fact 11 (f := .glo "_law_many") rfl), F__law_many.kp, F__law_many.bindsN fun _ _ _ _ _ _ us hl => match us, hl with | [_], _ => rfl⟩
  have c_law_start : Gd P w K mg base "_law_start" ["_law_told"] 1 (spStart K) := ⟨_, _, ok_start T0 F__law_start, He.glo_ok X G (c.fact 12 (f := .glo "_law_start") rfl), F__law_start.kp, F__law_start.bindsN fun _ _ _ _ _ _ us hl => match us, hl with | [_], _ => rfl⟩
  have c_law_item : Gd P w K mg base "_law_item" ["_law_told", "_law_order_here", "_law_place"] 1 (spItem K) := ⟨_, _, ok_item T0 F__law_item, He.glo_ok X G (c.fact 13 (f := .glo "_law_item") rfl), F__law_item.kp, F__law_item.bindsN fun _ _ _ _ _ _ us hl => match us, hl with | [_, _, _], _ => rfl⟩
  have c_law_turned : Gd P w K mg base "_law_turned" ["_law_told", "_law_step", "_law_place"] 1 (spTurned K) := ⟨_, _, ok_turned T0 F__law_turned, He.glo_ok X G (c.fact 14 (f := .glo "_law_turned") rfl), F__law_turned.kp, F__law_turned.bindsN fun _ _ _ _ _ _ us hl => match us, hl with | [_, _, _], _ => rfl⟩
  have c_law_stepped : Gd P w K mg base "_law_stepped" ["_law_told", "_law_order_here", "_law_step"] 2 (spStepped K) := ⟨_, _, ok_stepped T0 F__law_stepped c_law_start c_law_item c_law_turned, He.glo_ok X G (c.fact 15 (f := .glo "_law_stepped") rfl), F__law_stepped.kp, F__law_stepped.bindsN fun _ _ _ _ _ _ us hl => match us, hl with | [_, _, _], _ => rfl⟩
  have c_law_is_crossed : Gd P w K mg base "_law_is_crossed" ["_law_told", "_law_order_here", "_law_step"] 2 (spCrossed K) := ⟨_, _, ok_crossed T0 F__law_is_crossed c_law_item c_law_turned, He.glo_ok X G (c.fact 16 (f := .glo "_law_is_crossed") rfl), F__law_is_crossed.kp, F__law_is_crossed.bindsN fun _ _ _ _ _ _ us hl => match us, hl with | [_, _, _], _ => rfl⟩
  have c_law_row : Gd P w K mg base "_law_row" ["_law_generator_here", "_law_told", "_law_most"] 3 (spRow K) := ⟨_, _, ok_row T0 F__law_row c_law_many c_law_random, He.glo_ok X G (c.fact 17 (f := .glo "_law_row") rfl), F__law_row.kp, F__law_row.bindsN fun _ _ _ _ _ _ us hl => match us, hl with | [_, _, _], _ => rfl⟩
  have c_law_gained : Gd P w K mg base "_law_gained" ["_law_told", "_law_order_here", "_law_step"] 3 (spGained K) := ⟨_, _, ok_gained T0 F__law_gained c_law_is_crossed c_law_stepped, He.glo_ok X G (c.fact 18 (f := .glo "_law_gained") rfl), F__law_gained.kp, F__law_gained.bindsN fun _ _ _ _ _ _ us hl => match us, hl with | [_, _, _], _ => rfl⟩
  have c_law_order : Gd P w K mg base "_law_order" ["_law_generator_here", "_law_told", "_law_most"] 4 (spOrder K) := ⟨_, _, ok_order T0 F__law_order c_law_start c_law_row c_law_gained, He.glo_ok X G (c.fact 19 (f := .glo "_law_order") rfl), F__law_order.kp, F__law_order.bindsN fun _ _ _ _ _ _ us hl => match us, hl with | [_, _, _], _ => rfl⟩
  have c_law_wait : Gd P w K mg base "_law_wait" ["_law_told", "_law_order_here", "_law_one", "_law_other"] 3 (spWait K) := ⟨_, _, ok_lwait T0 F__law_wait c_law_stepped, He.glo_ok X G (c.fact 20 (f := .glo "_law_wait") rfl), F__law_wait.kp, F__law_wait.bindsN fun _ _ _ _ _ _ us hl => match us, hl with | [_, _, _, _], _ => rfl⟩
  have c_is_whole : Gd P w K mg base "is_whole" ["value"] 1 (spIsWhole) := ⟨_, _, ok_is_whole T F_is_whole, He.glo_ok X G (c.fact 0 (f := .glo "is_whole") rfl), F_is_whole.kp, F_is_whole.bindsN fun _ _ _ _ _ _ us hl => match us, hl with | [_], _ => rfl⟩
  have c_m_name : Md P w K mg base (He.ga K "Kind") "name" ["self"] 1 (spName (He.ga K "Kind")) := ⟨_, _, ok_name T F_Kind_name, He.meth_ok (c.fact 47 (f := .meth "Kind" "name") rfl), F_Kind_name.bindsN fun _ _ _ _ _ _ us hl => match us, hl with | [_], _ => rfl⟩
  have c_m_size : Md P w K mg base (He.ga K "Kind") "size" ["self"] 1 (spSize (He.ga K "Kind")) := ⟨_, _, ok_size T F_Kind_size, He.meth_ok (c.fact 48 (f := .meth "Kind" "size") rfl), F_Kind_size.bindsN fun _ _ _ _ _ _ us hl => match us, hl with | [_], _ => rfl⟩
  have c_m_steps : Md P w K mg base (He.ga K "Kind") "steps" ["self"] 1 (spSteps (He.ga K "Kind")) := ⟨_, _, ok_steps T F_Kind_steps, He.meth_ok (c.fact 49 (f := .meth "Kind" "steps") rfl), F_Kind_steps.bindsN fun _ _ _ _ _ _ us hl => match us, hl with | [_], _ => rfl⟩
  have c_m_start : Md P w K mg base (He.ga K "Kind") "start" ["self"] 1 (spStartM (He.ga K "Kind")) := ⟨_, _, ok_startM T F_Kind_start, He.meth_ok (c.fact 50 (f := .meth "Kind" "start") rfl), F_Kind_start.bindsN fun _ _ _ _ _ _ us hl => match us, hl with | [_], _ => rfl⟩
  have c_m___eq__ : Md P w K mg base (He.ga K "Kind") "__eq__" ["self", "other"] 1 (spEqK (He.ga K "Kind")) := ⟨_, _, ok_eqK T F_Kind___eq__, He.meth_ok (c.fact 46 (f := .meth "Kind" "__eq__") rfl), F_Kind___eq__.bindsN fun _ _ _ _ _ _ us hl => match us, hl with | [_, _], _ => rfl⟩
  have Mi := He.mkr_ok (c.fact 45 (f := .mkr "Kind") rfl)
  have gK := He.glo_ok X G (c.fact 23 (f := .glo "Kind") rfl)
  have c_Kind : Cd P w K mg base "Kind" (He.ga K "Kind") ["self", "name", "size"] 2 (spInit (He.ga K "Kind")) := ⟨_, _, ok_init T F_Kind___init__ c_is_whole, gK, Mi, F_Kind___init__.bindsN fun _ _ _ _ _ _ us hl => match us, hl with | [_, _, _], _ => rfl⟩
  have c_KindKw : CdK P w K mg base "Kind" (He.ga K "Kind") ["self", "name", "size"] ["size", "name"] gRev 2 (spInit (He.ga K "Kind")) := ⟨_, _, _, ok_init T F_Kind___init__ c_is_whole, gK, Mi, kb_rev F_Kind___init__ 1 ["size", "name"] fun _ _ _ _ _ _ us ws h1 h2 => match us, ws, h1, h2 with | [_], [_, _], _, _ => rfl⟩
  have c_check_kind : Gd P w K mg base "check_kind" ["kind"] 1 (spCk (He.ga K "Kind")) := ⟨_, _, ok_check_kind T F_check_kind, He.glo_ok X G (c.fact 1 (f := .glo "check_kind") rfl), F_check_kind.kp, F_check_kind.bindsN fun _ _ _ _ _ _ us hl => match us, hl with | [_], _ => rfl⟩
  have c_is_step : Gd P w K mg base "is_step" ["kind", "value"] 2 (spIsStep (He.ga K "Kind")) := ⟨_, _, ok_is_step T F_is_step c_is_whole c_m_steps, He.glo_ok X G (c.fact 2 (f := .glo "is_step") rfl), F_is_step.kp, F_is_step.bindsN fun _ _ _ _ _ _ us hl => match us, hl with | [_, _], _ => rfl⟩
  have c_check_step : Gd P w K mg base "check_step" ["kind", "step"] 3 (spCkS (He.ga K "Kind")) := ⟨_, _, ok_check_step T F_check_step c_is_step, He.glo_ok X G (c.fact 3 (f := .glo "check_step") rfl), F_check_step.kp, F_check_step.bindsN fun _ _ _ _ _ _ us hl => match us, hl with | [_, _], _ => rfl⟩
  have c_wait_of : Gd P w K mg base "wait_of" ["kind", "one", "other"] 2 (spWaitOf (He.ga K "Kind")) := ⟨_, _, ok_wait_of T F_wait_of c_m_name c_m_size, He.glo_ok X G (c.fact 4 (f := .glo "wait_of") rfl), F_wait_of.kp, F_wait_of.bindsN fun _ _ _ _ _ _ us hl => match us, hl with | [_, _, _], _ => rfl⟩
  have c_wait : Gd P w K mg base "wait" ["kind", "one", "other"] 4 (spWaitP (He.ga K "Kind")) := ⟨_, _, ok_wait T F_wait c_check_kind c_check_step c_wait_of, He.glo_ok X G (c.fact 5 (f := .glo "wait") rfl), F_wait.kp, F_wait.bindsN fun _ _ _ _ _ _ us hl => match us, hl with | [_, _, _], _ => rfl⟩
  have c_waitKw : GdK P w K mg base "wait" ["kind", "one", "other"] ["other", "one", "kind"] gRev 4 (spWaitP (He.ga K "Kind")) := ⟨_, _, _, ok_wait T F_wait c_check_kind c_check_step c_wait_of, He.glo_ok X G (c.fact 5 (f := .glo "wait") rfl), F_wait.kp, kb_rev F_wait 0 ["other", "one", "kind"] fun _ _ _ _ _ _ us ws h1 h2 => match us, ws, h1, h2 with | [], [_, _, _], _, _ => rfl⟩
  have c_law_kind_right : Gd P w K mg base "_law_kind_right" ["_law_told", "_law_order_here"] 5 (spRight K) := ⟨_, _, ok_right T F__law_kind_right c_Kind c_KindKw c_m_name c_m_size c_m_steps c_m_start c_m___eq__ c_law_many c_law_start c_law_wait c_wait c_waitKw, He.glo_ok X G (c.fact 21 (f := .glo "_law_kind_right") rfl), F__law_kind_right.kp, F__law_kind_right.bindsN fun _ _ _ _ _ _ us hl => match us, hl with | [_, _], _ => rfl⟩
  exact ok_law T F_law c_Kind c_m___eq__ c_law_start c_law_kind_right c_law_generator c_law_kind c_law_order
end Sv
open PySem PySem.W PyProof.Rows
theorem PySem.Challenge.cw_seamlayers_k01_kinds_and_waits_holds : PySem.Challenge.rw_seamlayers_k01_kinds_and_waits.Holds := by
  w_on; o_law; k_head; (case hw => w_witness2)
  k_fill
  refine L2.walk_of (l := PySem.Challenge.rw_seamlayers_k01_kinds_and_waits) (n := 63) (k := 6) (x := "_law_script") (CX := fun _ => L2.CX0) (sp := fun w => Sv.spLaw _) rfl (by decide) rfl ⟨rfl, by decide, by decide⟩ (fun w h Y => PySem.W.kIn_of Y) ?F (fun _ _ a ns hl _ hS => ⟨a, ns, rfl, hS, hl, fun _ => rfl⟩) (fun _ _ _ _ _ h => h)
  case F =>
    intro w mg fa h KX G hmg
    refine Sv.facts KX G hmg ⟨?t, ?m, (fun p hp => nomatch hp), (fun p hp => nomatch hp), (fun p hp => nomatch hp)⟩
    case t =>
      show He.obsT Sv.fa Sv.fn Sv.tsx _ = He.valT Sv.fn Sv.tsx w
      kernel_rfl
    case m => kernel_rfl


import PyProof.Rows.All
import Wide.All
import OpenK.AllK
import Wide.FinOn
import HandS.ForMost
import HandS.Evl
import HandS.WideBits
import HandS.IsInst
import HandS.Defaults
import HandS.StrMore
import HandS.Conv
import HandS.Walk
import HandS.FStr
import PyProof.FString3
import KE.GoesEnumKw
import PyProof.Rows.StrIntSpec
import PySem.Challenge.RW_outpressed_k02_numbers_in_bits_and_fills
set_option Elab.async false
set_option linter.all false
set_option maxRecDepth 100000
set_option maxHeartbeats 8000000
namespace K02
/-! ### words by length: p i words of i + 1 letters -/
def S (p : Nat → Int) : Nat → Int
  | 0 => 0
  | i + 1 => S p i + p i
/-- the letters of m words, the shortest first -/
def C (p : Nat → Int) (m : Int) : Nat → Int
  | 0 => 0
  | i + 1 => C p m i + max 0 (m - S p i)
/-- the loop of the weight: left, total -/
def wl (p : Nat → Int) (m : Int) : Nat → Int
  | 0 => m
  | i + 1 => wl p m i - min (wl p m i) (p i)
def wt (p : Nat → Int) (m : Int) : Nat → Int
  | 0 => 0
  | i + 1 => wt p m i + min (wl p m i) (p i) * ((i : Int) + 1)
/-- the loop of the fill: left, total -/
def fl (p : Nat → Int) (s : Int) : Nat → Int
  | 0 => s
  | i + 1 => fl p s i - min (p i) (fl p s i / ((i : Int) + 1)) * ((i : Int) + 1)
def ft (p : Nat → Int) (s : Int) : Nat → Int
  | 0 => 0
  | i + 1 => ft p s i + min (p i) (fl p s i / ((i : Int) + 1))

section
variable {p : Nat → Int} (hp : ∀ i, 0 ≤ p i)
include hp
theorem S_nonneg : ∀ i, 0 ≤ S p i
  | 0 => Int.le_refl 0
  | i + 1 => by
    have h := S_nonneg i
    have h2 := hp i
    show 0 ≤ S p i + p i
    omega
theorem S_mono : ∀ {i j : Nat}, i ≤ j → S p i ≤ S p j := by
  intro i j h
  induction h with
  | refl => exact Int.le_refl _
  | @step j _ ih =>
    have h2 := hp j
    show S p i ≤ S p j + p j
    omega
theorem wl_eq {m : Int} (h0 : 0 ≤ m) : ∀ i, wl p m i = max 0 (m - S p i)
  | 0 => by
    show m = max 0 (m - 0)
    omega
  | i + 1 => by
    have h := wl_eq h0 i
    have h1 := hp i
    show wl p m i - min (wl p m i) (p i) = max 0 (m - (S p i + p i))
    omega
theorem C_mono {m k : Int} (h : m ≤ k) : ∀ n, C p m n ≤ C p k n
  | 0 => Int.le_refl 0
  | n + 1 => by
    have ih := C_mono h n
    show C p m n + max 0 (m - S p n) ≤ C p k n + max 0 (k - S p n)
    omega
theorem C_lip {m d : Int} (h : 0 ≤ d) : ∀ n : Nat, C p (m + d) n ≤ C p m n + d * n
  | 0 => by
    show (0 : Int) ≤ 0 + d * 0
    omega
  | n + 1 => by
    have ih := C_lip (m := m) h n
    have e : d * ((n + 1 : Nat) : Int) = d * n + d := by
      rw [Int.natCast_add, Int.mul_add]
      simp
    show C p (m + d) n + max 0 (m + d - S p n) ≤ C p m n + max 0 (m - S p n) + d * ((n + 1 : Nat) : Int)
    rw [e]
    omega
theorem C_lin {m d : Int} (h : 0 ≤ d) : ∀ n : Nat, (∀ j, j < n → S p j ≤ m) → C p (m + d) n = C p m n + d * n
  | 0, _ => by
    show (0 : Int) = 0 + d * 0
    omega
  | n + 1, hm => by
    have ih := C_lin h n fun j hj => hm j (Nat.lt_succ_of_lt hj)
    have hn := hm n (Nat.lt_succ_self n)
    have e : d * ((n + 1 : Nat) : Int) = d * n + d := by
      rw [Int.natCast_add, Int.mul_add]
      simp
    show C p (m + d) n + max 0 (m + d - S p n) = C p m n + max 0 (m - S p n) + d * ((n + 1 : Nat) : Int)
    rw [e]
    omega
theorem C_lin_S {d : Int} (h : 0 ≤ d) (n : Nat) : C p (S p n + d) n = C p (S p n) n + d * n :=
  C_lin hp h n fun _ hj => S_mono hp (Nat.le_of_lt hj)
/-- the weight of at most all words is C; beyond it stays -/
theorem wt_eq {m : Int} (h0 : 0 ≤ m) : ∀ n : Nat, wt p m n = C p (min m (S p n)) n
  | 0 => rfl
  | n + 1 => by
    have ih := wt_eq h0 n
    have hw := wl_eq hp h0 n
    have h1 := hp n
    have e : C p (min m (S p (n + 1))) (n + 1) = C p (min m (S p n + p n)) n + max 0 (min m (S p n + p n) - S p n) := rfl
    rw [e]
    show wt p m n + min (wl p m n) (p n) * ((n : Int) + 1) = _
    rw [ih, hw]
    by_cases c : m ≤ S p n
    · have e1 : min (max 0 (m - S p n)) (p n) = 0 := by omega
      have e2 : min m (S p n) = m := by omega
      have e3 : min m (S p n + p n) = m := by omega
      rw [e1, e2, e3]
      omega
    · have hd : 0 ≤ min (m - S p n) (p n) := by omega
      have e1 : min (max 0 (m - S p n)) (p n) = min (m - S p n) (p n) := by omega
      have e2 : min m (S p n) = S p n := by omega
      have e3 : min m (S p n + p n) = S p n + min (m - S p n) (p n) := by omega
      rw [e1, e2, e3, C_lin_S hp hd n]
      generalize min (m - S p n) (p n) = d at hd
      have e4 : d * ((n : Int) + 1) = d * n + d := by
        rw [Int.mul_add]
        omega
      rw [e4]
      omega
theorem wt_le {m : Int} (h0 : 0 ≤ m) {n : Nat} (h : m ≤ S p n) : wt p m n = C p m n := by
  rw [wt_eq hp h0 n]
  have e : min m (S p n) = m := by omega
  rw [e]

/-- what the greedy fill is, after i sizes -/
structure Gd (p : Nat → Int) (s : Int) (i : Nat) : Prop where
  l0 : 0 ≤ fl p s i
  t0 : 0 ≤ ft p s i
  tS : ft p s i ≤ S p i
  eC : C p (ft p s i) i = s - fl p s i
  mx : ft p s i < S p i → s < C p (ft p s i + 1) i
theorem gd {s : Int} (h0 : 0 ≤ s) : ∀ i, Gd p s i
  | 0 => ⟨h0, Int.le_refl 0, Int.le_refl 0, by
      show (0 : Int) = s - s
      omega, fun h => absurd h (Int.lt_irrefl 0)⟩
  | i + 1 => by
    obtain ⟨l0, t0, tS, eC, mx⟩ := gd h0 i
    have hpi := hp i
    have hq0 : 0 ≤ fl p s i / ((i : Int) + 1) := Int.ediv_nonneg l0 (by omega)
    have hq1 : fl p s i / ((i : Int) + 1) * ((i : Int) + 1) ≤ fl p s i := Int.ediv_mul_le _ (by omega)
    have hq2 : fl p s i < (fl p s i / ((i : Int) + 1) + 1) * ((i : Int) + 1) := by
      have := Int.lt_ediv_add_one_mul_self (fl p s i) (show (0 : Int) < (i : Int) + 1 by omega)
      exact this
    have eL : fl p s (i + 1) = fl p s i - min (p i) (fl p s i / ((i : Int) + 1)) * ((i : Int) + 1) := rfl
    have eT : ft p s (i + 1) = ft p s i + min (p i) (fl p s i / ((i : Int) + 1)) := rfl
    have eS : S p (i + 1) = S p i + p i := rfl
    have eCs : ∀ m, C p m (i + 1) = C p m i + max 0 (m - S p i) := fun _ => rfl
    generalize hL : fl p s i = L at *
    generalize hT : ft p s i = T at *
    generalize hq : L / ((i : Int) + 1) = q at *
    generalize ht : min (p i) q = t at *
    have ht0 : 0 ≤ t := by omega
    have htq : t ≤ q := by omega
    have htp : t ≤ p i := by omega
    have htl : t * ((i : Int) + 1) ≤ q * ((i : Int) + 1) := Int.mul_le_mul_of_nonneg_right htq (by omega)
    have en : t * ((i : Int) + 1) = t * i + t := by
      rw [Int.mul_add]
      omega
    rcases Int.lt_or_eq_of_le tS with c | c
    · -- the fill has stopped before
      have h1 := mx c
      have h2 := C_lip hp (m := T) (d := 1) (by omega) i
      rw [eC] at h2
      have hz : L < (i : Int) + 1 := by omega
      have hq3 : q = 0 := by
        rw [← hq]
        exact Int.ediv_eq_zero_of_lt l0 hz
      have ht3 : t = 0 := by omega
      subst ht3
      refine ⟨by rw [eL]; omega, by rw [eT]; omega, by rw [eT, eS]; omega, ?_, fun _ => ?_⟩
      · rw [eT, eL, eCs, Int.add_zero, eC]
        omega
      · rw [eT, eCs, Int.add_zero]
        omega
    · -- all are taken so far
      subst c
      have k1 := C_lin_S hp ht0 i
      refine ⟨by rw [eL]; omega, by rw [eT]; omega, by rw [eT, eS]; omega, ?_, fun c2 => ?_⟩
      · rw [eT, eL, eCs, k1, eC]
        omega
      · rw [eT, eS] at c2
        have ht4 : t = q := by omega
        have k2 := C_lin_S hp (show 0 ≤ t + 1 by omega) i
        rw [eT, eCs, show S p i + t + 1 = S p i + (t + 1) by omega, k2, eC]
        have e5 : (t + 1) * ((i : Int) + 1) = (t + 1) * i + (t + 1) := by
          rw [Int.mul_add]
          omega
        rw [ht4] at e5 ⊢
        omega
theorem ft_most {s : Int} (h0 : 0 ≤ s) {n : Nat} {t : Int} (h2 : t ≤ S p n) (h3 : C p t n ≤ s) : t ≤ ft p s n := by
  have g := gd hp h0 n
  by_cases c : t ≤ ft p s n
  · exact c
  · have h4 := g.mx (by omega)
    have h5 := C_mono hp (show ft p s n + 1 ≤ t by omega) n
    omega
/-- m words of the next size and the best of the rest are no more than the fill -/
theorem dp_le {s m : Int} (h0 : 0 ≤ s) {i : Nat} (hm : 0 ≤ m) (hmp : m ≤ p i) (hs : m * ((i : Int) + 1) ≤ s) :
    ft p (s - m * ((i : Int) + 1)) i + m ≤ ft p s (i + 1) := by
  have g := gd hp (show 0 ≤ s - m * ((i : Int) + 1) by omega) i
  have l0 := g.l0
  have tS := g.tS
  have eC := g.eC
  have lp := C_lip hp (m := ft p (s - m * ((i : Int) + 1)) i) hm i
  have en : m * ((i : Int) + 1) = m * i + m := by
    rw [Int.mul_add]
    omega
  refine ft_most hp h0 ?_ ?_
  · show _ ≤ S p i + p i
    omega
  · show C p (ft p (s - m * ((i : Int) + 1)) i + m) i + max 0 (ft p (s - m * ((i : Int) + 1)) i + m - S p i) ≤ s
    omega
/-- and one m is as good -/
theorem dp_ge {s : Int} (h0 : 0 ≤ s) (i : Nat) :
    ∃ m : Int, 0 ≤ m ∧ m ≤ p i ∧ m * ((i : Int) + 1) ≤ s ∧ ft p s (i + 1) ≤ ft p (s - m * ((i : Int) + 1)) i + m := by
  have g := gd hp h0 i
  have l0 := g.l0
  have t0 := g.t0
  have eC := g.eC
  have hpi := hp i
  have hq0 : 0 ≤ fl p s i / ((i : Int) + 1) := Int.ediv_nonneg l0 (by omega)
  have hq1 : fl p s i / ((i : Int) + 1) * ((i : Int) + 1) ≤ fl p s i := Int.ediv_mul_le _ (by omega)
  have htl : min (p i) (fl p s i / ((i : Int) + 1)) * ((i : Int) + 1) ≤ fl p s i / ((i : Int) + 1) * ((i : Int) + 1) :=
    Int.mul_le_mul_of_nonneg_right (by omega) (by omega)
  have hC0 : ∀ (m : Int) (n : Nat), 0 ≤ C p m n := by
    intro m n
    induction n with
    | zero => exact Int.le_refl 0
    | succ n ih =>
      show 0 ≤ C p m n + max 0 (m - S p n)
      omega
  have hc := hC0 (ft p s i) i
  have h5 : min (p i) (fl p s i / ((i : Int) + 1)) * ((i : Int) + 1) ≤ s := by omega
  refine ⟨min (p i) (fl p s i / ((i : Int) + 1)), by omega, by omega, h5, ?_⟩
  have key : ft p s i ≤ ft p (s - min (p i) (fl p s i / ((i : Int) + 1)) * ((i : Int) + 1)) i :=
    ft_most hp (by omega) g.tS (by rw [eC]; omega)
  show ft p s i + min (p i) (fl p s i / ((i : Int) + 1)) ≤ _
  omega
end
/-! ### the sums and letters of a list -/
def at0 (ps : List Int) (i : Nat) : Int := ps.getD i 0
theorem S_sum : ∀ (ps : List Int) (i : Nat), i ≤ ps.length → S (at0 ps) i = (ps.take i).sum
  | _, 0, _ => by simp [S]
  | ps, i + 1, h => by
    have ih := S_sum ps i (by omega)
    have e : ps.take (i + 1) = ps.take i ++ [ps[i]'(by omega)] := (List.take_append_getElem (by omega)).symm
    rw [e, List.sum_append]
    show S (at0 ps) i + at0 ps i = _
    rw [ih]
    have e2 : at0 ps i = ps[i]'(by omega) := by
      unfold at0
      rw [List.getD_eq_getElem?_getD, List.getElem?_eq_getElem (by omega)]
      rfl
    rw [e2]
    simp
theorem S_all (ps : List Int) : S (at0 ps) ps.length = ps.sum := by
  rw [S_sum ps ps.length (Nat.le_refl _), List.take_length]
theorem at0_nonneg {ps : List Int} (h : ∀ x ∈ ps, 0 ≤ x) (i : Nat) : 0 ≤ at0 ps i := by
  unfold at0
  rw [List.getD_eq_getElem?_getD]
  cases e : ps[i]? with
  | none => exact Int.le_refl 0
  | some x => exact h x (List.mem_of_getElem? e)
def weight (ps : List Int) (m : Int) : Int := wt (at0 ps) m ps.length
def fillF (s : Int) (ps : List Int) : Int := ft (at0 ps) s ps.length
/-- the fill is right: at most all, its letters fit, and one more would not -/
theorem fill_right {ps : List Int} (h : ∀ x ∈ ps, 0 ≤ x) {s : Int} (h0 : 0 ≤ s) :
    0 ≤ fillF s ps ∧ fillF s ps ≤ ps.sum ∧ weight ps (fillF s ps) ≤ s ∧ (fillF s ps = ps.sum ∨ s < weight ps (fillF s ps + 1)) := by
  have hp := at0_nonneg h
  have g := gd hp h0 ps.length
  have t0 := g.t0
  have tS := g.tS
  have l0 := g.l0
  have eC := g.eC
  have mx := g.mx
  have a := S_all ps
  have w1 := wt_le hp t0 tS
  unfold fillF weight
  rw [a] at tS mx
  refine ⟨t0, tS, ?_, ?_⟩
  · rw [w1, eC]
    omega
  · by_cases c : ft (at0 ps) s ps.length = ps.sum
    · exact .inl c
    · refine .inr ?_
      rw [wt_le hp (by omega) (by rw [a]; omega)]
      exact mx (by omega)
theorem fillF_nonneg {ps : List Int} (h : ∀ x ∈ ps, 0 ≤ x) {s : Int} (h0 : 0 ≤ s) : 0 ≤ fillF s ps := (fill_right h h0).1
theorem weight_nonneg {ps : List Int} (h : ∀ x ∈ ps, 0 ≤ x) {m : Int} (h0 : 0 ≤ m) : 0 ≤ weight ps m := by
  unfold weight
  rw [wt_eq (at0_nonneg h) h0]
  generalize min m (S (at0 ps) ps.length) = k
  generalize ps.length = n
  induction n with
  | zero => exact Int.le_refl 0
  | succ n ih =>
    show 0 ≤ C (at0 ps) k n + max 0 (k - S (at0 ps) n)
    omega
end K02
namespace K02
/-! ### strings of bits as lists of codes -/
def bit1 (c : Nat) : Int := if c = 49 then 1 else 0
def val (l : List Nat) : Int := l.foldl (fun v c => v * 2 + bit1 c) 0
def Digs (l : List Nat) : Prop := ∀ c, c ∈ l → c = 48 ∨ c = 49
def p2 : Nat → Int
  | 0 => 1
  | n + 1 => p2 n * 2
theorem p2_pos : ∀ n, 0 < p2 n
  | 0 => by decide
  | n + 1 => by
    have h := p2_pos n
    show 0 < p2 n * 2
    omega
theorem p2_cast : ∀ n, p2 n = ((2 ^ n : Nat) : Int)
  | 0 => rfl
  | n + 1 => by
    show p2 n * 2 = _
    rw [p2_cast n, Nat.pow_succ, Int.natCast_mul]
    rfl
def valR : List Nat → Int
  | [] => 0
  | c :: r => bit1 c * p2 r.length + valR r
theorem fold_val : ∀ (l : List Nat) (a : Int), l.foldl (fun v c => v * 2 + bit1 c) a = a * p2 l.length + valR l
  | [], a => by
    show a = a * 1 + 0
    omega
  | c :: r, a => by
    show r.foldl (fun v c => v * 2 + bit1 c) (a * 2 + bit1 c) = a * (p2 r.length * 2) + (bit1 c * p2 r.length + valR r)
    rw [fold_val r, Int.add_mul]
    have e : a * 2 * p2 r.length = a * (p2 r.length * 2) := by rw [Int.mul_assoc, Int.mul_comm 2]
    rw [e]
    omega
theorem val_R (l : List Nat) : val l = valR l := by
  unfold val
  rw [fold_val l 0]
  omega
theorem valR_bound : ∀ l : List Nat, 0 ≤ valR l ∧ valR l < p2 l.length
  | [] => ⟨Int.le_refl 0, by decide⟩
  | c :: r => by
    obtain ⟨h1, h2⟩ := valR_bound r
    show 0 ≤ bit1 c * p2 r.length + valR r ∧ bit1 c * p2 r.length + valR r < p2 r.length * 2
    unfold bit1
    split
    · omega
    · omega
theorem lex_of_val : ∀ (a b : List Nat), a.length = b.length → Digs a → Digs b → valR a < valR b → a < b
  | [], [], _, _, _, h => absurd h (Int.lt_irrefl 0)
  | [], _ :: _, h, _, _, _ => nomatch h
  | _ :: _, [], h, _, _, _ => nomatch h
  | x :: r, y :: t, hl, ha, hb, hv => by
    have hl2 : r.length = t.length := Nat.succ.inj hl
    have b1 := valR_bound r
    have b2 := valR_bound t
    have hx := ha x (List.mem_cons_self ..)
    have hy := hb y (List.mem_cons_self ..)
    have hv2 : bit1 x * p2 r.length + valR r < bit1 y * p2 t.length + valR t := hv
    rw [← hl2] at hv2 b2
    rw [List.cons_lt_cons_iff]
    rcases hx with rfl | rfl
    · rcases hy with rfl | rfl
      · refine .inr ⟨rfl, lex_of_val r t hl2 (fun c h => ha c (List.mem_cons_of_mem _ h)) (fun c h => hb c (List.mem_cons_of_mem _ h)) ?_⟩
        simp only [bit1] at hv2
        omega
      · exact .inl (by decide)
    · rcases hy with rfl | rfl
      · simp only [bit1] at hv2
        simp at hv2
        omega
      · refine .inr ⟨rfl, lex_of_val r t hl2 (fun c h => ha c (List.mem_cons_of_mem _ h)) (fun c h => hb c (List.mem_cons_of_mem _ h)) ?_⟩
        simp only [bit1] at hv2
        omega
theorem valR_append : ∀ (a b : List Nat), valR (a ++ b) = valR a * p2 b.length + valR b
  | [], b => by
    show valR b = 0 * p2 b.length + valR b
    omega
  | c :: r, b => by
    have ih := valR_append r b
    show bit1 c * p2 (r ++ b).length + valR (r ++ b) = (bit1 c * p2 r.length + valR r) * p2 b.length + valR b
    have e : p2 (r ++ b).length = p2 r.length * p2 b.length := by
      rw [p2_cast, p2_cast, p2_cast, List.length_append, Nat.pow_add, Int.natCast_mul]
    rw [ih, e, Int.add_mul, Int.mul_assoc]
    omega
theorem valR_zeros : ∀ n : Nat, valR (List.replicate n 48) = 0
  | 0 => rfl
  | n + 1 => by
    show bit1 48 * p2 (List.replicate n 48).length + valR (List.replicate n 48) = 0
    rw [valR_zeros n]
    show (0 : Int) * _ + 0 = 0
    omega
def bins (n : Nat) : List Nat := (Nat.toDigits 2 n).map Char.toNat
theorem bins_ok (n : Nat) : Digs (bins n) ∧ valR (bins n) = (n : Int) := by
  induction n using Nat.strongRecOn with
  | ind n ih =>
    unfold bins
    rw [Nat.toDigits_eq_if (by decide)]
    by_cases h : n < 2
    · rw [if_pos h]
      have : n = 0 ∨ n = 1 := by omega
      rcases this with rfl | rfl
      · exact ⟨fun c hc => .inl (List.mem_singleton.mp (show c ∈ [48] from hc)), rfl⟩
      · exact ⟨fun c hc => .inr (List.mem_singleton.mp (show c ∈ [49] from hc)), rfl⟩
    · rw [if_neg h, List.map_append]
      obtain ⟨h1, h2⟩ := ih (n / 2) (by omega)
      have hm : n % 2 = 0 ∨ n % 2 = 1 := by omega
      refine ⟨fun c hc => ?_, ?_⟩
      · rcases List.mem_append.mp hc with hc | hc
        · exact h1 c hc
        · rcases hm with e | e
          · rw [e] at hc
            exact .inl (List.mem_singleton.mp (show c ∈ [48] from hc))
          · rw [e] at hc
            exact .inr (List.mem_singleton.mp (show c ∈ [49] from hc))
      · have e1 : valR (List.map Char.toNat (Nat.toDigits 2 (n / 2))) = ((n / 2 : Nat) : Int) := h2
        rw [valR_append, e1]
        rcases hm with e | e
        · rw [e]
          show ((n / 2 : Nat) : Int) * 2 + 0 = (n : Int)
          omega
        · rw [e]
          show ((n / 2 : Nat) : Int) * 2 + 1 = (n : Int)
          omega
theorem bins_len {n k : Nat} (hk : 0 < k) (h : n < 2 ^ k) : (bins n).length ≤ k := by
  unfold bins
  rw [List.length_map]
  exact (Nat.length_toDigits_le_iff (by decide) hk).mpr h
theorem bins_pos (n : Nat) : 0 < (bins n).length := by
  unfold bins
  rw [List.length_map]
  exact Nat.length_toDigits_pos
/-- n as exactly w bits -/
def nbL (n w : Nat) : List Nat := if w = 0 then [] else List.replicate (w - (bins n).length) 48 ++ bins n
structure Nb (l : List Nat) (n : Int) (w : Nat) : Prop where
  len : l.length = w
  digs : Digs l
  v : valR l = n
theorem nb_ok {n w : Nat} (h : n < 2 ^ w) : Nb (nbL n w) (n : Int) w := by
  unfold nbL
  by_cases c : w = 0
  · subst c
    have : n = 0 := by
      rw [Nat.pow_zero] at h
      omega
    subst this
    exact ⟨rfl, fun c hc => (nomatch hc), rfl⟩
  · rw [if_neg c]
    have hl := bins_len (by omega) h
    obtain ⟨h1, h2⟩ := bins_ok n
    refine ⟨?_, fun d hd => ?_, ?_⟩
    · rw [List.length_append, List.length_replicate]
      omega
    · rcases List.mem_append.mp hd with hd | hd
      · exact .inl (List.eq_of_mem_replicate hd)
      · exact h1 d hd
    · rw [valR_append, valR_zeros, h2]
      omega
end K02
namespace K02
open PySem PySem.Spec PyProof.Rows L2 Evl
def top (i : Nat) : Stmt := PySem.Challenge.pw_outpressed_k02_numbers_in_bits_and_fills.main.body.getD i (.Pass ⟨0, 0, 0, 0⟩)
abbrev s_width : Stmt := top 1
abbrev N_width : List Str := ["options"]
theorem S_width : FnScope N_width ["options"] (defScope s_width) := ⟨rfl, rfl, rfl, by decide +kernel, rfl, by decide +kernel, by decide +kernel⟩
abbrev s_number_bits : Stmt := top 2
abbrev N_number_bits : List Str := ["number", "options", "bits", "digits"]
theorem S_number_bits : FnScope N_number_bits ["number", "options"] (defScope s_number_bits) := ⟨rfl, rfl, rfl, by decide +kernel, rfl, by decide +kernel, by decide +kernel⟩
abbrev s_fill : Stmt := top 4
abbrev N_fill : List Str := ["length", "counts", "left", "total", "size", "count", "taken"]
theorem S_fill : FnScope N_fill ["length", "counts"] (defScope s_fill) := ⟨rfl, rfl, rfl, by decide +kernel, rfl, by decide +kernel, by decide +kernel⟩
abbrev s__law_whole : Stmt := top 6
abbrev N__law_whole : List Str := ["value"]
theorem S__law_whole : FnScope N__law_whole ["value"] (defScope s__law_whole) := ⟨rfl, rfl, rfl, by decide +kernel, rfl, by decide +kernel, by decide +kernel⟩
abbrev s__law_cell : Stmt := top 7
abbrev N__law_cell : List Str := ["script", "k", "seed", "cell"]
theorem S__law_cell : FnScope N__law_cell ["script", "k"] (defScope s__law_cell) := ⟨rfl, rfl, rfl, by decide +kernel, rfl, by decide +kernel, by decide +kernel⟩
abbrev s__law_digits : Stmt := top 8
abbrev N__law_digits : List Str := ["cell", "sizes", "row", "rest", "size", "seed", "k", "twice"]
theorem S__law_digits : FnScope N__law_digits ["cell", "sizes"] (defScope s__law_digits) := ⟨rfl, rfl, rfl, by decide +kernel, rfl, by decide +kernel, by decide +kernel⟩
abbrev s__law_power : Stmt := top 9
abbrev N__law_power : List Str := ["base", "often", "top", "k"]
theorem S__law_power : FnScope N__law_power ["base", "often"] (defScope s__law_power) := ⟨rfl, rfl, rfl, by decide +kernel, rfl, by decide +kernel, by decide +kernel⟩
abbrev s__law_big : Stmt := top 10
abbrev N__law_big : List Str := ["row", "used", "value", "k"]
theorem S__law_big : FnScope N__law_big ["row", "used"] (defScope s__law_big) := ⟨rfl, rfl, rfl, by decide +kernel, rfl, by decide +kernel, by decide +kernel⟩
abbrev s__law_many : Stmt := top 11
abbrev N__law_many : List Str := ["row", "digits"]
theorem S__law_many : FnScope N__law_many ["row", "digits"] (defScope s__law_many) := ⟨rfl, rfl, rfl, by decide +kernel, rfl, by decide +kernel, by decide +kernel⟩
abbrev s__law_width : Stmt := top 12
abbrev N__law_width : List Str := ["many", "wide", "top", "k"]
theorem S__law_width : FnScope N__law_width ["many"] (defScope s__law_width) := ⟨rfl, rfl, rfl, by decide +kernel, rfl, by decide +kernel, by decide +kernel⟩
abbrev s__law_widths_right : Stmt := top 13
abbrev N__law_widths_right : List Str := ["many", "value", "told"]
theorem S__law_widths_right : FnScope N__law_widths_right ["many"] (defScope s__law_widths_right) := ⟨rfl, rfl, rfl, by decide +kernel, rfl, by decide +kernel, by decide +kernel⟩
abbrev s__law_numbers : Stmt := top 14
abbrev N__law_numbers : List Str := ["many", "drawn", "found", "n"]
theorem S__law_numbers : FnScope N__law_numbers ["many", "drawn"] (defScope s__law_numbers) := ⟨rfl, rfl, rfl, by decide +kernel, rfl, by decide +kernel, by decide +kernel⟩
abbrev s__law_value : Stmt := top 15
abbrev N__law_value : List Str := ["bits", "wide", "value", "bit"]
theorem S__law_value : FnScope N__law_value ["bits", "wide"] (defScope s__law_value) := ⟨rfl, rfl, rfl, by decide +kernel, rfl, by decide +kernel, by decide +kernel⟩
abbrev s__law_weight : Stmt := top 16
abbrev N__law_weight : List Str := ["parts", "many", "total", "left", "k", "here"]
theorem S__law_weight : FnScope N__law_weight ["parts", "many"] (defScope s__law_weight) := ⟨rfl, rfl, rfl, by decide +kernel, rfl, by decide +kernel, by decide +kernel⟩
abbrev s__law_is_most : Stmt := top 17
abbrev N__law_is_most : List Str := ["far", "parts", "told"]
theorem S__law_is_most : FnScope N__law_is_most ["far", "parts", "told"] (defScope s__law_is_most) := ⟨rfl, rfl, rfl, by decide +kernel, rfl, by decide +kernel, by decide +kernel⟩
abbrev s__law_best : Stmt := top 18
abbrev N__law_best : List Str := ["far", "parts", "best", "k", "fresh", "space", "top", "many"]
theorem S__law_best : FnScope N__law_best ["far", "parts"] (defScope s__law_best) := ⟨rfl, rfl, rfl, by decide +kernel, rfl, by decide +kernel, by decide +kernel⟩
abbrev s__law_counts : Stmt := top 19
abbrev N__law_counts : List Str := ["row", "cell", "unit", "worth", "parts", "k", "at", "digit"]
theorem S__law_counts : FnScope N__law_counts ["row", "cell"] (defScope s__law_counts) := ⟨rfl, rfl, rfl, by decide +kernel, rfl, by decide +kernel, by decide +kernel⟩
abbrev s__law_letters : Stmt := top 20
abbrev N__law_letters : List Str := ["row", "parts", "many"]
theorem S__law_letters : FnScope N__law_letters ["row", "parts"] (defScope s__law_letters) := ⟨rfl, rfl, rfl, by decide +kernel, rfl, by decide +kernel, by decide +kernel⟩
abbrev s__law_fill_told : Stmt := top 21
abbrev N__law_fill_told : List Str := ["far", "parts", "mine", "told"]
theorem S__law_fill_told : FnScope N__law_fill_told ["far", "parts"] (defScope s__law_fill_told) := ⟨rfl, rfl, rfl, by decide +kernel, rfl, by decide +kernel, by decide +kernel⟩
abbrev s__law_small_fills : Stmt := top 22
abbrev N__law_small_fills : List Str := ["parts", "best", "far"]
theorem S__law_small_fills : FnScope N__law_small_fills ["parts"] (defScope s__law_small_fills) := ⟨rfl, rfl, rfl, by decide +kernel, rfl, by decide +kernel, by decide +kernel⟩
abbrev s_law : Stmt := top 23
abbrev N_law : List Str := ["script", "row", "sizes", "many", "wide", "giant", "value", "told", "k", "drawn", "numbers", "strings", "n", "bits", "few", "part", "parts"]
theorem S_law : FnScope N_law ["script"] (defScope s_law) := ⟨rfl, rfl, rfl, by decide +kernel, rfl, by decide +kernel, by decide +kernel⟩
structure Top (mg : Str → Option Value) : Prop where
  z_bool : mg "bool" = none
  z_enumerate : mg "enumerate" = none
  z_int : mg "int" = none
  z_isinstance : mg "isinstance" = none
  z_len : mg "len" = none
  z_list : mg "list" = none
  z_max : mg "max" = none
  z_min : mg "min" = none
  z_range : mg "range" = none
  z_sorted : mg "sorted" = none
  z_str : mg "str" = none
  z_sum : mg "sum" = none
  z_tuple : mg "tuple" = none
/-! ### a def that stands behind the top, and what it promises -/
structure At (K : PySem.W.Frag) (mg : Str → Option Value) (x : Str) (st : Stmt) : Prop where
  ex : ∃ f fd, Fun K x x st f fd ∧ mg x = some (.ref f)
def Has (P : Program) (w : World) (K : PySem.W.Frag) (mg : Str → Option Value) (base : Heap) (x : Str) (st : Stmt) (ps : List Str) (k : Nat) (sp : Sp) : Prop :=
  ∃ f fd, Fun K x x st f fd ∧ FnOk P w K mg base CX0 k f fd ps sp ∧ Binds K fd ps [] ∧ mg x = some (.ref f) ∧ PySem.W.keepIn K (.ref f) = true
/-! called with keywords alone -/
section
variable {X : Cx} {CX : CXT} {k : Nat} {f : Addr} {fd : FuncData} {ps ks : List Str} {sp : Sp} {E : XK} {x : Str} {p pos : Pos} {kws : List Keyword} {tk : TA} {g : List Value → List Value → List Value} {gV : List V → List V → List V}
theorem pe_callN0 (F : FnOk X.prog X.w X.K X.mg X.base CX k f fd ps sp) (room : Room k X.A) (gl : Gl X x) (at_ : X.mg x = some (.ref f)) (keep : PySem.W.keepIn X.K (.ref f) = true)
    (bd : KBn X.K fd ps 0 ks g gV) (pass : Passes CX X E) (kw : PK X kws tk)
    (named : (backToKw pos (keywordEach kws X.env)).all (·.1.isSome) = true := by rfl)
    (names : (backToKw pos (keywordEach kws X.env)).filterMap (·.1) = ks := by rfl)
    (nodebug : (x == ("__debug__" : Str)) = false := by decide)
    (plain : ((backTo pos (starEach [] X.env)).any (·.1) || (backToKw pos (keywordEach kws X.env)).any (·.1.isNone)) = false := by rfl) :
    PE X (.Call (.Name x p) [] kws pos) (tCallN 0 ks.length sp gV E tNil tk) := by
  refine ⟨fun pins s σ H Q I h => ?_⟩
  refine wpAny_Call_Name_kw (ld_glob I gl at_ ?_ nodebug)
  refine PySem.W.callWith_KW0 (h₀ := X.base) I.ok.mod.kin keep named ?_ plain
  refine thn (kw.run pos pins s σ H _ I h) ?_
  intro ws s2 got
  obtain ⟨zs, H2, I2, rz, l1, l2, q2⟩ := got
  refine ⟨I2.kIn, ?_⟩
  rw [names]
  exact run_fnN (us := []) (vs := []) F room bd pass I2 .nil rz rfl l2 q2
end
theorem E_of {H : Hp} {p : Addr} {o : HO} (h : H p = none) : Ex H (upd H p o) := Ex.new h
/-! ### calls of built-ins on values -/
section
variable {K : PySem.W.Frag} {H : Hp}
theorem rc_min {i j : Int} : RC (fun xs H Q => ∃ i j, xs = [V.int i, V.int j] ∧ Q (V.int (if j < i then j else i)) H) [.int i, .int j] H (.int (min i j)) := fun H1 _ Q q =>
  ⟨i, j, rfl, by
    have e : (if j < i then j else i) = min i j := by
      split <;> omega
    rw [e]
    exact q H1 (Ex.refl H1)⟩
theorem rc_max {i j : Int} : RC (fun xs H Q => ∃ i j, xs = [V.int i, V.int j] ∧ Q (V.int (if j > i then j else i)) H) [.int i, .int j] H (.int (max i j)) := fun H1 _ Q q =>
  ⟨i, j, rfl, by
    have e : (if j > i then j else i) = max i j := by
      split <;> omega
    rw [e]
    exact q H1 (Ex.refl H1)⟩
theorem rc_int {i : Int} : RC (fun xs H Q => (∃ i, xs = [V.int i] ∧ Q (V.int i) H) ∨ ∃ k, xs = [V.bl k] ∧ Q (V.int (if k = true then 1 else 0)) H) [.int i] H (.int i) := fun H1 _ _ q =>
  .inl ⟨i, rfl, q H1 (Ex.refl H1)⟩
theorem rc_intB {b : Bool} : RC (fun xs H Q => (∃ i, xs = [V.int i] ∧ Q (V.int i) H) ∨ ∃ k, xs = [V.bl k] ∧ Q (V.int (if k = true then 1 else 0)) H) [.bl b] H (.int (if b = true then 1 else 0)) := fun H1 _ _ q =>
  .inr ⟨b, rfl, q H1 (Ex.refl H1)⟩
theorem rc_lenL {p : Addr} {xs : List V} (h : SqL K H p xs) : RC (fun vs H Q => ∃ p ys, vs = [V.ref p] ∧ (SqL K H p ys ∨ SqT K H p ys) ∧ Q (V.int ys.length) H) [.ref p] H (.int xs.length) := fun H1 e _ q =>
  ⟨p, xs, rfl, .inl (ex_l e h), q H1 (Ex.refl H1)⟩
theorem rc_sum {p : Addr} {ns : List Int} (h : SqL K H p (ns.map V.int)) : RC (fun vs H Q => ∃ (a : Addr) (ns : List Int), vs = [V.ref a] ∧ SqL K H a (ns.map V.int) ∧ Q (V.int ns.sum) H) [.ref p] H (.int ns.sum) := fun H1 e _ q =>
  ⟨p, ns, rfl, ex_l e h, q H1 (Ex.refl H1)⟩
end
/-- the int at a place -/
theorem at_int {ns : List Int} {i : Nat} (h : i < ns.length) : atI (ns.map V.int) (i : Int) = some (.int (at0 ns i)) := by
  refine atI_nat ?_
  rw [List.getElem?_map, List.getElem?_eq_getElem h]
  unfold at0
  rw [List.getD_eq_getElem?_getD, List.getElem?_eq_getElem h]
  rfl
section
variable {P : Program} {w : World} {K : PySem.W.Frag} {mg : Str → Option Value} {base : Heap}
/-! ### width -/
def bitsOf (n : Int) : Int := ((Builtin.Int.intBits (n - 1) : Nat) : Int)
def spWidth : Sp := fun vs H Q _ => ∃ n : Int, vs = [.int n] ∧ RetV (.int (bitsOf n)) H Q
theorem has_width (F : At K mg "width" s_width) : Has P w K mg base "width" s_width ["options"] 1 spWidth := by
  obtain ⟨f, fd, F, m⟩ := F.ex
  refine ⟨f, fd, F, F.ok S_width (fun vs H Q E h => ?_) (fun cdv A outer s H vs Q E hr h => ?_), F.binds fun _ _ _ _ _ _ us hl => match us, hl with | [_], _ => rfl, m, F.kp⟩
  · obtain ⟨n, rfl, _⟩ := h
    rfl
  obtain ⟨n, rfl, q⟩ := h
  refine ⟨_, (pss_one
    (ps_ret (pe_bits (pe_op op_sub (pv 0) pe_int)))), ?_⟩
  refine ⟨_, rfl, _, _, rfl, rfl, _, rfl, ?_⟩
  exact q H (Ex.refl H)
theorem sv_width {n : Int} {H : Hp} : SpV spWidth ([V.int n] ++ []) H (.int (bitsOf n)) := fun _ _ _ q _ => ⟨n, rfl, q⟩
/-! ### _law_power -/
def spPower : Sp := fun vs H Q _ => ∃ b n : Int, vs = [.int b, .int n] ∧ (0 ≤ b ∧ b ≤ 100) ∧ (0 ≤ n ∧ n ≤ 5000) ∧ RetV (.int (b ^ n.toNat)) H Q
theorem has_power (F : At K mg "_law_power" s__law_power) (T : Top mg) : Has P w K mg base "_law_power" s__law_power ["base", "often"] 1 spPower := by
  obtain ⟨f, fd, F, m⟩ := F.ex
  refine ⟨f, fd, F, F.ok S__law_power (fun vs H Q E h => ?_) (fun cdv A outer s H vs Q E hr h => ?_), F.binds fun _ _ _ _ _ _ us hl => match us, hl with | [_, _], _ => rfl, m, F.kp⟩
  · obtain ⟨b, n, rfl, _⟩ := h
    rfl
  obtain ⟨b, n, rfl, hb, hn, q⟩ := h
  refine ⟨_, (pss_cons
    (ps_set (i := 2) S__law_power.nd rfl (Or.inl rfl) pe_int)
    (pss_cons
    (ps_for PassesOwn.never rfl (pi_range1 rfl T.z_range (pa_cons (pv 1) pa_nil)) (pg_name (i := 3) S__law_power.nd rfl (Or.inl rfl)) (pss_one
    (ps_set (i := 2) S__law_power.nd rfl (Or.inl rfl) (pe_op op_mul (pv 2) (pv 0)))))
    (pss_one
    (ps_ret (pv 2))))), ?_⟩
  refine q_asg ev_c fun H1 e1 => ?_
  refine q_forR1 (ea_cons (ev_var rfl) ea_nil) (by omega) (fun i σ' H' => (∃ u, σ' = [some (.int b), some (.int n), some (.int (b ^ i)), u]) ∧ Ex H H') ?_ ?_ ?_
  · intro H2 e2
    refine ⟨⟨none, ?_⟩, e1.trans e2⟩
    rw [Int.pow_zero]
    rfl
  · intro i σ' H' hi p
    obtain ⟨⟨u, rfl⟩, e2⟩ := p
    refine s_asg (ev_op (ev_var rfl) (ev_var rfl) (rv_I (Or.inr ⟨by omega, by omega⟩))) fun H2 e3 => ⟨⟨some (.int (i : Int)), ?_⟩, e2.trans e3⟩
    rw [Int.pow_succ]
    rfl
  · intro σ' H' p
    obtain ⟨⟨u, rfl⟩, e2⟩ := p
    refine s_ret (ev_var rfl) fun H2 e3 => q H2 (e2.trans e3)
theorem sv_power {b n : Int} {H : Hp} (hb : 0 ≤ b ∧ b ≤ 100) (hn : 0 ≤ n ∧ n ≤ 5000) : SpV spPower ([V.int b, V.int n] ++ []) H (.int (b ^ n.toNat)) := fun _ _ _ q _ => ⟨b, n, rfl, hb, hn, q⟩
end
end K02
namespace K02
open PySem PySem.Spec PyProof.Rows L2 Evl
/-! ### readings in short -/
section
variable {σ : L2.St} {H : Hp} {t : TT} {tu tz : TS} {D : Ends} {K : PySem.W.Frag} {ta tb : TE}
/-- an if that is not taken -/
theorem q_skip (h : EvT t σ H false) (k : ∀ H1, Ex H H1 → tz D σ H1) : tSeq (tIfS t tu tNext) tz D σ H := q_when h (fun hb => absurd hb Bool.false_ne_true) (fun _ => k)
theorem s_skip (h : EvT t σ H false) (k : ∀ H1, Ex H H1 → D.nx σ H1) : tIfS t tu tNext D σ H := s_when h (fun hb => absurd hb Bool.false_ne_true) (fun _ => k)
/-- an if that is taken -/
theorem q_take (h : EvT t σ H true) (k : ∀ H1, Ex H H1 → tu { D with nx := tz D } σ H1) : tSeq (tIfS t tu tNext) tz D σ H := q_when h (fun _ => k) (fun hb => nomatch hb)
theorem et_lt {i j : Int} (ha : Ev ta σ H (.int i)) (hb : Ev tb σ H (.int j)) : EvT (tTest (tOp (rI0 fun i j => .bl (decide (i < j))) ta tb)) σ H (decide (i < j)) := et_test (ev_op ha hb rv_I0)
theorem et_le {i j : Int} (ha : Ev ta σ H (.int i)) (hb : Ev tb σ H (.int j)) : EvT (tTest (tOp (rI0 fun i j => .bl (decide (i ≤ j))) ta tb)) σ H (decide (i ≤ j)) := et_test (ev_op ha hb rv_I0)
theorem et_gt {i j : Int} (ha : Ev ta σ H (.int i)) (hb : Ev tb σ H (.int j)) : EvT (tTest (tOp (rI0 fun i j => .bl (decide (j < i))) ta tb)) σ H (decide (j < i)) := et_test (ev_op ha hb rv_I0)
theorem et_ge {i j : Int} (ha : Ev ta σ H (.int i)) (hb : Ev tb σ H (.int j)) : EvT (tTest (tOp (rI0 fun i j => .bl (decide (j ≤ i))) ta tb)) σ H (decide (j ≤ i)) := et_test (ev_op ha hb rv_I0)
theorem et_neI {i j : Int} (ha : Ev ta σ H (.int i)) (hb : Ev tb σ H (.int j)) : EvT (tTest (tOp rNe ta tb)) σ H (!decide (i = j)) := et_test (ev_is (ev_op ha hb (rv_ne rfl)) (by simp))
theorem et_eqI {i j : Int} (ha : Ev ta σ H (.int i)) (hb : Ev tb σ H (.int j)) : EvT (tTest (tOp rEq ta tb)) σ H (decide (i = j)) := et_test (ev_is (ev_op ha hb (rv_eq rfl)) (by simp))
/-- x + y, x - y, x * y, x // y, x % y -/
theorem ev_add {i j : Int} (ha : Ev ta σ H (.int i)) (hb : Ev tb σ H (.int j)) : Ev (tOp (rI0 fun i j => .int (i + j)) ta tb) σ H (.int (i + j)) := ev_op ha hb rv_I0
theorem ev_sub {i j : Int} (ha : Ev ta σ H (.int i)) (hb : Ev tb σ H (.int j)) : Ev (tOp (rI0 fun i j => .int (i - j)) ta tb) σ H (.int (i - j)) := ev_op ha hb rv_I0
theorem ev_mulR {i j : Int} (h1 : -18446744073709551616 < j) (h2 : j < 18446744073709551616) (ha : Ev ta σ H (.int i)) (hb : Ev tb σ H (.int j)) : Ev (tOp (rI CMul fun i j => .int (i * j)) ta tb) σ H (.int (i * j)) := ev_op ha hb (rv_I (Or.inr ⟨by omega, by omega⟩))
theorem ev_mulL {i j : Int} (h1 : -18446744073709551616 < i) (h2 : i < 18446744073709551616) (ha : Ev ta σ H (.int i)) (hb : Ev tb σ H (.int j)) : Ev (tOp (rI CMul fun i j => .int (i * j)) ta tb) σ H (.int (i * j)) := ev_op ha hb (rv_I (Or.inl ⟨by omega, by omega⟩))
theorem ev_mod {i j : Int} (h : 0 < j) (ha : Ev ta σ H (.int i)) (hb : Ev tb σ H (.int j)) : Ev (tOp (rI (fun _ j => 0 < j) fun i j => .int (i % j)) ta tb) σ H (.int (i % j)) := ev_op ha hb (rv_I h)
theorem div_ok {i j : Int} (h : 0 < j) (h2 : j < 18446744073709551616) : CDivW i j := wide_div (b := 64) h (by omega) (by decide) (by decide)
theorem ev_div {i j : Int} (h : 0 < j) (h2 : j < 18446744073709551616) (ha : Ev ta σ H (.int i)) (hb : Ev tb σ H (.int j)) : Ev (tOp (rI CDivW fun i j => .int (i / j)) ta tb) σ H (.int (i / j)) := ev_op ha hb (rv_I (div_ok h h2))
theorem ev_int {i : Int} (ha : Ev ta σ H (.int i)) : Ev (tCB (fun xs H Q => (∃ i, xs = [V.int i] ∧ Q (V.int i) H) ∨ ∃ k, xs = [V.bl k] ∧ Q (V.int (if k = true then 1 else 0)) H) (tCons ta tNil)) σ H (.int i) := ev_cb (ea_cons ha ea_nil) rc_int
theorem ev_intB {b : Bool} (ha : Ev ta σ H (.bl b)) : Ev (tCB (fun xs H Q => (∃ i, xs = [V.int i] ∧ Q (V.int i) H) ∨ ∃ k, xs = [V.bl k] ∧ Q (V.int (if k = true then 1 else 0)) H) (tCons ta tNil)) σ H (.int (if b = true then 1 else 0)) := ev_cb (ea_cons ha ea_nil) rc_intB
/-- xs[i] of ints -/
theorem ev_at {a : Addr} {ns : List Int} {i : Nat} (hs : SqL K H a (ns.map V.int)) (hi : i < ns.length) (ha : Ev ta σ H (.ref a)) (hb : Ev tb σ H (.int (i : Int))) : Ev (tOp (rIxL K) ta tb) σ H (.int (at0 ns i)) := ev_op ha hb (rv_ixL hs (at_int hi))
end
theorem at0_get {ns : List Int} {i : Nat} {x : V} (h : (ns.map V.int)[i]? = some x) : i < ns.length ∧ x = .int (at0 ns i) := by
  rw [List.getElem?_map] at h
  cases e : ns[i]? with
  | none =>
    rw [e] at h
    cases h
  | some y =>
    rw [e] at h
    have hi : i < ns.length := (List.getElem?_eq_some_iff.mp e).1
    refine ⟨hi, ?_⟩
    unfold at0
    rw [List.getD_eq_getElem?_getD, e]
    exact (Option.some.inj h).symm
theorem at0_mem {ns : List Int} {i : Nat} (h : i < ns.length) : at0 ns i ∈ ns := by
  unfold at0
  rw [List.getD_eq_getElem?_getD, List.getElem?_eq_getElem h]
  exact List.getElem_mem h
section
variable {P : Program} {w : World} {K : PySem.W.Frag} {mg : Str → Option Value} {base : Heap}
/-! ### _law_whole of an int -/
def spWhole : Sp := fun vs H Q _ => ∃ n : Int, vs = [.int n] ∧ RetV (.bl true) H Q
theorem rc_isi {n : Int} {c : String} {b : Bool} {H : Hp} (h : kitB "int" c = some b) : RC (rIsi K) [.int n, .ty c] H (.bl b) := fun H1 _ _ q =>
  ⟨.int n, .ty c, _, _, b, rfl, .ty c, .base (.int n), kit_ty h, q H1 (Ex.refl H1)⟩
theorem rc_isiS {z : Str} {c : String} {b : Bool} {H : Hp} (h : kitB "str" c = some b) : RC (rIsi K) [.str z, .ty c] H (.bl b) := fun H1 _ _ q =>
  ⟨.str z, .ty c, _, _, b, rfl, .ty c, .base (.str z), kit_ty h, q H1 (Ex.refl H1)⟩
theorem has_whole (F : At K mg "_law_whole" s__law_whole) (T : Top mg) : Has P w K mg base "_law_whole" s__law_whole ["value"] 1 spWhole := by
  obtain ⟨f, fd, F, m⟩ := F.ex
  refine ⟨f, fd, F, F.ok S__law_whole (fun vs H Q E h => ?_) (fun cdv A outer s H vs Q E hr h => ?_), F.binds fun _ _ _ _ _ _ us hl => match us, hl with | [_], _ => rfl, m, F.kp⟩
  · obtain ⟨n, rfl, _⟩ := h
    rfl
  obtain ⟨n, rfl, q⟩ := h
  refine ⟨_, (pss_one
    (ps_ret (pe_and (pe_callB call_isi rfl T.z_isinstance (by decide +kernel) (pa_cons (pv 0) (pa_cons (pe_bltn (v := .ty "int") rfl T.z_int (by decide +kernel) rfl) pa_nil))) (pe_one (pe_not (pe_callB call_isi rfl T.z_isinstance (by decide +kernel) (pa_cons (pv 0) (pa_cons (pe_bltn (v := .ty "bool") rfl T.z_bool (by decide +kernel) rfl) pa_nil)))))))), ?_⟩
  exact s_ret (ev_is (ev_andV (ev_cb (ea_cons (ev_var rfl) (ea_cons ev_c ea_nil)) (rc_isi (b := true) (by decide +kernel)))
    (fun _ => ev_notV (ev_cb (ea_cons (ev_var rfl) (ea_cons ev_c ea_nil)) (rc_isi (b := false) (by decide +kernel))))) rfl) q
theorem sv_whole {n : Int} {H : Hp} : SpV spWhole ([V.int n] ++ []) H (.bl true) := fun _ _ _ q _ => ⟨n, rfl, q⟩
/-! ### _law_cell -/
def seedF (ns : List Int) : Nat → Int
  | 0 => 17
  | i + 1 => (seedF ns i * 31 + at0 ns i % 1000003) % 1000003
def cell (ns : List Int) (k : Int) : Int := if k < (ns.length : Int) then at0 ns k.toNat else ((seedF ns ns.length + 7) * (k + 3) * 69621) % 2147483647
def spCell (K : PySem.W.Frag) : Sp := fun vs H Q _ => ∃ (a : Addr) (ns : List Int) (k : Int), vs = [.ref a, .int k] ∧ SqL K H a (ns.map V.int) ∧ ns.length ≤ 63 ∧ (0 ≤ k ∧ k ≤ 1000) ∧ RetV (.int (cell ns k)) H Q
theorem has_cell (F : At K mg "_law_cell" s__law_cell) (T : Top mg) : Has P w K mg base "_law_cell" s__law_cell ["script", "k"] 1 (spCell K) := by
  obtain ⟨f, fd, F, m⟩ := F.ex
  refine ⟨f, fd, F, F.ok S__law_cell (fun vs H Q E h => ?_) (fun cdv A outer s H vs Q E hr h => ?_), F.binds fun _ _ _ _ _ _ us hl => match us, hl with | [_, _], _ => rfl, m, F.kp⟩
  · obtain ⟨a, ns, k, rfl, _⟩ := h
    rfl
  obtain ⟨a, ns, k, rfl, hS, h63, hk, q⟩ := h
  refine ⟨_, (pss_cons
    (ps_if (pt_cmpR op_lt (pv 1) (pe_callB call_len_seq rfl T.z_len PySem.boot_len (pa_cons (pv 0) pa_nil)) (nomark _)) (pss_one
    (ps_ret (pe_ix ix_list (pv 0) (pv 1) (fun _ _ => rfl)))) pss_nil)
    (pss_cons
    (ps_set (i := 2) S__law_cell.nd rfl (Or.inl rfl) pe_int)
    (pss_cons
    (ps_for PassesOwn.never rfl (pi_list (pv 0)) (pg_name (i := 3) S__law_cell.nd rfl (Or.inl rfl)) (pss_one
    (ps_set (i := 2) S__law_cell.nd rfl (Or.inl rfl) (pe_op op_mod (pe_callTy call_int1 rfl T.z_int (by decide +kernel) (pa_cons (pe_op op_add (pe_op op_mul (pv 2) pe_int) (pe_op op_mod (pe_callTy call_int1 rfl T.z_int (by decide +kernel) (pa_cons (pv 3) pa_nil)) pe_int)) pa_nil)) pe_int))))
    (pss_one
    (ps_ret (pe_op op_mod (pe_callTy call_int1 rfl T.z_int (by decide +kernel) (pa_cons (pe_op op_mul (pe_op op_mul (pe_op op_add (pv 2) pe_int) (pe_op op_add (pv 1) pe_int)) pe_int) pa_nil)) pe_int)))))), ?_⟩
  have hl : (((ns.map V.int).length : Nat) : Int) = (ns.length : Int) := by rw [List.length_map]
  refine q_when (et_is (et_lt (ev_var rfl) (ev_is (ev_cb (ea_cons (ev_var rfl) ea_nil) (rc_lenL hS)) (by rw [hl]))) rfl) (fun hb H1 e1 => ?_) (fun hb H1 e1 => ?_)
  · have hlt : k < (ns.length : Int) := of_decide_eq_true hb
    have ek : k = ((k.toNat : Nat) : Int) := by omega
    refine s_ret (ev_at (ex_l e1 hS) (show k.toNat < ns.length by omega) (ev_var rfl) (ev_is (ev_var rfl) (by rw [← ek]))) fun H2 e2 => ?_
    have e : cell ns k = at0 ns k.toNat := if_pos hlt
    rw [e] at q
    exact q H2 (e1.trans e2)
  · have hlt : ¬ k < (ns.length : Int) := of_decide_eq_false hb
    refine q_asg ev_c fun H2 e2 => ?_
    refine q_forLn (ev_var rfl) (ex_l (e1.trans e2) hS) (fun i σ' H' => (∃ u, σ' = [some (.ref a), some (.int k), some (.int (seedF ns i)), u]) ∧ Ex H H') ?_ ?_ ?_ ?_
    · intro H3 e3
      exact ⟨⟨none, rfl⟩, (e1.trans e2).trans e3⟩
    · intro i σ' H' _ p
      exact ex_l p.2 hS
    · intro i x σ' H' hx p
      obtain ⟨⟨u, rfl⟩, e3⟩ := p
      obtain ⟨hi, rfl⟩ := at0_get hx
      refine s_asg (ev_mod (by decide) (ev_int (ev_add (ev_mulR (by decide) (by decide) (ev_var rfl) ev_c) (ev_mod (by decide) (ev_int (ev_var rfl)) ev_c))) ev_c) fun H4 e4 => ⟨⟨some (.int (at0 ns i)), rfl⟩, e3.trans e4⟩
    · intro σ' H' p
      obtain ⟨⟨u, rfl⟩, e3⟩ := p
      rw [List.length_map]
      refine s_ret (ev_mod (by decide) (ev_int (ev_mulR (by decide) (by decide) (ev_mulR (by omega) (by omega) (ev_add (ev_var rfl) ev_c) (ev_add (ev_var rfl) ev_c)) ev_c)) ev_c) fun H4 e4 => ?_
      have e : cell ns k = ((seedF ns ns.length + 7) * (k + 3) * 69621) % 2147483647 := if_neg hlt
      rw [e] at q
      exact q H4 (e3.trans e4)
theorem sv_cell {a : Addr} {ns : List Int} {k : Int} {H : Hp} (hS : SqL K H a (ns.map V.int)) (h : ns.length ≤ 63) (hk : 0 ≤ k ∧ k ≤ 1000) : SpV (spCell K) ([V.ref a, V.int k] ++ []) H (.int (cell ns k)) := fun _ e _ q _ => ⟨a, ns, k, rfl, ex_l e hS, h, hk, q⟩
end
end K02
namespace K02
open PySem PySem.Spec PyProof.Rows L2 Evl
/-! ### _law_digits -/
def restF (c : Int) (ss : List Int) : Nat → Int
  | 0 => c - 10 ^ 18
  | i + 1 => restF c ss i / at0 ss i
def digA (c : Int) (ss : List Int) (i : Nat) : Int := restF c ss i % at0 ss i
def sdF (c : Int) : Nat → Int
  | 0 => c % 2147483629
  | i + 1 => (sdF c i * 48271 + 974711 * i + 12345) % 2147483647
def twF (c : Int) (i : Nat) : Int := (sdF c (i + 1) * (sdF c (i + 1) / 65537 + 3)) % 2147483629
def digB (c : Int) (ss : List Int) (i : Nat) : Int := twF c i / 19 % at0 ss i
def dig (c : Int) (ss : List Int) (i : Nat) : Int := if 10 ^ 18 ≤ c then digA c ss i else digB c ss i
def digits (c : Int) (ss : List Int) : List Int := (List.range ss.length).map (dig c ss)
theorem digits_len (c : Int) (ss : List Int) : (digits c ss).length = ss.length := by
  unfold digits
  rw [List.length_map, List.length_range]
theorem at0_map {n i : Nat} (f : Nat → Int) (h : i < n) : at0 ((List.range n).map f) i = f i := by
  unfold at0
  rw [List.getD_eq_getElem?_getD, List.getElem?_map, List.getElem?_range h]
  rfl
theorem dig_bound {c : Int} {ss : List Int} {i : Nat} (h : 0 < at0 ss i) : 0 ≤ dig c ss i ∧ dig c ss i < at0 ss i := by
  unfold dig digA digB
  split
  · exact ⟨Int.emod_nonneg _ (by omega), Int.emod_lt_of_pos _ h⟩
  · exact ⟨Int.emod_nonneg _ (by omega), Int.emod_lt_of_pos _ h⟩
theorem digits_at {c : Int} {ss : List Int} {i : Nat} (hi : i < ss.length) (h : 0 < at0 ss i) : 0 ≤ at0 (digits c ss) i ∧ at0 (digits c ss) i < at0 ss i := by
  unfold digits
  rw [at0_map _ hi]
  exact dig_bound h
theorem sd_bound (c : Int) : ∀ i, 0 ≤ sdF c i ∧ sdF c i < 2147483647
  | 0 => by
    show 0 ≤ c % 2147483629 ∧ c % 2147483629 < 2147483647
    omega
  | i + 1 => by
    show 0 ≤ (sdF c i * 48271 + 974711 * i + 12345) % 2147483647 ∧ (sdF c i * 48271 + 974711 * i + 12345) % 2147483647 < 2147483647
    omega
theorem map_range_succ (f : Nat → Int) (n : Nat) : ((List.range (n + 1)).map f).map V.int = ((List.range n).map f).map V.int ++ [V.int (f n)] := by
  rw [List.range_succ, List.map_append, List.map_append]
  rfl
def spDigits (K : PySem.W.Frag) : Sp := fun vs H Q _ => ∃ (c : Int) (a : Addr) (ss : List Int), vs = [.int c, .ref a] ∧ SqL K H a (ss.map V.int) ∧ ss.length ≤ 1000 ∧ (∀ i, i < ss.length → 0 < at0 ss i ∧ at0 ss i < 18446744073709551616) ∧ RetL ((digits c ss).map V.int) H Q
section
variable {P : Program} {w : World} {K : PySem.W.Frag} {mg : Str → Option Value} {base : Heap}
theorem has_digits (F : At K mg "_law_digits" s__law_digits) (T : Top mg) : Has P w K mg base "_law_digits" s__law_digits ["cell", "sizes"] 1 (spDigits K) := by
  obtain ⟨f, fd, F, m⟩ := F.ex
  refine ⟨f, fd, F, F.ok S__law_digits (fun vs H Q E h => ?_) (fun cdv A outer s H vs Q E hr h => ?_), F.binds fun _ _ _ _ _ _ us hl => match us, hl with | [_, _], _ => rfl, m, F.kp⟩
  · obtain ⟨c, a, ss, rfl, _⟩ := h
    rfl
  obtain ⟨c, a, ss, rfl, hS, hz, hss, q⟩ := h
  refine ⟨_, (pss_cons
    (ps_set (i := 2) S__law_digits.nd rfl (Or.inl rfl) (pe_lst pa_nil))
    (pss_cons
    (ps_set (i := 3) S__law_digits.nd rfl (Or.inl rfl) (pe_callTy call_int1 rfl T.z_int (by decide +kernel) (pa_cons (pv 0) pa_nil)))
    (pss_cons
    (ps_if (pt_cmpR op_ge (pv 3) (pe_op op_pow pe_int pe_int) (nomark _)) (pss_cons
    (ps_set (i := 3) S__law_digits.nd rfl (Or.inl rfl) (pe_op op_sub (pv 3) (pe_op op_pow pe_int pe_int)))
    (pss_cons
    (ps_for PassesOwn.never rfl (pi_list (pv 1)) (pg_name (i := 4) S__law_digits.nd rfl (Or.inl rfl)) (pss_cons
    (ps_expr (pe_bm PySem.F.plainAttrs_list PySem.F.slot_list_append PySem.F.type_list_append mt_append (pv 2) (pa_cons (pe_op op_mod (pe_callTy call_int1 rfl T.z_int (by decide +kernel) (pa_cons (pv 3) pa_nil)) (pv 4)) pa_nil)))
    (pss_one
    (ps_set (i := 3) S__law_digits.nd rfl (Or.inl rfl) (pe_op op_fdivW (pe_callTy call_int1 rfl T.z_int (by decide +kernel) (pa_cons (pv 3) pa_nil)) (pv 4))))))
    (pss_one
    (ps_ret (pv 2))))) pss_nil)
    (pss_cons
    (ps_set (i := 5) S__law_digits.nd rfl (Or.inl rfl) (pe_op op_mod (pe_callTy call_int1 rfl T.z_int (by decide +kernel) (pa_cons (pv 3) pa_nil)) pe_int))
    (pss_cons
    (ps_for PassesOwn.never rfl (pi_range1 rfl T.z_range (pa_cons (pe_callB call_len_seq rfl T.z_len PySem.boot_len (pa_cons (pv 1) pa_nil)) pa_nil)) (pg_name (i := 6) S__law_digits.nd rfl (Or.inl rfl)) (pss_cons
    (ps_set (i := 5) S__law_digits.nd rfl (Or.inl rfl) (pe_op op_mod (pe_callTy call_int1 rfl T.z_int (by decide +kernel) (pa_cons (pe_op op_add (pe_op op_add (pe_op op_mul (pv 5) pe_int) (pe_op op_mul pe_int (pv 6))) pe_int) pa_nil)) pe_int))
    (pss_cons
    (ps_set (i := 7) S__law_digits.nd rfl (Or.inl rfl) (pe_op op_mod (pe_callTy call_int1 rfl T.z_int (by decide +kernel) (pa_cons (pe_op op_mul (pv 5) (pe_op op_add (pe_op op_fdivW (pv 5) pe_int) pe_int)) pa_nil)) pe_int))
    (pss_one
    (ps_expr (pe_bm PySem.F.plainAttrs_list PySem.F.slot_list_append PySem.F.type_list_append mt_append (pv 2) (pa_cons (pe_op op_mod (pe_op op_fdivW (pv 7) pe_int) (pe_ix ix_list (pv 1) (pv 6) (fun _ _ => rfl))) pa_nil)))))))
    (pss_one
    (ps_ret (pv 2)))))))), ?_⟩
  have hl : (((ss.map V.int).length : Nat) : Int) = (ss.length : Int) := by rw [List.length_map]
  have e18 : (10 : Int) ^ (18 : Int).toNat = 10 ^ 18 := rfl
  refine q_asgL (el_lst ea_nil (by decide)) fun p H1 hp e1 h1 => ?_
  refine q_asg (ev_int (ev_var rfl)) fun H2 e2 => ?_
  have hP : CPow 10 18 := ⟨by decide, by decide, by decide⟩
  refine q_when (et_is (et_ge (ev_var rfl) (ev_op ev_c ev_c (rv_I hP))) rfl) (fun hb H3 e3 => ?_) (fun hb H3 e3 => ?_)
  · have hc : 10 ^ 18 ≤ c := of_decide_eq_true hb
    refine q_asg (ev_sub (ev_var rfl) (ev_op ev_c ev_c (rv_I hP))) fun H4 e4 => ?_
    have e14 : Ex H H4 := ((e1.trans e2).trans e3).trans e4
    refine q_forLn (ev_var rfl) (ex_l e14 hS) (fun i σ' H' => (∃ u, σ' = [some (.int c), some (.ref a), some (.ref p), some (.int (restF c ss i)), u, none, none, none]) ∧ Ex H H' ∧ H' p = some (.lst (((List.range i).map (digA c ss)).map V.int))) ?_ ?_ ?_ ?_
    · intro H5 e5
      exact ⟨⟨none, rfl⟩, e14.trans e5, e5 _ _ (e4 _ _ (e3 _ _ (e2 _ _ h1)))⟩
    · intro i σ' H' _ z
      exact ex_l z.2.1 hS
    · intro i x σ' H' hx z
      obtain ⟨⟨u, rfl⟩, e5, h5⟩ := z
      obtain ⟨hi, rfl⟩ := at0_get hx
      obtain ⟨s1, s2⟩ := hss i hi
      refine q_app h5 (ev_var rfl) (ev_mod s1 (ev_int (ev_var rfl)) (ev_var rfl)) (by rw [List.length_map, List.length_map, List.length_range]; omega) fun H6 e6 => ?_
      refine s_asg (ev_div s1 s2 (ev_int (ev_var rfl)) (ev_var rfl)) fun H7 e7 => ⟨⟨some (.int (at0 ss i)), rfl⟩, ((e5.trans e6).mut hp).trans e7, ?_⟩
      rw [map_range_succ]
      exact e7 _ _ upd_same
    · intro σ' H' z
      obtain ⟨⟨u, rfl⟩, e5, h5⟩ := z
      rw [List.length_map] at h5
      refine s_ret (ev_var rfl) fun H6 e6 => ?_
      have e : digits c ss = (List.range ss.length).map (digA c ss) := by
        unfold digits
        refine List.map_congr_left fun i _ => ?_
        exact if_pos hc
      rw [e] at q
      exact q p H6 hp (e5.trans e6) (e6 _ _ h5)
  · have hc : ¬ 10 ^ 18 ≤ c := of_decide_eq_false hb
    refine q_asg (ev_mod (by decide) (ev_int (ev_var rfl)) ev_c) fun H4 e4 => ?_
    have e14 : Ex H H4 := ((e1.trans e2).trans e3).trans e4
    refine q_forR1 (ea_cons (ev_is (ev_cb (ea_cons (ev_var rfl) ea_nil) (rc_lenL (ex_l e14 hS))) (by rw [hl])) ea_nil) (by omega) (fun i σ' H' => (∃ u v, σ' = [some (.int c), some (.ref a), some (.ref p), some (.int c), none, some (.int (sdF c i)), u, v]) ∧ Ex H H' ∧ H' p = some (.lst (((List.range i).map (digB c ss)).map V.int))) ?_ ?_ ?_
    · intro H5 e5
      exact ⟨⟨none, none, rfl⟩, e14.trans e5, e5 _ _ (e4 _ _ (e3 _ _ (e2 _ _ h1)))⟩
    · intro i σ' H' hi z
      obtain ⟨⟨u, v, rfl⟩, e5, h5⟩ := z
      have hi' : i < ss.length := by omega
      obtain ⟨s1, s2⟩ := hss i hi'
      have b1 := sd_bound c (i + 1)
      refine q_asg (ev_mod (by decide) (ev_int (ev_add (ev_add (ev_mulR (by decide) (by decide) (ev_var rfl) ev_c) (ev_mulL (by decide) (by decide) ev_c (ev_var rfl))) ev_c)) ev_c) fun H6 e6 => ?_
      refine q_asg (ev_mod (by decide) (ev_int (ev_mulR (i := sdF c (i + 1)) (j := sdF c (i + 1) / 65537 + 3) (by omega) (by omega) (ev_var rfl) (ev_add (ev_div (by decide) (by decide) (ev_var rfl) ev_c) ev_c))) ev_c) fun H7 e7 => ?_
      refine s_app (e7 _ _ (e6 _ _ h5)) (ev_var rfl) (ev_mod s1 (ev_div (by decide) (by decide) (ev_var rfl) ev_c) (ev_at (ex_l ((e5.trans e6).trans e7) hS) hi' (ev_var rfl) (ev_var rfl))) (by rw [List.length_map, List.length_map, List.length_range]; omega) fun H8 e8 => ⟨⟨some (.int (i : Int)), some (.int (twF c i)), rfl⟩, (((e5.trans e6).trans e7).trans e8).mut hp, ?_⟩
      rw [map_range_succ]
      exact upd_same
    · intro σ' H' z
      obtain ⟨⟨u, v, rfl⟩, e5, h5⟩ := z
      refine s_ret (ev_var rfl) fun H6 e6 => ?_
      have e : digits c ss = (List.range ss.length).map (digB c ss) := by
        unfold digits
        refine List.map_congr_left fun i _ => ?_
        exact if_neg hc
      rw [e] at q
      exact q p H6 hp (e5.trans e6) (e6 _ _ h5)
theorem sl_digits {c : Int} {a : Addr} {ss : List Int} {H : Hp} (hS : SqL K H a (ss.map V.int)) (hz : ss.length ≤ 1000) (hss : ∀ i, i < ss.length → 0 < at0 ss i ∧ at0 ss i < 18446744073709551616) : SpL (spDigits K) ([V.int c, V.ref a] ++ []) H ((digits c ss).map V.int) := fun _ e _ q _ => ⟨c, a, ss, rfl, ex_l e hS, hz, hss, q⟩
/-! ### _law_big -/
def stepB (i : Nat) : Int := if i = 33 then 10 else 1000
def bigF (ds : List Int) : Nat → Int
  | 0 => 0
  | i + 1 => bigF ds i * stepB i + at0 ds i
def topB : Nat → Int
  | 0 => 1
  | i + 1 => topB i * stepB i
theorem big_bound {ds : List Int} : ∀ n : Nat, (∀ i, i < n → 0 ≤ at0 ds i ∧ at0 ds i < stepB i) → 0 ≤ bigF ds n ∧ bigF ds n < topB n
  | 0, _ => ⟨Int.le_refl 0, show (0 : Int) < 1 by decide⟩
  | n + 1, h => by
    obtain ⟨h1, h2⟩ := big_bound n fun i hi => h i (by omega)
    obtain ⟨h3, h4⟩ := h n (by omega)
    have h5 : (0 : Int) ≤ stepB n := by
      unfold stepB
      split <;> decide
    have h6 : 0 ≤ bigF ds n * stepB n := Int.mul_nonneg h1 h5
    have h7 : (bigF ds n + 1) * stepB n ≤ topB n * stepB n := Int.mul_le_mul_of_nonneg_right (by omega) h5
    rw [Int.add_mul, Int.one_mul] at h7
    show 0 ≤ bigF ds n * stepB n + at0 ds n ∧ bigF ds n * stepB n + at0 ds n < topB n * stepB n
    omega
theorem topB_le {n : Nat} (h : n ≤ 34) : topB n ≤ 10 ^ 100 := by
  have k : ∀ m, m ≤ 34 → topB m ≤ 10 ^ 100 := by decide +kernel
  exact k n h
def spBig (K : PySem.W.Frag) : Sp := fun vs H Q _ => ∃ (a : Addr) (ds : List Int) (u : Nat), vs = [.ref a, .int (u : Int)] ∧ SqL K H a (ds.map V.int) ∧ u ≤ ds.length ∧ u ≤ 34 ∧ RetV (.int (bigF ds u)) H Q
theorem has_big (F : At K mg "_law_big" s__law_big) (T : Top mg) : Has P w K mg base "_law_big" s__law_big ["row", "used"] 1 (spBig K) := by
  obtain ⟨f, fd, F, m⟩ := F.ex
  refine ⟨f, fd, F, F.ok S__law_big (fun vs H Q E h => ?_) (fun cdv A outer s H vs Q E hr h => ?_), F.binds fun _ _ _ _ _ _ us hl => match us, hl with | [_, _], _ => rfl, m, F.kp⟩
  · obtain ⟨a, ds, u, rfl, _⟩ := h
    rfl
  obtain ⟨a, ds, u, rfl, hS, hu, h34, q⟩ := h
  refine ⟨_, (pss_cons
    (ps_set (i := 2) S__law_big.nd rfl (Or.inl rfl) pe_int)
    (pss_cons
    (ps_for PassesOwn.never rfl (pi_range1 rfl T.z_range (pa_cons (pv 1) pa_nil)) (pg_name (i := 3) S__law_big.nd rfl (Or.inl rfl)) (pss_one
    (ps_set (i := 2) S__law_big.nd rfl (Or.inl rfl) (pe_op op_add (pe_op op_mul (pv 2) (pe_ix ix_list (pe_lst (pa_cons pe_int (pa_cons pe_int pa_nil))) (pe_callTy call_int1 rfl T.z_int (by decide +kernel) (pa_cons (pe_cmpR op_eq (pv 3) pe_int (nomark _)) pa_nil)) (fun _ _ => rfl))) (pe_ix ix_list (pv 0) (pv 3) (fun _ _ => rfl))))))
    (pss_one
    (ps_ret (pv 2))))), ?_⟩
  refine q_asg ev_c fun H1 e1 => ?_
  refine q_forR1 (ea_cons (ev_var rfl) ea_nil) (by omega) (fun i σ' H' => (∃ v, σ' = [some (.ref a), some (.int (u : Int)), some (.int (bigF ds i)), v]) ∧ Ex H H') ?_ ?_ ?_
  · intro H2 e2
    exact ⟨⟨none, rfl⟩, e1.trans e2⟩
  · intro i σ' H' hi z
    obtain ⟨⟨v, rfl⟩, e2⟩ := z
    have hi' : i < ds.length := by omega
    have hst : stepB i = at0 [1000, 10] (if i = 33 then 1 else 0) := by
      unfold stepB
      split <;> rfl
    refine s_asg (ev_add (ev_mulR (j := stepB i) (by unfold stepB; split <;> decide) (by unfold stepB; split <;> decide) (ev_var rfl) ?_) (ev_at (ex_l e2 hS) hi' (ev_var rfl) (ev_var rfl))) fun H3 e3 => ⟨⟨some (.int (i : Int)), rfl⟩, e2.trans e3⟩
    refine ev_opL1 (xs := [V.int 1000, V.int 10]) (y := .int ((if i = 33 then 1 else 0 : Nat) : Int)) (el_lst (ea_cons ev_c (ea_cons ev_c ea_nil)) (by decide)) (fun H3 e3 => ev_is (ev_intB (b := decide (i = 33)) (ev_is (ev_op (ev_var rfl) ev_c (rv_eq rfl)) ?_)) ?_) (fun p H3 h3 e3 => rv_ixL (sq_of h3) ?_)
    · congr 1
      refine decide_eq_decide.mpr ⟨fun h => ?_, fun h => ?_⟩
      · have := V.int.inj h
        omega
      · rw [h]
        rfl
    · by_cases c : i = 33
      · rw [if_pos c, if_pos (decide_eq_true c)]
        rfl
      · rw [if_neg c, if_neg (by rw [decide_eq_false c]; decide)]
        rfl
    · rw [hst]
      exact at_int (ns := [1000, 10]) (by split <;> decide)
  · intro σ' H' z
    obtain ⟨⟨v, rfl⟩, e2⟩ := z
    refine s_ret (ev_var rfl) fun H3 e3 => ?_
    exact q H3 (e2.trans e3)
theorem sv_big {a : Addr} {ds : List Int} {u : Nat} {H : Hp} (hS : SqL K H a (ds.map V.int)) (hu : u ≤ ds.length) (h : u ≤ 34) : SpV (spBig K) ([V.ref a, V.int (u : Int)] ++ []) H (.int (bigF ds u)) := fun _ e _ q _ => ⟨a, ds, u, rfl, ex_l e hS, hu, h, q⟩
end
end K02
namespace K02
open PySem PySem.Spec PyProof.Rows L2 Evl
section
variable {P : Program} {w : World} {K : PySem.W.Frag} {mg : Str → Option Value} {base : Heap}
/-! ### _law_many -/
def manyF (r d : List Int) : Int :=
  if at0 r 0 < 2 then 1 + at0 r 1
  else if at0 r 0 < 5 then max 1 (2 ^ (at0 r 2).toNat + at0 r 3 - 1)
  else if at0 r 0 = 5 then max 1 (10 ^ (at0 r 4).toNat - at0 r 3 % 2)
  else 1 + bigF d (at0 r 5).toNat
structure RowOk (r : List Int) : Prop where
  len : r.length = 7
  b1 : 0 ≤ at0 r 1 ∧ at0 r 1 < 70
  b2 : 0 ≤ at0 r 2 ∧ at0 r 2 < 333
  b3 : 0 ≤ at0 r 3 ∧ at0 r 3 < 3
  b4 : 0 ≤ at0 r 4 ∧ at0 r 4 < 101
  b5 : 0 ≤ at0 r 5 ∧ at0 r 5 < 35
  b6 : 0 ≤ at0 r 6 ∧ at0 r 6 < 2001
structure BigOk (d : List Int) : Prop where
  len : d.length = 34
  bd : ∀ i, i < 34 → 0 ≤ at0 d i ∧ at0 d i < stepB i
theorem pow_mono {b : Int} (hb : 1 ≤ b) {i j : Nat} (h : i ≤ j) : b ^ i ≤ b ^ j := by
  induction h with
  | refl => exact Int.le_refl _
  | @step k _ ih =>
    have hp : 0 ≤ b ^ k := Int.pow_nonneg (by omega)
    have h2 : b ^ k * 1 ≤ b ^ k * b := Int.mul_le_mul_of_nonneg_left hb hp
    rw [Int.mul_one] at h2
    rw [Int.pow_succ]
    omega
theorem pow_pos1 {b : Int} (hb : 1 ≤ b) (i : Nat) : 1 ≤ b ^ i := by
  have h := pow_mono hb (Nat.zero_le i)
  rw [Int.pow_zero] at h
  exact h
theorem many_bound {r d : List Int} (R : RowOk r) (D : BigOk d) : 1 ≤ manyF r d ∧ manyF r d ≤ 10 ^ 100 := by
  have ten : (2 : Int) ^ 332 + 1 ≤ 10 ^ 100 := by decide +kernel
  have e1 : (100 : Int) ≤ 10 ^ 100 := by decide +kernel
  obtain ⟨_, b1, b2, b3, b4, b5, _⟩ := R
  have p2 := pow_mono (b := 2) (by decide) (show (at0 r 2).toNat ≤ 332 by omega)
  have p4 := pow_mono (b := 10) (by decide) (show (at0 r 4).toNat ≤ 100 by omega)
  have hb := big_bound (ds := d) (at0 r 5).toNat fun i hi => D.bd i (by omega)
  have ht := topB_le (show (at0 r 5).toNat ≤ 34 by omega)
  unfold manyF
  generalize (2 : Int) ^ (at0 r 2).toNat = A at p2 ⊢
  generalize (10 : Int) ^ (at0 r 4).toNat = B at p4 ⊢
  generalize (2 : Int) ^ 332 = A2 at ten p2
  generalize (10 : Int) ^ 100 = B2 at *
  split
  · omega
  · split
    · omega
    · split
      · omega
      · omega
def spMany (K : PySem.W.Frag) : Sp := fun vs H Q _ => ∃ (a b : Addr) (r d : List Int), vs = [.ref a, .ref b] ∧ SqL K H a (r.map V.int) ∧ SqL K H b (d.map V.int) ∧ RowOk r ∧ BigOk d ∧ RetV (.int (manyF r d)) H Q
theorem ev_atI {ta tb : TE} {σ : L2.St} {H : Hp} {a : Addr} {ns : List Int} {i : Nat} {z : Int} (hs : SqL K H a (ns.map V.int)) (hi : i < ns.length) (hz : z = (i : Int)) (ha : Ev ta σ H (.ref a)) (hb : Ev tb σ H (.int z)) : Ev (tOp (rIxL K) ta tb) σ H (.int (at0 ns i)) := by
  subst hz
  exact ev_at hs hi ha hb
theorem has_many (F : At K mg "_law_many" s__law_many) (T : Top mg) (hP : Has P w K mg base "_law_power" s__law_power ["base", "often"] 1 spPower) (hB : Has P w K mg base "_law_big" s__law_big ["row", "used"] 1 (spBig K)) : Has P w K mg base "_law_many" s__law_many ["row", "digits"] 2 (spMany K) := by
  obtain ⟨f, fd, F, m⟩ := F.ex
  obtain ⟨f1, fd1, _, G__law_power, b__law_power, m__law_power, k__law_power⟩ := hP
  obtain ⟨f2, fd2, _, G__law_big, b__law_big, m__law_big, k__law_big⟩ := hB
  refine ⟨f, fd, F, F.ok S__law_many (fun vs H Q E h => ?_) (fun cdv A outer s H vs Q E hr h => ?_), F.binds fun _ _ _ _ _ _ us hl => match us, hl with | [_, _], _ => rfl, m, F.kp⟩
  · obtain ⟨a, b, r, d, rfl, _⟩ := h
    rfl
  obtain ⟨a, b, r, d, rfl, hR, hD, R, D, q⟩ := h
  refine ⟨_, (pss_cons
    (ps_if (pt_cmpR op_lt (pe_ix ix_list (pv 0) pe_int (fun _ _ => rfl)) pe_int (nomark _)) (pss_one
    (ps_ret (pe_op op_add pe_int (pe_ix ix_list (pv 0) pe_int (fun _ _ => rfl))))) pss_nil)
    (pss_cons
    (ps_if (pt_cmpR op_lt (pe_ix ix_list (pv 0) pe_int (fun _ _ => rfl)) pe_int (nomark _)) (pss_one
    (ps_ret (pe_callB (call_max2 rfl) rfl T.z_max (by decide +kernel) (pa_cons pe_int (pa_cons (pe_op op_sub (pe_op op_add (pe_call G__law_power (hr.mono (by decide)) rfl m__law_power k__law_power b__law_power .nil pass0 (pa_cons pe_int (pa_cons (pe_ix ix_list (pv 0) pe_int (fun _ _ => rfl)) pa_nil))) (pe_ix ix_list (pv 0) pe_int (fun _ _ => rfl))) pe_int) pa_nil))))) pss_nil)
    (pss_cons
    (ps_if (pt_cmpR op_eq (pe_ix ix_list (pv 0) pe_int (fun _ _ => rfl)) pe_int (nomark _)) (pss_one
    (ps_ret (pe_callB (call_max2 rfl) rfl T.z_max (by decide +kernel) (pa_cons pe_int (pa_cons (pe_op op_sub (pe_call G__law_power (hr.mono (by decide)) rfl m__law_power k__law_power b__law_power .nil pass0 (pa_cons pe_int (pa_cons (pe_ix ix_list (pv 0) pe_int (fun _ _ => rfl)) pa_nil))) (pe_op op_mod (pe_callTy call_int1 rfl T.z_int (by decide +kernel) (pa_cons (pe_ix ix_list (pv 0) pe_int (fun _ _ => rfl)) pa_nil)) pe_int)) pa_nil))))) pss_nil)
    (pss_one
    (ps_ret (pe_op op_add pe_int (pe_call G__law_big (hr.mono (by decide)) rfl m__law_big k__law_big b__law_big .nil pass0 (pa_cons (pv 1) (pa_cons (pe_ix ix_list (pv 0) pe_int (fun _ _ => rfl)) pa_nil))))))))), ?_⟩
  have hl := R.len
  obtain ⟨_, b1, b2, b3, b4, b5, _⟩ := R
  refine q_when (et_lt (ev_atI hR (i := 0) (by omega) rfl (ev_var rfl) ev_c) ev_c) (fun hb H1 e1 => ?_) (fun hb H1 e1 => ?_)
  · have c : at0 r 0 < 2 := of_decide_eq_true hb
    refine s_ret (ev_add ev_c (ev_atI (ex_l e1 hR) (i := 1) (by omega) rfl (ev_var rfl) ev_c)) fun H2 e2 => ?_
    rw [show manyF r d = 1 + at0 r 1 from if_pos c] at q
    exact q H2 (e1.trans e2)
  have c1 : ¬ at0 r 0 < 2 := of_decide_eq_false hb
  have hR1 := ex_l e1 hR
  refine q_when (et_lt (ev_atI hR1 (i := 0) (by omega) rfl (ev_var rfl) ev_c) ev_c) (fun hb H2 e2 => ?_) (fun hb H2 e2 => ?_)
  · have c : at0 r 0 < 5 := of_decide_eq_true hb
    have hR2 := ex_l e2 hR1
    refine s_ret (ev_cb (ea_cons ev_c (ea_cons (ev_sub (ev_add (ev_call (ea_cons ev_c (ea_cons (ev_atI hR2 (i := 2) (by omega) rfl (ev_var rfl) ev_c) ea_nil)) (sv_power (by decide) (by omega))) (ev_atI hR2 (i := 3) (by omega) rfl (ev_var rfl) ev_c)) ev_c) ea_nil)) rc_max) fun H3 e3 => ?_
    rw [show manyF r d = max 1 (2 ^ (at0 r 2).toNat + at0 r 3 - 1) from (if_neg c1).trans (if_pos c)] at q
    exact q H3 ((e1.trans e2).trans e3)
  have c2 : ¬ at0 r 0 < 5 := of_decide_eq_false hb
  have hR2 := ex_l e2 hR1
  refine q_when (et_eqI (ev_atI hR2 (i := 0) (by omega) rfl (ev_var rfl) ev_c) ev_c) (fun hb H3 e3 => ?_) (fun hb H3 e3 => ?_)
  · have c : at0 r 0 = 5 := of_decide_eq_true hb
    have hR3 := ex_l e3 hR2
    refine s_ret (ev_cb (ea_cons ev_c (ea_cons (ev_sub (ev_call (ea_cons ev_c (ea_cons (ev_atI hR3 (i := 4) (by omega) rfl (ev_var rfl) ev_c) ea_nil)) (sv_power (by decide) (by omega))) (ev_mod (by decide) (ev_int (ev_atI hR3 (i := 3) (by omega) rfl (ev_var rfl) ev_c)) ev_c)) ea_nil)) rc_max) fun H4 e4 => ?_
    rw [show manyF r d = max 1 (10 ^ (at0 r 4).toNat - at0 r 3 % 2) from (if_neg c1).trans ((if_neg c2).trans (if_pos c))] at q
    exact q H4 (((e1.trans e2).trans e3).trans e4)
  have c3 : ¬ at0 r 0 = 5 := of_decide_eq_false hb
  have hR3 := ex_l e3 hR2
  have e5 : at0 r 5 = (((at0 r 5).toNat : Nat) : Int) := by omega
  refine s_ret (ev_add ev_c (ev_call (ea_cons (ev_var rfl) (ea_cons (ev_is (ev_atI hR3 (i := 5) (by omega) rfl (ev_var rfl) ev_c) (by rw [← e5])) ea_nil)) (sv_big (ds := d) (u := (at0 r 5).toNat) (ex_l ((e1.trans e2).trans e3) hD) (by rw [D.len]; omega) (by omega)))) fun H4 e4 => ?_
  rw [show manyF r d = 1 + bigF d (at0 r 5).toNat from (if_neg c1).trans ((if_neg c2).trans (if_neg c3))] at q
  exact q H4 (((e1.trans e2).trans e3).trans e4)
theorem sv_many {a b : Addr} {r d : List Int} {H : Hp} (hR : SqL K H a (r.map V.int)) (hD : SqL K H b (d.map V.int)) (R : RowOk r) (D : BigOk d) : SpV (spMany K) ([V.ref a, V.ref b] ++ []) H (.int (manyF r d)) := fun _ e _ q _ => ⟨a, b, r, d, rfl, ex_l e hR, ex_l e hD, R, D, q⟩
/-! ### _law_width -/
theorem log2_is {n i : Nat} (h1 : 2 ^ i ≤ n) (h2 : n < 2 ^ (i + 1)) : n.log2 = i := by
  have h0 : n ≠ 0 := by
    have := Nat.pow_pos (n := i) (show 0 < 2 by decide)
    omega
  have a := (Nat.log2_lt h0).mpr h2
  have b := (Nat.le_log2 h0).mpr h1
  omega
theorem bits_is {m : Int} {i : Nat} (h1 : 1 ≤ m) (h2 : m ≤ 2 ^ i) (h3 : i = 0 ∨ ∃ j, i = j + 1 ∧ (2 : Int) ^ j < m) : bitsOf m = (i : Int) := by
  unfold bitsOf Builtin.Int.intBits
  obtain ⟨n, hn⟩ := Int.eq_ofNat_of_zero_le (show 0 ≤ m - 1 by omega)
  rw [hn]
  have cast : ∀ k : Nat, ((2 : Int) ^ k) = ((2 ^ k : Nat) : Int) := fun k => by
    rw [Int.natCast_pow]
    rfl
  rw [cast] at h2
  have hlt : n < 2 ^ i := by omega
  rcases h3 with rfl | ⟨j, rfl, h3⟩
  · have hz : n = 0 := by
      rw [Nat.pow_zero] at hlt
      omega
    subst hz
    rfl
  · rw [cast] at h3
    have hge : 2 ^ j ≤ n := by omega
    have h0 : n ≠ 0 := by
      have := Nat.pow_pos (n := j) (show 0 < 2 by decide)
      omega
    rw [if_neg (by simpa using h0)]
    show (((n : Int).natAbs.log2 + 1 : Nat) : Int) = ((j + 1 : Nat) : Int)
    rw [Int.natAbs_natCast, log2_is hge hlt]
theorem bits_nn (m : Int) : 0 ≤ bitsOf m := Int.natCast_nonneg _
def spLw : Sp := fun vs H Q _ => ∃ n : Int, vs = [.int n] ∧ 1 ≤ n ∧ n ≤ 2 ^ 2100 ∧ RetV (.int (bitsOf n)) H Q
theorem has_lw (F : At K mg "_law_width" s__law_width) (T : Top mg) : Has P w K mg base "_law_width" s__law_width ["many"] 1 spLw := by
  obtain ⟨f, fd, F, m⟩ := F.ex
  refine ⟨f, fd, F, F.ok S__law_width (fun vs H Q E h => ?_) (fun cdv A outer s H vs Q E hr h => ?_), F.binds fun _ _ _ _ _ _ us hl => match us, hl with | [_], _ => rfl, m, F.kp⟩
  · obtain ⟨n, rfl, _⟩ := h
    rfl
  obtain ⟨n, rfl, h1, h2, q⟩ := h
  generalize hB : (2 : Int) ^ 2100 = B at h2
  refine ⟨_, (pss_cons
    (ps_set (i := 1) S__law_width.nd rfl (Or.inl rfl) pe_int)
    (pss_cons
    (ps_set (i := 2) S__law_width.nd rfl (Or.inl rfl) pe_int)
    (pss_cons
    (ps_for PassesOwn.never rfl (pi_range1 rfl T.z_range (pa_cons pe_int pa_nil)) (pg_name (i := 3) S__law_width.nd rfl (Or.inl rfl)) (pss_cons
    (ps_if (pt_cmpR op_ge (pv 2) (pv 0) (nomark _)) (pss_one
    ps_break) pss_nil)
    (pss_cons
    (ps_set (i := 2) S__law_width.nd rfl (Or.inl rfl) (pe_op op_mul (pv 2) pe_int))
    (pss_one
    (ps_set (i := 1) S__law_width.nd rfl (Or.inl rfl) (pe_op op_add (pv 1) pe_int))))))
    (pss_one
    (ps_ret (pv 1)))))), ?_⟩
  refine q_asg ev_c fun H1 e1 => ?_
  refine q_asg ev_c fun H2 e2 => ?_
  refine q_forR1 (ea_cons ev_c ea_nil) (by decide) (fun i σ' H' => (∃ u, σ' = [some (.int n), some (.int (i : Int)), some (.int (2 ^ i)), u]) ∧ Ex H H' ∧ (i = 0 ∨ ∃ j, i = j + 1 ∧ (2 : Int) ^ j < n)) ?_ ?_ ?_
  · intro H3 e3
    exact ⟨⟨none, rfl⟩, (e1.trans e2).trans e3, .inl rfl⟩
  · intro i σ' H' hi z
    obtain ⟨⟨u, rfl⟩, e3, hj⟩ := z
    refine q_when (et_ge (ev_var rfl) (ev_var rfl)) (fun hb H4 e4 => ?_) (fun hb H4 e4 => ?_)
    · have c : n ≤ 2 ^ i := of_decide_eq_true hb
      refine s_ret (ev_var rfl) fun H5 e5 => ?_
      rw [bits_is h1 c hj] at q
      exact q H5 ((e3.trans e4).trans e5)
    · have c : ¬ n ≤ 2 ^ i := of_decide_eq_false hb
      refine q_asg (ev_mulR (by decide) (by decide) (ev_var rfl) ev_c) fun H5 e5 => ?_
      refine s_asg (ev_add (ev_var rfl) ev_c) fun H6 e6 => ⟨⟨some (.int (i : Int)), ?_⟩, ((e3.trans e4).trans e5).trans e6, .inr ⟨i, rfl, by omega⟩⟩
      rw [Int.pow_succ]
      rfl
  · intro σ' H' z
    obtain ⟨⟨u, rfl⟩, e3, hj⟩ := z
    refine s_ret (ev_var rfl) fun H5 e5 => ?_
    have c : n ≤ 2 ^ (2100 : Int).toNat := by
      rw [show (2100 : Int).toNat = 2100 from rfl, hB]
      exact h2
    rw [bits_is h1 c hj] at q
    exact q H5 (e3.trans e5)
theorem sv_lw {n : Int} {H : Hp} (h1 : 1 ≤ n) (h2 : n ≤ 2 ^ 2100) : SpV spLw ([V.int n] ++ []) H (.int (bitsOf n)) := fun _ _ _ q _ => ⟨n, rfl, h1, h2, q⟩
/-! ### _law_widths_right -/
theorem kb_width {f : Addr} {fd : FuncData} (F : Fun K "width" "width" s_width f fd) : KBn K fd ["options"] 0 ["options"] (fun _ ws => ws) (fun _ ws => ws) := by
  obtain ⟨oc, od, kV, doc, pm, an, cdv, ct, osl, rfl, lk, hcd⟩ := F.ex
  refine ⟨fun s us ws X l1 l2 => ?_, fun r1 r2 => r2⟩
  match us, ws, l1, l2 with
  | [], [v], _, _ => exact .of_eq rfl
def spWr : Sp := fun vs H Q _ => ∃ n : Int, vs = [.int n] ∧ 1 ≤ n ∧ n ≤ 2 ^ 2000 ∧ RetV (.bl true) H Q
theorem ev_callN0 {tk : TA} {σ : L2.St} {H : Hp} {sp : Sp} {n : Nat} {gV : List V → List V → List V} {E : XK} {zs : List V} {z : V} (h : EvA tk σ H zs) (hn : zs.length = n) (hs : SpV sp (gV [] zs) H z) : Ev (tCallN 0 n sp gV E tNil tk) σ H z := fun H1 e Q q =>
  h H1 e _ fun H2 e2 => ⟨rfl, hn, hs H2 (e.trans e2) Q (fun H3 e3 => q H3 (e2.trans e3)) E⟩
theorem has_wr (F : At K mg "_law_widths_right" s__law_widths_right) (T : Top mg) (hw : Has P w K mg base "width" s_width ["options"] 1 spWidth) (hW : Has P w K mg base "_law_whole" s__law_whole ["value"] 1 spWhole) (hL : Has P w K mg base "_law_width" s__law_width ["many"] 1 spLw) : Has P w K mg base "_law_widths_right" s__law_widths_right ["many"] 2 spWr := by
  obtain ⟨f, fd, F, m⟩ := F.ex
  obtain ⟨g, gd, FW, G_width, b_width, m_width, k_width⟩ := hw
  obtain ⟨f1, fd1, _, G__law_whole, b__law_whole, m__law_whole, k__law_whole⟩ := hW
  obtain ⟨f2, fd2, _, G__law_width, b__law_width, m__law_width, k__law_width⟩ := hL
  have kb_width := kb_width FW
  refine ⟨f, fd, F, F.ok S__law_widths_right (fun vs H Q E h => ?_) (fun cdv A outer s H vs Q E hr h => ?_), F.binds fun _ _ _ _ _ _ us hl => match us, hl with | [_], _ => rfl, m, F.kp⟩
  · obtain ⟨n, rfl, _⟩ := h
    rfl
  obtain ⟨n, rfl, h1, h2, q⟩ := h
  refine ⟨_, (pss_cons
    (ps_for PassesOwn.never rfl (pi_list (pe_lst (pa_cons (pv 0) (pa_cons (pe_op op_add (pv 0) pe_int) (pa_cons (pe_op op_mul pe_int (pv 0)) pa_nil))))) (pg_name (i := 1) S__law_widths_right.nd rfl (Or.inl rfl)) (pss_cons
    (ps_set (i := 2) S__law_widths_right.nd rfl (Or.inl rfl) (pe_call G_width (hr.mono (by decide)) rfl m_width k_width b_width .nil pass0 (pa_cons (pv 1) pa_nil)))
    (pss_cons
    (ps_if (PW.pt (pw_or (pt_not (pt_val (pe_call G__law_whole (hr.mono (by decide)) rfl m__law_whole k__law_whole b__law_whole .nil pass0 (pa_cons (pv 2) pa_nil)))) (pw_or1 (pt_cmpR op_ne (pv 2) (pe_call G__law_width (hr.mono (by decide)) rfl m__law_width k__law_width b__law_width .nil pass0 (pa_cons (pv 1) pa_nil)) (nomark _))))) (pss_one
    (ps_ret pe_bl)) pss_nil)
    (pss_one
    (ps_if (pt_cmpR op_ne (pe_callN0 G_width (hr.mono (by decide)) rfl m_width k_width kb_width pass0 (pk_cons (pv 1) pk_nil)) (pv 2) (nomark _)) (pss_one
    (ps_ret pe_bl)) pss_nil)))))
    (pss_one
    (ps_ret pe_bl))), ?_⟩
  have hbig : (2 : Int) ^ 2000 * 2 ≤ 2 ^ 2100 := by decide +kernel
  have hb1 : (1 : Int) ≤ 2 ^ 2000 := by decide +kernel
  generalize (2 : Int) ^ 2000 = B1 at h2 hbig hb1
  refine q_forNLn (xs := [V.int n, V.int (n + 1), V.int (2 * n)]) (el_lst (ea_cons (ev_var rfl) (ea_cons (ev_add (ev_var rfl) ev_c) (ea_cons (ev_mulL (by decide) (by decide) ev_c (ev_var rfl)) ea_nil))) (by show 3 ≤ 100000; decide))
    (fun p i σ' H' => (∃ u v, σ' = [some (.int n), u, v]) ∧ Ex H H' ∧ H' p = some (.lst [V.int n, V.int (n + 1), V.int (2 * n)])) ?_ ?_ ?_ ?_
  · intro p H1 hp e1 h1
    exact ⟨⟨none, none, rfl⟩, e1, h1⟩
  · intro p i σ' H' _ z
    exact sq_of z.2.2
  · intro p i x σ' H' hx z
    obtain ⟨⟨u, v, rfl⟩, e1, hl⟩ := z
    have hxv : ∃ k : Int, x = .int k ∧ 1 ≤ k ∧ k ≤ 2 * n := by
      match i, hx with
      | 0, hx => exact ⟨n, (Option.some.inj hx).symm, by omega, by omega⟩
      | 1, hx => exact ⟨n + 1, (Option.some.inj hx).symm, by omega, by omega⟩
      | 2, hx => exact ⟨2 * n, (Option.some.inj hx).symm, by omega, by omega⟩
      | i + 3, hx => cases hx
    obtain ⟨k, rfl, k1, k2⟩ := hxv
    refine q_asg (ev_call (ea_cons (ev_var rfl) ea_nil) sv_width) fun H2 e2 => ?_
    refine q_skip (et_is (et_or (et_not (et_B (ev_call (ea_cons (ev_var rfl) ea_nil) sv_whole))) (fun _ => et_neI (ev_var rfl) (ev_call (ea_cons (ev_var rfl) ea_nil) (sv_lw k1 (by omega))))) (by simp)) fun H3 e3 => ?_
    refine s_skip (et_is (et_neI (ev_callN0 (ea_cons (ev_var rfl) ea_nil) rfl sv_width) (ev_var rfl)) (by simp)) fun H4 e4 => ?_
    exact ⟨⟨_, _, rfl⟩, ((e1.trans e2).trans e3).trans e4, e4 _ _ (e3 _ _ (e2 _ _ hl))⟩
  · intro p σ' H' z
    obtain ⟨⟨u, v, rfl⟩, e1, hl⟩ := z
    exact s_ret ev_c fun H5 e5 => q H5 (e1.trans e5)
theorem sv_wr {n : Int} {H : Hp} (h1 : 1 ≤ n) (h2 : n ≤ 2 ^ 2000) : SpV spWr ([V.int n] ++ []) H (.bl true) := fun _ _ _ q _ => ⟨n, rfl, h1, h2, q⟩
end
end K02
namespace K02
open PySem PySem.Spec PyProof.Rows L2 Evl
/-! ### enumerate(xs, start=k), xs a list or a tuple -/
section
variable {M : Model} {A : Around} {E : Value → Shared → Prop} {s : Shared} {env : Env}
theorem type_with_kw {pos : Pos} {T : String} {args : List (Bool × Sem Value)} {kw : List (Option Str × Sem Value)} {Q : Value → Shared → Prop}
    (h1 : args.any (·.1) = false) (h2 : kw.any (·.1.isNone) = false)
    (h : wpAny M A (evalArgs (.type T) true args kw) (fun a s1 => wpAny M A (call (.type T) a.pos a.kw) Q E s1) E s) :
    wpAny M A (callWith pos (.type T) [] args kw) Q E s := by
  unfold callWith
  refine wpAny_bind (wpAny_holding ?_)
  refine wpAny_mono h (fun a s1 got => ?_) (fun _ _ x => x)
  refine wpAny_bind (wpAny_standAt ?_)
  simp only [h1, h2, Bool.or_false]
  refine wpAny_bind (wpAny_pure ?_)
  refine wpAny_bind (wpAny_mono got (fun r s2 hr => ?_) (fun _ _ x => x))
  exact wpAny_bind (wpAny_holding (wpAny_point (wpAny_pure hr)))
end
/-- the list at a, its items in new pairs, counted from k on -/
def IteL (K : PySem.W.Frag) (k : Int) (a : Addr) : It where
  go := fun i H => ∃ (xs : List V) (x : V), SqL K H a xs ∧ xs[i]? = some x
  yld := fun i H v H' => ∃ T x, v = .ref T ∧ H T = none ∧ H' = upd H T (.tup [.int (k + (i : Int)), x]) ∧ ∀ xs, SqL K H a xs → xs[i]? = some x
  stop := fun i H => ∃ xs : List V, SqL K H a xs ∧ xs.length = i
def IteT (K : PySem.W.Frag) (k : Int) (a : Addr) : It where
  go := fun i H => ∃ (xs : List V) (x : V), SqT K H a xs ∧ xs[i]? = some x
  yld := fun i H v H' => ∃ T x, v = .ref T ∧ H T = none ∧ H' = upd H T (.tup [.int (k + (i : Int)), x]) ∧ ∀ xs, SqT K H a xs → xs[i]? = some x
  stop := fun i H => ∃ xs : List V, SqT K H a xs ∧ xs.length = i
theorem two_mem {b e i : Addr} (h : b ∈ [e, i]) : b = e ∨ b = i := by simpa using h
section
variable {P : Program} {w : World} {K : PySem.W.Frag} {elts : List Expr} {kk : Nat} {tpos : Pos}
theorem turnL (k : Int) (a e it : Addr) : Turn P w K (.Tuple elts kk tpos) (IteL K k a) [e, it] e
    (fun i h => (∃ old, IsEnum h e it (k + (i : Int)) old) ∧ h.IsListIter it a i ∧ e ≠ it ∧ a ≠ it ∧ a ≠ e) where
  mem := List.mem_cons_self ..
  obj := fun i h st b hb => by
    obtain ⟨⟨old, he⟩, ⟨o, ho, _, hd⟩, _⟩ := st
    rcases two_mem hb with z | z
    · subst z
      exact ⟨_, he, fun v q => nomatch q⟩
    · subst z
      refine ⟨o, ho, fun v q => ?_⟩
      rw [hd] at q
      cases q
  keep := fun i h h' st kp => by
    obtain ⟨⟨old, he⟩, hi, r⟩ := st
    exact ⟨⟨old, kp e (by simp) _ he⟩, hi.at fun o q => kp it (by simp) o q, r⟩
  item := by
    intro X hP hw hK hc i pins s σ H E I hf st hg
    subst hP hw hK
    obtain ⟨⟨old, he⟩, hit, hei, hai, hae⟩ := st
    obtain ⟨xs, x, hq, hx⟩ := hg
    obtain ⟨its, rv, p, hz⟩ := I.list hq
    obtain ⟨u, hu, ru⟩ := rv.get hx
    have hil : i < its.toArray.size := by
      have := (List.getElem?_eq_some_iff.mp hu).1
      simpa using this
    have D := Draws.list (prog := X.prog) (w := X.w) (A := X.A.in1) (I.ok.hd hc) it a hai its.toArray
    have lte : e < s.heap.objs.size := Heap.lt_size he
    have lti : it < s.heap.objs.size := by
      obtain ⟨_, q, _⟩ := hit
      exact Heap.lt_size q
    refine wpAny_pyNext_enum_itemC D he ⟨hit, p.isList⟩ hil hei (by simp [hei, hae.symm]) ?_
    intro y h' tk hy ho hst hT hsz keep
    have eu : y = u := by
      have h2 : its.toArray[i]? = some u := by simpa using hu
      rw [h2] at hy
      exact (Option.some.inj hy).symm
    subst eu
    refine ⟨_, rfl, wpAny_letOwnedTupleGo_enum (s := { s with heap := h', toks := tk + 1 }) ho ?_⟩
    intro h2 he2 sb
    have t2 : h2.get? s.heap.objs.size = some { cls := .type "tuple", data := .seq #[.int (k + (i : Int)) tk, y] } := (sb.2 _ (Nat.ne_of_gt lte)).trans hT
    have new : ObjOk X.prog X.w (upd H s.heap.objs.size (.tup [.int (k + (i : Int)), x])) h2 s.heap.objs.size (.tup [.int (k + (i : Int)), x]) :=
      ⟨(by show 2 ≤ sizeLine; decide), [.int (k + (i : Int)) tk, y], .cons ⟨_, rfl⟩ (.cons ru .nil), ⟨_, t2, rfl, _, rfl⟩⟩
    have I1 : Inv X pins σ (upd H s.heap.objs.size (.tup [.int (k + (i : Int)), x])) { s with heap := h2, toks := tk + 1 } := by
      refine I.turnedNew (ch := [e, it]) (fun b ob nb q => ?_) hf (Nat.le_refl _) new
      have n1 : b ≠ e := fun z => nb (by simp [z])
      have n2 : b ≠ it := fun z => nb (by simp [z])
      exact (sb.2 b n1).trans (keep b ob n1 n2 q)
    refine ⟨.ref s.heap.objs.size, _, I1, rfl, ⟨_, x, rfl, I.hok.fresh (Nat.le_refl _), rfl, fun ys hy2 => ?_⟩, ⟨⟨y, ?_⟩, hst.1.at fun o q => (sb.2 it (Ne.symm hei)).trans q, hei, hai, hae⟩, fun b hb => ?_⟩
    · rw [I.list_inj hy2 hq]
      exact hx
    · have e1 : k + ((i + 1 : Nat) : Int) = k + (i : Int) + 1 := by omega
      rw [e1]
      exact he2
    · have lb : b < s.heap.objs.size := by
        rcases two_mem hb with z | z
        · rw [z]
          exact lte
        · rw [z]
          exact lti
      rw [upd_ne (Nat.ne_of_lt lb)]
      exact (hf b hb).1
  done := by
    intro X hP hw hK hc i pins s σ H E I hf st hg
    subst hP hw hK
    obtain ⟨⟨old, he⟩, hit, hei, hai, hae⟩ := st
    obtain ⟨xs, hq, hx⟩ := hg
    obtain ⟨its, rv, p, hz⟩ := I.list hq
    obtain ⟨f0, f1, f2, f3, f4, f5⟩ := hf it (by simp)
    have hl := rv.length
    have D := Draws.list (prog := X.prog) (w := X.w) (A := X.A.in1) (I.ok.hd hc) it a hai its.toArray
    have c : i = its.toArray.size := by
      simp
      omega
    subst c
    exact wpAny_pyNext_enum_endD D he ⟨hit, p.isList⟩ fun h' eb => ⟨rfl, I.turned (t' := s.toks) (fun b o hb q => eb b o hb q) f0 f1 f3 f4 f5⟩
  self := fun A i s Q E st h => by
    obtain ⟨⟨_, he⟩, _⟩ := st
    exact wpAny_pyIter_enum he h
theorem turnT (k : Int) (a e it : Addr) : Turn P w K (.Tuple elts kk tpos) (IteT K k a) [e, it] e
    (fun i h => (∃ old, IsEnum h e it (k + (i : Int)) old) ∧ h.IsTupleIter it a i ∧ e ≠ it ∧ a ≠ it ∧ a ≠ e) where
  mem := List.mem_cons_self ..
  obj := fun i h st b hb => by
    obtain ⟨⟨old, he⟩, ⟨o, ho, _, hd⟩, _⟩ := st
    rcases two_mem hb with z | z
    · subst z
      exact ⟨_, he, fun v q => nomatch q⟩
    · subst z
      refine ⟨o, ho, fun v q => ?_⟩
      rw [hd] at q
      cases q
  keep := fun i h h' st kp => by
    obtain ⟨⟨old, he⟩, hi, r⟩ := st
    exact ⟨⟨old, kp e (by simp) _ he⟩, hi.at fun o q => kp it (by simp) o q, r⟩
  item := by
    intro X hP hw hK hc i pins s σ H E I hf st hg
    subst hP hw hK
    obtain ⟨⟨old, he⟩, hit, hei, hai, hae⟩ := st
    obtain ⟨xs, x, hq, hx⟩ := hg
    obtain ⟨its, rv, p, hz⟩ := I.tuple hq
    obtain ⟨u, hu, ru⟩ := rv.get hx
    have hil : i < its.toArray.size := by
      have := (List.getElem?_eq_some_iff.mp hu).1
      simpa using this
    have D := Draws.tuple (prog := X.prog) (w := X.w) (A := X.A.in1) (I.ok.hd hc) it a hai its.toArray
    have lte : e < s.heap.objs.size := Heap.lt_size he
    have lti : it < s.heap.objs.size := by
      obtain ⟨_, q, _⟩ := hit
      exact Heap.lt_size q
    refine wpAny_pyNext_enum_itemC D he ⟨hit, (show s.heap.IsTuple a its.toArray from p)⟩ hil hei (by simp [hei, hae.symm]) ?_
    intro y h' tk hy ho hst hT hsz keep
    have eu : y = u := by
      have h2 : its.toArray[i]? = some u := by simpa using hu
      rw [h2] at hy
      exact (Option.some.inj hy).symm
    subst eu
    refine ⟨_, rfl, wpAny_letOwnedTupleGo_enum (s := { s with heap := h', toks := tk + 1 }) ho ?_⟩
    intro h2 he2 sb
    have t2 : h2.get? s.heap.objs.size = some { cls := .type "tuple", data := .seq #[.int (k + (i : Int)) tk, y] } := (sb.2 _ (Nat.ne_of_gt lte)).trans hT
    have new : ObjOk X.prog X.w (upd H s.heap.objs.size (.tup [.int (k + (i : Int)), x])) h2 s.heap.objs.size (.tup [.int (k + (i : Int)), x]) :=
      ⟨(by show 2 ≤ sizeLine; decide), [.int (k + (i : Int)) tk, y], .cons ⟨_, rfl⟩ (.cons ru .nil), ⟨_, t2, rfl, _, rfl⟩⟩
    have I1 : Inv X pins σ (upd H s.heap.objs.size (.tup [.int (k + (i : Int)), x])) { s with heap := h2, toks := tk + 1 } := by
      refine I.turnedNew (ch := [e, it]) (fun b ob nb q => ?_) hf (Nat.le_refl _) new
      have n1 : b ≠ e := fun z => nb (by simp [z])
      have n2 : b ≠ it := fun z => nb (by simp [z])
      exact (sb.2 b n1).trans (keep b ob n1 n2 q)
    refine ⟨.ref s.heap.objs.size, _, I1, rfl, ⟨_, x, rfl, I.hok.fresh (Nat.le_refl _), rfl, fun ys hy2 => ?_⟩, ⟨⟨y, ?_⟩, hst.1.at fun o q => (sb.2 it (Ne.symm hei)).trans q, hei, hai, hae⟩, fun b hb => ?_⟩
    · rw [I.tuple_inj hy2 hq]
      exact hx
    · have e1 : k + ((i + 1 : Nat) : Int) = k + (i : Int) + 1 := by omega
      rw [e1]
      exact he2
    · have lb : b < s.heap.objs.size := by
        rcases two_mem hb with z | z
        · rw [z]
          exact lte
        · rw [z]
          exact lti
      rw [upd_ne (Nat.ne_of_lt lb)]
      exact (hf b hb).1
  done := by
    intro X hP hw hK hc i pins s σ H E I hf st hg
    subst hP hw hK
    obtain ⟨⟨old, he⟩, hit, hei, hai, hae⟩ := st
    obtain ⟨xs, hq, hx⟩ := hg
    obtain ⟨its, rv, p, hz⟩ := I.tuple hq
    obtain ⟨f0, f1, f2, f3, f4, f5⟩ := hf it (by simp)
    have hl := rv.length
    have D := Draws.tuple (prog := X.prog) (w := X.w) (A := X.A.in1) (I.ok.hd hc) it a hai its.toArray
    have c : i = its.toArray.size := by
      simp
      omega
    subst c
    exact wpAny_pyNext_enum_endD D he ⟨hit, (show s.heap.IsTuple a its.toArray from p)⟩ fun h' eb => ⟨rfl, I.turned (t' := s.toks) (fun b o hb q => eb b o hb q) f0 f1 f3 f4 f5⟩
  self := fun A i s Q E st h => by
    obtain ⟨⟨_, he⟩, _⟩ := st
    exact wpAny_pyIter_enum he h
/-- what enumerate(xs, start=k) walks -/
def iEnumK (K : PySem.W.Frag) (ta tk : TA) : TI := fun σ H R => ta σ H fun vs H1 => tk σ H1 fun zs H2 => ∃ (a : Addr) (k : Int), vs = [.ref a] ∧ zs = [.int k] ∧ (0 ≤ k ∧ k ≤ 1000) ∧
  ((∃ xs, SqL K H2 a xs ∧ R (IteL K k a) H2) ∨ (∃ xs, SqT K H2 a xs ∧ R (IteT K k a) H2))
theorem pi_enumK {X : Cx} {e ke : Expr} {ta tk : TA} {p pos tpos kpos : Pos} {elts : List Expr} {kk : Nat} (gl : Gl X "enumerate") (no : X.mg "enumerate" = none) (ha : PA X [e] ta) (hk : PK X [⟨some (Str.ofString "start"), ke, kpos⟩] tk)
    (h1 : backTo pos (starEach [e] X.env) = (false, eval e X.env) :: backTo pos (starEach [] X.env) := by rfl) (h2 : (backTo pos (starEach [e] X.env)).any (·.1) = false := by rfl)
    (h3 : (backToKw pos (keywordEach [⟨some (Str.ofString "start"), ke, kpos⟩] X.env)).all (·.1.isSome) = true := by rfl)
    (h4 : (backToKw pos (keywordEach [⟨some (Str.ofString "start"), ke, kpos⟩] X.env)).any (·.1.isNone) = false := by rfl)
    (h5 : (backToKw pos (keywordEach [⟨some (Str.ofString "start"), ke, kpos⟩] X.env)).filterMap (·.1) = [Str.ofString "start"] := by rfl) :
    PI X (.Tuple elts kk tpos) (.Call (.Name "enumerate" p) [e] [⟨some (Str.ofString "start"), ke, kpos⟩] pos) (iEnumK X.K ta tk) := by
  refine ⟨fun pins s σ H R I h => ?_⟩
  refine wpAny_Call_Name_kw (ld_blt I gl no boot_enumerate ?_ (by decide) (by decide))
  refine type_with_kw h2 h4 ?_
  have run := ha.run pos pins s σ H _ I h
  rw [h1] at run ⊢
  refine evalArgs_kwB h3 (thn run ?_)
  intro us s1 got
  obtain ⟨vs, H1, I1, r1, q1⟩ := got
  refine thn (hk.run pos pins s1 σ H1 _ I1 q1) ?_
  intro ws s2 got2
  obtain ⟨zs, H2, I2, r2, a, k, rfl, rfl, hkb, q2⟩ := got2
  rw [h5]
  obtain ⟨u, rfl, ru⟩ := vals1 r1
  obtain ⟨v, rfl, rv⟩ := vals1 r2
  cases (show u = Value.ref a from ru)
  obtain ⟨t, rfl⟩ := rv
  have fin : ∀ (h' : Heap) (J : It) (tn : Nat → Heap → Prop), (∀ b o, s2.heap.get? b = some o → h'.get? b = some o) → Turn X.prog X.w X.K (.Tuple elts kk tpos) J [s2.heap.objs.size + 1, s2.heap.objs.size] (s2.heap.objs.size + 1) tn → tn 0 h' → R J H2 →
      PIE X pins σ (.Tuple elts kk tpos) R (.ref (s2.heap.objs.size + 1)) { s2 with heap := h' } := by
    intro h' J tn keep tr t0 q
    have I3 : Inv X pins σ H2 { s2 with heap := h' } := I2.kept (t' := s2.toks) keep
    refine ⟨s2.heap.objs.size + 1, [s2.heap.objs.size + 1, s2.heap.objs.size], tn, J, H2, rfl, I3, tr, t0, fun b hb => ?_, q⟩
    have le : s2.heap.objs.size ≤ b := by
      rcases two_mem hb with z | z
      · rw [z]
        exact Nat.le_add_right _ _
      · rw [z]
        exact Nat.le_refl _
    exact I2.fpOk le (I2.hok.fresh le)
  have k0 : k + ((0 : Nat) : Int) = k := by simp
  rcases q2 with ⟨xs, hs, q⟩ | ⟨xs, hs, q⟩
  · obtain ⟨its, _, p', _⟩ := I2.list hs
    have la : a < s2.heap.objs.size := p'.lt
    refine enum_begins_start (begins_list a its.toArray) p'.isList (by omega) (by omega) fun h' he hit hsz keep => wpAny_pyIter_enum he ?_
    exact fin h' _ _ keep (turnL k a _ _) ⟨⟨.none, by rw [k0]; exact he⟩, ⟨_, hit, rfl, rfl⟩, Nat.succ_ne_self _, Nat.ne_of_lt la, Nat.ne_of_lt (Nat.lt_succ_of_lt la)⟩ q
  · obtain ⟨its, _, p', _⟩ := I2.tuple hs
    have la : a < s2.heap.objs.size := p'.lt
    refine enum_begins_start (begins_tuple a its.toArray) (show s2.heap.IsTuple a its.toArray from p') (by omega) (by omega) fun h' he hit hsz keep => wpAny_pyIter_enum he ?_
    exact fin h' _ _ keep (turnT k a _ _) ⟨⟨.none, by rw [k0]; exact he⟩, ⟨_, hit, rfl, rfl⟩, Nat.succ_ne_self _, Nat.ne_of_lt la, Nat.ne_of_lt (Nat.lt_succ_of_lt la)⟩ q
end
end K02
namespace K02
open PySem PySem.Spec PyProof.Rows L2 Evl
open PySem.Builtin PySem.Builtin.Float
/-! ### f"{n:b}" -/
def binS (n : Nat) : Str := ⟨((Nat.toDigits 2 n).map Char.toNat).toArray⟩
def fB : FormatSpec := { align := 62, type := some 98 }
theorem parse_b (name : String) : parseFormatSpec (Str.ofString "b").cps.toList name 62 = .ok fB := by rfl
section
variable {prog : Program} {w : World} {A : Around} {E : Value → Shared → Prop} {s : Shared}
theorem plain_field {D : List Nat} (h : D.isEmpty = false) : intField' { align := 62, type := some 98 } false [] D [] 4 = ⟨D.toArray⟩ := by
  unfold intField'
  simp [h]
theorem field_b {n : Nat} {t : Tok} {sp : Str} {f : FormatSpec} {Q : Value → Shared → Prop} (hz : (binS n).length ≤ sizeLine) (sz : sp.length ≤ sizeLine) (hne : (sp.length == 0) = false)
    (hasc : ((sp.cps.toList.drop 1).any (· ≥ 128) || (sp.cps.getD 0 0 ≥ 128 && !([60, 62, 61, 94] : List Nat).contains (sp.cps.getD 1 0))) = false)
    (hp : ∀ name, parseFormatSpec sp.cps.toList name 62 = .ok f) (hf : f = { align := 62, type := some 98 })
    (h : ∀ k1 k2, Q (.str (binS n) k1) { s with toks := k2 }) :
    wpAny (model prog w) A (formatField (.int (n : Int) t) sp) Q E s := by
  show wpAny _ _ (holding [.int (n : Int) t] (pyFormat (.int (n : Int) t) sp)) Q E s
  refine wpAny_holding ?_
  unfold pyFormat
  refine wpAny_bind (wpAny_mkStr ?_ sz)
  have isI : ∀ s' : Shared, s'.TypeIs (.int (n : Int) t) "int" := fun s' => typeIs_int s' (n : Int) t
  refine wpAny_bind (m := callSpecial? (.int (n : Int) t) (Str.ofString "__format__") [.str sp s.toks])
    (wpAny_callSpecial?_slot (name := Str.ofString "__format__") (isI _) slot_int_format ?_)
  refine wpAny_call (codeAny_call_builtin slot_int_format.plain entry_int_format
    (slot_int_format.check _ _ _ _ _ _ _ _ (isI _) (args_int_format _ _) ?_))
  unfold Builtin.«int.__format__»
  have hv : (Value.str sp s.toks == Value.none) = false := rfl
  simp only [selfAndOne, noKeywords, Int.intOfSelf, asInt?, asStr?, List.isEmpty_nil, if_true, pure_bind, bind_pure, bind_assoc, hne, hasc, Bool.false_eq_true, if_false, hv]
  refine wpAny_bind (wpAny_typeNameOf (T := "str") (typeIs_str _ _ _) (by decide) ?_)
  intro kind
  refine wpAny_bind (wpAny_typeNameOfCut_int ?_)
  have hty : f.type.getD (if sp.cps.back? == some 0 then 0 else 100) = 98 := by
    rw [hf]
    rfl
  have hpr : f.precision = none := by rw [hf]
  have hnz : f.noNeg0 = false := by rw [hf]
  have hw : f.width = none := by rw [hf]
  have hal : f.alt = false := by rw [hf]
  simp only [hp, hty]
  rw [if_pos (by decide)]
  show wpAny _ _ (if _ then _ else _) _ _ _
  rw [if_neg (by simp [hpr])]
  show wpAny _ _ (if _ then _ else _) _ _ _
  rw [if_neg (by simp [hnz])]
  show wpAny _ _ (if _ then _ else _) _ _ _
  rw [if_neg (by decide)]
  show wpAny _ _ (if _ then _ else _) _ _ _
  rw [if_neg (by decide)]
  show wpAny _ _ (if _ then _ else _) _ _ _
  rw [if_neg (by simp [hw])]
  show wpAny _ _ (retStr _) _ _ _
  unfold retStr
  have neg : decide ((n : Int) < 0) = false := by
    rw [decide_eq_false_iff_not]
    omega
  have ab : ((n : Int)).natAbs = n := Int.natAbs_natCast n
  have up : (fun c : Char => (if ((98 : Nat) == 88) = true then c.toUpper else c).toNat) = Char.toNat := by
    funext c
    rfl
  have b2 : ((2 : Nat) == 10) = false := rfl
  simp only [hal, neg, ab, up, b2, Bool.false_eq_true, if_false]
  subst hf
  have len1 := tDigits_len_ge 2 n
  unfold binS at hz h
  generalize hD : (Nat.toDigits 2 n).map Char.toNat = D at hz h ⊢
  have hD2 : D.isEmpty = false := by
    rw [← hD]
    cases hE : Nat.toDigits 2 n with
    | nil =>
      rw [hE] at len1
      exact absurd len1 (by decide)
    | cons x r => rfl
  refine wpAny_bind (wpAny_mkStr (wpAny_pure ?_) ?hs2)
  case hs2 =>
    show (intField' { align := 62, type := some 98 } false [] D [] 4).length ≤ sizeLine
    rw [plain_field hD2]
    exact hz
  have e : ∀ (k1 : Tok) (k2 : Nat), Q (.str (intField' { align := 62, type := some 98 } false [] D [] 4) k1) { s with toks := k2 } := by
    rw [plain_field hD2]
    exact h
  dsimp only
  refine wpAny_bind (wpAny_isInstance (typeIs_str _ _ _) isSubtype_str_str ?_)
  exact wpAny_pure (e _ _)
end
/-- f"{n:b}" of a number that is not below 0 -/
def tBin (te : TE) : TE := fun σ H Q => te σ H fun x H1 => ∃ n : Nat, x = .int (n : Int) ∧ n < 2 ^ 1000 ∧ Q (.str (binS n)) H1
theorem binS_len {n : Nat} (h : n < 2 ^ 1000) : (binS n).length ≤ sizeLine := by
  have e : (binS n).length = (bins n).length := by
    unfold binS bins Str.length
    simp
  rw [e]
  exact Nat.le_trans (bins_len (by decide) h) (by decide)
theorem spec_facts : (Str.ofString "b").length ≤ sizeLine ∧ ((Str.ofString "b").length == 0) = false ∧
    (((Str.ofString "b").cps.toList.drop 1).any (· ≥ 128) || ((Str.ofString "b").cps.getD 0 0 ≥ 128 && !([60, 62, 61, 94] : List Nat).contains ((Str.ofString "b").cps.getD 1 0))) = false := by decide +kernel
theorem pe_bin {X : Cx} {e se : Expr} {te : TE} {pos : Pos} (he : PE X e te) (hs : PE X se (tC (.str (Str.ofString "b")))) : PE X (.FormattedValue e (-1) (some se) pos) (tBin te) := by
  refine ⟨fun pins s σ H Q I h => ?_⟩
  refine wpAny_FormattedValue_spec (thn (he.run pins s σ H _ I h) ?_)
  intro v s1 got
  obtain ⟨x, H1, I1, r1, n, rfl, hn, q⟩ := got
  obtain ⟨t, rfl⟩ := r1
  refine thn (hs.run pins s1 σ H1 (fun y H2 => y = .str (Str.ofString "b") ∧ Q (.str (binS n)) H2) I1 ⟨rfl, q⟩) ?_
  intro r s2 got2
  obtain ⟨y, H2, I2, r2, rfl, q2⟩ := got2
  obtain ⟨t2, rfl⟩ := r2
  obtain ⟨z1, z2, z3⟩ := spec_facts
  exact ⟨_, t2, rfl, field_b (binS_len hn) z1 z2 z3 parse_b rfl fun k1 k2 => ⟨.str (binS n), H2, I2.tok k2, ⟨k1, rfl⟩, q2⟩⟩
theorem ev_bin {te : TE} {σ : L2.St} {H : Hp} {n : Nat} (h : Ev te σ H (.int (n : Int))) (hn : n < 2 ^ 1000) : Ev (tBin te) σ H (.str (binS n)) := fun H1 e Q q =>
  h H1 e _ fun H2 e2 => ⟨n, rfl, hn, q H2 e2⟩
end K02
namespace K02
open PySem PySem.Spec PyProof.Rows L2 Evl
section
variable {P : Program} {w : World} {K : PySem.W.Frag} {mg : Str → Option Value} {base : Heap}
/-! ### fill -/
theorem walk_eL {k : Int} {a : Addr} {xs : List V} : Walk (IteL K k a) xs.length (fun H => SqL K H a xs) (YPair (fun i => some (.int (k + (i : Int)))) (fun i => xs[i]?)) := by
  refine ⟨fun i _ hi q => ⟨xs, xs[i], q, by simp [hi]⟩, fun _ q => ⟨xs, q, rfl⟩, fun i H v H' _ q y => ?_⟩
  obtain ⟨T, x, h1, h2, h3, h4⟩ := y
  exact ⟨T, .int (k + (i : Int)), x, h1, h2, h3, rfl, h4 xs q⟩
theorem walk_eT {k : Int} {a : Addr} {xs : List V} : Walk (IteT K k a) xs.length (fun H => SqT K H a xs) (YPair (fun i => some (.int (k + (i : Int)))) (fun i => xs[i]?)) := by
  refine ⟨fun i _ hi q => ⟨xs, xs[i], q, by simp [hi]⟩, fun _ q => ⟨xs, q, rfl⟩, fun i H v H' _ q y => ?_⟩
  obtain ⟨T, x, h1, h2, h3, h4⟩ := y
  exact ⟨T, .int (k + (i : Int)), x, h1, h2, h3, rfl, h4 xs q⟩
/-- a for over enumerate(ints, start=k), the pair into two names -/
theorem s_forE {tl tk : TA} {tb : TS} {D : Ends} {σ : L2.St} {H : Hp} {a : Addr} {k : Int} {xs : List V} {j1 j2 : Nat} (h : EvA tl σ H [.ref a]) (hk : EvA tk σ H [.int k]) (hb : 0 ≤ k ∧ k ≤ 1000) (hx : SqL K H a xs ∨ SqT K H a xs)
    (Pv : Nat → L2.St → Hp → Prop) (h0 : ∀ H1, Ex H H1 → Pv 0 σ H1) (hG : ∀ i σ' H', Pv i σ' H' → Ex H H')
    (hs : ∀ i x σ' H' H2, xs[i]? = some x → Pv i σ' H' → Ex H' H2 → tb { D with nx := Pv (i + 1), ct := Pv (i + 1), bk := D.nx } ((σ'.set j1 (some (.int (k + (i : Int))))).set j2 (some x)) H2)
    (hd : ∀ σ' H', Pv xs.length σ' H' → D.nx σ' H') : tFor (iEnumK K tl tk) (gTup K 2 (gCons (gName j1) (gCons (gName j2) gNil))) tb D σ H := by
  refine h H (Ex.refl H) _ fun H1 e1 => hk H1 e1 _ fun H2 e2 => ?_
  have e12 := e1.trans e2
  have step : ∀ (i : Nat) (x : V) (σ' : L2.St) (H3 H4 : Hp), i < xs.length → Pv i σ' H3 → YPair (fun i => some (.int (k + (i : Int)))) (fun i => xs[i]?) i H3 x H4 →
      gTup K 2 (gCons (gName j1) (gCons (gName j2) gNil)) x σ' H4 fun σ2 H5 => tb { D with nx := Pv (i + 1), ct := Pv (i + 1), bk := D.nx } σ2 H5 := by
    intro i v σ' H3 H4 _ p y
    obtain ⟨T, x, z, rfl, hT, rfl, e3, e4⟩ := y
    cases e3
    exact ⟨T, [.int (k + (i : Int)), z], rfl, st_of upd_same, rfl, _, _, rfl, _, _, rfl, rfl, hs i z σ' H3 _ e4 p (Ex.new hT)⟩
  refine ⟨a, k, rfl, rfl, hb, ?_⟩
  rcases hx with hx | hx
  · exact .inl ⟨xs, ex_l e12 hx, for_it (walk_eL (xs := xs)) Pv (h0 H2 e12) (fun i σ' H' _ p => ex_l (hG i σ' H' p) hx) step hd⟩
  · exact .inr ⟨xs, ex_t e12 hx, for_it (walk_eT (xs := xs)) Pv (h0 H2 e12) (fun i σ' H' _ p => ex_t (hG i σ' H' p) hx) step hd⟩
theorem ev_bm {r : V → List V → Hp → VK → Prop} {to : TE} {ta : TA} {σ : L2.St} {H : Hp} {ty : String} {x z : V} {vs : List V} (hx : Ev to σ H x) (ht : ∀ H1, Ex H H1 → tyV K ty x H1) (ha : EvA ta σ H vs)
    (hr : ∀ H1, Ex H H1 → ∀ Q : VK, (∀ H2, Ex H1 H2 → Q z H2) → r x vs H1 Q) : Ev (tBM K ty r to ta) σ H z := fun H1 e Q q =>
  hx H1 e _ fun H2 e2 => ⟨ht H2 (e.trans e2), ha H2 (e.trans e2) _ fun H3 e3 => hr H3 ((e.trans e2).trans e3) Q fun H4 e4 => q H4 ((e2.trans e3).trans e4)⟩
def spFill (K : PySem.W.Frag) : Sp := fun vs H Q _ => ∃ (a : Addr) (ps : List Int) (s : Int), vs = [.int s, .ref a] ∧ (SqL K H a (ps.map V.int) ∨ SqT K H a (ps.map V.int)) ∧ ps.length ≤ 1000 ∧ RetV (.int (fillF s ps)) H Q
theorem has_fill (F : At K mg "fill" s_fill) (T : Top mg) : Has P w K mg base "fill" s_fill ["length", "counts"] 1 (spFill K) := by
  obtain ⟨f, fd, F, m⟩ := F.ex
  refine ⟨f, fd, F, F.ok S_fill (fun vs H Q E h => ?_) (fun cdv A outer s H vs Q E hr h => ?_), F.binds fun _ _ _ _ _ _ us hl => match us, hl with | [_, _], _ => rfl, m, F.kp⟩
  · obtain ⟨a, ps, s, rfl, _⟩ := h
    rfl
  obtain ⟨a, ps, len, rfl, hS, hz, q⟩ := h
  refine ⟨_, (pss_cons
    (ps_set (i := 2) S_fill.nd rfl (Or.inl rfl) (pv 0))
    (pss_cons
    (ps_set (i := 3) S_fill.nd rfl (Or.inl rfl) pe_int)
    (pss_cons
    (ps_for PassesOwn.never rfl (pi_enumK rfl T.z_enumerate (pa_cons (pv 1) pa_nil) (pk_cons pe_int pk_nil)) (pg_tup rfl (pgs_cons (pg_name (i := 4) S_fill.nd rfl (Or.inl rfl)) (pgs_cons (pg_name (i := 5) S_fill.nd rfl (Or.inl rfl)) pgs_nil))) (pss_cons
    (ps_set (i := 6) S_fill.nd rfl (Or.inl rfl) (pe_callB (call_min2 rfl) rfl T.z_min (by decide +kernel) (pa_cons (pv 5) (pa_cons (pe_op op_fdivW (pv 2) (pv 4)) pa_nil))))
    (pss_cons
    (ps_aug (i := 3) S_fill.nd rfl (Or.inl rfl) (pv 6) ip_add)
    (pss_one
    (ps_aug (i := 2) S_fill.nd rfl (Or.inl rfl) (pe_op op_mul (pv 6) (pv 4)) ip_sub)))))
    (pss_one
    (ps_ret (pv 3)))))), ?_⟩
  refine q_asg (ev_var rfl) fun H1 e1 => ?_
  refine q_asg ev_c fun H2 e2 => ?_
  have e12 := e1.trans e2
  refine s_forE (D := { nx := _, rt := _, bk := _, ct := _ }) (k := 1) (xs := ps.map V.int) (ea_cons (ev_var rfl) ea_nil) (ea_cons ev_c ea_nil) (by decide) (hS.elim (fun h => .inl (ex_l e12 h)) (fun h => .inr (ex_t e12 h)))
    (fun i σ' H' => (∃ u v x, σ' = [some (.int len), some (.ref a), some (.int (fl (at0 ps) len i)), some (.int (ft (at0 ps) len i)), u, v, x]) ∧ Ex H2 H') ?_ ?_ ?_ ?_
  · intro H3 e3
    exact ⟨⟨none, none, none, rfl⟩, e3⟩
  · intro i σ' H' p
    exact p.2
  · intro i x σ' H' H3 hx p e3
    obtain ⟨⟨u, v, y, rfl⟩, e4⟩ := p
    obtain ⟨hi, rfl⟩ := at0_get hx
    have e5 : (1 : Int) + (i : Int) = (i : Int) + 1 := by omega
    refine q_asg (ev_cb (ea_cons (ev_var rfl) (ea_cons (ev_div (i := fl (at0 ps) len i) (j := 1 + (i : Int)) (by omega) (by omega) (ev_var rfl) (ev_var rfl)) ea_nil)) rc_min) fun H4 e6 => ?_
    refine q_aug (a := ft (at0 ps) len i) rfl (ev_var rfl) fun H5 e7 => ?_
    refine s_aug (a := fl (at0 ps) len i) rfl (ev_mulR (j := 1 + (i : Int)) (by omega) (by omega) (ev_var rfl) (ev_var rfl)) fun H6 e8 => ⟨⟨some (.int (1 + (i : Int))), some (.int (at0 ps i)), some (.int (min (at0 ps i) (fl (at0 ps) len i / (1 + (i : Int))))), ?_⟩, (((e4.trans e3).trans e6).trans e7).trans e8⟩
    show [some (V.int len), some (V.ref a), some (V.int (fl (at0 ps) len i - min (at0 ps i) (fl (at0 ps) len i / (1 + (i : Int))) * (1 + (i : Int)))), some (V.int (ft (at0 ps) len i + min (at0 ps i) (fl (at0 ps) len i / (1 + (i : Int))))), some (V.int (1 + (i : Int))), some (V.int (at0 ps i)), some (V.int (min (at0 ps i) (fl (at0 ps) len i / (1 + (i : Int)))))] = _
    rw [e5]
    rfl
  · intro σ' H' p
    obtain ⟨⟨u, v, y, rfl⟩, e4⟩ := p
    rw [List.length_map]
    refine s_ret (ev_var rfl) fun H3 e3 => ?_
    exact q H3 ((e12.trans e4).trans e3)
theorem sv_fill {s : Int} {a : Addr} {ps : List Int} {H : Hp} (hS : SqL K H a (ps.map V.int) ∨ SqT K H a (ps.map V.int)) (hz : ps.length ≤ 1000) : SpV (spFill K) ([V.int s, V.ref a] ++ []) H (.int (fillF s ps)) := fun _ e _ q _ =>
  ⟨a, ps, s, rfl, hS.elim (fun h => .inl (ex_l e h)) (fun h => .inr (ex_t e h)), hz, q⟩
theorem kb_fill {f : Addr} {fd : FuncData} (F : Fun K "fill" "fill" s_fill f fd) : KBn K fd ["length", "counts"] 0 ["counts", "length"] (fun _ ws => ws.reverse) (fun _ ws => ws.reverse) := by
  obtain ⟨oc, od, kV, doc, pm, an, cdv, ct, osl, rfl, lk, hcd⟩ := F.ex
  refine ⟨fun s us ws X l1 l2 => ?_, fun r1 r2 => ?_⟩
  · match us, ws, l1, l2 with
    | [], [v, u], _, _ => exact .of_eq rfl
  · exact vals_rev r2
where
  vals_rev {xs : List V} {us : List Value} (r : Vals xs us) : Vals xs.reverse us.reverse := by
    induction r with
    | nil => exact .nil
    | cons h _ ih =>
      rw [List.reverse_cons, List.reverse_cons]
      exact Vals.append ih (.cons h .nil)
/-! ### number_bits -/
def nb (n m : Int) : Str := ⟨(nbL n.toNat (bitsOf m).toNat).toArray⟩
theorem bits_lt {n m : Int} (h0 : 0 ≤ n) (h : n < m) : n.toNat < 2 ^ (bitsOf m).toNat := by
  unfold bitsOf Builtin.Int.intBits
  obtain ⟨k, hk⟩ := Int.eq_ofNat_of_zero_le (show 0 ≤ m - 1 by omega)
  rw [hk]
  have hn : n.toNat ≤ k := by omega
  by_cases c : k = 0
  · subst c
    have : n.toNat = 0 := by omega
    rw [this]
    decide
  · rw [if_neg (by simpa using c)]
    rw [Int.toNat_natCast, Int.natAbs_natCast]
    exact Nat.lt_of_le_of_lt hn Nat.lt_log2_self
theorem bits_le {m : Int} {b : Nat} (h1 : 1 ≤ m) (h : m ≤ 2 ^ b) : bitsOf m ≤ (b : Int) := by
  unfold bitsOf Builtin.Int.intBits
  obtain ⟨k, hk⟩ := Int.eq_ofNat_of_zero_le (show 0 ≤ m - 1 by omega)
  rw [hk]
  by_cases c : k = 0
  · subst c
    exact Int.natCast_nonneg b
  · rw [if_neg (by simpa using c)]
    have cast : (2 : Int) ^ b = ((2 ^ b : Nat) : Int) := by
      rw [Int.natCast_pow]
      rfl
    rw [cast] at h
    have := (Nat.log2_lt c).mpr (show k < 2 ^ b by omega)
    rw [Int.natAbs_natCast]
    omega
def spNb : Sp := fun vs H Q _ => ∃ n m : Int, vs = [.int n, .int m] ∧ 0 ≤ n ∧ n < m ∧ m ≤ 2 ^ 1000 ∧ RetV (.str (nb n m)) H Q
theorem zfill_is {n w : Nat} (hw : w ≠ 0) (h : n < 2 ^ w) : Txt.zfill (binS n) (w : Int) = ⟨(nbL n w).toArray⟩ := by
  have hl : (binS n).length = (bins n).length := by
    unfold binS bins Str.length
    simp
  have hle := bins_len (by omega) h
  have hpos := bins_pos n
  have hd := (bins_ok n).1
  unfold Txt.zfill nbL
  rw [if_neg hw, hl]
  by_cases c : (w : Int) ≤ ((bins n).length : Nat)
  · rw [if_pos c]
    have e : w - (bins n).length = 0 := by omega
    rw [e]
    rfl
  · rw [if_neg c, Int.toNat_natCast]
    have hb : binS n = ⟨(bins n).toArray⟩ := rfl
    rw [hb]
    unfold zfilled
    cases hc : bins n with
    | nil =>
      rw [hc] at hpos
      exact absurd hpos (by decide)
    | cons x r =>
      have hx := hd x (by rw [hc]; exact List.mem_cons_self ..)
      rcases hx with rfl | rfl
      · show Builtin.Str.padded _ _ 0 48 = _
        unfold Builtin.Str.padded
        simp
      · show Builtin.Str.padded _ _ 0 48 = _
        unfold Builtin.Str.padded
        simp
theorem pad_ok {n : Nat} (h : n ≤ 1000) : PadOk (n : Int) = true := by
  have k : ∀ m : Nat, m ≤ 1000 → PadOk (m : Int) = true := by decide +kernel
  exact k n h
theorem has_nb (F : At K mg "number_bits" s_number_bits) (T : Top mg) (hW : Has P w K mg base "width" s_width ["options"] 1 spWidth) : Has P w K mg base "number_bits" s_number_bits ["number", "options"] 2 spNb := by
  obtain ⟨f, fd, F, m⟩ := F.ex
  obtain ⟨f1, fd1, _, G_width, b_width, m_width, k_width⟩ := hW
  refine ⟨f, fd, F, F.ok S_number_bits (fun vs H Q E h => ?_) (fun cdv A outer s H vs Q E hr h => ?_), F.binds fun _ _ _ _ _ _ us hl => match us, hl with | [_, _], _ => rfl, m, F.kp⟩
  · obtain ⟨n, m, rfl, _⟩ := h
    rfl
  obtain ⟨n, m, rfl, h0, hm, hB, q⟩ := h
  refine ⟨_, (pss_cons
    (ps_set (i := 2) S_number_bits.nd rfl (Or.inl rfl) (pe_call G_width (hr.mono (by decide)) rfl m_width k_width b_width .nil pass0 (pa_cons (pv 1) pa_nil)))
    (pss_cons
    (ps_if (pt_cmpR op_eq (pv 2) pe_int (nomark _)) (pss_one
    (ps_ret pe_str)) pss_nil)
    (pss_cons
    (ps_set (i := 3) S_number_bits.nd rfl (Or.inl rfl) (pe_joined1 (pe_bin (pv 0) (pe_joined1 pe_str))))
    (pss_one
    (ps_ret (pe_bm PySem.F.plainAttrs_str PySem.F.slot_str_zfill PySem.F.type_str_zfill mt_zfill (pv 3) (pa_cons (pv 2) pa_nil))))))), ?_⟩
  have hlt := bits_lt h0 hm
  have hb0 := bits_nn m
  have hb1 := bits_le (b := 1000) (by omega) hB
  have ew : bitsOf m = (((bitsOf m).toNat : Nat) : Int) := by omega
  have en : n = ((n.toNat : Nat) : Int) := by omega
  refine q_asg (ev_call (ea_cons (ev_var rfl) ea_nil) sv_width) fun H1 e1 => ?_
  refine q_when (et_eqI (ev_var rfl) ev_c) (fun hb H2 e2 => ?_) (fun hb H2 e2 => ?_)
  · have c : bitsOf m = 0 := of_decide_eq_true hb
    refine s_ret ev_c fun H3 e3 => ?_
    have e : nb n m = Str.ofString "" := by
      unfold nb nbL
      rw [c]
      rfl
    rw [e] at q
    exact q H3 ((e1.trans e2).trans e3)
  · have c : ¬ bitsOf m = 0 := of_decide_eq_false hb
    have hn2 : n.toNat < 2 ^ 1000 := Nat.lt_of_lt_of_le hlt (Nat.pow_le_pow_right (by decide) (by omega))
    refine q_asg (ev_bin (n := n.toNat) (ev_is (ev_var rfl) (by rw [← en])) hn2) fun H3 e3 => ?_
    refine s_ret (v := .str (nb n m)) (ev_bm (ev_var rfl) (fun _ _ => rfl) (ea_cons (ev_var rfl) ea_nil) fun H4 _ Q' q' => ⟨binS n.toNat, bitsOf m, rfl, rfl, ?_, ?_⟩) fun H4 e4 => q H4 (((e1.trans e2).trans e3).trans e4)
    · rw [ew]
      have : (bitsOf m).toNat ≤ 1000 := by omega
      exact pad_ok this
    · have z := zfill_is (n := n.toNat) (w := (bitsOf m).toNat) (by omega) hlt
      rw [← ew] at z
      rw [z]
      exact q' H4 (Ex.refl H4)
theorem sv_nb {n m : Int} {H : Hp} (h0 : 0 ≤ n) (h1 : n < m) (h2 : m ≤ 2 ^ 1000) : SpV spNb ([V.int n, V.int m] ++ []) H (.str (nb n m)) := fun _ _ _ q _ => ⟨n, m, rfl, h0, h1, h2, q⟩
theorem kb_nb {f : Addr} {fd : FuncData} (F : Fun K "number_bits" "number_bits" s_number_bits f fd) : KBn K fd ["number", "options"] 0 ["options", "number"] (fun _ ws => ws.reverse) (fun _ ws => ws.reverse) := by
  obtain ⟨oc, od, kV, doc, pm, an, cdv, ct, osl, rfl, lk, hcd⟩ := F.ex
  refine ⟨fun s us ws X l1 l2 => ?_, fun r1 r2 => ?_⟩
  · match us, ws, l1, l2 with
    | [], [v, u], _, _ => exact .of_eq rfl
  · exact kb_fill.vals_rev r2
end
end K02
namespace K02
open PySem PySem.Spec PyProof.Rows L2 Evl
section
variable {P : Program} {w : World} {K : PySem.W.Frag} {mg : Str → Option Value} {base : Heap}
/-! ### _law_value -/
theorem q_forS {z : Str} {te : TE} {tb tz : TS} {D : Ends} {σ : L2.St} {H : Hp} {j : Nat} (h : Ev te σ H (.str z)) (Pv : Nat → L2.St → Hp → Prop) (h0 : ∀ H1, Ex H H1 → Pv 0 σ H1)
    (hs : ∀ i c σ' H', z.cps.toList[i]? = some c → Pv i σ' H' → tb { D with nx := Pv (i + 1), ct := Pv (i + 1), bk := tz D } (σ'.set j (some (.str ⟨#[c]⟩))) H') (hd : ∀ σ' H', Pv z.cps.size σ' H' → tz D σ' H') :
    tSeq (tFor (iStr te) (gName j) tb) tz D σ H := by
  refine h H (Ex.refl H) _ fun H1 e1 => ⟨z, rfl, ?_⟩
  refine for_it (D := { D with nx := tz D }) (walk_str (z := z)) Pv (h0 H1 e1) (fun _ _ _ _ _ => trivial) ?_ hd
  intro i x σ' H2 H3 _ p y
  obtain ⟨rfl, c, hc, rfl⟩ := y
  refine hs i c σ' _ ?_ p
  rw [Array.getElem?_toList]
  exact hc
def spVal : Sp := fun vs H Q _ => ∃ (z : Str) (w : Int), vs = [.str z, .int w] ∧ (z.length : Int) = w ∧ z.length ≤ 10000 ∧ Digs z.cps.toList ∧ RetV (.int (valR z.cps.toList)) H Q
theorem one_code {c d : Nat} : (V.str ⟨#[c]⟩ = V.str ⟨#[d]⟩) ↔ c = d := by
  constructor
  · intro h
    have h2 := V.str.inj h
    have h3 := congrArg (fun s : Str => s.cps.toList) h2
    simpa using h3
  · intro h
    rw [h]
theorem str0 : Str.ofString "0" = (⟨#[48]⟩ : Str) := by decide +kernel
theorem str1 : Str.ofString "1" = (⟨#[49]⟩ : Str) := by decide +kernel
theorem has_val (F : At K mg "_law_value" s__law_value) (T : Top mg) : Has P w K mg base "_law_value" s__law_value ["bits", "wide"] 1 spVal := by
  obtain ⟨f, fd, F, m⟩ := F.ex
  refine ⟨f, fd, F, F.ok S__law_value (fun vs H Q E h => ?_) (fun cdv A outer s H vs Q E hr h => ?_), F.binds fun _ _ _ _ _ _ us hl => match us, hl with | [_, _], _ => rfl, m, F.kp⟩
  · obtain ⟨z, w, rfl, _⟩ := h
    rfl
  obtain ⟨z, wd, rfl, hl, hz, hd, q⟩ := h
  refine ⟨_, (pss_cons
    (ps_if (PW.pt (pw_or (pt_not (pt_val (pe_callB call_isi rfl T.z_isinstance (by decide +kernel) (pa_cons (pv 0) (pa_cons (pe_bltn (v := .ty "str") rfl T.z_str (by decide +kernel) rfl) pa_nil))))) (pw_or1 (pt_cmpR op_ne (pe_callB call_len_str rfl T.z_len PySem.boot_len (pa_cons (pv 0) pa_nil)) (pv 1) (nomark _))))) (pss_one
    (ps_ret (pe_un un_neg pe_int))) pss_nil)
    (pss_cons
    (ps_set (i := 2) S__law_value.nd rfl (Or.inl rfl) pe_int)
    (pss_cons
    (ps_for PassesOwn.never rfl (pi_str (pv 0)) (pg_name (i := 3) S__law_value.nd rfl (Or.inl rfl)) (pss_cons
    (ps_if (PW.pt (pw_and (pt_cmpR op_ne (pv 3) pe_str (nomark _)) (pw_and1 (pt_cmpR op_ne (pv 3) pe_str (nomark _))))) (pss_one
    (ps_ret (pe_un un_neg pe_int))) pss_nil)
    (pss_one
    (ps_set (i := 2) S__law_value.nd rfl (Or.inl rfl) (pe_op op_add (pe_op op_mul (pv 2) pe_int) (pe_callTy call_int1 rfl T.z_int (by decide +kernel) (pa_cons (pe_cmpR op_eq (pv 3) pe_str (nomark _)) pa_nil)))))))
    (pss_one
    (ps_ret (pv 2)))))), ?_⟩
  have hsz : z.length ≤ sizeLine := Nat.le_trans hz (by decide)
  refine q_skip (et_is (et_or (et_not (et_B (ev_cb (ea_cons (ev_var rfl) (ea_cons ev_c ea_nil)) (rc_isiS (b := true) (by decide +kernel))))) (fun _ => et_neI (i := (z.length : Int)) (ev_cb (ea_cons (ev_var rfl) ea_nil) (fun H1 _ _ k => ⟨z, rfl, hsz, k H1 (Ex.refl H1)⟩)) (ev_var rfl))) (by simp [hl])) fun H1 e1 => ?_
  refine q_asg ev_c fun H2 e2 => ?_
  refine q_forS (ev_var rfl) (fun i σ' H' => (∃ u, σ' = [some (.str z), some (.int wd), some (.int (valR (z.cps.toList.take i))), u]) ∧ Ex H H') ?_ ?_ ?_
  · intro H3 e3
    exact ⟨⟨none, rfl⟩, (e1.trans e2).trans e3⟩
  · intro i c σ' H' hc p
    obtain ⟨⟨u, rfl⟩, e3⟩ := p
    have h2 := hd c (List.mem_of_getElem? hc)
    have t0 : decide (V.str ⟨#[c]⟩ = V.str (Str.ofString "0")) = decide (c = 48) := decide_eq_decide.mpr (by rw [str0]; exact one_code)
    have t1 : decide (V.str ⟨#[c]⟩ = V.str (Str.ofString "1")) = decide (c = 49) := decide_eq_decide.mpr (by rw [str1]; exact one_code)
    refine q_skip (et_is (et_and (et_test (ev_op (ev_var rfl) ev_c (rv_ne rfl))) (fun _ => et_test (ev_op (ev_var rfl) ev_c (rv_ne rfl)))) ?_) fun H4 e4 => ?_
    · rw [t0, t1]
      rcases h2 with rfl | rfl <;> rfl
    refine s_asg (ev_add (ev_mulR (by decide) (by decide) (ev_var rfl) ev_c) (ev_intB (ev_op (ev_var rfl) ev_c (rv_eq rfl)))) fun H5 e5 => ⟨⟨some (.str ⟨#[c]⟩), ?_⟩, (e3.trans e4).trans e5⟩
    have et : z.cps.toList.take (i + 1) = z.cps.toList.take i ++ [c] := by
      rw [List.take_add_one, hc]
      rfl
    have ev : valR (z.cps.toList.take (i + 1)) = valR (z.cps.toList.take i) * 2 + (if decide (c = 49) = true then 1 else 0) := by
      rw [et, valR_append]
      show valR (z.cps.toList.take i) * 2 + (bit1 c * 1 + 0) = _
      unfold bit1
      rcases h2 with rfl | rfl
      · simp
      · simp
    rw [ev, t1]
    rfl
  · intro σ' H' p
    obtain ⟨⟨u, rfl⟩, e3⟩ := p
    have et : z.cps.toList.take z.cps.size = z.cps.toList := List.take_of_length_le (by simp)
    refine s_ret (ev_var rfl) fun H4 e4 => ?_
    rw [et]
    exact q H4 (e3.trans e4)
theorem sv_val {z : Str} {w : Int} {H : Hp} (h1 : (z.length : Int) = w) (h2 : z.length ≤ 10000) (h3 : Digs z.cps.toList) : SpV spVal ([V.str z, V.int w] ++ []) H (.int (valR z.cps.toList)) := fun _ _ _ q _ => ⟨z, w, rfl, h1, h2, h3, q⟩
/-! ### _law_weight -/
def spWt (K : PySem.W.Frag) : Sp := fun vs H Q _ => ∃ (a : Addr) (ps : List Int) (m : Int), vs = [.ref a, .int m] ∧ SqL K H a (ps.map V.int) ∧ ps.length ≤ 1000 ∧ RetV (.int (weight ps m)) H Q
theorem has_wt (F : At K mg "_law_weight" s__law_weight) (T : Top mg) : Has P w K mg base "_law_weight" s__law_weight ["parts", "many"] 1 (spWt K) := by
  obtain ⟨f, fd, F, m⟩ := F.ex
  refine ⟨f, fd, F, F.ok S__law_weight (fun vs H Q E h => ?_) (fun cdv A outer s H vs Q E hr h => ?_), F.binds fun _ _ _ _ _ _ us hl => match us, hl with | [_, _], _ => rfl, m, F.kp⟩
  · obtain ⟨a, ps, m, rfl, _⟩ := h
    rfl
  obtain ⟨a, ps, many, rfl, hS, hz, q⟩ := h
  refine ⟨_, (pss_cons
    (ps_set (i := 2) S__law_weight.nd rfl (Or.inl rfl) pe_int)
    (pss_cons
    (ps_set (i := 3) S__law_weight.nd rfl (Or.inl rfl) (pv 1))
    (pss_cons
    (ps_for PassesOwn.never rfl (pi_range1 rfl T.z_range (pa_cons (pe_callB call_len_seq rfl T.z_len PySem.boot_len (pa_cons (pv 0) pa_nil)) pa_nil)) (pg_name (i := 4) S__law_weight.nd rfl (Or.inl rfl)) (pss_cons
    (ps_set (i := 5) S__law_weight.nd rfl (Or.inl rfl) (pe_callB (call_min2 rfl) rfl T.z_min (by decide +kernel) (pa_cons (pv 3) (pa_cons (pe_ix ix_list (pv 0) (pv 4) (fun _ _ => rfl)) pa_nil))))
    (pss_cons
    (ps_set (i := 2) S__law_weight.nd rfl (Or.inl rfl) (pe_op op_add (pv 2) (pe_op op_mul (pv 5) (pe_op op_add (pv 4) pe_int))))
    (pss_one
    (ps_set (i := 3) S__law_weight.nd rfl (Or.inl rfl) (pe_op op_sub (pv 3) (pv 5)))))))
    (pss_one
    (ps_ret (pv 2)))))), ?_⟩
  have hl : (((ps.map V.int).length : Nat) : Int) = (ps.length : Int) := by rw [List.length_map]
  refine q_asg ev_c fun H1 e1 => ?_
  refine q_asg (ev_var rfl) fun H2 e2 => ?_
  have e12 := e1.trans e2
  refine q_forR1 (ea_cons (ev_is (ev_cb (ea_cons (ev_var rfl) ea_nil) (rc_lenL (ex_l e12 hS))) (by rw [hl])) ea_nil) (by omega) (fun i σ' H' => (∃ u v, σ' = [some (.ref a), some (.int many), some (.int (wt (at0 ps) many i)), some (.int (wl (at0 ps) many i)), u, v]) ∧ Ex H H') ?_ ?_ ?_
  · intro H3 e3
    exact ⟨⟨none, none, rfl⟩, e12.trans e3⟩
  · intro i σ' H' hi p
    obtain ⟨⟨u, v, rfl⟩, e3⟩ := p
    have hi' : i < ps.length := by omega
    refine q_asg (ev_cb (ea_cons (ev_var rfl) (ea_cons (ev_at (ex_l e3 hS) hi' (ev_var rfl) (ev_var rfl)) ea_nil)) rc_min) fun H4 e4 => ?_
    refine q_asg (ev_add (ev_var rfl) (ev_mulR (j := (i : Int) + 1) (by omega) (by omega) (ev_var rfl) (ev_add (ev_var rfl) ev_c))) fun H5 e5 => ?_
    refine s_asg (ev_sub (ev_var rfl) (ev_var rfl)) fun H6 e6 => ⟨⟨some (.int (i : Int)), some (.int (min (wl (at0 ps) many i) (at0 ps i))), rfl⟩, ((e3.trans e4).trans e5).trans e6⟩
  · intro σ' H' p
    obtain ⟨⟨u, v, rfl⟩, e3⟩ := p
    exact s_ret (ev_var rfl) fun H4 e4 => q H4 (e3.trans e4)
theorem sv_wt {a : Addr} {ps : List Int} {m : Int} {H : Hp} (hS : SqL K H a (ps.map V.int)) (hz : ps.length ≤ 1000) : SpV (spWt K) ([V.ref a, V.int m] ++ []) H (.int (weight ps m)) := fun _ e _ q _ => ⟨a, ps, m, rfl, ex_l e hS, hz, q⟩
/-! ### _law_is_most -/
def spMost (K : PySem.W.Frag) : Sp := fun vs H Q _ => ∃ (a : Addr) (ps : List Int) (s : Int), vs = [.int s, .ref a, .int (fillF s ps)] ∧ SqL K H a (ps.map V.int) ∧ ps.length ≤ 1000 ∧ (∀ x ∈ ps, 0 ≤ x) ∧ 0 ≤ s ∧ RetV (.bl true) H Q
theorem has_most (F : At K mg "_law_is_most" s__law_is_most) (T : Top mg) (hW : Has P w K mg base "_law_whole" s__law_whole ["value"] 1 spWhole) (hT : Has P w K mg base "_law_weight" s__law_weight ["parts", "many"] 1 (spWt K)) : Has P w K mg base "_law_is_most" s__law_is_most ["far", "parts", "told"] 2 (spMost K) := by
  obtain ⟨f, fd, F, m⟩ := F.ex
  obtain ⟨f1, fd1, _, G__law_whole, b__law_whole, m__law_whole, k__law_whole⟩ := hW
  obtain ⟨f2, fd2, _, G__law_weight, b__law_weight, m__law_weight, k__law_weight⟩ := hT
  refine ⟨f, fd, F, F.ok S__law_is_most (fun vs H Q E h => ?_) (fun cdv A outer s H vs Q E hr h => ?_), F.binds fun _ _ _ _ _ _ us hl => match us, hl with | [_, _, _], _ => rfl, m, F.kp⟩
  · obtain ⟨a, ps, s, rfl, _⟩ := h
    rfl
  obtain ⟨a, ps, far, rfl, hS, hz, hp, h0, q⟩ := h
  refine ⟨_, (pss_cons
    (ps_if (PW.pt (pw_or (pt_not (pt_val (pe_call G__law_whole (hr.mono (by decide)) rfl m__law_whole k__law_whole b__law_whole .nil pass0 (pa_cons (pv 2) pa_nil)))) (pw_or (pt_cmpR op_lt (pv 2) pe_int (nomark _)) (pw_or (pt_cmpR op_gt (pv 2) (pe_callB (cr_sum rfl) rfl T.z_sum (by decide +kernel) (pa_cons (pv 1) pa_nil)) (nomark _)) (pw_or1 (pt_cmpR op_gt (pe_call G__law_weight (hr.mono (by decide)) rfl m__law_weight k__law_weight b__law_weight .nil pass0 (pa_cons (pv 1) (pa_cons (pv 2) pa_nil))) (pv 0) (nomark _))))))) (pss_one
    (ps_ret pe_bl)) pss_nil)
    (pss_one
    (ps_ret (pe_or (pe_cmpR op_eq (pv 2) (pe_callB (cr_sum rfl) rfl T.z_sum (by decide +kernel) (pa_cons (pv 1) pa_nil)) (nomark _)) (pe_one (pe_cmpR op_gt (pe_call G__law_weight (hr.mono (by decide)) rfl m__law_weight k__law_weight b__law_weight .nil pass0 (pa_cons (pv 1) (pa_cons (pe_op op_add (pv 2) pe_int) pa_nil))) (pv 0) (nomark _))))))), ?_⟩
  obtain ⟨r1, r2, r3, r4⟩ := fill_right hp h0
  refine q_skip (et_is (et_or (et_not (et_B (ev_call (ea_cons (ev_var rfl) ea_nil) sv_whole))) (fun _ => et_or (et_lt (ev_var rfl) ev_c) (fun _ => et_or (et_gt (ev_var rfl) (ev_cb (ea_cons (ev_var rfl) ea_nil) (rc_sum hS))) (fun _ => et_gt (ev_call (ea_cons (ev_var rfl) (ea_cons (ev_var rfl) ea_nil)) (sv_wt hS hz)) (ev_var rfl))))) ?_) fun H1 e1 => ?_
  · have c1 : ¬ fillF far ps < 0 := by omega
    have c2 : ¬ ps.sum < fillF far ps := by omega
    have c3 : ¬ far < weight ps (fillF far ps) := by omega
    rw [decide_eq_false c1, decide_eq_false c2, decide_eq_false c3]
    rfl
  · have hS1 := ex_l e1 hS
    refine s_ret (ev_is (ev_orV (a := decide (fillF far ps = ps.sum)) (b := decide (far < weight ps (fillF far ps + 1))) (ev_is (ev_op (ev_var rfl) (ev_cb (ea_cons (ev_var rfl) ea_nil) (rc_sum hS1)) (rv_eq rfl)) ?_) (fun _ => ev_op (ev_call (ea_cons (ev_var rfl) (ea_cons (ev_add (ev_var rfl) ev_c) ea_nil)) (sv_wt hS1 hz)) (ev_var rfl) rv_I0)) ?_) fun H2 e2 => q H2 (e1.trans e2)
    · simp
    · rcases r4 with r4 | r4
      · rw [decide_eq_true r4]
        rfl
      · rw [decide_eq_true r4, Bool.or_true]
theorem sv_most {a : Addr} {ps : List Int} {s : Int} {H : Hp} (hS : SqL K H a (ps.map V.int)) (hz : ps.length ≤ 1000) (hp : ∀ x ∈ ps, 0 ≤ x) (h0 : 0 ≤ s) : SpV (spMost K) ([V.int s, V.ref a, V.int (fillF s ps)] ++ []) H (.bl true) := fun _ e _ q _ => ⟨a, ps, s, rfl, ex_l e hS, hz, hp, h0, q⟩
end
end K02
namespace K02
open PySem PySem.Spec PyProof.Rows L2 Evl
section
variable {P : Program} {w : World} {K : PySem.W.Frag} {mg : Str → Option Value} {base : Heap}
/-! ### more words for readings -/
section
variable {σ : L2.St} {H : Hp} {ta tb : TE}
theorem rcl_list {p : Addr} {xs : List V} (h : SqL K H p xs) : RCL (fun vs H Q => ∃ p ys, vs = [V.ref p] ∧ (SqL K H p ys ∨ SqT K H p ys) ∧ ∀ l, H l = none → Q (V.ref l) (upd H l (.lst ys))) [.ref p] H xs := fun H1 e Q q =>
  ⟨p, xs, rfl, .inl (ex_l e h), fun l hl => q l _ hl (Ex.new hl) upd_same⟩
theorem el_rep {xs : List V} {n : Nat} (h : EvL ta σ H xs) (hk : ∀ H1, Ex H H1 → Ev tb σ H1 (.int (n : Int))) (hz : xs.length * n ≤ 100000) (hn : n ≤ 100000) : EvL (tOp rRep ta tb) σ H (List.replicate n xs).flatten := fun H1 e Q q =>
  h H1 e _ fun p H2 hp e2 h2 => hk H2 (e.trans e2) H2 (Ex.refl H2) _ fun H3 e3 =>
    ⟨p, (n : Int), xs, rfl, rfl, e3 _ _ h2, by omega, by omega, by rw [Int.toNat_natCast]; exact sz_of hz, fun l hl => by
      rw [Int.toNat_natCast]
      exact q l _ (fresh_back (e2.trans e3) hl) ((e2.trans e3).trans (Ex.new hl)) upd_same⟩
theorem flat_one {n : Nat} {v : V} : (List.replicate n [v]).flatten = List.replicate n v := by
  induction n with
  | zero => rfl
  | succ n ih =>
    rw [List.replicate_succ, List.flatten_cons, ih]
    rfl
theorem map_rep {n : Nat} {z : Int} : (List.replicate n z).map V.int = List.replicate n (V.int z) := List.map_replicate
theorem el_catV {xs ys : List V} {b : Addr} (h : EvL ta σ H xs) (hb : ∀ H1, Ex H H1 → Ev tb σ H1 (.ref b)) (hy : H b = some (.lst ys)) (hz : xs.length + ys.length ≤ 100000) : EvL (tOp rCat ta tb) σ H (xs ++ ys) := fun H1 e Q q =>
  h H1 e _ fun p H2 hp e2 h2 => hb H2 (e.trans e2) H2 (Ex.refl H2) _ fun H3 e3 =>
    ⟨p, b, xs, ys, rfl, rfl, e3 _ _ h2, (((e.trans e2).trans e3)) _ _ hy, sz_of hz, fun l hl => q l _ (fresh_back (e2.trans e3) hl) ((e2.trans e3).trans (Ex.new hl)) upd_same⟩
theorem el_catL {xs ys : List V} (h : EvL ta σ H xs) (hb : EvL tb σ H ys) (hz : xs.length + ys.length ≤ 100000) : EvL (tOp rCat ta tb) σ H (xs ++ ys) := fun H1 e Q q =>
  h H1 e _ fun p H2 hp e2 h2 => hb H2 (e.trans e2) _ fun p2 H3 hp2 e3 h3 =>
    ⟨p, p2, xs, ys, rfl, rfl, e3 _ _ h2, h3, sz_of hz, fun l hl => q l _ (fresh_back (e2.trans e3) hl) ((e2.trans e3).trans (Ex.new hl)) upd_same⟩
theorem et_yes : EvT tYes σ H true := fun H1 _ _ q => q H1 (Ex.refl H1)
theorem given_all (n : Nat) (v : Nat → V) : given n (fun _ => true) v = (List.range n).map v := by
  unfold given
  rw [List.filter_eq_self.mpr fun _ _ => rfl]
/-- the data of a list of ints -/
theorem dp_ints : ∀ ns : List Int, DpAll K H (ns.map V.int) (ns.map PyData.int)
  | [] => .nil
  | n :: ns => .cons (.int n) (dp_ints ns)
theorem lay_ints : ∀ ns : List Int, PyData.canLayAll0 (ns.map PyData.int) = true
  | [] => by simp [PyData.canLayAll0]
  | n :: ns => by simp [PyData.canLayAll0, PyData.canLay0, lay_ints ns]
theorem deep_ints : ∀ ns : List Int, PyData.depthAll (ns.map PyData.int) = 0
  | [] => by simp [PyData.depthAll]
  | n :: ns => by simp [PyData.depthAll, PyData.depth, deep_ints ns]
theorem shaped_list_of_ints (ns : List Int) : SeqAt.shaped (.list (ns.map PyData.int)) = true := by
  show (PyData.canLay0 _ && decide (PyData.depth _ ≤ 64)) = true
  simp [PyData.canLay0, PyData.depth, lay_ints ns, deep_ints ns]
theorem rv_neInts {p q : Addr} {ns : List Int} (h1 : SqL K H p (ns.map V.int)) (h2 : SqL K H q (ns.map V.int)) : RV (rNeD K) (.ref p) (.ref q) H (.bl false) := fun H1 e Q k => by
  refine ⟨.list (ns.map PyData.int), .list (ns.map PyData.int), .lst (ex_l e h1) (dp_ints ns), .lst (ex_l e h2) (dp_ints ns), shaped_list_of_ints ns, shaped_list_of_ints ns, ?_⟩
  have r : PyData.eqv (.list (ns.map PyData.int)) (.list (ns.map PyData.int)) = true := SeqAt.eqv_refl _ (SeqAt.canLay_of_shaped (shaped_list_of_ints ns))
  rw [r]
  exact k H1 (Ex.refl H1)
end
/-! ### _law_fill_told -/
def spFT (K : PySem.W.Frag) : Sp := fun vs H Q _ => ∃ (a : Addr) (ps : List Int) (s : Int), vs = [.int s, .ref a] ∧ SqL K H a (ps.map V.int) ∧ ps.length ≤ 1000 ∧ (∀ x ∈ ps, 0 ≤ x) ∧ 0 ≤ s ∧ RetV (.bl true) H Q
theorem has_ft (F : At K mg "_law_fill_told" s__law_fill_told) (T : Top mg) (hF : Has P w K mg base "fill" s_fill ["length", "counts"] 1 (spFill K)) (hM : Has P w K mg base "_law_is_most" s__law_is_most ["far", "parts", "told"] 2 (spMost K)) : Has P w K mg base "_law_fill_told" s__law_fill_told ["far", "parts"] 3 (spFT K) := by
  obtain ⟨f, fd, F, m⟩ := F.ex
  obtain ⟨f1, fd1, F1, G_fill, b_fill, m_fill, k_fill⟩ := hF
  obtain ⟨f2, fd2, _, G__law_is_most, b__law_is_most, m__law_is_most, k__law_is_most⟩ := hM
  have kb_fill := kb_fill F1
  refine ⟨f, fd, F, F.ok S__law_fill_told (fun vs H Q E h => ?_) (fun cdv A outer s H vs Q E hr h => ?_), F.binds fun _ _ _ _ _ _ us hl => match us, hl with | [_, _], _ => rfl, m, F.kp⟩
  · obtain ⟨a, ps, s, rfl, _⟩ := h
    rfl
  obtain ⟨a, ps, far, rfl, hS, hz, hp, h0, q⟩ := h
  refine ⟨_, (pss_cons
    (ps_set (i := 2) S__law_fill_told.nd rfl (Or.inl rfl) (pe_callTy call_list_of rfl T.z_list (by decide +kernel) (pa_cons (pv 1) pa_nil)))
    (pss_cons
    (ps_set (i := 3) S__law_fill_told.nd rfl (Or.inl rfl) (pe_call G_fill (hr.mono (by decide)) rfl m_fill k_fill b_fill .nil pass0 (pa_cons (pv 0) (pa_cons (pv 2) pa_nil))))
    (pss_cons
    (ps_if (PW.pt (pw_or (pt_not (pt_val (pe_call G__law_is_most (hr.mono (by decide)) rfl m__law_is_most k__law_is_most b__law_is_most .nil pass0 (pa_cons (pv 0) (pa_cons (pv 1) (pa_cons (pv 3) pa_nil)))))) (pw_or (pt_cmpR op_ne (pe_callN0 G_fill (hr.mono (by decide)) rfl m_fill k_fill kb_fill pass0 (pk_cons (pv 2) (pk_cons (pv 0) pk_nil))) (pv 3) (nomark _)) (pw_or1 (pt_cmpR (op_neD hr.units) (pv 2) (pv 1) (nomark _)))))) (pss_one
    (ps_ret pe_bl)) pss_nil)
    (pss_one
    (ps_ret (pe_cmpR op_eq (pe_call G_fill (hr.mono (by decide)) rfl m_fill k_fill b_fill .nil pass0 (pa_cons (pv 0) (pa_cons (pe_callTy call_tuple_of rfl T.z_tuple (by decide +kernel) (pa_cons (pv 1) pa_nil)) pa_nil))) (pv 3) (nomark _))))))), ?_⟩
  refine q_asgL (el_cb (ea_cons (ev_var rfl) ea_nil) (rcl_list hS)) fun p H1 hp1 e1 h1 => ?_
  refine q_asg (ev_call (ea_cons (ev_var rfl) (ea_cons (ev_var rfl) ea_nil)) (sv_fill (.inl (sq_of h1)) hz)) fun H2 e2 => ?_
  have hS2 := ex_l (e1.trans e2) hS
  have h2 := e2 _ _ h1
  refine q_skip (et_is (et_or (et_not (et_B (ev_call (ea_cons (ev_var rfl) (ea_cons (ev_var rfl) (ea_cons (ev_var rfl) ea_nil))) (sv_most hS2 hz hp h0)))) (fun _ => et_or (et_neI (ev_callN0 (ea_cons (ev_var rfl) (ea_cons (ev_var rfl) ea_nil)) rfl (sv_fill (.inl (sq_of h2)) hz)) (ev_var rfl)) (fun _ => et_test (ev_op (ev_var rfl) (ev_var rfl) (rv_neInts (sq_of h2) hS2))))) ?_) fun H3 e3 => ?_
  · simp
  have hS3 := ex_l e3 hS2
  refine s_ret (ev_is (ev_op (x := .int (fillF far ps)) (y := .int (fillF far ps)) ?_ (ev_var rfl) (rv_eq rfl)) (by simp)) fun H4 e4 => q H4 (((e1.trans e2).trans e3).trans e4)
  exact fun H4 e4 Q' q' => ⟨_, rfl, _, rfl, a, ps.map V.int, rfl, .inl ⟨ex_l e4 hS3, fun l hl => ⟨l, ps, far, rfl, .inr (st_of upd_same), hz, fun H7 e7 => q' H7 ((Ex.new hl).trans e7)⟩⟩⟩
theorem sv_ft {a : Addr} {ps : List Int} {s : Int} {H : Hp} (hS : SqL K H a (ps.map V.int)) (hz : ps.length ≤ 1000) (hp : ∀ x ∈ ps, 0 ≤ x) (h0 : 0 ≤ s) : SpV (spFT K) ([V.int s, V.ref a] ++ []) H (.bl true) := fun _ e _ q _ => ⟨a, ps, s, rfl, ex_l e hS, hz, hp, h0, q⟩
/-! ### _law_letters -/
structure RowB (r : List Int) : Prop where
  len : r.length = 38
  b0 : 0 ≤ at0 r 0 ∧ at0 r 0 < 8
  b1 : 0 ≤ at0 r 1 ∧ at0 r 1 < 401
  b2 : 0 ≤ at0 r 2 ∧ at0 r 2 < 10
  b5 : 0 ≤ at0 r 5 ∧ at0 r 5 < 4
  b7 : 0 ≤ at0 r 7 ∧ at0 r 7 < 3
  bs : ∀ i, 8 ≤ i → i < 38 → 0 ≤ at0 r i ∧ at0 r i < 10
structure PsOk (ps : List Int) : Prop where
  len : ps.length ≤ 400
  bd : ∀ x ∈ ps, 0 ≤ x ∧ x ≤ 1000000000
def letF (r ps : List Int) : Int :=
  if at0 r 5 < 2 then at0 r 4 % at0 [1000, 1000000001] (at0 r 5).toNat else max 0 (min 1000000000 (weight ps (at0 r 4 % (ps.sum + 1)) + at0 r 7 - 1))
theorem let_nn {r ps : List Int} (R : RowB r) : 0 ≤ letF r ps := by
  unfold letF
  split
  · have h : at0 [1000, 1000000001] (at0 r 5).toNat ≠ 0 := by
      have : (at0 r 5).toNat = 0 ∨ (at0 r 5).toNat = 1 := by
        have := R.b5
        omega
      rcases this with e | e <;> rw [e] <;> decide
    exact Int.emod_nonneg _ h
  · omega
def spLet (K : PySem.W.Frag) : Sp := fun vs H Q _ => ∃ (a b : Addr) (r ps : List Int), vs = [.ref a, .ref b] ∧ SqL K H a (r.map V.int) ∧ SqL K H b (ps.map V.int) ∧ RowB r ∧ PsOk ps ∧ RetV (.int (letF r ps)) H Q
theorem sum_nn : ∀ {ps : List Int}, (∀ x ∈ ps, 0 ≤ x) → 0 ≤ ps.sum
  | [], _ => Int.le_refl 0
  | x :: r, h => by
    have h1 := h x (List.mem_cons_self ..)
    have h2 := sum_nn (ps := r) fun y hy => h y (List.mem_cons_of_mem _ hy)
    rw [List.sum_cons]
    omega
theorem has_let (F : At K mg "_law_letters" s__law_letters) (T : Top mg) (hW : Has P w K mg base "_law_weight" s__law_weight ["parts", "many"] 1 (spWt K)) : Has P w K mg base "_law_letters" s__law_letters ["row", "parts"] 2 (spLet K) := by
  obtain ⟨f, fd, F, m⟩ := F.ex
  obtain ⟨f1, fd1, _, G__law_weight, b__law_weight, m__law_weight, k__law_weight⟩ := hW
  refine ⟨f, fd, F, F.ok S__law_letters (fun vs H Q E h => ?_) (fun cdv A outer s H vs Q E hr h => ?_), F.binds fun _ _ _ _ _ _ us hl => match us, hl with | [_, _], _ => rfl, m, F.kp⟩
  · obtain ⟨a, b, r, ps, rfl, _⟩ := h
    rfl
  obtain ⟨a, b, r, ps, rfl, hR, hS, R, O, q⟩ := h
  refine ⟨_, (pss_cons
    (ps_if (pt_cmpR op_lt (pe_ix ix_list (pv 0) pe_int (fun _ _ => rfl)) pe_int (nomark _)) (pss_one
    (ps_ret (pe_op op_mod (pe_callTy call_int1 rfl T.z_int (by decide +kernel) (pa_cons (pe_ix ix_list (pv 0) pe_int (fun _ _ => rfl)) pa_nil)) (pe_ix ix_list (pe_lst (pa_cons pe_int (pa_cons pe_int pa_nil))) (pe_ix ix_list (pv 0) pe_int (fun _ _ => rfl)) (fun _ _ => rfl))))) pss_nil)
    (pss_cons
    (ps_set (i := 2) S__law_letters.nd rfl (Or.inl rfl) (pe_op op_mod (pe_callTy call_int1 rfl T.z_int (by decide +kernel) (pa_cons (pe_ix ix_list (pv 0) pe_int (fun _ _ => rfl)) pa_nil)) (pe_op op_add (pe_callB (cr_sum rfl) rfl T.z_sum (by decide +kernel) (pa_cons (pv 1) pa_nil)) pe_int)))
    (pss_one
    (ps_ret (pe_callB (call_max2 rfl) rfl T.z_max (by decide +kernel) (pa_cons pe_int (pa_cons (pe_callB (call_min2 rfl) rfl T.z_min (by decide +kernel) (pa_cons (pe_op op_pow pe_int pe_int) (pa_cons (pe_op op_sub (pe_op op_add (pe_call G__law_weight (hr.mono (by decide)) rfl m__law_weight k__law_weight b__law_weight .nil pass0 (pa_cons (pv 1) (pa_cons (pv 2) pa_nil))) (pe_ix ix_list (pv 0) pe_int (fun _ _ => rfl))) pe_int) pa_nil))) pa_nil))))))), ?_⟩
  have hl := R.len
  obtain ⟨_, b0, b1, b2, b5, b7, bs⟩ := R
  refine q_when (et_lt (ev_atI hR (i := 5) (by omega) rfl (ev_var rfl) ev_c) ev_c) (fun hb H1 e1 => ?_) (fun hb H1 e1 => ?_)
  · have c : at0 r 5 < 2 := of_decide_eq_true hb
    have hR1 := ex_l e1 hR
    have e5 : at0 r 5 = (((at0 r 5).toNat : Nat) : Int) := by omega
    have l2 : (at0 r 5).toNat < 2 := by omega
    have pos : 0 < at0 [1000, 1000000001] (at0 r 5).toNat := by
      have : (at0 r 5).toNat = 0 ∨ (at0 r 5).toNat = 1 := by omega
      rcases this with e | e <;> rw [e] <;> decide
    refine s_ret (ev_mod pos (ev_int (ev_atI hR1 (i := 4) (by omega) rfl (ev_var rfl) ev_c)) (ev_opL1 (xs := [V.int 1000, V.int 1000000001]) (y := .int (at0 r 5)) (el_lst (ea_cons ev_c (ea_cons ev_c ea_nil)) (by decide)) (fun H2 e2 => ev_atI (ex_l e2 hR1) (i := 5) (by omega) rfl (ev_var rfl) ev_c) (fun p H2 h2 e2 => rv_ixL (sq_of h2) ?_))) fun H2 e2 => ?_
    · rw [e5]
      exact at_int (ns := [1000, 1000000001]) l2
    · rw [show letF r ps = at0 r 4 % at0 [1000, 1000000001] (at0 r 5).toNat from if_pos c] at q
      exact q H2 (e1.trans e2)
  · have c : ¬ at0 r 5 < 2 := of_decide_eq_false hb
    have hR1 := ex_l e1 hR
    have hS1 := ex_l e1 hS
    have hsum := sum_nn (ps := ps) fun x hx => (O.bd x hx).1
    have hz : ps.length ≤ 1000 := Nat.le_trans O.len (by decide)
    refine q_asg (ev_mod (j := ps.sum + 1) (by omega) (ev_int (ev_atI hR1 (i := 4) (by omega) rfl (ev_var rfl) ev_c)) (ev_add (ev_cb (ea_cons (ev_var rfl) ea_nil) (rc_sum hS1)) ev_c)) fun H2 e2 => ?_
    have hR2 := ex_l e2 hR1
    have hS2 := ex_l e2 hS1
    have hP : CPow 10 9 := ⟨by decide, by decide, by decide⟩
    refine s_ret (ev_cb (ea_cons ev_c (ea_cons (ev_cb (ea_cons (ev_op ev_c ev_c (rv_I hP)) (ea_cons (ev_sub (ev_add (ev_call (ea_cons (ev_var rfl) (ea_cons (ev_var rfl) ea_nil)) (sv_wt hS2 hz)) (ev_atI hR2 (i := 7) (by omega) rfl (ev_var rfl) ev_c)) ev_c) ea_nil)) rc_min) ea_nil)) rc_max) fun H3 e3 => ?_
    rw [show letF r ps = max 0 (min 1000000000 (weight ps (at0 r 4 % (ps.sum + 1)) + at0 r 7 - 1)) from if_neg c] at q
    exact q H3 ((e1.trans e2).trans e3)
theorem sv_let {a b : Addr} {r ps : List Int} {H : Hp} (hR : SqL K H a (r.map V.int)) (hS : SqL K H b (ps.map V.int)) (R : RowB r) (O : PsOk ps) : SpV (spLet K) ([V.ref a, V.ref b] ++ []) H (.int (letF r ps)) := fun _ e _ q _ => ⟨a, b, r, ps, rfl, ex_l e hR, ex_l e hS, R, O, q⟩
end
end K02
namespace K02
open PySem PySem.Spec PyProof.Rows L2 Evl
section
variable {P : Program} {w : World} {K : PySem.W.Frag} {mg : Str → Option Value} {base : Heap}
/-! ### _law_numbers -/
structure Nums (m : Int) (ns : List Int) : Prop where
  bd : ∀ x ∈ ns, 0 ≤ x ∧ x < m
  up : ns.Pairwise (· < ·)
  len : ns.length ≤ 100
def spNums : Sp := fun vs H Q _ => ∃ (a : Addr) (m : Int) (ds : List Int), vs = [.int m, .ref a] ∧ H a = some (.lst (ds.map V.int)) ∧ 1 ≤ m ∧ ds.length = 3 ∧ (∀ x ∈ ds, 0 ≤ x ∧ x < m) ∧ ∀ ns, Nums m ns → RetL (ns.map V.int) H Q
theorem in_ints {n : Int} {fs : List Int} : inV (.int n) (fs.map V.int) = decide (n ∈ fs) := by
  unfold inV
  rw [List.any_map]
  induction fs with
  | nil => rfl
  | cons x r ih =>
    rw [List.any_cons, ih]
    show ((x == n) || decide (n ∈ r)) = decide (n ∈ x :: r)
    by_cases c : x = n
    · subst c
      simp
    · have : n ≠ x := fun h => c h.symm
      simp [c, this]
theorem flat_ints (fs : List Int) : (fs.map V.int).all flatV = true := by
  rw [List.all_map]
  exact List.all_eq_true.mpr fun _ _ => rfl
theorem sorted_strict {ns : List Int} (h : ns.Pairwise (· ≤ ·)) (nd : ns.Nodup) : ns.Pairwise (· < ·) := by
  refine List.Pairwise.imp ?_ (List.Pairwise.and h nd)
  intro a b hab
  omega
theorem has_nums (F : At K mg "_law_numbers" s__law_numbers) (T : Top mg) : Has P w K mg base "_law_numbers" s__law_numbers ["many", "drawn"] 1 spNums := by
  obtain ⟨f, fd, F, m⟩ := F.ex
  refine ⟨f, fd, F, F.ok S__law_numbers (fun vs H Q E h => ?_) (fun cdv A outer s H vs Q E hr h => ?_), F.binds fun _ _ _ _ _ _ us hl => match us, hl with | [_, _], _ => rfl, m, F.kp⟩
  · obtain ⟨a, m, ds, rfl, _⟩ := h
    rfl
  obtain ⟨a, many, ds, rfl, hS, h1, h3, hd, q⟩ := h
  refine ⟨_, (pss_cons
    (ps_if (pt_cmpR op_le (pv 0) pe_int (nomark _)) (pss_one
    (ps_ret (pe_listRg rfl rfl T.z_list (prg_1 rfl T.z_range (pv 0))))) pss_nil)
    (pss_cons
    (ps_set (i := 2) S__law_numbers.nd rfl (Or.inl rfl) (pe_lst pa_nil))
    (pss_cons
    (ps_for PassesOwn.never rfl (pi_list (pe_op op_cat (pe_op op_cat (pe_lst (pa_cons pe_int (pa_cons pe_int (pa_cons (pe_op op_fdivW (pv 0) pe_int) (pa_cons (pe_op op_sub (pv 0) pe_int) (pa_cons (pe_op op_sub (pv 0) pe_int) pa_nil)))))) (pv 1)) (pe_lc (own := [("n", 3)]) (g := gName 3) (tt := tYes) rfl S__law_numbers.nd (pi_list (pv 1)) (blkOk_by (N := N__law_numbers) (sc := defScope s__law_numbers) (by decide +kernel)) (fun _ _ _ _ _ => pg_name (i := 3) S__law_numbers.nd rfl (Or.inl rfl)) (fun _ _ _ _ _ => pts_nil) (fun _ _ _ _ _ => (pe_op op_mod (pe_callTy call_int1 rfl T.z_int (by decide +kernel) (pa_cons (pe_op op_add (pv 3) pe_int) pa_nil)) (pv 0)))))) (pg_name (i := 3) S__law_numbers.nd rfl (Or.inl rfl)) (pss_one
    (ps_if (pt_cmpR op_notIn_seq (pv 3) (pv 2) rfl) (pss_one
    (ps_expr (pe_bm PySem.F.plainAttrs_list PySem.F.slot_list_append PySem.F.type_list_append mt_append (pv 2) (pa_cons (pv 3) pa_nil)))) pss_nil)))
    (pss_one
    (ps_ret (pe_callB cr_sorted rfl T.z_sorted (by decide +kernel) (pa_cons (pv 2) pa_nil))))))), ?_⟩
  refine q_when (et_le (ev_var rfl) ev_c) (fun hb H1 e1 => ?_) (fun hb H1 e1 => ?_)
  · have c : many ≤ 70 := of_decide_eq_true hb
    have en : ((List.range many.toNat).map fun i : Nat => (i : Int)).map V.int = rgV 0 many := by
      unfold rgV
      rw [List.map_map, show (many - 0).toNat = many.toNat by omega]
      refine List.map_congr_left fun i _ => ?_
      show V.int (i : Int) = V.int (0 + (i : Int))
      rw [Int.zero_add]
    have ok : Nums many ((List.range many.toNat).map fun i : Nat => (i : Int)) := by
      refine ⟨fun x hx => ?_, ?_, ?_⟩
      · obtain ⟨i, hi, rfl⟩ := List.mem_map.mp hx
        have := List.mem_range.mp hi
        omega
      · rw [List.pairwise_map]
        exact List.Pairwise.imp (fun h => by omega) List.pairwise_lt_range
      · rw [List.length_map, List.length_range]
        omega
    have q1 := q _ ok
    rw [en] at q1
    exact ⟨.int many, rfl, many, rfl, RgOk.of_le (by decide) (by omega) (by decide) (by omega), fun l hl => q1 l _ (fresh_back e1 hl) (e1.trans (Ex.new hl)) upd_same⟩
  have c : ¬ many ≤ 70 := of_decide_eq_false hb
  refine q_asgL (el_lst ea_nil (by decide)) fun p H2 hp e2 h2 => ?_
  have e12 := e1.trans e2
  have hS2 := e12 _ _ hS
  have hL : (ds.map V.int).length = 3 := by rw [List.length_map, h3]
  let xs : List Int := [0, 1, many / 2, many - 2, many - 1] ++ ds ++ (List.range 3).map fun i => (at0 ds i + 1) % many
  have hxs : ∀ x ∈ xs, 0 ≤ x ∧ x < many := by
    intro x hx
    rcases List.mem_append.mp hx with hx | hx
    · rcases List.mem_append.mp hx with hx | hx
      · simp only [List.mem_cons, List.not_mem_nil, or_false] at hx
        omega
      · exact hd x hx
    · obtain ⟨i, _, rfl⟩ := List.mem_map.mp hx
      exact ⟨Int.emod_nonneg _ (by omega), Int.emod_lt_of_pos _ (by omega)⟩
  have lxs : xs.length = 11 := by
    show ([0, 1, many / 2, many - 2, many - 1] ++ ds ++ (List.range 3).map fun i => (at0 ds i + 1) % many).length = 11
    rw [List.length_append, List.length_append, h3, List.length_map, List.length_range]
    rfl
  have exs : xs.map V.int = ([V.int 0, V.int 1, V.int (many / 2), V.int (many - 2), V.int (many - 1)] ++ ds.map V.int) ++ (List.range 3).map fun i => V.int ((at0 ds i + 1) % many) := by
    show (([0, 1, many / 2, many - 2, many - 1] ++ ds ++ (List.range 3).map fun i => (at0 ds i + 1) % many)).map V.int = _
    rw [List.map_append, List.map_append, List.map_map]
    rfl
  refine q_forNLn (xs := xs.map V.int) ?_ (fun l i σ' H' => (∃ u, σ' = [some (.int many), some (.ref a), some (.ref p), u]) ∧ Ex H1 H' ∧ H' l = some (.lst (xs.map V.int)) ∧ l ≠ p ∧ ∃ fs : List Int, H' p = some (.lst (fs.map V.int)) ∧ fs.Nodup ∧ (∀ x ∈ fs, 0 ≤ x ∧ x < many) ∧ fs.length ≤ i) ?_ ?_ ?_ ?_
  · rw [exs]
    refine el_catL (el_catV (el_lst (ea_cons ev_c (ea_cons ev_c (ea_cons (ev_div (by decide) (by decide) (ev_var rfl) ev_c) (ea_cons (ev_sub (ev_var rfl) ev_c) (ea_cons (ev_sub (ev_var rfl) ev_c) ea_nil))))) (by show 5 ≤ 100000; decide)) (fun H3 e3 => ev_var rfl) hS2 (by rw [hL]; show 5 + 3 ≤ 100000; decide)) ?_ (by rw [List.length_append, hL, List.length_map, List.length_range]; show 5 + 3 + 3 ≤ 100000; decide)
    have g := el_lcL (K := K) (σ := [some (.int many), some (.ref a), some (.ref p), none]) (H := H2) (j := 3) (vs := [3]) (tl := tVar 1) (t := tYes) (te := tOp (rI (fun _ j => 0 < j) fun i j => .int (i % j)) (tCB (fun xs H Q => (∃ i, xs = [V.int i] ∧ Q (V.int i) H) ∨ ∃ k, xs = [V.bl k] ∧ Q (V.int (if k = true then 1 else 0)) H) (tCons (tOp (rI0 fun i j => .int (i + j)) (tVar 3) (tC (.int 1))) tNil)) (tVar 0))
      (fun _ => true) (fun i => V.int ((at0 ds i + 1) % many)) (ev_var rfl) (sq_of hS2) (by rw [hL]; decide) (fun x => rfl) (fun i x H3 e3 hx => et_yes) (fun i x H3 e3 hx _ => ?_)
    · rw [given_all, hL] at g
      exact g
    · obtain ⟨hi, rfl⟩ := at0_get hx
      exact ev_mod (by omega) (ev_int (ev_add (ev_var rfl) ev_c)) (ev_var rfl)
  · intro l H3 hl e3 h3l
    refine ⟨⟨none, rfl⟩, e2.trans e3, h3l, fun h => ?_, [], e3 _ _ h2, List.nodup_nil, fun x hx => (nomatch hx), Nat.le_refl 0⟩
    subst h
    rw [h2] at hl
    cases hl
  · intro l i σ' H' _ z
    exact sq_of z.2.2.1
  · intro l i x σ' H' hx z
    obtain ⟨⟨u, rfl⟩, e3, hl, hne, fs, hfs, nd, hbd, hle⟩ := z
    have hi : i < 11 := by
      have := (List.getElem?_eq_some_iff.mp hx).1
      rw [List.length_map, lxs] at this
      exact this
    obtain ⟨hi2, rfl⟩ := at0_get hx
    have hxm := hxs _ (at0_mem hi2)
    refine s_when (b := !decide (at0 xs i ∈ fs)) (et_test (ev_is (ev_op (ev_var rfl) (ev_var rfl) (rv_niL (sq_of hfs) rfl (flat_ints fs))) (by rw [in_ints]))) (fun hb H4 e4 => ?_) (fun hb H4 e4 => ?_)
    · have hn : ¬ at0 xs i ∈ fs := by
        intro h
        rw [decide_eq_true h] at hb
        cases hb
      refine s_app (e4 _ _ hfs) (ev_var rfl) (ev_var rfl) (by rw [List.length_map]; omega) fun H5 e5 => ⟨⟨some (.int (at0 xs i)), rfl⟩, ((e3.trans e4).trans e5).mut hp, ?_, hne, fs ++ [at0 xs i], ?_, ?_, ?_, ?_⟩
      · rw [upd_ne hne]
        exact e5 _ _ (e4 _ _ hl)
      · rw [List.map_append]
        exact upd_same
      · rw [List.nodup_append]
        refine ⟨nd, by simp, ?_⟩
        intro y hy z hz e
        rw [List.mem_singleton.mp hz] at e
        subst e
        exact hn hy
      · intro y hy
        rcases List.mem_append.mp hy with hy | hy
        · exact hbd y hy
        · rw [List.mem_singleton.mp hy]
          exact hxm
      · rw [List.length_append]
        show fs.length + 1 ≤ i + 1
        omega
    · exact ⟨⟨some (.int (at0 xs i)), rfl⟩, e3.trans e4, e4 _ _ hl, hne, fs, e4 _ _ hfs, nd, hbd, by omega⟩
  · intro l σ' H' z
    obtain ⟨⟨u, rfl⟩, e3, hl, hne, fs, hfs, nd, hbd, hle⟩ := z
    have hle2 : fs.length ≤ 11 := by
      rw [List.length_map, lxs] at hle
      exact hle
    refine ⟨_, rfl, p, fs, rfl, sq_of hfs, by omega, fun ns l2 perm srt hl2 => ?_⟩
    refine q ns ⟨fun x hx => hbd x (perm.mem_iff.mp hx), sorted_strict srt (perm.nodup_iff.mpr nd), by rw [perm.length_eq]; omega⟩ l2 _ (fresh_back (e1.trans e3) hl2) ((e1.trans e3).trans (Ex.new hl2)) upd_same
end
end K02
namespace K02
open PySem PySem.Spec PyProof.Rows L2 Evl
section
variable {P : Program} {w : World} {K : PySem.W.Frag} {mg : Str → Option Value} {base : Heap}
/-! ### _law_best -/
def rowF (ps : List Int) (n k : Nat) : List Int := (List.range n).map fun s : Nat => ft (at0 ps) (s : Int) k
def spBest (K : PySem.W.Frag) : Sp := fun vs H Q _ => ∃ (a : Addr) (ps : List Int) (far : Nat), vs = [.int (far : Int), .ref a] ∧ SqL K H a (ps.map V.int) ∧ ps.length ≤ 1000 ∧ far ≤ 1000 ∧ (∀ x ∈ ps, 0 ≤ x ∧ x ≤ 1000) ∧ RetL ((rowF ps (far + 1) ps.length).map V.int) H Q
theorem rowF_zero (ps : List Int) (n : Nat) : (rowF ps n 0).map V.int = List.replicate n (V.int 0) := by
  unfold rowF
  rw [List.map_map]
  refine List.eq_replicate_iff.mpr ⟨by rw [List.length_map, List.length_range], fun x hx => ?_⟩
  obtain ⟨i, _, rfl⟩ := List.mem_map.mp hx
  rfl
theorem rowF_len (ps : List Int) (n k : Nat) : (rowF ps n k).length = n := by
  unfold rowF
  rw [List.length_map, List.length_range]
theorem rowF_at (ps : List Int) {n k s : Nat} (h : s < n) : at0 (rowF ps n k) s = ft (at0 ps) (s : Int) k := at0_map _ h
theorem has_best (F : At K mg "_law_best" s__law_best) (T : Top mg) : Has P w K mg base "_law_best" s__law_best ["far", "parts"] 1 (spBest K) := by
  obtain ⟨f, fd, F, m⟩ := F.ex
  refine ⟨f, fd, F, F.ok S__law_best (fun vs H Q E h => ?_) (fun cdv A outer s H vs Q E hr h => ?_), F.binds fun _ _ _ _ _ _ us hl => match us, hl with | [_, _], _ => rfl, m, F.kp⟩
  · obtain ⟨a, ps, far, rfl, _⟩ := h
    rfl
  obtain ⟨a, ps, far, rfl, hS, hz, hf, hp, q⟩ := h
  have hp0 := at0_nonneg (ps := ps) fun x hx => (hp x hx).1
  refine ⟨_, (pss_cons
    (ps_set (i := 2) S__law_best.nd rfl (Or.inl rfl) (pe_op op_rep (pe_lst (pa_cons pe_int pa_nil)) (pe_op op_add (pv 0) pe_int)))
    (pss_cons
    (ps_for PassesOwn.never rfl (pi_range1 rfl T.z_range (pa_cons (pe_callB call_len_seq rfl T.z_len PySem.boot_len (pa_cons (pv 1) pa_nil)) pa_nil)) (pg_name (i := 3) S__law_best.nd rfl (Or.inl rfl)) (pss_cons
    (ps_set (i := 4) S__law_best.nd rfl (Or.inl rfl) (pe_lst pa_nil))
    (pss_cons
    (ps_for PassesOwn.never rfl (pi_range1 rfl T.z_range (pa_cons (pe_op op_add (pv 0) pe_int) pa_nil)) (pg_name (i := 5) S__law_best.nd rfl (Or.inl rfl)) (pss_cons
    (ps_set (i := 6) S__law_best.nd rfl (Or.inl rfl) pe_int)
    (pss_cons
    (ps_for PassesOwn.never rfl (pi_range1 rfl T.z_range (pa_cons (pe_op op_add (pe_ix ix_list (pv 1) (pv 3) (fun _ _ => rfl)) pe_int) pa_nil)) (pg_name (i := 7) S__law_best.nd rfl (Or.inl rfl)) (pss_one
    (ps_if (pt_cmpR op_le (pe_op op_mul (pv 7) (pe_op op_add (pv 3) pe_int)) (pv 5) (nomark _)) (pss_one
    (ps_set (i := 6) S__law_best.nd rfl (Or.inl rfl) (pe_callB (call_max2 rfl) rfl T.z_max (by decide +kernel) (pa_cons (pv 6) (pa_cons (pe_op op_add (pe_ix ix_list (pv 2) (pe_op op_sub (pv 5) (pe_op op_mul (pv 7) (pe_op op_add (pv 3) pe_int))) (fun _ _ => rfl)) (pv 7)) pa_nil))))) pss_nil)))
    (pss_one
    (ps_expr (pe_bm PySem.F.plainAttrs_list PySem.F.slot_list_append PySem.F.type_list_append mt_append (pv 4) (pa_cons (pv 6) pa_nil)))))))
    (pss_one
    (ps_set (i := 2) S__law_best.nd rfl (Or.inl rfl) (pe_callTy call_list_of rfl T.z_list (by decide +kernel) (pa_cons (pv 4) pa_nil)))))))
    (pss_one
    (ps_ret (pv 2))))), ?_⟩
  have hl : (((ps.map V.int).length : Nat) : Int) = (ps.length : Int) := by rw [List.length_map]
  have ef : (far : Int) + 1 = ((far + 1 : Nat) : Int) := by omega
  refine q_asgL (el_rep (n := far + 1) (el_lst (ea_cons ev_c ea_nil) (by show 1 ≤ 100000; decide)) (fun H1 e1 => ev_is (ev_add (ev_var rfl) ev_c) (by rw [ef])) (by show 1 * (far + 1) ≤ 100000; omega) (by omega)) fun p0 H1 hp1 e1 h1 => ?_
  rw [flat_one, ← rowF_zero ps] at h1
  refine q_forR1 (ea_cons (ev_is (ev_cb (ea_cons (ev_var rfl) ea_nil) (rc_lenL (ex_l e1 hS))) (by rw [hl])) ea_nil) (by omega) (fun k σ' H' => (∃ p u3 u4 u5 u6 u7, σ' = [some (.int (far : Int)), some (.ref a), some (.ref p), u3, u4, u5, u6, u7] ∧ H p = none ∧ H' p = some (.lst ((rowF ps (far + 1) k).map V.int))) ∧ Ex H H') ?_ ?_ ?_
  · intro H2 e2
    exact ⟨⟨p0, none, none, none, none, none, rfl, hp1, e2 _ _ h1⟩, e1.trans e2⟩
  · intro k σ' H' hk z
    obtain ⟨⟨p, u3, u4, u5, u6, u7, rfl, hpn, hpl⟩, e2⟩ := z
    have hk' : k < ps.length := by omega
    have hpk := hp _ (at0_mem hk')
    refine q_asgL (el_lst ea_nil (by decide)) fun pf H3 hpf e3 h3 => ?_
    have e23 := e2.trans e3
    refine q_forR1 (ea_cons (ev_add (ev_var rfl) ev_c) ea_nil) (by omega) (fun j σ2 H2 => (∃ v5 v6 v7, σ2 = [some (.int (far : Int)), some (.ref a), some (.ref p), some (.int (k : Int)), some (.ref pf), v5, v6, v7]) ∧ Ex H' H2 ∧ H2 pf = some (.lst ((rowF ps j (k + 1)).map V.int))) ?_ ?_ ?_
    · intro H4 e4
      exact ⟨⟨u5, u6, u7, rfl⟩, e3.trans e4, e4 _ _ h3⟩
    · intro j σ2 H2 hj z2
      obtain ⟨⟨v5, v6, v7, rfl⟩, e4, h4⟩ := z2
      have hj' : j < far + 1 := by omega
      refine q_asg ev_c fun H5 e5 => ?_
      have e45 := e4.trans e5
      have G := gd hp0 (show (0 : Int) ≤ (j : Int) by omega) (k + 1)
      refine q_forR1 (ea_cons (ev_add (ev_at (ex_l (e2.trans e45) hS) hk' (ev_var rfl) (ev_var rfl)) ev_c) ea_nil) (by omega) (fun c σ3 H3 => (∃ (top : Int) (v7 : Option V), σ3 = [some (.int (far : Int)), some (.ref a), some (.ref p), some (.int (k : Int)), some (.ref pf), some (.int (j : Int)), some (.int top), v7] ∧ 0 ≤ top ∧ top ≤ ft (at0 ps) (j : Int) (k + 1) ∧ ∀ c' : Nat, c' < c → (c' : Int) * ((k : Int) + 1) ≤ (j : Int) → ft (at0 ps) ((j : Int) - (c' : Int) * ((k : Int) + 1)) k + (c' : Int) ≤ top) ∧ Ex H5 H3) ?_ ?_ ?_
      · intro H6 e6
        exact ⟨⟨0, v7, rfl, Int.le_refl 0, G.t0, fun c' hc' => absurd hc' (Nat.not_lt_zero _)⟩, e6⟩
      · intro c σ3 H6 hc z3
        obtain ⟨⟨top, v7, rfl, t0, t1, t2⟩, e6⟩ := z3
        have e26 := (e2.trans e45).trans e6
        have hpl6 := e6 _ _ (e45 _ _ hpl)
        refine s_when (et_le (ev_mulR (j := (k : Int) + 1) (by omega) (by omega) (ev_var rfl) (ev_add (ev_var rfl) ev_c)) (ev_var rfl)) (fun hb H7 e7 => ?_) (fun hb H7 e7 => ?_)
        · have hcj : (c : Int) * ((k : Int) + 1) ≤ (j : Int) := of_decide_eq_true hb
          have hc0 : 0 ≤ (c : Int) * ((k : Int) + 1) := Int.mul_nonneg (by omega) (by omega)
          have le := dp_le hp0 (s := (j : Int)) (m := (c : Int)) (i := k) (by omega) (by omega) (by omega) hcj
          generalize hX : (c : Int) * ((k : Int) + 1) = X at hcj hc0 le
          have ez : (j : Int) - X = ((((j : Int) - X).toNat : Nat) : Int) := by omega
          have hz2 : ((j : Int) - X).toNat < far + 1 := by omega
          refine s_asg (ev_cb (ea_cons (ev_var rfl) (ea_cons (ev_add (ev_atI (ns := rowF ps (far + 1) k) (i := ((j : Int) - X).toNat) (sq_of (e7 _ _ hpl6)) (by rw [rowF_len]; exact hz2) ez (ev_var rfl) (ev_is (ev_sub (ev_var rfl) (ev_mulR (j := (k : Int) + 1) (by omega) (by omega) (ev_var rfl) (ev_add (ev_var rfl) ev_c))) (by rw [hX]))) (ev_var rfl)) ea_nil)) rc_max) fun H8 e8 => ?_
          rw [rowF_at ps hz2, ← ez]
          refine ⟨⟨max top (ft (at0 ps) ((j : Int) - X) k + (c : Int)), some (.int (c : Int)), rfl, by omega, by omega, fun c' hc' hcj' => ?_⟩, (e6.trans e7).trans e8⟩
          by_cases d : c' = c
          · subst d
            rw [hX]
            omega
          · have := t2 c' (by omega) hcj'
            omega
        · have hcj : ¬ (c : Int) * ((k : Int) + 1) ≤ (j : Int) := of_decide_eq_false hb
          refine ⟨⟨top, some (.int (c : Int)), rfl, t0, t1, fun c' hc' hcj' => ?_⟩, e6.trans e7⟩
          by_cases d : c' = c
          · subst d
            exact absurd hcj' hcj
          · exact t2 c' (by omega) hcj'
      · intro σ3 H6 z3
        obtain ⟨⟨top, v7, rfl, t0, t1, t2⟩, e6⟩ := z3
        have et : top = ft (at0 ps) (j : Int) (k + 1) := by
          obtain ⟨c, c0, c1, c2, c3⟩ := dp_ge hp0 (s := (j : Int)) (by omega) k
          have ec : c = ((c.toNat : Nat) : Int) := by omega
          rw [ec] at c2 c3
          have := t2 c.toNat (by omega) c2
          omega
        subst et
        refine s_app (e6 _ _ (e5 _ _ h4)) (ev_var rfl) (ev_var rfl) (by rw [List.length_map, rowF_len]; omega) fun H7 e7 => ⟨⟨some (.int (j : Int)), some (.int (ft (at0 ps) (j : Int) (k + 1))), v7, rfl⟩, ((e45.trans e6).trans e7).mut hpf, ?_⟩
        unfold rowF
        rw [map_range_succ]
        exact upd_same
    · intro σ2 H2 z2
      obtain ⟨⟨v5, v6, v7, rfl⟩, e4, h4⟩ := z2
      rw [show ((far : Int) + 1).toNat = far + 1 by omega] at h4
      refine s_asgL (el_cb (ea_cons (ev_var rfl) ea_nil) (rcl_list (sq_of h4))) fun pb H5 hpb e5 h5 => ⟨⟨pb, some (.int (k : Int)), some (.ref pf), v5, v6, v7, rfl, fresh_back (e2.trans e4) hpb, h5⟩, (e2.trans e4).trans e5⟩
  · intro σ' H' z
    obtain ⟨⟨p, u3, u4, u5, u6, u7, rfl, hpn, hpl⟩, e2⟩ := z
    exact s_ret (ev_var rfl) fun H3 e3 => q p H3 hpn (e2.trans e3) (e3 _ _ hpl)
theorem sl_best {a : Addr} {ps : List Int} {far : Nat} {H : Hp} (hS : SqL K H a (ps.map V.int)) (hz : ps.length ≤ 1000) (hf : far ≤ 1000) (hp : ∀ x ∈ ps, 0 ≤ x ∧ x ≤ 1000) : SpL (spBest K) ([V.int (far : Int), V.ref a] ++ []) H ((rowF ps (far + 1) ps.length).map V.int) := fun _ e _ q _ => ⟨a, ps, far, rfl, ex_l e hS, hz, hf, hp, q⟩
/-! ### _law_small_fills -/
def spSm (K : PySem.W.Frag) : Sp := fun vs H Q _ => ∃ (a : Addr) (ps : List Int), vs = [.ref a] ∧ SqL K H a (ps.map V.int) ∧ ps.length ≤ 1000 ∧ (∀ x ∈ ps, 0 ≤ x ∧ x ≤ 1000) ∧ RetV (.bl true) H Q
theorem has_sm (F : At K mg "_law_small_fills" s__law_small_fills) (T : Top mg) (hB : Has P w K mg base "_law_best" s__law_best ["far", "parts"] 1 (spBest K)) (hF : Has P w K mg base "fill" s_fill ["length", "counts"] 1 (spFill K)) (hT : Has P w K mg base "_law_fill_told" s__law_fill_told ["far", "parts"] 3 (spFT K)) : Has P w K mg base "_law_small_fills" s__law_small_fills ["parts"] 4 (spSm K) := by
  obtain ⟨f, fd, F, m⟩ := F.ex
  obtain ⟨f1, fd1, _, G__law_best, b__law_best, m__law_best, k__law_best⟩ := hB
  obtain ⟨f2, fd2, _, G_fill, b_fill, m_fill, k_fill⟩ := hF
  obtain ⟨f3, fd3, _, G__law_fill_told, b__law_fill_told, m__law_fill_told, k__law_fill_told⟩ := hT
  refine ⟨f, fd, F, F.ok S__law_small_fills (fun vs H Q E h => ?_) (fun cdv A outer s H vs Q E hr h => ?_), F.binds fun _ _ _ _ _ _ us hl => match us, hl with | [_], _ => rfl, m, F.kp⟩
  · obtain ⟨a, ps, rfl, _⟩ := h
    rfl
  obtain ⟨a, ps, rfl, hS, hz, hp, q⟩ := h
  refine ⟨_, (pss_cons
    (ps_set (i := 1) S__law_small_fills.nd rfl (Or.inl rfl) (pe_call G__law_best (hr.mono (by decide)) rfl m__law_best k__law_best b__law_best .nil pass0 (pa_cons pe_int (pa_cons (pv 0) pa_nil))))
    (pss_cons
    (ps_for PassesOwn.never rfl (pi_range1 rfl T.z_range (pa_cons pe_int pa_nil)) (pg_name (i := 2) S__law_small_fills.nd rfl (Or.inl rfl)) (pss_one
    (ps_if (PW.pt (pw_or (pt_not (pt_val (pe_call G__law_fill_told (hr.mono (by decide)) rfl m__law_fill_told k__law_fill_told b__law_fill_told .nil pass0 (pa_cons (pv 2) (pa_cons (pv 0) pa_nil))))) (pw_or1 (pt_cmpR op_ne (pe_call G_fill (hr.mono (by decide)) rfl m_fill k_fill b_fill .nil pass0 (pa_cons (pv 2) (pa_cons (pv 0) pa_nil))) (pe_ix ix_list (pv 1) (pv 2) (fun _ _ => rfl)) (nomark _))))) (pss_one
    (ps_ret pe_bl)) pss_nil)))
    (pss_one
    (ps_ret (pe_and (pe_cmpR op_eq (pe_call G_fill (hr.mono (by decide)) rfl m_fill k_fill b_fill .nil pass0 (pa_cons pe_int (pa_cons (pe_lst pa_nil) pa_nil))) pe_int (nomark _)) (pe_one (pe_call G__law_fill_told (hr.mono (by decide)) rfl m__law_fill_told k__law_fill_told b__law_fill_told .nil pass0 (pa_cons pe_int (pa_cons (pe_lst pa_nil) pa_nil))))))))), ?_⟩
  have hp0 : ∀ x ∈ ps, 0 ≤ x := fun x hx => (hp x hx).1
  refine q_asgL (el_call (ea_cons ev_c (ea_cons (ev_var rfl) ea_nil)) (sl_best (far := 40) hS hz (by decide) hp)) fun p H1 hp1 e1 h1 => ?_
  refine q_forR1 (ea_cons ev_c ea_nil) (by decide) (fun i σ' H' => (∃ u, σ' = [some (.ref a), some (.ref p), u]) ∧ Ex H H' ∧ H' p = some (.lst ((rowF ps 41 ps.length).map V.int))) ?_ ?_ ?_
  · intro H2 e2
    exact ⟨⟨none, rfl⟩, e1.trans e2, e2 _ _ h1⟩
  · intro i σ' H' hi z
    obtain ⟨⟨u, rfl⟩, e2, h2⟩ := z
    have hi' : i < 41 := by omega
    have hS2 := ex_l e2 hS
    refine s_skip (et_is (et_or (et_not (et_B (ev_call (ea_cons (ev_var rfl) (ea_cons (ev_var rfl) ea_nil)) (sv_ft hS2 hz hp0 (by omega))))) (fun _ => et_neI (i := fillF (i : Int) ps) (j := fillF (i : Int) ps) (ev_call (ea_cons (ev_var rfl) (ea_cons (ev_var rfl) ea_nil)) (sv_fill (.inl hS2) hz)) (ev_is (ev_at (ns := rowF ps 41 ps.length) (sq_of h2) (by rw [rowF_len]; exact hi') (ev_var rfl) (ev_var rfl)) (by rw [rowF_at ps hi']; rfl)))) (by simp)) fun H3 e3 => ?_
    exact ⟨⟨some (.int (i : Int)), rfl⟩, e2.trans e3, e3 _ _ h2⟩
  · intro σ' H' z
    obtain ⟨⟨u, rfl⟩, e2, h2⟩ := z
    refine s_ret (ev_is (ev_andV (a := true) (b := true) (ev_is (ev_op (x := .int 0) (y := .int 0) ?_ ev_c (rv_eq rfl)) (by simp)) (fun _ => ?_)) rfl) fun H3 e3 => q H3 (e2.trans e3)
    · exact fun H3 e3 Q' q' => ⟨by show 0 ≤ sizeLine; decide, fun l hl => ⟨l, [], 0, rfl, .inl (sq_of upd_same), by decide, fun H4 e4 => q' H4 ((Ex.new hl).trans e4)⟩⟩
    · exact fun H3 e3 Q' q' => ⟨by show 0 ≤ sizeLine; decide, fun l hl => ⟨l, [], 40, rfl, sq_of upd_same, by decide, fun x hx => (nomatch hx), by decide, fun H4 e4 => q' H4 ((Ex.new hl).trans e4)⟩⟩
theorem sv_sm {a : Addr} {ps : List Int} {H : Hp} (hS : SqL K H a (ps.map V.int)) (hz : ps.length ≤ 1000) (hp : ∀ x ∈ ps, 0 ≤ x ∧ x ≤ 1000) : SpV (spSm K) ([V.ref a] ++ []) H (.bl true) := fun _ e _ q _ => ⟨a, ps, rfl, ex_l e hS, hz, hp, q⟩
end
end K02
namespace K02
open PySem PySem.Spec PyProof.Rows L2 Evl
/-! ### slices, lists of one value -/
theorem cut_to (xs : List V) (n : Nat) : cutV xs none (some (n : Int)) = xs.take n := by
  unfold cutV
  rw [HT.sIx_none, HT.sIx_nat]
  simp only [Nat.sub_zero, List.drop_zero]
  by_cases h : n ≤ xs.length
  · rw [Nat.min_eq_left h]
  · rw [Nat.min_eq_right (by omega), List.take_length, List.take_of_length_le (by omega)]
theorem cut_of (xs : List V) (a b : Nat) : ∃ k m, cutV xs (some (a : Int)) (some (b : Int)) = (xs.drop k).take m := by
  unfold cutV
  rw [HT.sIx_nat, HT.sIx_nat]
  exact ⟨_, _, rfl⟩
theorem at0_rep {z : Int} {n i : Nat} (h : i < n) : at0 (List.replicate n z) i = z := by
  unfold at0
  rw [List.getD_eq_getElem?_getD, List.getElem?_replicate, if_pos h]
  rfl
theorem at0_of_mem {ps : List Int} {x : Int} (h : x ∈ ps) : ∃ i, i < ps.length ∧ at0 ps i = x := by
  obtain ⟨i, hi, e⟩ := List.mem_iff_getElem.mp h
  refine ⟨i, hi, ?_⟩
  unfold at0
  rw [List.getD_eq_getElem?_getD, List.getElem?_eq_getElem hi]
  exact e
section
variable {P : Program} {w : World} {K : PySem.W.Frag} {mg : Str → Option Value} {base : Heap}
section
variable {σ : L2.St} {H : Hp} {ta tl : TE} {sp : Sp} {E : XK} {tz : TS} {D : Ends}
/-- digits of a new list of sizes -/
theorem el_digs {c : Int} {ss : List Int} (h : Ev ta σ H (.int c)) (hl : EvL tl σ H (ss.map V.int)) (hz : ss.length ≤ 1000) (hss : ∀ i, i < ss.length → 0 < at0 ss i ∧ at0 ss i < 18446744073709551616) : EvL (tCall (spDigits K) [] E (tCons ta (tCons tl tNil))) σ H ((digits c ss).map V.int) := fun H1 e Q q =>
  h H1 e _ fun H2 e2 => hl H2 (e.trans e2) _ fun p H3 hp e3 h3 => ⟨c, p, ss, rfl, sq_of h3, hz, hss, fun l H4 hl4 e4 h4 => q l H4 (fresh_back (e2.trans e3) hl4) ((e2.trans e3).trans e4) h4⟩
/-- a call whose second argument is a new list -/
theorem ev_call2L {x z : V} {xs dvs : List V} (h : Ev ta σ H x) (hl : EvL tl σ H xs) (hs : ∀ p H1, Ex H H1 → H1 p = some (.lst xs) → SpV sp ([x, .ref p] ++ dvs) H1 z) : Ev (tCall sp dvs E (tCons ta (tCons tl tNil))) σ H z := fun H1 e Q q =>
  h H1 e _ fun H2 e2 => hl H2 (e.trans e2) _ fun p H3 hp e3 h3 => hs p H3 ((e.trans e2).trans e3) h3 H3 (Ex.refl H3) Q (fun H4 e4 => q H4 ((e2.trans e3).trans e4)) E
/-- a call whose first argument is a new list, of two -/
theorem ev_call1L {y z : V} {xs dvs : List V} (hl : EvL tl σ H xs) (h : ∀ H1, Ex H H1 → Ev ta σ H1 y) (hs : ∀ p H1, Ex H H1 → H1 p = some (.lst xs) → SpV sp ([.ref p, y] ++ dvs) H1 z) : Ev (tCall sp dvs E (tCons tl (tCons ta tNil))) σ H z := fun H1 e Q q =>
  hl H1 e _ fun p H2 hp e2 h2 => h H2 (e.trans e2) H2 (Ex.refl H2) _ fun H3 e3 => hs p H3 ((e.trans e2).trans e3) (e3 _ _ h2) H3 (Ex.refl H3) Q (fun H4 e4 => q H4 ((e2.trans e3).trans e4)) E
/-- a call whose one argument is a new list -/
theorem ev_callL {z : V} {xs dvs : List V} (hl : EvL tl σ H xs) (hs : ∀ p H1, Ex H H1 → H1 p = some (.lst xs) → SpV sp ([.ref p] ++ dvs) H1 z) : Ev (tCall sp dvs E (tCons tl tNil)) σ H z := fun H1 e Q q =>
  hl H1 e _ fun p H2 hp e2 h2 => hs p H2 (e.trans e2) h2 H2 (Ex.refl H2) Q (fun H4 e4 => q H4 (e2.trans e4)) E
/-- a slice of a new list -/
theorem el_slN {xs : List V} {t1 t2 : TO} {lo hi : Option Int} (h : EvL tl σ H xs) (h1 : ∀ H1, Ex H H1 → EvO t1 σ H1 lo) (h2 : ∀ H1, Ex H H1 → EvO t2 σ H1 hi) : EvL (tSl (rSlL K) tl t1 t2) σ H (cutV xs lo hi) := fun H1 e Q q =>
  h H1 e _ fun p H2 hp e2 hx => h1 H2 (e.trans e2) H2 (Ex.refl H2) _ fun H3 e3 => h2 H3 ((e.trans e2).trans e3) H3 (Ex.refl H3) _ fun H4 e4 =>
    ⟨p, xs, rfl, sq_of (e4 _ _ (e3 _ _ hx)), fun l hl => q l _ (fresh_back ((e2.trans e3).trans e4) hl) (((e2.trans e3).trans e4).trans (Ex.new hl)) upd_same⟩
theorem q_callD {ta : TA} {vs dvs : List V} {i : Nat} (h : EvA ta σ H vs) (k : ∀ H1, Ex H H1 → sp (vs ++ dvs) H1 (fun x H2 => tz D (σ.set i (some x)) H2) E) : tSeq (tAsg (tCall sp dvs E ta) (gName i)) tz D σ H := h H (Ex.refl H) _ k
end
/-! ### _law_counts -/
def spCounts (K : PySem.W.Frag) : Sp := fun vs H Q _ => ∃ (a : Addr) (r : List Int) (c : Int), vs = [.ref a, .int c] ∧ SqL K H a (r.map V.int) ∧ RowB r ∧ ∀ ps, PsOk ps → RetL (ps.map V.int) H Q
theorem PsOk.rep {z : Int} {n : Nat} (h0 : 0 ≤ z) (h1 : z ≤ 1000000000) (hn : n ≤ 400) : PsOk (List.replicate n z) :=
  ⟨by rw [List.length_replicate]; exact hn, fun x hx => by rw [List.eq_of_mem_replicate hx]; exact ⟨h0, h1⟩⟩
theorem PsOk.fn {f : Nat → Int} {n : Nat} (h : ∀ i, i < n → 0 ≤ f i ∧ f i ≤ 1000000000) (hn : n ≤ 400) : PsOk ((List.range n).map f) :=
  ⟨by rw [List.length_map, List.length_range]; exact hn, fun x hx => by
    obtain ⟨i, hi, rfl⟩ := List.mem_map.mp hx
    exact h i (List.mem_range.mp hi)⟩
theorem has_counts (F : At K mg "_law_counts" s__law_counts) (T : Top mg) (hP : Has P w K mg base "_law_power" s__law_power ["base", "often"] 1 spPower) (hD : Has P w K mg base "_law_digits" s__law_digits ["cell", "sizes"] 1 (spDigits K)) : Has P w K mg base "_law_counts" s__law_counts ["row", "cell"] 2 (spCounts K) := by
  obtain ⟨f, fd, F, m⟩ := F.ex
  obtain ⟨f1, fd1, _, G__law_power, b__law_power, m__law_power, k__law_power⟩ := hP
  obtain ⟨f2, fd2, _, G__law_digits, b__law_digits, m__law_digits, k__law_digits⟩ := hD
  refine ⟨f, fd, F, F.ok S__law_counts (fun vs H Q E h => ?_) (fun cdv A outer s H vs Q E hr h => ?_), F.binds fun _ _ _ _ _ _ us hl => match us, hl with | [_, _], _ => rfl, m, F.kp⟩
  · obtain ⟨a, r, c, rfl, _⟩ := h
    rfl
  obtain ⟨a, r, c, rfl, hR, R, q⟩ := h
  refine ⟨_, (pss_cons
    (ps_set (i := 2) S__law_counts.nd rfl (Or.inr rfl) (pe_call G__law_power (hr.mono (by decide)) rfl m__law_power k__law_power b__law_power .nil pass0 (pa_cons pe_int (pa_cons (pe_ix (r := rIxL K) ix_list (pv 0) pe_int (fun _ _ => rfl)) pa_nil))))
    (pss_cons
    (ps_set (i := 3) S__law_counts.nd rfl (Or.inl rfl) (pe_op op_mod (pe_callTy call_int1 rfl T.z_int (by decide +kernel) (pa_cons (pe_ix (r := rIxL K) ix_list (pv 0) pe_int (fun _ _ => rfl)) pa_nil)) (pe_op op_add (pv 2) pe_int)))
    (pss_cons
    (ps_if (pt_cmpR op_gt (pe_ix (r := rIxL K) ix_list (pv 0) pe_int (fun _ _ => rfl)) pe_int (nomark _)) (pss_one
    (ps_ret (pe_lc (own := [("digit", 7)]) (g := gName 7) (tt := tYes) rfl S__law_counts.nd (pi_list (pe_slice sl_list (pe_call G__law_digits (hr.mono (by decide)) rfl m__law_digits k__law_digits b__law_digits .nil pass0 (pa_cons (pv 1) (pa_cons (pe_op op_rep (pe_lst (pa_cons pe_int pa_nil)) pe_int) pa_nil))) po_none (po_some (pe_ix (r := rIxL K) ix_list (pv 0) pe_int (fun _ _ => rfl))))) (blkOk_by (N := N__law_counts) (sc := defScope s__law_counts) (by decide +kernel)) (fun _ _ _ _ _ => pg_name (i := 7) S__law_counts.nd rfl (Or.inl rfl)) (fun _ _ _ _ _ => pts_nil) (fun _ _ _ _ _ => (pe_op op_mod (pe_callTy call_int1 rfl T.z_int (by decide +kernel) (pa_cons (pv 7) pa_nil)) (pe_op op_add (pv 2) pe_int)))))) pss_nil)
    (pss_cons
    (ps_if (pt_cmpR op_eq (pe_ix (r := rIxL K) ix_list (pv 0) pe_int (fun _ _ => rfl)) pe_int (nomark _)) (pss_one
    (ps_ret (pe_op op_rep (pe_lst (pa_cons (pv 3) pa_nil)) (pe_ix (r := rIxL K) ix_list (pv 0) pe_int (fun _ _ => rfl))))) pss_nil)
    (pss_cons
    (ps_if (pt_cmpR op_eq (pe_ix (r := rIxL K) ix_list (pv 0) pe_int (fun _ _ => rfl)) pe_int (nomark _)) (pss_cons
    (ps_set (i := 4) S__law_counts.nd rfl (Or.inl rfl) (pe_lst pa_nil))
    (pss_cons
    (ps_for PassesOwn.never rfl (pi_range1 rfl T.z_range (pa_cons (pe_ix (r := rIxL K) ix_list (pv 0) pe_int (fun _ _ => rfl)) pa_nil)) (pg_name (i := 5) S__law_counts.nd rfl (Or.inl rfl)) (pss_cons
    (ps_expr (pe_bm PySem.F.plainAttrs_list PySem.F.slot_list_append PySem.F.type_list_append mt_append (pv 4) (pa_cons (pv 3) pa_nil)))
    (pss_one
    (ps_set (i := 3) S__law_counts.nd rfl (Or.inl rfl) (pe_callB (call_min2 rfl) rfl T.z_min (by decide +kernel) (pa_cons (pe_op op_pow pe_int pe_int) (pa_cons (pe_op op_mul (pv 3) pe_int) pa_nil)))))))
    (pss_one
    (ps_ret (pv 4))))) pss_nil)
    (pss_cons
    (ps_if (pt_cmpR op_eq (pe_ix (r := rIxL K) ix_list (pv 0) pe_int (fun _ _ => rfl)) pe_int (nomark _)) (pss_cons
    (ps_set (i := 4) S__law_counts.nd rfl (Or.inl rfl) (pe_op op_rep (pe_lst (pa_cons pe_int pa_nil)) (pe_ix (r := rIxL K) ix_list (pv 0) pe_int (fun _ _ => rfl))))
    (pss_cons
    (ps_for PassesOwn.never rfl (pi_range1 rfl T.z_range (pa_cons (pe_callB (call_min2 rfl) rfl T.z_min (by decide +kernel) (pa_cons pe_int (pa_cons (pe_ix (r := rIxL K) ix_list (pv 0) pe_int (fun _ _ => rfl)) pa_nil))) pa_nil)) (pg_name (i := 5) S__law_counts.nd rfl (Or.inl rfl)) (pss_cons
    (ps_set (i := 6) S__law_counts.nd rfl (Or.inl rfl) (pe_op op_mod (pe_callTy call_int1 rfl T.z_int (by decide +kernel) (pa_cons (pe_op op_add (pe_ix (r := rIxL K) ix_list (pv 0) pe_int (fun _ _ => rfl)) (pe_op op_mul (pv 5) pe_int)) pa_nil)) (pe_ix (r := rIxL K) ix_list (pv 0) pe_int (fun _ _ => rfl))))
    (pss_one
    (ps_asg (pe_callB (call_min2 rfl) rfl T.z_min (by decide +kernel) (pa_cons (pe_op op_pow pe_int pe_int) (pa_cons (pe_op op_add (pv 3) (pe_ix (r := rIxL K) ix_list (pv 0) (pe_op op_add pe_int (pv 5)) (fun _ _ => rfl))) pa_nil))) (pg_sub (pv 4) (pv 6) set_list)))))
    (pss_one
    (ps_ret (pv 4))))) pss_nil)
    (pss_cons
    (ps_if (pt_cmpR op_eq (pe_ix (r := rIxL K) ix_list (pv 0) pe_int (fun _ _ => rfl)) pe_int (nomark _)) (pss_one
    (ps_ret (pe_lc (own := [("k", 5)]) (g := gName 5) (tt := tYes) rfl S__law_counts.nd (pi_range1 rfl T.z_range (pa_cons (pe_ix (r := rIxL K) ix_list (pv 0) pe_int (fun _ _ => rfl)) pa_nil)) (blkOk_by (N := N__law_counts) (sc := defScope s__law_counts) (by decide +kernel)) (fun _ _ _ _ _ => pg_name (i := 5) S__law_counts.nd rfl (Or.inl rfl)) (fun _ _ _ _ _ => pts_nil) (fun _ _ _ _ _ => (pe_callB (call_min2 rfl) rfl T.z_min (by decide +kernel) (pa_cons (pe_op op_pow pe_int pe_int) (pa_cons (pe_op op_mul (pv 2) (pe_ix (r := rIxL K) ix_list (pv 0) (pe_op op_add pe_int (pe_op op_mod (pv 5) pe_int)) (fun _ _ => rfl))) pa_nil))))))) pss_nil)
    (pss_one
    (ps_ret (pe_lc (own := [("k", 5)]) (g := gName 5) (tt := tYes) rfl S__law_counts.nd (pi_range1 rfl T.z_range (pa_cons (pe_op op_mod (pe_callTy call_int1 rfl T.z_int (by decide +kernel) (pa_cons (pe_ix (r := rIxL K) ix_list (pv 0) pe_int (fun _ _ => rfl)) pa_nil)) pe_int) pa_nil)) (blkOk_by (N := N__law_counts) (sc := defScope s__law_counts) (by decide +kernel)) (fun _ _ _ _ _ => pg_name (i := 5) S__law_counts.nd rfl (Or.inl rfl)) (fun _ _ _ _ _ => pts_nil) (fun _ _ _ _ _ => (pe_ix (r := rIxL K) ix_list (pv 0) (pe_op op_add pe_int (pe_op op_mod (pv 5) pe_int)) (fun _ _ => rfl))))))))))))), ?_⟩
  have hl := R.len
  obtain ⟨_, b0, b1, b2, b5, b7, bs⟩ := R
  have hu1 : (1 : Int) ≤ 10 ^ (at0 r 2).toNat := pow_pos1 (by decide) _
  have hu2 : (10 : Int) ^ (at0 r 2).toNat ≤ 1000000000 := by
    have := pow_mono (b := 10) (by decide) (show (at0 r 2).toNat ≤ 9 by omega)
    exact this
  refine q_asg (ev_call (ea_cons ev_c (ea_cons (ev_atI hR (i := 2) (by omega) rfl (ev_var rfl) ev_c) ea_nil)) (sv_power (by decide) (by omega))) fun H1 e1 => ?_
  generalize hU : (10 : Int) ^ (at0 r 2).toNat = U at hu1 hu2
  have hR1 := ex_l e1 hR
  refine q_asg (ev_mod (j := U + 1) (by omega) (ev_int (ev_atI hR1 (i := 3) (by omega) rfl (ev_var rfl) ev_c)) (ev_add (ev_var rfl) ev_c)) fun H2 e2 => ?_
  have w0 : 0 ≤ at0 r 3 % (U + 1) := Int.emod_nonneg _ (by omega)
  have w1 : at0 r 3 % (U + 1) < U + 1 := Int.emod_lt_of_pos _ (by omega)
  generalize hW : at0 r 3 % (U + 1) = W at w0 w1
  have e12 := e1.trans e2
  have hR2 := ex_l e2 hR1
  have er1 : at0 r 1 = (((at0 r 1).toNat : Nat) : Int) := by omega
  have hP9 : CPow 10 9 := ⟨by decide, by decide, by decide⟩
  refine q_when (et_gt (ev_atI hR2 (i := 0) (by omega) rfl (ev_var rfl) ev_c) ev_c) (fun hb H3 e3 => ?_) (fun hb H3 e3 => ?_)
  · have hR3 := ex_l e3 hR2
    refine s_retL (xs := ((((digits c (List.replicate 400 1000000001)).take (at0 r 1).toNat).map fun d => d % (U + 1))).map V.int) ?_ fun p H4 hp e4 h4 => ?_
    · have sl := el_slN (K := K) (σ := [some (.ref a), some (.int c), some (.int U), some (.int W), none, none, none, none]) (H := H3) (tl := _) (t1 := tNoPart) (t2 := _) (lo := none) (hi := some (((at0 r 1).toNat : Nat) : Int))
        (el_digs (K := K) (E := E0) (c := c) (ss := List.replicate 400 1000000001) (ta := tVar 1) (ev_var rfl) (by rw [map_rep, ← flat_one]; exact el_rep (n := 400) (el_lst (ea_cons ev_c ea_nil) (by decide)) (fun _ _ => ev_c) (by decide) (by decide)) (by rw [List.length_replicate]; decide) (fun i hi => by rw [List.length_replicate] at hi; rw [at0_rep hi]; decide))
        (fun _ _ => eo_none) (fun H5 e5 => eo_some (te := tOp (rIxL K) (tVar 0) (tC (.int 1))) (ev_is (ev_atI (ex_l e5 hR3) (i := 1) (by omega) rfl (ev_var rfl) ev_c) (by rw [← er1])))
      rw [cut_to, ← List.map_take] at sl
      have g := el_lcNL (K := K) (j := 7) (vs := [7]) (t := tYes) (te := tOp (rI (fun _ j => 0 < j) fun i j => .int (i % j)) (tCB (fun xs H Q => (∃ i, xs = [V.int i] ∧ Q (V.int i) H) ∨ ∃ k, xs = [V.bl k] ∧ Q (V.int (if k = true then 1 else 0)) H) (tCons (tVar 7) tNil)) (tOp (rI0 fun i j => .int (i + j)) (tVar 2) (tC (.int 1))))
        (fun _ => true) (fun i => V.int (at0 ((digits c (List.replicate 400 1000000001)).take (at0 r 1).toNat) i % (U + 1))) sl (by rw [List.length_map, List.length_take, digits_len, List.length_replicate]; omega) (fun x => rfl) (fun i x H3 e3 hx => et_yes) (fun i x H3 e3 hx _ => ?_)
      · have ee : given (((digits c (List.replicate 400 1000000001)).take (at0 r 1).toNat).map V.int).length (fun _ => true) (fun i => V.int (at0 ((digits c (List.replicate 400 1000000001)).take (at0 r 1).toNat) i % (U + 1))) = ((((digits c (List.replicate 400 1000000001)).take (at0 r 1).toNat).map fun d => d % (U + 1))).map V.int := by
          rw [given_all, List.length_map, List.map_map]
          generalize (digits c (List.replicate 400 1000000001)).take (at0 r 1).toNat = L
          refine List.ext_getElem (by simp) fun i h1 h2 => ?_
          rw [List.getElem_map, List.getElem_map, List.getElem_range]
          have hi : i < L.length := by simpa using h2
          show V.int (at0 L i % (U + 1)) = V.int (L[i] % (U + 1))
          unfold at0
          rw [List.getD_eq_getElem?_getD, List.getElem?_eq_getElem hi]
          rfl
        rw [ee] at g
        exact g
      · obtain ⟨hi, rfl⟩ := at0_get hx
        exact ev_mod (by omega) (ev_int (ev_var rfl)) (ev_add (ev_var rfl) ev_c)
    · refine q _ ⟨?_, fun x hx => ?_⟩ p H4 (fresh_back (e12.trans e3) hp) ((e12.trans e3).trans e4) h4
      · rw [List.length_map, List.length_take]
        omega
      · obtain ⟨d, _, rfl⟩ := List.mem_map.mp hx
        have d0 := Int.emod_nonneg d (show U + 1 ≠ 0 by omega)
        have d1 := Int.emod_lt_of_pos d (show 0 < U + 1 by omega)
        exact ⟨d0, by omega⟩
  have e13 := e12.trans e3
  have hR3 := ex_l e3 hR2
  refine q_when (et_eqI (ev_atI hR3 (i := 0) (by omega) rfl (ev_var rfl) ev_c) ev_c) (fun hb H4 e4 => ?_) (fun hb H4 e4 => ?_)
  · refine s_retL (xs := (List.replicate (at0 r 1).toNat W).map V.int) ?_ fun p H5 hp e5 h5 => q _ (PsOk.rep w0 (by omega) (by omega)) p H5 (fresh_back (e13.trans e4) hp) ((e13.trans e4).trans e5) h5
    rw [map_rep, ← flat_one]
    exact el_rep (n := (at0 r 1).toNat) (el_lst (ea_cons (ev_var rfl) ea_nil) (by show 1 ≤ 100000; decide)) (fun H5 e5 => ev_is (ev_atI (ex_l (e4.trans e5) hR3) (i := 1) (by omega) rfl (ev_var rfl) ev_c) (by rw [← er1])) (by show 1 * (at0 r 1).toNat ≤ 100000; omega) (by omega)
  have e14 := e13.trans e4
  have hR4 := ex_l e4 hR3
  refine q_when (et_eqI (ev_atI hR4 (i := 0) (by omega) rfl (ev_var rfl) ev_c) ev_c) (fun hb H5 e5 => ?_) (fun hb H5 e5 => ?_)
  · have e15 := e14.trans e5
    refine q_asgL (el_lst ea_nil (by decide)) fun p H6 hp e6 h6 => ?_
    refine q_forR1 (ea_cons (ev_atI (ex_l (e5.trans e6) hR4) (i := 1) (by omega) rfl (ev_var rfl) ev_c) ea_nil) (by omega) (fun i σ' H' => (∃ (W' : Int) (u5 : Option V), σ' = [some (.ref a), some (.int c), some (.int U), some (.int W'), some (.ref p), u5, none, none] ∧ 0 ≤ W' ∧ W' ≤ 1000000000) ∧ Ex H5 H' ∧ ∃ ps : List Int, H' p = some (.lst (ps.map V.int)) ∧ ps.length = i ∧ ∀ x ∈ ps, 0 ≤ x ∧ x ≤ 1000000000) ?_ ?_ ?_
    · intro H7 e7
      exact ⟨⟨W, none, rfl, w0, by omega⟩, e6.trans e7, [], e7 _ _ h6, rfl, fun x hx => (nomatch hx)⟩
    · intro i σ' H' hi z
      obtain ⟨⟨W', u5, rfl, v0, v1⟩, e7, ps, h7, hlen, hbd⟩ := z
      refine q_app h7 (ev_var rfl) (ev_var rfl) (by rw [List.length_map]; omega) fun H8 e8 => ?_
      refine s_asg (ev_cb (ea_cons (ev_op ev_c ev_c (rv_I hP9)) (ea_cons (ev_mulR (by decide) (by decide) (ev_var rfl) ev_c) ea_nil)) rc_min) fun H9 e9 => ⟨⟨min 1000000000 (W' * 2), some (.int (i : Int)), rfl, by omega, by omega⟩, ((e7.trans e8).mut hp).trans e9, ps ++ [W'], ?_, by rw [List.length_append, hlen]; rfl, fun x hx => ?_⟩
      · rw [List.map_append]
        exact e9 _ _ upd_same
      · rcases List.mem_append.mp hx with hx | hx
        · exact hbd x hx
        · rw [List.mem_singleton.mp hx]
          exact ⟨v0, v1⟩
    · intro σ' H' z
      obtain ⟨⟨W', u5, rfl, v0, v1⟩, e7, ps, h7, hlen, hbd⟩ := z
      exact s_ret (ev_var rfl) fun H8 e8 => q ps ⟨by omega, hbd⟩ p H8 (fresh_back e15 hp) ((e15.trans e7).trans e8) (e8 _ _ h7)
  have e15 := e14.trans e5
  have hR5 := ex_l e5 hR4
  refine q_when (et_eqI (ev_atI hR5 (i := 0) (by omega) rfl (ev_var rfl) ev_c) ev_c) (fun hb H6 e6 => ?_) (fun hb H6 e6 => ?_)
  · have e16 := e15.trans e6
    have hR6 := ex_l e6 hR5
    refine q_asgL (xs := (List.replicate (at0 r 1).toNat 0).map V.int) ?_ fun p H7 hp e7 h7 => ?_
    · rw [map_rep, ← flat_one]
      exact el_rep (n := (at0 r 1).toNat) (el_lst (ea_cons ev_c ea_nil) (by show 1 ≤ 100000; decide)) (fun H7 e7 => ev_is (ev_atI (ex_l e7 hR6) (i := 1) (by omega) rfl (ev_var rfl) ev_c) (by rw [← er1])) (by show 1 * (at0 r 1).toNat ≤ 100000; omega) (by omega)
    refine q_forR1 (ea_cons (ev_cb (ea_cons ev_c (ea_cons (ev_atI (ex_l e7 hR6) (i := 1) (by omega) rfl (ev_var rfl) ev_c) ea_nil)) rc_min) ea_nil) (by omega) (fun i σ' H' => (∃ (u5 u6 : Option V), σ' = [some (.ref a), some (.int c), some (.int U), some (.int W), some (.ref p), u5, u6, none]) ∧ Ex H6 H' ∧ ∃ ps : List Int, H' p = some (.lst (ps.map V.int)) ∧ ps.length = (at0 r 1).toNat ∧ ∀ x ∈ ps, 0 ≤ x ∧ x ≤ 1000000000) ?_ ?_ ?_
    · intro H8 e8
      exact ⟨⟨none, none, rfl⟩, e7.trans e8, _, e8 _ _ h7, List.length_replicate, fun x hx => by rw [List.eq_of_mem_replicate hx]; decide⟩
    · intro i σ' H' hi z
      obtain ⟨⟨u5, u6, rfl⟩, e8, ps, h8, hlen, hbd⟩ := z
      have pos : 0 < at0 r 1 := by omega
      have hR8 := ex_l e8 hR6
      have m0 := Int.emod_nonneg (at0 r 6 + (i : Int) * 7) (show at0 r 1 ≠ 0 by omega)
      have m1 := Int.emod_lt_of_pos (at0 r 6 + (i : Int) * 7) pos
      refine q_asg (ev_mod pos (ev_int (ev_add (ev_atI hR8 (i := 6) (by omega) rfl (ev_var rfl) ev_c) (ev_mulR (by decide) (by decide) (ev_var rfl) ev_c))) (ev_atI hR8 (i := 1) (by omega) rfl (ev_var rfl) ev_c)) fun H9 e9 => ?_
      have hR9 := ex_l e9 hR8
      have b8 := bs (8 + i) (by omega) (by omega)
      refine s_setL (j := ((at0 r 6 + (i : Int) * 7) % at0 r 1).toNat) (e9 _ _ h8) (ev_cb (ea_cons (ev_op ev_c ev_c (rv_I hP9)) (ea_cons (ev_add (ev_var rfl) (ev_atI hR9 (i := 8 + i) (by omega) (by omega) (ev_var rfl) (ev_add ev_c (ev_var rfl)))) ea_nil)) rc_min) (ev_var rfl) (ev_is (ev_var rfl) (congrArg V.int (by omega))) (by rw [List.length_map, hlen]; omega) fun H10 e10 => ⟨⟨_, _, rfl⟩, ((e8.trans e9).trans e10).mut hp, ps.set ((at0 r 6 + (i : Int) * 7) % at0 r 1).toNat (min 1000000000 (W + at0 r (8 + i))), ?_, by rw [List.length_set, hlen], fun x hx => ?_⟩
      · rw [List.map_set]
        exact upd_same
      · rcases List.mem_or_eq_of_mem_set hx with hx | hx
        · exact hbd x hx
        · rw [hx]
          omega
    · intro σ' H' z
      obtain ⟨⟨u5, u6, rfl⟩, e8, ps, h8, hlen, hbd⟩ := z
      exact s_ret (ev_var rfl) fun H9 e9 => q ps ⟨by omega, hbd⟩ p H9 (fresh_back e16 hp) ((e16.trans e8).trans e9) (e9 _ _ h8)
  have e16 := e15.trans e6
  have hR6 := ex_l e6 hR5
  have kb : ∀ i : Nat, 8 + i % 30 < 38 := fun i => by omega
  refine q_when (et_eqI (ev_atI hR6 (i := 0) (by omega) rfl (ev_var rfl) ev_c) ev_c) (fun hb H7 e7 => ?_) (fun hb H7 e7 => ?_)
  · have hR7 := ex_l e7 hR6
    refine s_retL (xs := ((List.range (at0 r 1).toNat).map fun i => min 1000000000 (U * at0 r (8 + i % 30))).map V.int) ?_ fun p H8 hp e8 h8 => q _ (PsOk.fn (fun i hi => ?_) (by omega)) p H8 (fresh_back (e16.trans e7) hp) ((e16.trans e7).trans e8) h8
    · rw [List.map_map]
      have g := el_lcR1 (σ := [some (.ref a), some (.int c), some (.int U), some (.int W), none, none, none, none]) (H := H7) (ta := tCons (tOp (rIxL K) (tVar 0) (tC (.int 1))) tNil) (j := 5) (vs := [5]) (t := tYes) (n := at0 r 1) (fun _ => true) (fun i => V.int (min 1000000000 (U * at0 r (8 + i % 30)))) (ea_cons (ev_atI hR7 (i := 1) (by omega) rfl (ev_var rfl) ev_c) ea_nil) (by omega) (fun x => rfl) (fun i H8 e8 hi => et_yes)
        (fun i H8 e8 hi _ => ev_cb (ea_cons (ev_op (x := .int 10) (y := .int 9) (z := .int 1000000000) (r := rI CPow fun i j => .int (i ^ j.toNat)) ev_c ev_c (rv_I hP9)) (ea_cons (ev_mulL (i := U) (by omega) (by omega) (ev_var (i := 2) rfl) (ev_atI (z := (8 : Int) + (i : Int) % 30) (ex_l e8 hR7) (i := 8 + i % 30) (by have := kb i; omega) (by omega) (ev_var (i := 0) rfl) (ev_add ev_c (ev_mod (by decide) (ev_var (i := 5) rfl) ev_c)))) ea_nil)) rc_min)
      rw [given_all] at g
      exact g
    · have b8 := bs (8 + i % 30) (by omega) (kb i)
      have : 0 ≤ U * at0 r (8 + i % 30) := Int.mul_nonneg (by omega) b8.1
      omega
  · have hR7 := ex_l e7 hR6
    have m0 := Int.emod_nonneg (at0 r 1) (show (41 : Int) ≠ 0 by decide)
    have m1 := Int.emod_lt_of_pos (at0 r 1) (show (0 : Int) < 41 by decide)
    refine s_retL (xs := ((List.range (at0 r 1 % 41).toNat).map fun i => at0 r (8 + i % 30)).map V.int) ?_ fun p H8 hp e8 h8 => q _ (PsOk.fn (fun i hi => ?_) (by omega)) p H8 (fresh_back (e16.trans e7) hp) ((e16.trans e7).trans e8) h8
    · rw [List.map_map]
      have g := el_lcR1 (σ := [some (.ref a), some (.int c), some (.int U), some (.int W), none, none, none, none]) (H := H7) (j := 5) (vs := [5]) (t := tYes) (n := at0 r 1 % 41) (fun _ => true) (fun i => V.int (at0 r (8 + i % 30))) (ea_cons (ev_mod (by decide) (ev_int (ev_atI (K := K) hR7 (i := 1) (by omega) rfl (ev_var (i := 0) rfl) ev_c)) ev_c) ea_nil) (by omega) (fun x => rfl) (fun i H8 e8 hi => et_yes)
        (fun i H8 e8 hi _ => ev_atI (K := K) (z := (8 : Int) + (i : Int) % 30) (ex_l e8 hR7) (i := 8 + i % 30) (by have := kb i; omega) (by omega) (ev_var (i := 0) rfl) (ev_add ev_c (ev_mod (by decide) (ev_var (i := 5) rfl) ev_c)))
      rw [given_all] at g
      exact g
    · have b8 := bs (8 + i % 30) (by omega) (kb i)
      omega
end
end K02
namespace K02
open PySem PySem.Spec PyProof.Rows L2 Evl
/-! ### what the law draws -/
def szRow : List Int := [8, 70, 333, 3, 101, 35, 2001]
def szBig : List Int := List.replicate 33 1000 ++ [10]
def szFew : List Int := [8, 6, 6, 6, 6, 6, 6, 6]
def szPart : List Int := [8, 401, 10, 1000000001, 1000000001, 4, 401, 3] ++ List.replicate 30 10
def SzOk (ss : List Int) : Prop := ∀ i, i < ss.length → 0 < at0 ss i ∧ at0 ss i < 18446744073709551616
theorem ok_szRow : SzOk szRow := by unfold SzOk; decide +kernel
theorem ok_szBig : SzOk szBig := by unfold SzOk; decide +kernel
theorem ok_szFew : SzOk szFew := by unfold SzOk; decide +kernel
theorem ok_szPart : SzOk szPart := by unfold SzOk; decide +kernel
theorem dg {c : Int} {ss : List Int} (h : SzOk ss) (i : Nat) (hi : i < ss.length) : 0 ≤ at0 (digits c ss) i ∧ at0 (digits c ss) i < at0 ss i := digits_at hi (h i hi).1
theorem rowOk (c : Int) : RowOk (digits c szRow) :=
  ⟨digits_len c szRow, dg ok_szRow 1 (by decide), dg ok_szRow 2 (by decide), dg ok_szRow 3 (by decide), dg ok_szRow 4 (by decide), dg ok_szRow 5 (by decide), dg ok_szRow 6 (by decide)⟩
theorem bigOk (c : Int) : BigOk (digits c szBig) := by
  refine ⟨digits_len c szBig, fun i hi => ?_⟩
  have e : ∀ i, i < 34 → at0 szBig i = stepB i := by decide +kernel
  have h := dg (c := c) ok_szBig i hi
  rw [e i hi] at h
  exact h
theorem rowB (c : Int) : RowB (digits c szPart) := by
  refine ⟨digits_len c szPart, dg ok_szPart 0 (by decide), dg ok_szPart 1 (by decide), dg ok_szPart 2 (by decide), dg ok_szPart 5 (by decide), dg ok_szPart 7 (by decide), fun i h8 hi => ?_⟩
  have e : ∀ i, i < 38 → 8 ≤ i → at0 szPart i = 10 := by decide +kernel
  have h := dg (c := c) ok_szPart i hi
  rw [e i hi h8] at h
  exact h
theorem fewOk (c : Int) {x : Int} (h : x ∈ digits c szFew) : 0 ≤ x ∧ x ≤ 1000 := by
  obtain ⟨i, hi, rfl⟩ := at0_of_mem h
  rw [digits_len] at hi
  have b := dg (c := c) ok_szFew i hi
  have e : ∀ i, i < 8 → at0 szFew i ≤ 8 := by decide +kernel
  have := e i hi
  omega
def szB (w : Nat) : Prop := w ≤ 10000
/-- what the string of bits is -/
theorem nb_facts {n M : Int} (h0 : 0 ≤ n) (h : n < M) : Nb (nb n M).cps.toList n (bitsOf M).toNat := by
  have k := nb_ok (bits_lt h0 h)
  rw [show ((n.toNat : Nat) : Int) = n by omega] at k
  exact k
theorem nb_lt {a b M : Int} (h0 : 0 ≤ a) (hb : b < M) (h : a < b) : (nb a M).cps.toList < (nb b M).cps.toList := by
  have k1 := nb_facts h0 (show a < M by omega)
  have k2 := nb_facts (show 0 ≤ b by omega) hb
  refine lex_of_val _ _ (k1.len.trans k2.len.symm) k1.digs k2.digs ?_
  rw [k1.v, k2.v]
  exact h
theorem rv_ltS {x y : Str} {H : Hp} {b : Bool} (h : decide (x.cps.toList < y.cps.toList) = b) : RV (fun x y H Q => ∃ i j, x = V.str i ∧ y = V.str j ∧ Q (V.bl (decide (i.cps.toList < j.cps.toList))) H) (.str x) (.str y) H (.bl b) := fun H1 _ _ q => ⟨x, y, rfl, rfl, by
  rw [h]
  exact q H1 (Ex.refl H1)⟩
theorem pair_lt {ns : List Int} (h : ns.Pairwise (· < ·)) {i : Nat} (hi : i + 1 < ns.length) : at0 ns i < at0 ns (i + 1) := by
  have k := List.pairwise_iff_getElem.mp h i (i + 1) (by omega) hi (by omega)
  unfold at0
  rw [List.getD_eq_getElem?_getD, List.getD_eq_getElem?_getD, List.getElem?_eq_getElem hi, List.getElem?_eq_getElem (show i < ns.length by omega)]
  exact k
def bitStrs (M : Int) (ns : List Int) : List V := ns.map fun n => V.str (nb n M)
theorem bitStrsAt {M : Int} {ns : List Int} {i : Nat} (h : i < ns.length) : (bitStrs M ns)[i]? = some (V.str (nb (at0 ns i) M)) := by
  unfold bitStrs at0
  rw [List.getElem?_map, List.getElem?_eq_getElem h, List.getD_eq_getElem?_getD, List.getElem?_eq_getElem h]
  rfl
section
variable {P : Program} {w : World} {K : PySem.W.Frag} {mg : Str → Option Value} {base : Heap}
def spLaw (K : PySem.W.Frag) : Sp := fun vs H Q _ => ∃ (a : Addr) (ns : List Int), vs = [.ref a] ∧ SqL K H a (ns.map V.int) ∧ ns.length ≤ 63 ∧ ∀ H', Q (.bl true) H'
theorem ok_law {f : Addr} {fd : FuncData} (F : Fun K "law" "law" s_law f fd) (T : Top mg) (hDi : Has P w K mg base "_law_digits" s__law_digits ["cell", "sizes"] 1 (spDigits K)) (hCe : Has P w K mg base "_law_cell" s__law_cell ["script", "k"] 1 (spCell K)) (hMa : Has P w K mg base "_law_many" s__law_many ["row", "digits"] 2 (spMany K))
    (hLw : Has P w K mg base "_law_width" s__law_width ["many"] 1 spLw) (hWr : Has P w K mg base "_law_widths_right" s__law_widths_right ["many"] 2 spWr) (hNb : Has P w K mg base "number_bits" s_number_bits ["number", "options"] 2 spNb) (hPo : Has P w K mg base "_law_power" s__law_power ["base", "often"] 1 spPower)
    (hWi : Has P w K mg base "width" s_width ["options"] 1 spWidth) (hWh : Has P w K mg base "_law_whole" s__law_whole ["value"] 1 spWhole) (hBi : Has P w K mg base "_law_big" s__law_big ["row", "used"] 1 (spBig K)) (hNu : Has P w K mg base "_law_numbers" s__law_numbers ["many", "drawn"] 1 spNums)
    (hVa : Has P w K mg base "_law_value" s__law_value ["bits", "wide"] 1 spVal) (hSm : Has P w K mg base "_law_small_fills" s__law_small_fills ["parts"] 4 (spSm K)) (hCo : Has P w K mg base "_law_counts" s__law_counts ["row", "cell"] 2 (spCounts K)) (hLe : Has P w K mg base "_law_letters" s__law_letters ["row", "parts"] 2 (spLet K))
    (hFt : Has P w K mg base "_law_fill_told" s__law_fill_told ["far", "parts"] 3 (spFT K)) : FnOk P w K mg base CX0 5 f fd ["script"] (spLaw K) := by
  obtain ⟨f1, fd1, _, G__law_digits, b__law_digits, m__law_digits, k__law_digits⟩ := hDi
  obtain ⟨f2, fd2, _, G__law_cell, b__law_cell, m__law_cell, k__law_cell⟩ := hCe
  obtain ⟨f3, fd3, _, G__law_many, b__law_many, m__law_many, k__law_many⟩ := hMa
  obtain ⟨f4, fd4, _, G__law_width, b__law_width, m__law_width, k__law_width⟩ := hLw
  obtain ⟨f5, fd5, _, G__law_widths_right, b__law_widths_right, m__law_widths_right, k__law_widths_right⟩ := hWr
  obtain ⟨f6, fd6, FN, G_number_bits, b_number_bits, m_number_bits, k_number_bits⟩ := hNb
  obtain ⟨f7, fd7, _, G__law_power, b__law_power, m__law_power, k__law_power⟩ := hPo
  obtain ⟨f8, fd8, _, G_width, b_width, m_width, k_width⟩ := hWi
  obtain ⟨f9, fd9, _, G__law_whole, b__law_whole, m__law_whole, k__law_whole⟩ := hWh
  obtain ⟨g1, gd1, _, G__law_big, b__law_big, m__law_big, k__law_big⟩ := hBi
  obtain ⟨g2, gd2, _, G__law_numbers, b__law_numbers, m__law_numbers, k__law_numbers⟩ := hNu
  obtain ⟨g3, gd3, _, G__law_value, b__law_value, m__law_value, k__law_value⟩ := hVa
  obtain ⟨g4, gd4, _, G__law_small_fills, b__law_small_fills, m__law_small_fills, k__law_small_fills⟩ := hSm
  obtain ⟨g5, gd5, _, G__law_counts, b__law_counts, m__law_counts, k__law_counts⟩ := hCo
  obtain ⟨g6, gd6, _, G__law_letters, b__law_letters, m__law_letters, k__law_letters⟩ := hLe
  obtain ⟨g7, gd7, _, G__law_fill_told, b__law_fill_told, m__law_fill_told, k__law_fill_told⟩ := hFt
  have kb_number_bits := kb_nb FN
  refine F.ok S_law (fun vs H Q E h => ?_) (fun cdv A outer s H vs Q E hr h => ?_)
  · obtain ⟨a, ns, rfl, _⟩ := h
    rfl
  obtain ⟨a, ns, rfl, hS, h63, q⟩ := h
  refine ⟨_, (pss_cons
    (ps_set (i := 1) S_law.nd rfl (Or.inl rfl) (pe_call G__law_digits (hr.mono (by decide)) rfl m__law_digits k__law_digits b__law_digits .nil pass0 (pa_cons (pe_call G__law_cell (hr.mono (by decide)) rfl m__law_cell k__law_cell b__law_cell .nil pass0 (pa_cons (pv 0) (pa_cons pe_int pa_nil))) (pa_cons (pe_lst (pa_cons pe_int (pa_cons pe_int (pa_cons pe_int (pa_cons pe_int (pa_cons pe_int (pa_cons pe_int (pa_cons pe_int pa_nil)))))))) pa_nil))))
    (pss_cons
    (ps_set (i := 2) S_law.nd rfl (Or.inr rfl) (pe_op op_cat (pe_op op_rep (pe_lst (pa_cons pe_int pa_nil)) pe_int) (pe_lst (pa_cons pe_int pa_nil))))
    (pss_cons
    (ps_set (i := 3) S_law.nd rfl (Or.inr rfl) (pe_call G__law_many (hr.mono (by decide)) rfl m__law_many k__law_many b__law_many .nil pass0 (pa_cons (pv 1) (pa_cons (pe_call G__law_digits (hr.mono (by decide)) rfl m__law_digits k__law_digits b__law_digits .nil pass0 (pa_cons (pe_call G__law_cell (hr.mono (by decide)) rfl m__law_cell k__law_cell b__law_cell .nil pass0 (pa_cons (pv 0) (pa_cons pe_int pa_nil))) (pa_cons (pv 2) pa_nil))) pa_nil))))
    (pss_cons
    (ps_set (i := 4) S_law.nd rfl (Or.inl rfl) (pe_call G__law_width (hr.mono (by decide)) rfl m__law_width k__law_width b__law_width .nil pass0 (pa_cons (pv 3) pa_nil)))
    (pss_cons
    (ps_if (PW.pt (pw_or (pt_not (pt_val (pe_call G__law_widths_right (hr.mono (by decide)) rfl m__law_widths_right k__law_widths_right b__law_widths_right .nil pass0 (pa_cons (pv 3) pa_nil)))) (pw_or1 (pt_cmpR op_ne (pe_call G_number_bits (hr.mono (by decide)) rfl m_number_bits k_number_bits b_number_bits .nil pass0 (pa_cons pe_int (pa_cons pe_int pa_nil))) pe_str (nomark _))))) (pss_one
    (ps_ret pe_bl)) pss_nil)
    (pss_cons
    (ps_set (i := 5) S_law.nd rfl (Or.inl rfl) (pe_call G__law_power (hr.mono (by decide)) rfl m__law_power k__law_power b__law_power .nil pass0 (pa_cons pe_int (pa_cons (pe_ix (r := rIxL K) ix_list (pv 1) pe_int (fun _ _ => rfl)) pa_nil))))
    (pss_cons
    (ps_for PassesOwn.never rfl (pi_list (pe_lst (pa_cons pe_int (pa_cons pe_int (pa_cons pe_int (pa_cons pe_int (pa_cons (pe_callB (call_max2 rfl) rfl T.z_max (by decide +kernel) (pa_cons pe_int (pa_cons (pe_op op_sub (pv 5) pe_int) pa_nil))) (pa_cons (pv 5) (pa_cons (pe_op op_add (pv 5) pe_int) (pa_cons (pe_op op_add (pv 5) (pv 3)) pa_nil)))))))))) (pg_name (i := 6) S_law.nd rfl (Or.inl rfl)) (pss_cons
    (ps_set (i := 7) S_law.nd rfl (Or.inl rfl) (pe_call G_width (hr.mono (by decide)) rfl m_width k_width b_width .nil pass0 (pa_cons (pv 6) pa_nil)))
    (pss_one
    (ps_if (PW.pt (pw_or (pt_not (pt_val (pe_call G__law_whole (hr.mono (by decide)) rfl m__law_whole k__law_whole b__law_whole .nil pass0 (pa_cons (pv 7) pa_nil)))) (pw_or1 (pt_cmpR op_ne (pv 7) (pe_call G__law_width (hr.mono (by decide)) rfl m__law_width k__law_width b__law_width .nil pass0 (pa_cons (pv 6) pa_nil)) (nomark _))))) (pss_one
    (ps_ret pe_bl)) pss_nil))))
    (pss_cons
    (ps_setLc (i := 9) (own := [("k", 8)]) (g := gName 8) (tt := tYes) rfl S_law.nd rfl (rfl) (sw_true rfl rfl rfl (by decide +kernel)) (pi_range1 rfl T.z_range (pa_cons pe_int pa_nil)) (blkOk_by (N := N_law) (sc := defScope s_law) (by decide +kernel)) (fun _ _ _ _ _ => pg_name (i := 8) S_law.nd rfl (Or.inl rfl)) (fun _ _ _ _ _ => pts_nil) (fun _ _ _ _ _ => (pe_op op_mod (pe_callTy call_int1 rfl T.z_int (by decide +kernel) (pa_cons (pe_call G__law_big (hr.mono (by decide)) rfl m__law_big k__law_big b__law_big .nil pass0 (pa_cons (pe_call G__law_digits (hr.mono (by decide)) rfl m__law_digits k__law_digits b__law_digits .nil pass0 (pa_cons (pe_call G__law_cell (hr.mono (by decide)) rfl m__law_cell k__law_cell b__law_cell .nil pass0 (pa_cons (pv 0) (pa_cons (pe_op op_add pe_int (pv 8)) pa_nil))) (pa_cons (pv 2) pa_nil))) (pa_cons pe_int pa_nil))) pa_nil)) (pv 3))))
    (pss_cons
    (ps_set (i := 10) S_law.nd rfl (Or.inl rfl) (pe_call G__law_numbers (hr.mono (by decide)) rfl m__law_numbers k__law_numbers b__law_numbers .nil pass0 (pa_cons (pv 3) (pa_cons (pv 9) pa_nil))))
    (pss_cons
    (ps_set (i := 11) S_law.nd rfl (Or.inl rfl) (pe_lst pa_nil))
    (pss_cons
    (ps_for PassesOwn.never rfl (pi_list (pv 10)) (pg_name (i := 12) S_law.nd rfl (Or.inl rfl)) (pss_cons
    (ps_set (i := 13) S_law.nd rfl (Or.inl rfl) (pe_call G_number_bits (hr.mono (by decide)) rfl m_number_bits k_number_bits b_number_bits .nil pass0 (pa_cons (pv 12) (pa_cons (pv 3) pa_nil))))
    (pss_cons
    (ps_if (pt_cmpR op_ne (pe_call G__law_value (hr.mono (by decide)) rfl m__law_value k__law_value b__law_value .nil pass0 (pa_cons (pv 13) (pa_cons (pv 4) pa_nil))) (pv 12) (nomark _)) (pss_one
    (ps_ret pe_bl)) pss_nil)
    (pss_one
    (ps_expr (pe_bm PySem.F.plainAttrs_list PySem.F.slot_list_append PySem.F.type_list_append mt_append (pv 11) (pa_cons (pv 13) pa_nil)))))))
    (pss_cons
    (ps_for PassesOwn.never rfl (pi_range2 rfl T.z_range (pa_cons pe_int (pa_cons (pe_callB call_len_seq rfl T.z_len PySem.boot_len (pa_cons (pv 11) pa_nil)) pa_nil))) (pg_name (i := 8) S_law.nd rfl (Or.inl rfl)) (pss_one
    (ps_if (pt_not (pt_cmpR op_lt_str (pe_ix (r := rIxL K) ix_list (pv 11) (pe_op op_sub (pv 8) pe_int) (fun _ _ => rfl)) (pe_ix (r := rIxL K) ix_list (pv 11) (pv 8) (fun _ _ => rfl)) (nomark _))) (pss_one
    (ps_ret pe_bl)) pss_nil)))
    (pss_cons
    (ps_set (i := 14) S_law.nd rfl (Or.inl rfl) (pe_call G__law_digits (hr.mono (by decide)) rfl m__law_digits k__law_digits b__law_digits .nil pass0 (pa_cons (pe_call G__law_cell (hr.mono (by decide)) rfl m__law_cell k__law_cell b__law_cell .nil pass0 (pa_cons (pv 0) (pa_cons pe_int pa_nil))) (pa_cons (pe_lst (pa_cons pe_int (pa_cons pe_int (pa_cons pe_int (pa_cons pe_int (pa_cons pe_int (pa_cons pe_int (pa_cons pe_int (pa_cons pe_int pa_nil))))))))) pa_nil))))
    (pss_cons
    (ps_if (pt_not (pt_val (pe_call G__law_small_fills (hr.mono (by decide)) rfl m__law_small_fills k__law_small_fills b__law_small_fills .nil pass0 (pa_cons (pe_slice sl_list (pv 14) (po_some pe_int) (po_some (pe_op op_add pe_int (pe_ix (r := rIxL K) ix_list (pv 14) pe_int (fun _ _ => rfl))))) pa_nil)))) (pss_one
    (ps_ret pe_bl)) pss_nil)
    (pss_cons
    (ps_set (i := 15) S_law.nd rfl (Or.inl rfl) (pe_call G__law_digits (hr.mono (by decide)) rfl m__law_digits k__law_digits b__law_digits .nil pass0 (pa_cons (pe_call G__law_cell (hr.mono (by decide)) rfl m__law_cell k__law_cell b__law_cell .nil pass0 (pa_cons (pv 0) (pa_cons pe_int pa_nil))) (pa_cons (pe_op op_cat (pe_lst (pa_cons pe_int (pa_cons pe_int (pa_cons pe_int (pa_cons pe_int (pa_cons pe_int (pa_cons pe_int (pa_cons pe_int (pa_cons pe_int pa_nil))))))))) (pe_op op_rep (pe_lst (pa_cons pe_int pa_nil)) pe_int)) pa_nil))))
    (pss_cons
    (ps_set (i := 16) S_law.nd rfl (Or.inl rfl) (pe_call G__law_counts (hr.mono (by decide)) rfl m__law_counts k__law_counts b__law_counts .nil pass0 (pa_cons (pv 15) (pa_cons (pe_call G__law_cell (hr.mono (by decide)) rfl m__law_cell k__law_cell b__law_cell .nil pass0 (pa_cons (pv 0) (pa_cons pe_int pa_nil))) pa_nil))))
    (pss_cons
    (ps_if (pt_not (pt_val (pe_call G__law_fill_told (hr.mono (by decide)) rfl m__law_fill_told k__law_fill_told b__law_fill_told .nil pass0 (pa_cons (pe_call G__law_letters (hr.mono (by decide)) rfl m__law_letters k__law_letters b__law_letters .nil pass0 (pa_cons (pv 15) (pa_cons (pv 16) pa_nil))) (pa_cons (pv 16) pa_nil))))) (pss_one
    (ps_ret pe_bl)) pss_nil)
    (pss_cons
    (ps_for PassesOwn.never rfl (pi_range1 rfl T.z_range (pa_cons (pe_callB call_len_seq rfl T.z_len PySem.boot_len (pa_cons (pv 10) pa_nil)) pa_nil)) (pg_name (i := 8) S_law.nd rfl (Or.inl rfl)) (pss_one
    (ps_if (pt_cmpR op_ne (pe_callN0 G_number_bits (hr.mono (by decide)) rfl m_number_bits k_number_bits kb_number_bits pass0 (pk_cons (pv 3) (pk_cons (pe_ix (r := rIxL K) ix_list (pv 10) (pv 8) (fun _ _ => rfl)) pk_nil))) (pe_ix (r := rIxL K) ix_list (pv 11) (pv 8) (fun _ _ => rfl)) (nomark _)) (pss_one
    (ps_ret pe_bl)) pss_nil)))
    (pss_one
    (ps_ret (pe_and (pe_call G__law_widths_right (hr.mono (by decide)) rfl m__law_widths_right k__law_widths_right b__law_widths_right .nil pass0 (pa_cons (pv 3) pa_nil)) (pe_one (pe_call G__law_fill_told (hr.mono (by decide)) rfl m__law_fill_told k__law_fill_told b__law_fill_told .nil pass0 (pa_cons (pe_call G__law_letters (hr.mono (by decide)) rfl m__law_letters k__law_letters b__law_letters .nil pass0 (pa_cons (pv 15) (pa_cons (pv 16) pa_nil))) (pa_cons (pv 16) pa_nil))))))))))))))))))))))))), ?_⟩
  -- row, sizes, many
  refine q_asgL (el_digs (c := cell ns 0) (ss := szRow) (ev_call (ea_cons (ev_var rfl) (ea_cons ev_c ea_nil)) (sv_cell hS h63 (by decide))) (el_lst (ea_cons ev_c (ea_cons ev_c (ea_cons ev_c (ea_cons ev_c (ea_cons ev_c (ea_cons ev_c (ea_cons ev_c ea_nil))))))) (by show 7 ≤ 100000; decide)) (by decide) ok_szRow) fun r H1 _ e hrow => ?_
  have hS := ex_l e hS
  refine q_asgL (xs := szBig.map V.int) ?_ fun z H2 _ e hsz => ?_
  · have g := el_catL (σ := (L2.start N_law [V.ref a]).set 1 (some (V.ref r))) (H := H1) (el_rep (n := 33) (el_lst (ea_cons (ev_c (v := .int 1000)) ea_nil) (by decide)) (fun H2 _ => ev_c (v := .int 33)) (by decide) (by decide)) (el_lst (ea_cons (ev_c (v := .int 10)) ea_nil) (by decide)) (by decide)
    exact g
  have hS := ex_l e hS
  have hrow := e _ _ hrow
  have R := rowOk (cell ns 0)
  have mb := many_bound R (bigOk (cell ns 1))
  refine q_asg (ev_call2L (ev_var rfl) (el_call (ea_cons (ev_call (ea_cons (ev_var rfl) (ea_cons ev_c ea_nil)) (sv_cell hS h63 (by decide))) (ea_cons (ev_var rfl) ea_nil)) (sl_digits (ss := szBig) (sq_of hsz) (by decide) ok_szBig)) (fun p H3 e3 h3 => sv_many (r := digits (cell ns 0) szRow) (d := digits (cell ns 1) szBig) (sq_of (e3 _ _ hrow)) (sq_of h3) R (bigOk _))) fun H3 e => ?_
  have hS := ex_l e hS
  have hrow := e _ _ hrow
  have hsz := e _ _ hsz
  generalize manyF (digits (cell ns 0) szRow) (digits (cell ns 1) szBig) = M at mb ⊢
  obtain ⟨m1, m2⟩ := mb
  have pw1 : (10 : Int) ^ 100 ≤ 2 ^ 1000 := by decide +kernel
  have pw2 : (2 : Int) ^ 1000 ≤ 2 ^ 2000 := pow_mono (by decide) (by decide)
  have pw3 : (2 : Int) ^ 2000 + 2 ^ 2000 ≤ 2 ^ 2100 := by decide +kernel
  have pw4 : (1 : Int) ≤ 2 ^ 1000 := pow_pos1 (by decide) _
  have pw5 : (10 : Int) ≤ 2 ^ 1000 := by decide +kernel
  have mN : M ≤ 2 ^ 1000 := Int.le_trans m2 pw1
  have mW : M ≤ 2 ^ 2000 := Int.le_trans mN pw2
  -- wide, the first tests
  refine q_asg (ev_call (ea_cons (ev_var rfl) ea_nil) (sv_lw m1 (by omega))) fun H4 e => ?_
  have hS := ex_l e hS
  have hrow := e _ _ hrow
  have hsz := e _ _ hsz
  have n01 : nb 0 1 = Str.ofString "" := by decide +kernel
  refine q_skip (et_is (et_or (et_not (et_B (ev_call (ea_cons (ev_var rfl) ea_nil) (sv_wr m1 mW)))) (fun _ => et_test (ev_op (ev_call (ea_cons ev_c (ea_cons ev_c ea_nil)) (sv_nb (by decide) (by decide) pw4)) ev_c (rv_ne rfl)))) (by rw [n01]; simp)) fun H5 e => ?_
  have hS := ex_l e hS
  have hrow := e _ _ hrow
  have hsz := e _ _ hsz
  -- giant and the widths
  have g6 := R.b6
  have hl7 : (digits (cell ns 0) szRow).length = 7 := R.len
  refine q_asg (ev_call (ea_cons ev_c (ea_cons (ev_atI (K := K) (i := 6) (sq_of hrow) (by rw [hl7]; decide) rfl (ev_var rfl) ev_c) ea_nil)) (sv_power (by decide) (by omega))) fun H6 e => ?_
  have hS := ex_l e hS
  have hrow := e _ _ hrow
  have hsz := e _ _ hsz
  have gg1 : (1 : Int) ≤ 2 ^ (at0 (digits (cell ns 0) szRow) 6).toNat := pow_pos1 (by decide) _
  have gg2 : (2 : Int) ^ (at0 (digits (cell ns 0) szRow) 6).toNat ≤ 2 ^ 2000 := pow_mono (by decide) (by omega)
  generalize (2 : Int) ^ (at0 (digits (cell ns 0) szRow) 6).toNat = G at gg1 gg2 ⊢
  let vals : List Int := [1, 2, 3, 4, max 1 (G - 1), G, G + 1, G + M]
  have hv : ∀ x ∈ vals, 1 ≤ x ∧ x ≤ 2 ^ 2100 := by
    have p0 : (10 : Int) ≤ 2 ^ 2000 := Int.le_trans pw5 pw2
    generalize (2 : Int) ^ 2000 = B1 at *
    generalize (2 : Int) ^ 2100 = B2 at *
    intro x hx
    simp only [vals, List.mem_cons, List.not_mem_nil, or_false] at hx
    omega
  refine q_forNLn (xs := vals.map V.int) (el_lst (ea_cons ev_c (ea_cons ev_c (ea_cons ev_c (ea_cons ev_c (ea_cons (ev_cb (ea_cons ev_c (ea_cons (ev_sub (ev_var rfl) ev_c) ea_nil)) rc_max) (ea_cons (ev_var rfl) (ea_cons (ev_add (ev_var rfl) ev_c) (ea_cons (ev_add (ev_var rfl) (ev_var rfl)) ea_nil)))))))) (by show 8 ≤ 100000; decide))
    (fun l i σ' H' => (∃ u6 u7, σ' = [some (.ref a), some (.ref r), some (.ref z), some (.int M), some (.int (bitsOf M)), some (.int G), u6, u7, none, none, none, none, none, none, none, none, none]) ∧ Ex H6 H' ∧ H' l = some (.lst (vals.map V.int))) ?_ ?_ ?_ ?_
  · intro l H7 hl e7 h7
    exact ⟨⟨none, none, rfl⟩, e7, h7⟩
  · intro l i σ' H' _ p
    exact sq_of p.2.2
  · intro l i x σ' H' hx p
    obtain ⟨⟨u6, u7, rfl⟩, e7, h7⟩ := p
    obtain ⟨hi, rfl⟩ := at0_get hx
    obtain ⟨v1, v2⟩ := hv _ (at0_mem hi)
    refine q_asg (ev_call (ea_cons (ev_var rfl) ea_nil) sv_width) fun H8 e8 => ?_
    refine s_skip (et_is (et_or (et_not (et_B (ev_call (ea_cons (ev_var rfl) ea_nil) sv_whole))) (fun _ => et_neI (ev_var rfl) (ev_call (ea_cons (ev_var rfl) ea_nil) (sv_lw v1 v2)))) (by simp)) fun H9 e9 => ?_
    exact ⟨⟨some (.int (at0 vals i)), some (.int (bitsOf (at0 vals i))), rfl⟩, (e7.trans e8).trans e9, e9 _ _ (e8 _ _ h7)⟩
  intro l σ' H7 p
  obtain ⟨⟨u6, u7, rfl⟩, e, -⟩ := p
  have hS := ex_l e hS
  have hrow := e _ _ hrow
  have hsz := e _ _ hsz
  -- drawn
  let dr : List Int := (List.range 3).map fun i : Nat => bigF (digits (cell ns (2 + (i : Int))) szBig) 34 % M
  refine q_asgL (xs := dr.map V.int) ?_ fun d H8 _ e hdr => ?_
  · have ee : dr.map V.int = given (3 : Int).toNat (fun _ => true) fun i : Nat => V.int (bigF (digits (cell ns (2 + (i : Int))) szBig) 34 % M) := by
      rw [given_all]
      show ((List.range 3).map fun i : Nat => bigF (digits (cell ns (2 + (i : Int))) szBig) 34 % M).map V.int = _
      rw [List.map_map]
      rfl
    rw [ee]
    refine el_lcR1 _ _ (ea_cons ev_c ea_nil) (by decide) (fun x => rfl) (fun i H8 e8 hi => et_yes) (fun i H8 e8 hi _ => ?_)
    have hS8 := ex_l e8 hS
    have hsz8 := e8 _ _ hsz
    refine ev_mod (by omega) (ev_int (ev_call1L (xs := (digits (cell ns (2 + (i : Int))) szBig).map V.int) (el_call (ea_cons (ev_call (ea_cons (ev_var rfl) (ea_cons (ev_add ev_c (ev_var rfl)) ea_nil)) (sv_cell hS8 h63 (by omega))) (ea_cons (ev_var rfl) ea_nil)) (sl_digits (ss := szBig) (sq_of hsz8) (by decide) ok_szBig)) (fun _ _ => ev_c) (fun p H9 e9 h9 => sv_big (ds := digits (cell ns (2 + (i : Int))) szBig) (u := 34) (sq_of h9) (by rw [digits_len]; decide) (by decide)))) (ev_var rfl)
  have hS := ex_l e hS
  have hrow := e _ _ hrow
  have hsz := e _ _ hsz
  have drb : ∀ x ∈ dr, 0 ≤ x ∧ x < M := by
    intro x hx
    obtain ⟨i, _, rfl⟩ := List.mem_map.mp hx
    exact ⟨Int.emod_nonneg _ (by omega), Int.emod_lt_of_pos _ (by omega)⟩
  -- numbers
  refine q_callD (ea_cons (ev_var rfl) (ea_cons (ev_var rfl) ea_nil)) fun H9 e => ?_
  refine ⟨d, M, dr, rfl, e _ _ hdr, m1, rfl, drb, fun nums hN l2 H10 _ e2 hnum => ?_⟩
  have e := e.trans e2
  have hS := ex_l e hS
  have hrow := e _ _ hrow
  have hsz := e _ _ hsz
  -- strings
  refine q_asgL (el_lst ea_nil (by decide)) fun st H11 hst e hstl => ?_
  have e1011 := e
  have wn : bitsOf M = (((bitsOf M).toNat : Nat) : Int) := by
    have := bits_nn M
    omega
  have wle : (bitsOf M).toNat ≤ 1000 := by
    have := bits_le (b := 1000) m1 mN
    omega
  refine q_forLn (ev_var rfl) (sq_of (e _ _ hnum)) (fun i σ' H' => (∃ u12 u13, σ' = [some (.ref a), some (.ref r), some (.ref z), some (.int M), some (.int (bitsOf M)), some (.int G), u6, u7, none, some (.ref d), some (.ref l2), some (.ref st), u12, u13, none, none, none]) ∧ Ex H10 H' ∧ H' st = some (.lst (bitStrs M (nums.take i)))) ?_ ?_ ?_ ?_
  · intro H12 e12
    exact ⟨⟨none, none, rfl⟩, e.trans e12, e12 _ _ hstl⟩
  · intro i σ' H' _ p
    exact sq_of (p.2.1 _ _ hnum)
  · intro i x σ' H' hx p
    obtain ⟨⟨u12, u13, rfl⟩, e12, h12⟩ := p
    obtain ⟨hi, rfl⟩ := at0_get hx
    obtain ⟨n0, n1⟩ := hN.bd _ (at0_mem hi)
    have k := nb_facts n0 n1
    have kl : (nb (at0 nums i) M).length = (bitsOf M).toNat := by
      have := k.len
      unfold Str.length
      rw [← this]
      exact Array.length_toList.symm
    refine q_asg (ev_call (ea_cons (ev_var rfl) (ea_cons (ev_var rfl) ea_nil)) (sv_nb n0 n1 mN)) fun H13 e13 => ?_
    refine q_skip (et_is (et_neI (i := at0 nums i) (j := at0 nums i) (ev_is (ev_call (ea_cons (ev_var rfl) (ea_cons (ev_var rfl) ea_nil)) (sv_val (by rw [kl]; exact wn.symm) (by rw [kl]; omega) k.digs)) (by rw [k.v])) (ev_var rfl)) (by simp)) fun H14 e14 => ?_
    refine s_app (e14 _ _ (e13 _ _ h12)) (ev_var rfl) (ev_var rfl) ?_ fun H15 e15 => ⟨⟨some (.int (at0 nums i)), some (.str (nb (at0 nums i) M)), rfl⟩, (((e12.trans e13).trans e14).trans e15).mut hst, ?_⟩
    · unfold bitStrs
      rw [List.length_map, List.length_take]
      have := hN.len
      omega
    · have et : bitStrs M (nums.take (i + 1)) = bitStrs M (nums.take i) ++ [V.str (nb (at0 nums i) M)] := by
        unfold bitStrs
        rw [List.take_add_one, List.getElem?_eq_getElem hi, List.map_append]
        have : at0 nums i = nums[i] := by
          unfold at0
          rw [List.getD_eq_getElem?_getD, List.getElem?_eq_getElem hi]
          rfl
        rw [this]
        rfl
      rw [et]
      exact upd_same
  intro σ' H12 p
  obtain ⟨⟨u12, u13, rfl⟩, e, hstr⟩ := p
  rw [List.length_map, List.take_length] at hstr
  have hS := ex_l e hS
  have hrow := e _ _ hrow
  have hsz := e _ _ hsz
  have hnum := e _ _ hnum
  have hlen : (bitStrs M nums).length = nums.length := by
    unfold bitStrs
    rw [List.length_map]
  have hnl := hN.len
  -- the order
  refine q_forR2 (lo := 1) (n := (nums.length : Int)) (ea_cons ev_c (ea_cons (ev_is (ev_cb (ea_cons (ev_var rfl) ea_nil) (rc_lenL (sq_of hstr))) (by rw [hlen])) ea_nil)) (by omega) (fun i σ' H' => (∃ u8, σ' = [some (.ref a), some (.ref r), some (.ref z), some (.int M), some (.int (bitsOf M)), some (.int G), u6, u7, u8, some (.ref d), some (.ref l2), some (.ref st), u12, u13, none, none, none]) ∧ Ex H12 H') ?_ ?_ ?_
  · intro H13 e13
    exact ⟨⟨none, rfl⟩, e13⟩
  · intro i σ' H' hi p
    obtain ⟨⟨u8, rfl⟩, e13⟩ := p
    have hstr13 := e13 _ _ hstr
    have i1 : i + 1 < nums.length := by omega
    have lt := nb_lt (M := M) (hN.bd _ (at0_mem (show i < nums.length by omega))).1 (hN.bd _ (at0_mem i1)).2 (pair_lt hN.up i1)
    refine s_skip (et_is (et_not (et_test (ev_op (x := .str (nb (at0 nums i) M)) (y := .str (nb (at0 nums (i + 1)) M)) (ev_op (ev_var rfl) (ev_sub (ev_var rfl) ev_c) (rv_ixL (sq_of hstr13) (at_of (j := i) (by omega) (bitStrsAt (by omega))))) (ev_op (ev_var rfl) (ev_var rfl) (rv_ixL (sq_of hstr13) (at_of (j := i + 1) (by omega) (bitStrsAt i1)))) (rv_ltS (decide_eq_true lt))))) rfl) fun H14 e14 => ?_
    exact ⟨⟨some (.int (1 + (i : Int))), rfl⟩, e13.trans e14⟩
  intro σ' H13 p
  obtain ⟨⟨u8, rfl⟩, e⟩ := p
  have hS := ex_l e hS
  have hrow := e _ _ hrow
  have hsz := e _ _ hsz
  have hnum := e _ _ hnum
  have hstr := e _ _ hstr
  -- few
  refine q_asgL (el_digs (c := cell ns 5) (ss := szFew) (ev_call (ea_cons (ev_var rfl) (ea_cons ev_c ea_nil)) (sv_cell hS h63 (by decide))) (el_lst (ea_cons ev_c (ea_cons ev_c (ea_cons ev_c (ea_cons ev_c (ea_cons ev_c (ea_cons ev_c (ea_cons ev_c (ea_cons ev_c ea_nil)))))))) (by show 8 ≤ 100000; decide)) (by decide) ok_szFew) fun fw H14 _ e hfew => ?_
  have hS := ex_l e hS
  have hnum := e _ _ hnum
  have hstr := e _ _ hstr
  have f0 := dg (c := cell ns 5) ok_szFew 0 (by decide)
  have ef0 : 1 + at0 (digits (cell ns 5) szFew) 0 = ((1 + (at0 (digits (cell ns 5) szFew) 0).toNat : Nat) : Int) := by omega
  obtain ⟨k1, k2, ecut⟩ := cut_of ((digits (cell ns 5) szFew).map V.int) 1 (1 + (at0 (digits (cell ns 5) szFew) 0).toNat)
  rw [← List.map_drop, ← List.map_take] at ecut
  have fl8 : (digits (cell ns 5) szFew).length = 8 := digits_len _ _
  refine q_skip (et_is (et_not (et_B (ev_callL (xs := (((digits (cell ns 5) szFew).drop k1).take k2).map V.int) (by rw [← ecut]; exact el_sl (ev_var rfl) (eo_some ev_c) (eo_some (ev_is (ev_add ev_c (ev_atI (K := K) (i := 0) (sq_of hfew) (by rw [fl8]; decide) rfl (ev_var rfl) ev_c)) (by rw [ef0]))) (sq_of hfew)) (fun p H15 e15 h15 => sv_sm (sq_of h15) (by rw [List.length_take, List.length_drop, fl8]; omega) (fun x hx => fewOk _ (List.mem_of_mem_drop (List.mem_of_mem_take hx))))))) rfl) fun H15 e => ?_
  have hS := ex_l e hS
  have hnum := e _ _ hnum
  have hstr := e _ _ hstr
  -- part, parts
  refine q_asgL (el_digs (c := cell ns 6) (ss := szPart) (ev_call (ea_cons (ev_var rfl) (ea_cons ev_c ea_nil)) (sv_cell hS h63 (by decide))) ?_ (by decide) ok_szPart) fun pt H16 _ e hpart => ?_
  · have g := el_catL (σ := ([some (.ref a), some (.ref r), some (.ref z), some (.int M), some (.int (bitsOf M)), some (.int G), u6, u7, u8, some (.ref d), some (.ref l2), some (.ref st), u12, u13, none, none, none] : L2.St).set 14 (some (.ref fw))) (H := H15) (el_lst (ea_cons (ev_c (v := .int 8)) (ea_cons (ev_c (v := .int 401)) (ea_cons (ev_c (v := .int 10)) (ea_cons (ev_c (v := .int 1000000001)) (ea_cons (ev_c (v := .int 1000000001)) (ea_cons (ev_c (v := .int 4)) (ea_cons (ev_c (v := .int 401)) (ea_cons (ev_c (v := .int 3)) ea_nil)))))))) (by decide)) (el_rep (n := 30) (el_lst (ea_cons (ev_c (v := .int 10)) ea_nil) (by decide)) (fun H2 _ => ev_c (v := .int 30)) (by decide) (by decide)) (by decide)
    exact g
  have hS := ex_l e hS
  have hnum := e _ _ hnum
  have hstr := e _ _ hstr
  refine q_callD (ea_cons (ev_var rfl) (ea_cons (ev_call (ea_cons (ev_var rfl) (ea_cons ev_c ea_nil)) (sv_cell hS h63 (by decide))) ea_nil)) fun H17 e => ?_
  refine ⟨pt, digits (cell ns 6) szPart, cell ns 7, rfl, sq_of (e _ _ hpart), rowB _, fun ps hps pl H18 _ e2 hpl => ?_⟩
  have e := e.trans e2
  have hS := ex_l e hS
  have hnum := e _ _ hnum
  have hstr := e _ _ hstr
  have hpart := e _ _ hpart
  have pz : ps.length ≤ 1000 := Nat.le_trans hps.len (by decide)
  have p0 : ∀ x ∈ ps, 0 ≤ x := fun x hx => (hps.bd x hx).1
  have RB := rowB (cell ns 6)
  refine q_skip (et_is (et_not (et_B (ev_call (ea_cons (ev_call (ea_cons (ev_var rfl) (ea_cons (ev_var rfl) ea_nil)) (sv_let (r := digits (cell ns 6) szPart) (ps := ps) (sq_of hpart) (sq_of hpl) RB hps)) (ea_cons (ev_var rfl) ea_nil)) (sv_ft (sq_of hpl) pz p0 (let_nn RB))))) rfl) fun H19 e => ?_
  have hnum := e _ _ hnum
  have hstr := e _ _ hstr
  have hpart := e _ _ hpart
  have hpl := e _ _ hpl
  -- asked again by name
  refine q_forR1 (n := (nums.length : Int)) (ea_cons (ev_is (ev_cb (ea_cons (ev_var rfl) ea_nil) (rc_lenL (sq_of hnum))) (by rw [List.length_map])) ea_nil) (by omega) (fun i σ' H' => (∃ v8, σ' = [some (.ref a), some (.ref r), some (.ref z), some (.int M), some (.int (bitsOf M)), some (.int G), u6, u7, v8, some (.ref d), some (.ref l2), some (.ref st), u12, u13, some (.ref fw), some (.ref pt), some (.ref pl)]) ∧ Ex H19 H') ?_ ?_ ?_
  · intro H20 e20
    exact ⟨⟨u8, rfl⟩, e20⟩
  · intro i σ' H' hi p
    obtain ⟨⟨v8, rfl⟩, e20⟩ := p
    have hi' : i < nums.length := by omega
    obtain ⟨n0, n1⟩ := hN.bd _ (at0_mem hi')
    refine s_skip (et_is (et_test (ev_op (x := .str (nb (at0 nums i) M)) (y := .str (nb (at0 nums i) M)) (ev_callN0 (ea_cons (ev_var rfl) (ea_cons (ev_at (ns := nums) (sq_of (e20 _ _ hnum)) hi' (ev_var rfl) (ev_var rfl)) ea_nil)) rfl (sv_nb n0 n1 mN)) (ev_op (ev_var rfl) (ev_var rfl) (rv_ixL (sq_of (e20 _ _ hstr)) (at_of (j := i) rfl (bitStrsAt hi')))) (rv_ne rfl))) (by simp)) fun H21 e21 => ?_
    exact ⟨⟨some (.int (i : Int)), rfl⟩, e20.trans e21⟩
  intro σ' H20 p
  obtain ⟨⟨v8, rfl⟩, e⟩ := p
  have hpart := e _ _ hpart
  have hpl := e _ _ hpl
  exact s_ret (ev_is (ev_andV (a := true) (b := true) (ev_call (ea_cons (ev_var rfl) ea_nil) (sv_wr m1 mW)) (fun _ => ev_call (ea_cons (ev_call (ea_cons (ev_var rfl) (ea_cons (ev_var rfl) ea_nil)) (sv_let (r := digits (cell ns 6) szPart) (ps := ps) (sq_of hpart) (sq_of hpl) RB hps)) (ea_cons (ev_var rfl) ea_nil)) (sv_ft (sq_of hpl) pz p0 (let_nn RB)))) rfl) fun H21 _ => q H21
end
end K02
namespace K02
open PySem PySem.Spec PyProof.Rows L2 Evl
theorem at_mk {K : PySem.W.Frag} {h : Heap} {mg : Str → Option Value} {x : Str} {st : Stmt} {f : Addr} {oc : Value} {od an : Option Addr} {osl : Array (Option Value)} {kV doc pm cdv ct : Value} (X : K.In h) (G : h.Ns mainGlobals mg)
    (a : PySem.W.nsIn K mainGlobals x = some (some (.ref f))) (l : K.lookup f = some ⟨oc, od, .func (PySem.W.fnOf x x (defArgs st) (defBody st) (defScope st) .none kV doc pm an cdv ct), osl⟩) (c : PySem.W.codeIn K cdv x = true) (k : PySem.W.keepIn K (.ref f) = true) : At K mg x st :=
  ⟨⟨f, _, fun_mk l c k, PySem.W.mg_of X G a⟩⟩
theorem all_mk {l : PySem.W.OpenLaw} {w : World} {K : PySem.W.Frag} {h : Heap} {mg : Str → Option Value} {fa : Addr} (X : K.In h) (G : h.Ns mainGlobals mg) (hfa : mg "law" = some (.ref fa))
    {f0 : Addr} {od0 an0 : Option Addr} {sl0 : Array (Option Value)} {oc0 kV0 dc0 pm0 cd0 ct0 : Value}
    {f1 : Addr} {od1 an1 : Option Addr} {sl1 : Array (Option Value)} {oc1 kV1 dc1 pm1 cd1 ct1 : Value}
    {f2 : Addr} {od2 an2 : Option Addr} {sl2 : Array (Option Value)} {oc2 kV2 dc2 pm2 cd2 ct2 : Value}
    {f3 : Addr} {od3 an3 : Option Addr} {sl3 : Array (Option Value)} {oc3 kV3 dc3 pm3 cd3 ct3 : Value}
    {f4 : Addr} {od4 an4 : Option Addr} {sl4 : Array (Option Value)} {oc4 kV4 dc4 pm4 cd4 ct4 : Value}
    {f5 : Addr} {od5 an5 : Option Addr} {sl5 : Array (Option Value)} {oc5 kV5 dc5 pm5 cd5 ct5 : Value}
    {f6 : Addr} {od6 an6 : Option Addr} {sl6 : Array (Option Value)} {oc6 kV6 dc6 pm6 cd6 ct6 : Value}
    {f7 : Addr} {od7 an7 : Option Addr} {sl7 : Array (Option Value)} {oc7 kV7 dc7 pm7 cd7 ct7 : Value}
    {f8 : Addr} {od8 an8 : Option Addr} {sl8 : Array (Option Value)} {oc8 kV8 dc8 pm8 cd8 ct8 : Value}
    {f9 : Addr} {od9 an9 : Option Addr} {sl9 : Array (Option Value)} {oc9 kV9 dc9 pm9 cd9 ct9 : Value}
    {f10 : Addr} {od10 an10 : Option Addr} {sl10 : Array (Option Value)} {oc10 kV10 dc10 pm10 cd10 ct10 : Value}
    {f11 : Addr} {od11 an11 : Option Addr} {sl11 : Array (Option Value)} {oc11 kV11 dc11 pm11 cd11 ct11 : Value}
    {f12 : Addr} {od12 an12 : Option Addr} {sl12 : Array (Option Value)} {oc12 kV12 dc12 pm12 cd12 ct12 : Value}
    {f13 : Addr} {od13 an13 : Option Addr} {sl13 : Array (Option Value)} {oc13 kV13 dc13 pm13 cd13 ct13 : Value}
    {f14 : Addr} {od14 an14 : Option Addr} {sl14 : Array (Option Value)} {oc14 kV14 dc14 pm14 cd14 ct14 : Value}
    {f15 : Addr} {od15 an15 : Option Addr} {sl15 : Array (Option Value)} {oc15 kV15 dc15 pm15 cd15 ct15 : Value}
    {f16 : Addr} {od16 an16 : Option Addr} {sl16 : Array (Option Value)} {oc16 kV16 dc16 pm16 cd16 ct16 : Value}
    {f17 : Addr} {od17 an17 : Option Addr} {sl17 : Array (Option Value)} {oc17 kV17 dc17 pm17 cd17 ct17 : Value}
    {f18 : Addr} {od18 an18 : Option Addr} {sl18 : Array (Option Value)} {oc18 kV18 dc18 pm18 cd18 ct18 : Value}
    {f19 : Addr} {od19 an19 : Option Addr} {sl19 : Array (Option Value)} {oc19 kV19 dc19 pm19 cd19 ct19 : Value}
    {f20 : Addr} {od20 an20 : Option Addr} {sl20 : Array (Option Value)} {oc20 kV20 dc20 pm20 cd20 ct20 : Value}
    (a0 : PySem.W.nsIn K mainGlobals "width" = some (some (.ref f0)))
    (l0 : K.lookup f0 = some ⟨oc0, od0, .func (PySem.W.fnOf "width" "width" (defArgs s_width) (defBody s_width) (defScope s_width) .none kV0 dc0 pm0 an0 cd0 ct0), sl0⟩)
    (c0 : PySem.W.codeIn K cd0 "width" = true) (k0 : PySem.W.keepIn K (.ref f0) = true)
    (a1 : PySem.W.nsIn K mainGlobals "number_bits" = some (some (.ref f1)))
    (l1 : K.lookup f1 = some ⟨oc1, od1, .func (PySem.W.fnOf "number_bits" "number_bits" (defArgs s_number_bits) (defBody s_number_bits) (defScope s_number_bits) .none kV1 dc1 pm1 an1 cd1 ct1), sl1⟩)
    (c1 : PySem.W.codeIn K cd1 "number_bits" = true) (k1 : PySem.W.keepIn K (.ref f1) = true)
    (a2 : PySem.W.nsIn K mainGlobals "fill" = some (some (.ref f2)))
    (l2 : K.lookup f2 = some ⟨oc2, od2, .func (PySem.W.fnOf "fill" "fill" (defArgs s_fill) (defBody s_fill) (defScope s_fill) .none kV2 dc2 pm2 an2 cd2 ct2), sl2⟩)
    (c2 : PySem.W.codeIn K cd2 "fill" = true) (k2 : PySem.W.keepIn K (.ref f2) = true)
    (a3 : PySem.W.nsIn K mainGlobals "_law_whole" = some (some (.ref f3)))
    (l3 : K.lookup f3 = some ⟨oc3, od3, .func (PySem.W.fnOf "_law_whole" "_law_whole" (defArgs s__law_whole) (defBody s__law_whole) (defScope s__law_whole) .none kV3 dc3 pm3 an3 cd3 ct3), sl3⟩)
    (c3 : PySem.W.codeIn K cd3 "_law_whole" = true) (k3 : PySem.W.keepIn K (.ref f3) = true)
    (a4 : PySem.W.nsIn K mainGlobals "_law_cell" = some (some (.ref f4)))
    (l4 : K.lookup f4 = some ⟨oc4, od4, .func (PySem.W.fnOf "_law_cell" "_law_cell" (defArgs s__law_cell) (defBody s__law_cell) (defScope s__law_cell) .none kV4 dc4 pm4 an4 cd4 ct4), sl4⟩)
    (c4 : PySem.W.codeIn K cd4 "_law_cell" = true) (k4 : PySem.W.keepIn K (.ref f4) = true)
    (a5 : PySem.W.nsIn K mainGlobals "_law_digits" = some (some (.ref f5)))
    (l5 : K.lookup f5 = some ⟨oc5, od5, .func (PySem.W.fnOf "_law_digits" "_law_digits" (defArgs s__law_digits) (defBody s__law_digits) (defScope s__law_digits) .none kV5 dc5 pm5 an5 cd5 ct5), sl5⟩)
    (c5 : PySem.W.codeIn K cd5 "_law_digits" = true) (k5 : PySem.W.keepIn K (.ref f5) = true)
    (a6 : PySem.W.nsIn K mainGlobals "_law_power" = some (some (.ref f6)))
    (l6 : K.lookup f6 = some ⟨oc6, od6, .func (PySem.W.fnOf "_law_power" "_law_power" (defArgs s__law_power) (defBody s__law_power) (defScope s__law_power) .none kV6 dc6 pm6 an6 cd6 ct6), sl6⟩)
    (c6 : PySem.W.codeIn K cd6 "_law_power" = true) (k6 : PySem.W.keepIn K (.ref f6) = true)
    (a7 : PySem.W.nsIn K mainGlobals "_law_big" = some (some (.ref f7)))
    (l7 : K.lookup f7 = some ⟨oc7, od7, .func (PySem.W.fnOf "_law_big" "_law_big" (defArgs s__law_big) (defBody s__law_big) (defScope s__law_big) .none kV7 dc7 pm7 an7 cd7 ct7), sl7⟩)
    (c7 : PySem.W.codeIn K cd7 "_law_big" = true) (k7 : PySem.W.keepIn K (.ref f7) = true)
    (a8 : PySem.W.nsIn K mainGlobals "_law_many" = some (some (.ref f8)))
    (l8 : K.lookup f8 = some ⟨oc8, od8, .func (PySem.W.fnOf "_law_many" "_law_many" (defArgs s__law_many) (defBody s__law_many) (defScope s__law_many) .none kV8 dc8 pm8 an8 cd8 ct8), sl8⟩)
    (c8 : PySem.W.codeIn K cd8 "_law_many" = true) (k8 : PySem.W.keepIn K (.ref f8) = true)
    (a9 : PySem.W.nsIn K mainGlobals "_law_width" = some (some (.ref f9)))
    (l9 : K.lookup f9 = some ⟨oc9, od9, .func (PySem.W.fnOf "_law_width" "_law_width" (defArgs s__law_width) (defBody s__law_width) (defScope s__law_width) .none kV9 dc9 pm9 an9 cd9 ct9), sl9⟩)
    (c9 : PySem.W.codeIn K cd9 "_law_width" = true) (k9 : PySem.W.keepIn K (.ref f9) = true)
    (a10 : PySem.W.nsIn K mainGlobals "_law_widths_right" = some (some (.ref f10)))
    (l10 : K.lookup f10 = some ⟨oc10, od10, .func (PySem.W.fnOf "_law_widths_right" "_law_widths_right" (defArgs s__law_widths_right) (defBody s__law_widths_right) (defScope s__law_widths_right) .none kV10 dc10 pm10 an10 cd10 ct10), sl10⟩)
    (c10 : PySem.W.codeIn K cd10 "_law_widths_right" = true) (k10 : PySem.W.keepIn K (.ref f10) = true)
    (a11 : PySem.W.nsIn K mainGlobals "_law_numbers" = some (some (.ref f11)))
    (l11 : K.lookup f11 = some ⟨oc11, od11, .func (PySem.W.fnOf "_law_numbers" "_law_numbers" (defArgs s__law_numbers) (defBody s__law_numbers) (defScope s__law_numbers) .none kV11 dc11 pm11 an11 cd11 ct11), sl11⟩)
    (c11 : PySem.W.codeIn K cd11 "_law_numbers" = true) (k11 : PySem.W.keepIn K (.ref f11) = true)
    (a12 : PySem.W.nsIn K mainGlobals "_law_value" = some (some (.ref f12)))
    (l12 : K.lookup f12 = some ⟨oc12, od12, .func (PySem.W.fnOf "_law_value" "_law_value" (defArgs s__law_value) (defBody s__law_value) (defScope s__law_value) .none kV12 dc12 pm12 an12 cd12 ct12), sl12⟩)
    (c12 : PySem.W.codeIn K cd12 "_law_value" = true) (k12 : PySem.W.keepIn K (.ref f12) = true)
    (a13 : PySem.W.nsIn K mainGlobals "_law_weight" = some (some (.ref f13)))
    (l13 : K.lookup f13 = some ⟨oc13, od13, .func (PySem.W.fnOf "_law_weight" "_law_weight" (defArgs s__law_weight) (defBody s__law_weight) (defScope s__law_weight) .none kV13 dc13 pm13 an13 cd13 ct13), sl13⟩)
    (c13 : PySem.W.codeIn K cd13 "_law_weight" = true) (k13 : PySem.W.keepIn K (.ref f13) = true)
    (a14 : PySem.W.nsIn K mainGlobals "_law_is_most" = some (some (.ref f14)))
    (l14 : K.lookup f14 = some ⟨oc14, od14, .func (PySem.W.fnOf "_law_is_most" "_law_is_most" (defArgs s__law_is_most) (defBody s__law_is_most) (defScope s__law_is_most) .none kV14 dc14 pm14 an14 cd14 ct14), sl14⟩)
    (c14 : PySem.W.codeIn K cd14 "_law_is_most" = true) (k14 : PySem.W.keepIn K (.ref f14) = true)
    (a15 : PySem.W.nsIn K mainGlobals "_law_best" = some (some (.ref f15)))
    (l15 : K.lookup f15 = some ⟨oc15, od15, .func (PySem.W.fnOf "_law_best" "_law_best" (defArgs s__law_best) (defBody s__law_best) (defScope s__law_best) .none kV15 dc15 pm15 an15 cd15 ct15), sl15⟩)
    (c15 : PySem.W.codeIn K cd15 "_law_best" = true) (k15 : PySem.W.keepIn K (.ref f15) = true)
    (a16 : PySem.W.nsIn K mainGlobals "_law_counts" = some (some (.ref f16)))
    (l16 : K.lookup f16 = some ⟨oc16, od16, .func (PySem.W.fnOf "_law_counts" "_law_counts" (defArgs s__law_counts) (defBody s__law_counts) (defScope s__law_counts) .none kV16 dc16 pm16 an16 cd16 ct16), sl16⟩)
    (c16 : PySem.W.codeIn K cd16 "_law_counts" = true) (k16 : PySem.W.keepIn K (.ref f16) = true)
    (a17 : PySem.W.nsIn K mainGlobals "_law_letters" = some (some (.ref f17)))
    (l17 : K.lookup f17 = some ⟨oc17, od17, .func (PySem.W.fnOf "_law_letters" "_law_letters" (defArgs s__law_letters) (defBody s__law_letters) (defScope s__law_letters) .none kV17 dc17 pm17 an17 cd17 ct17), sl17⟩)
    (c17 : PySem.W.codeIn K cd17 "_law_letters" = true) (k17 : PySem.W.keepIn K (.ref f17) = true)
    (a18 : PySem.W.nsIn K mainGlobals "_law_fill_told" = some (some (.ref f18)))
    (l18 : K.lookup f18 = some ⟨oc18, od18, .func (PySem.W.fnOf "_law_fill_told" "_law_fill_told" (defArgs s__law_fill_told) (defBody s__law_fill_told) (defScope s__law_fill_told) .none kV18 dc18 pm18 an18 cd18 ct18), sl18⟩)
    (c18 : PySem.W.codeIn K cd18 "_law_fill_told" = true) (k18 : PySem.W.keepIn K (.ref f18) = true)
    (a19 : PySem.W.nsIn K mainGlobals "_law_small_fills" = some (some (.ref f19)))
    (l19 : K.lookup f19 = some ⟨oc19, od19, .func (PySem.W.fnOf "_law_small_fills" "_law_small_fills" (defArgs s__law_small_fills) (defBody s__law_small_fills) (defScope s__law_small_fills) .none kV19 dc19 pm19 an19 cd19 ct19), sl19⟩)
    (c19 : PySem.W.codeIn K cd19 "_law_small_fills" = true) (k19 : PySem.W.keepIn K (.ref f19) = true)
    (a20 : PySem.W.nsIn K mainGlobals "law" = some (some (.ref f20)))
    (l20 : K.lookup f20 = some ⟨oc20, od20, .func (PySem.W.fnOf "law" "law" (defArgs s_law) (defBody s_law) (defScope s_law) .none kV20 dc20 pm20 an20 cd20 ct20), sl20⟩)
    (c20 : PySem.W.codeIn K cd20 "law" = true) (k20 : PySem.W.keepIn K (.ref f20) = true)
    (z_bool : PySem.W.nsIn K mainGlobals "bool" = some none)
    (z_enumerate : PySem.W.nsIn K mainGlobals "enumerate" = some none)
    (z_int : PySem.W.nsIn K mainGlobals "int" = some none)
    (z_isinstance : PySem.W.nsIn K mainGlobals "isinstance" = some none)
    (z_len : PySem.W.nsIn K mainGlobals "len" = some none)
    (z_list : PySem.W.nsIn K mainGlobals "list" = some none)
    (z_max : PySem.W.nsIn K mainGlobals "max" = some none)
    (z_min : PySem.W.nsIn K mainGlobals "min" = some none)
    (z_range : PySem.W.nsIn K mainGlobals "range" = some none)
    (z_sorted : PySem.W.nsIn K mainGlobals "sorted" = some none)
    (z_str : PySem.W.nsIn K mainGlobals "str" = some none)
    (z_sum : PySem.W.nsIn K mainGlobals "sum" = some none)
    (z_tuple : PySem.W.nsIn K mainGlobals "tuple" = some none)
    : ∃ fd : FuncData, (∀ (s : Shared) (v : Value), BindsTo s fd ⟨[v], []⟩ [("script", v)]) ∧ ∀ base : Heap, K.In base → base.Ns mainGlobals mg → FnOk l.prog w K mg base CX0 5 fa fd ["script"] (spLaw K) := by
  have e := hfa.symm.trans (PySem.W.mg_of X G a20)
  cases e
  have T : Top mg := { z_bool := PySem.W.mg_none_of X G z_bool, z_enumerate := PySem.W.mg_none_of X G z_enumerate, z_int := PySem.W.mg_none_of X G z_int, z_isinstance := PySem.W.mg_none_of X G z_isinstance, z_len := PySem.W.mg_none_of X G z_len, z_list := PySem.W.mg_none_of X G z_list, z_max := PySem.W.mg_none_of X G z_max, z_min := PySem.W.mg_none_of X G z_min, z_range := PySem.W.mg_none_of X G z_range, z_sorted := PySem.W.mg_none_of X G z_sorted, z_str := PySem.W.mg_none_of X G z_str, z_sum := PySem.W.mg_none_of X G z_sum, z_tuple := PySem.W.mg_none_of X G z_tuple }
  have A_width := at_mk (st := s_width) X G a0 l0 c0 k0
  have A_number_bits := at_mk (st := s_number_bits) X G a1 l1 c1 k1
  have A_fill := at_mk (st := s_fill) X G a2 l2 c2 k2
  have A__law_whole := at_mk (st := s__law_whole) X G a3 l3 c3 k3
  have A__law_cell := at_mk (st := s__law_cell) X G a4 l4 c4 k4
  have A__law_digits := at_mk (st := s__law_digits) X G a5 l5 c5 k5
  have A__law_power := at_mk (st := s__law_power) X G a6 l6 c6 k6
  have A__law_big := at_mk (st := s__law_big) X G a7 l7 c7 k7
  have A__law_many := at_mk (st := s__law_many) X G a8 l8 c8 k8
  have A__law_width := at_mk (st := s__law_width) X G a9 l9 c9 k9
  have A__law_widths_right := at_mk (st := s__law_widths_right) X G a10 l10 c10 k10
  have A__law_numbers := at_mk (st := s__law_numbers) X G a11 l11 c11 k11
  have A__law_value := at_mk (st := s__law_value) X G a12 l12 c12 k12
  have A__law_weight := at_mk (st := s__law_weight) X G a13 l13 c13 k13
  have A__law_is_most := at_mk (st := s__law_is_most) X G a14 l14 c14 k14
  have A__law_best := at_mk (st := s__law_best) X G a15 l15 c15 k15
  have A__law_counts := at_mk (st := s__law_counts) X G a16 l16 c16 k16
  have A__law_letters := at_mk (st := s__law_letters) X G a17 l17 c17 k17
  have A__law_fill_told := at_mk (st := s__law_fill_told) X G a18 l18 c18 k18
  have A__law_small_fills := at_mk (st := s__law_small_fills) X G a19 l19 c19 k19
  refine ⟨PySem.W.fnOf "law" "law" (defArgs s_law) (defBody s_law) (defScope s_law) .none kV20 dc20 pm20 an20 cd20 ct20, fun s v => .of_eq rfl, fun base _ _ => ?_⟩
  have h_width := has_width (P := l.prog) (w := w) (base := base) A_width
  have h_power := has_power (P := l.prog) (w := w) (base := base) A__law_power T
  have h_whole := has_whole (P := l.prog) (w := w) (base := base) A__law_whole T
  have h_cell := has_cell (P := l.prog) (w := w) (base := base) A__law_cell T
  have h_digits := has_digits (P := l.prog) (w := w) (base := base) A__law_digits T
  have h_big := has_big (P := l.prog) (w := w) (base := base) A__law_big T
  have h_many := has_many A__law_many T h_power h_big
  have h_lw := has_lw (P := l.prog) (w := w) (base := base) A__law_width T
  have h_wr := has_wr A__law_widths_right T h_width h_whole h_lw
  have h_fill := has_fill (P := l.prog) (w := w) (base := base) A_fill T
  have h_nb := has_nb A_number_bits T h_width
  have h_val := has_val (P := l.prog) (w := w) (base := base) A__law_value T
  have h_wt := has_wt (P := l.prog) (w := w) (base := base) A__law_weight T
  have h_most := has_most A__law_is_most T h_whole h_wt
  have h_ft := has_ft A__law_fill_told T h_fill h_most
  have h_let := has_let A__law_letters T h_wt
  have h_nums := has_nums (P := l.prog) (w := w) (base := base) A__law_numbers T
  have h_best := has_best (P := l.prog) (w := w) (base := base) A__law_best T
  have h_sm := has_sm A__law_small_fills T h_best h_fill h_ft
  have h_counts := has_counts A__law_counts T h_power h_digits
  exact ok_law (fun_mk (st := s_law) l20 c20 k20) T h_digits h_cell h_many h_lw h_wr h_nb h_power h_width h_whole h_big h_nums h_val h_sm h_counts h_let h_ft
theorem walk {l : PySem.W.OpenLaw} {q : Program} {loose : List Str} {XP : (Str → Option Value) → Heap → Prop} {YP : World → Heap → Prop} {d : DefRec} {K : Params → PySem.W.Frag} (hn : l.most = some 63) (hdf : d.params.defaults = [])
    (hY : ∀ (w : World) (h : Heap), YP w h → (K w.params).In h)
    (F : ∀ (w : World) (mg : Str → Option Value) (fa : Addr) (h : Heap), (K w.params).In h → h.Ns mainGlobals mg → mg d.name = some (.ref fa) →
      ∃ fd : FuncData, (∀ (s : Shared) (u : Value), BindsTo s fd ⟨[u], []⟩ [("script", u)]) ∧ ∀ base : Heap, (K w.params).In base → base.Ns mainGlobals mg → FnOk l.prog w (K w.params) mg base CX0 5 fa fd ["script"] (spLaw (K w.params))) :
    PySem.W.WalkO q loose XP YP l.row.toRowW d [] (fun f vs => PySem.call f vs) :=
  L2.walk_of (n := 63) (k := 5) (x := "script") (CX := fun _ => CX0) (sp := fun w => spLaw (K w.params)) hn (by decide) hdf ⟨rfl, by decide, by decide⟩ hY F (fun _ _ a ns hl _ hS => ⟨a, ns, rfl, hS, hl, fun _ => rfl⟩) fun _ _ _ _ _ z => z
end K02
open PySem PySem.W PyProof.Rows
set_option maxRecDepth 100000 in
set_option maxHeartbeats 0 in
theorem PySem.Challenge.cw_outpressed_k02_numbers_in_bits_and_fills_holds : PySem.Challenge.rw_outpressed_k02_numbers_in_bits_and_fills.Holds := by
  w_on; o_law; k_head; (case hw => w_witness2)
  k_fill
  refine K02.walk (l := PySem.Challenge.rw_outpressed_k02_numbers_in_bits_and_fills) rfl rfl (fun w h Y => PySem.W.kIn_of Y) ?F
  case F =>
    intro w mg fa h KX G hmg
    refine' K02.all_mk KX G hmg ?a0 ?l0 ?c0 ?k0 ?a1 ?l1 ?c1 ?k1 ?a2 ?l2 ?c2 ?k2 ?a3 ?l3 ?c3 ?k3 ?a4 ?l4 ?c4 ?k4 ?a5 ?l5 ?c5 ?k5 ?a6 ?l6 ?c6 ?k6 ?a7 ?l7 ?c7 ?k7 ?a8 ?l8 ?c8 ?k8 ?a9 ?l9 ?c9 ?k9 ?a10 ?l10 ?c10 ?k10 ?a11 ?l11 ?c11 ?k11 ?a12 ?l12 ?c12 ?k12 ?a13 ?l13 ?c13 ?k13 ?a14 ?l14 ?c14 ?k14 ?a15 ?l15 ?c15 ?k15 ?a16 ?l16 ?c16 ?k16 ?a17 ?l17 ?c17 ?k17 ?a18 ?l18 ?c18 ?k18 ?a19 ?l19 ?c19 ?k19 ?a20 ?l20 ?c20 ?k20 ?z_bool ?z_enumerate ?z_int ?z_isinstance ?z_len ?z_list ?z_max ?z_min ?z_range ?z_sorted ?z_str ?z_sum ?z_tuple
    (case a0 => k_is)
    (case l0 => k_is)
    (case c0 => k_is)
    (case k0 => k_is)
    (case a1 => k_is)
    (case l1 => k_is)
    (case c1 => k_is)
    (case k1 => k_is)
    (case a2 => k_is)
    (case l2 => k_is)
    (case c2 => k_is)
    (case k2 => k_is)
    (case a3 => k_is)
    (case l3 => k_is)
    (case c3 => k_is)
    (case k3 => k_is)
    (case a4 => k_is)
    (case l4 => k_is)
    (case c4 => k_is)
    (case k4 => k_is)
    (case a5 => k_is)
    (case l5 => k_is)
    (case c5 => k_is)
    (case k5 => k_is)
    (case a6 => k_is)
    (case l6 => k_is)
    (case c6 => k_is)
    (case k6 => k_is)
    (case a7 => k_is)
    (case l7 => k_is)
    (case c7 => k_is)
    (case k7 => k_is)
    (case a8 => k_is)
    (case l8 => k_is)
    (case c8 => k_is)
    (case k8 => k_is)
    (case a9 => k_is)
    (case l9 => k_is)
    (case c9 => k_is)
    (case k9 => k_is)
    (case a10 => k_is)
    (case l10 => k_is)
    (case c10 => k_is)
    (case k10 => k_is)
    (case a11 => k_is)
    (case l11 => k_is)
    (case c11 => k_is)
    (case k11 => k_is)
    (case a12 => k_is)
    (case l12 => k_is)
    (case c12 => k_is)
    (case k12 => k_is)
    (case a13 => k_is)
    (case l13 => k_is)
    (case c13 => k_is)
    (case k13 => k_is)
    (case a14 => k_is)
    (case l14 => k_is)
    (case c14 => k_is)
    (case k14 => k_is)
    (case a15 => k_is)
    (case l15 => k_is)
    (case c15 => k_is)
    (case k15 => k_is)
    (case a16 => k_is)
    (case l16 => k_is)
    (case c16 => k_is)
    (case k16 => k_is)
    (case a17 => k_is)
    (case l17 => k_is)
    (case c17 => k_is)
    (case k17 => k_is)
    (case a18 => k_is)
    (case l18 => k_is)
    (case c18 => k_is)
    (case k18 => k_is)
    (case a19 => k_is)
    (case l19 => k_is)
    (case c19 => k_is)
    (case k19 => k_is)
    (case a20 => k_is)
    (case l20 => k_is)
    (case c20 => k_is)
    (case k20 => k_is)
    (case z_bool => k_is)
    (case z_enumerate => k_is)
    (case z_int => k_is)
    (case z_isinstance => k_is)
    (case z_len => k_is)
    (case z_list => k_is)
    (case z_max => k_is)
    (case z_min => k_is)
    (case z_range => k_is)
    (case z_sorted => k_is)
    (case z_str => k_is)
    (case z_sum => k_is)
    (case z_tuple => k_is)

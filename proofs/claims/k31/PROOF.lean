import PyProof.Rows.All
import Wide.All
import OpenK.AllK
import Wide.FinOn
import HandS.ForMost
import HandS.Evl
import HandS.WideBits
import HandS.IsInst
import HandS.Defaults
import HandS.StrMore
import HandS.Conv
import HandS.Walk
import HandS.FStr
import HandS.Style
import HandS.Replace
import HandS.Strs
import PyProof.FString3
import PyProof.SliceStr2
import KE.GoesEnumKw
import KE.GoesZip
import KE.LtData
import KE.GoesMore
import PyProof.EnumMake
import PyProof.Rows.StrIntSpec
import HandS.Codes
import PyProof.Rows.StrRev
import PyProof.StrLawsIn
import PyProof.StrBlock2
import HandS.DictTup
import HandS.TupLen
import PyProof.StrLawsFrom
import PyProof.Draws
import PyProof.DictMoreH
import HandS.Gcd
import Flt.RightSqrt
import PySem.Challenge.RW_outpressed_k31_overtaking_number
set_option Elab.async false
set_option linter.all false
set_option maxRecDepth 100000
set_option maxHeartbeats 8000000
namespace Ver
open PySem PySem.Spec PyProof.Rows L2 Evl
/-! ### for over a list or a tuple -/
def iSeq (K : PySem.W.Frag) (te : TE) : TI := fun σ H R => te σ H fun x H1 => ∃ a : Addr, x = .ref a ∧ ((∃ xs, SqL K H1 a xs ∧ R (Itl K a) H1) ∨ (∃ xs, SqT K H1 a xs ∧ R (Itt K a) H1))
section
variable {X : Cx}
theorem pi_seq {tg e : Expr} {te : TE} (he : PE X e te) : PI X tg e (iSeq X.K te) := by
  refine ⟨fun pins s σ H R I h => ?_⟩
  refine thn (he.run pins s σ H _ I h) ?_
  intro v s1 got
  obtain ⟨x, H1, I1, r1, a, rfl, q⟩ := got
  cases (show v = Value.ref a from r1)
  have hd : PE X e te := he
  rcases q with ⟨xs, hs, q⟩ | ⟨xs, hs, q⟩
  · obtain ⟨its, _, p, _⟩ := I1.list hs
    refine wpAny_pyIter_list p.isList ?_
    exact pi_one (tk := s1.toks) I1 _ (turn_list a _) ⟨_, Heap.get?_push_size _ rfl, rfl, rfl⟩ q
  · obtain ⟨its, _, p, _⟩ := I1.tuple hs
    refine wpAny_pyIter_tuple (show s1.heap.IsTuple a its.toArray from p) ?_
    exact pi_one (tk := s1.toks) I1 _ (turn_tuple a _) ⟨_, Heap.get?_push_size _ rfl, rfl, rfl⟩ q
/-! ### a < b of data that are alike -/
def rLtD (K : PySem.W.Frag) : R2 := fun x y H Q => ∃ d e, Dp K H x d ∧ Dp K H y e ∧ PySem.W.alike d e = true ∧ d ≠ .none ∧ d.depth ≤ 32 ∧ Q (.bl (PySem.W.dataLt d e)) H
theorem op_ltD (hu : X.A.units + 64 < cLine) : OpR X (compareOp .Lt) (rLtD X.K) := by
  intro pins s σ H x y v u Q I rx ry h
  obtain ⟨d, e, hd, he, al, nn, dep, q⟩ := h
  obtain ⟨as, r1⟩ := Dp.reads I d x v hd rx
  obtain ⟨bs, r2⟩ := Dp.reads I e y u he ry
  have room : X.A.units + min d.depth e.depth < cLine := by
    have := Nat.min_le_left d.depth e.depth
    omega
  have k := PySem.W.rcLt_alike d e X.A s v u as bs r1 r2 al nn room
  exact k X.prog X.w X.xe _ ⟨.bl _, H, I, rfl, q⟩
/-! ### text[::-1]: some text of its signs, no longer -/
def tRevS (te : TE) : TE := fun σ H Q => te σ H fun x H1 => ∃ z : Str, x = .str z ∧ z.length ≤ sizeLine ∧ ∀ y : Str, (∀ c ∈ y.cps.toList, c ∈ z.cps.toList) → y.length ≤ z.length → Q (.str y) H1
end
end Ver
namespace Ver
def at0 (ps : List Int) (i : Nat) : Int := ps.getD i 0
/-! ### strings of bits as lists of codes -/
def bit1 (c : Nat) : Int := if c = 49 then 1 else 0
def val (l : List Nat) : Int := l.foldl (fun v c => v * 2 + bit1 c) 0
def Digs (l : List Nat) : Prop := ∀ c, c ∈ l → c = 48 ∨ c = 49
def p2 : Nat → Int
  | 0 => 1
  | n + 1 => p2 n * 2
theorem p2_pos : ∀ n, 0 < p2 n
  | 0 => by decide
  | n + 1 => by
    have h := p2_pos n
    show 0 < p2 n * 2
    omega
theorem p2_cast : ∀ n, p2 n = ((2 ^ n : Nat) : Int)
  | 0 => rfl
  | n + 1 => by
    show p2 n * 2 = _
    rw [p2_cast n, Nat.pow_succ, Int.natCast_mul]
    rfl
def valR : List Nat → Int
  | [] => 0
  | c :: r => bit1 c * p2 r.length + valR r
theorem fold_val : ∀ (l : List Nat) (a : Int), l.foldl (fun v c => v * 2 + bit1 c) a = a * p2 l.length + valR l
  | [], a => by
    show a = a * 1 + 0
    omega
  | c :: r, a => by
    show r.foldl (fun v c => v * 2 + bit1 c) (a * 2 + bit1 c) = a * (p2 r.length * 2) + (bit1 c * p2 r.length + valR r)
    rw [fold_val r, Int.add_mul]
    have e : a * 2 * p2 r.length = a * (p2 r.length * 2) := by rw [Int.mul_assoc, Int.mul_comm 2]
    rw [e]
    omega
theorem val_R (l : List Nat) : val l = valR l := by
  unfold val
  rw [fold_val l 0]
  omega
theorem valR_bound : ∀ l : List Nat, 0 ≤ valR l ∧ valR l < p2 l.length
  | [] => ⟨Int.le_refl 0, by decide⟩
  | c :: r => by
    obtain ⟨h1, h2⟩ := valR_bound r
    show 0 ≤ bit1 c * p2 r.length + valR r ∧ bit1 c * p2 r.length + valR r < p2 r.length * 2
    unfold bit1
    split
    · omega
    · omega
theorem lex_of_val : ∀ (a b : List Nat), a.length = b.length → Digs a → Digs b → valR a < valR b → a < b
  | [], [], _, _, _, h => absurd h (Int.lt_irrefl 0)
  | [], _ :: _, h, _, _, _ => nomatch h
  | _ :: _, [], h, _, _, _ => nomatch h
  | x :: r, y :: t, hl, ha, hb, hv => by
    have hl2 : r.length = t.length := Nat.succ.inj hl
    have b1 := valR_bound r
    have b2 := valR_bound t
    have hx := ha x (List.mem_cons_self ..)
    have hy := hb y (List.mem_cons_self ..)
    have hv2 : bit1 x * p2 r.length + valR r < bit1 y * p2 t.length + valR t := hv
    rw [← hl2] at hv2 b2
    rw [List.cons_lt_cons_iff]
    rcases hx with rfl | rfl
    · rcases hy with rfl | rfl
      · refine .inr ⟨rfl, lex_of_val r t hl2 (fun c h => ha c (List.mem_cons_of_mem _ h)) (fun c h => hb c (List.mem_cons_of_mem _ h)) ?_⟩
        simp only [bit1] at hv2
        omega
      · exact .inl (by decide)
    · rcases hy with rfl | rfl
      · simp only [bit1] at hv2
        simp at hv2
        omega
      · refine .inr ⟨rfl, lex_of_val r t hl2 (fun c h => ha c (List.mem_cons_of_mem _ h)) (fun c h => hb c (List.mem_cons_of_mem _ h)) ?_⟩
        simp only [bit1] at hv2
        omega
theorem valR_append : ∀ (a b : List Nat), valR (a ++ b) = valR a * p2 b.length + valR b
  | [], b => by
    show valR b = 0 * p2 b.length + valR b
    omega
  | c :: r, b => by
    have ih := valR_append r b
    show bit1 c * p2 (r ++ b).length + valR (r ++ b) = (bit1 c * p2 r.length + valR r) * p2 b.length + valR b
    have e : p2 (r ++ b).length = p2 r.length * p2 b.length := by
      rw [p2_cast, p2_cast, p2_cast, List.length_append, Nat.pow_add, Int.natCast_mul]
    rw [ih, e, Int.add_mul, Int.mul_assoc]
    omega
theorem valR_zeros : ∀ n : Nat, valR (List.replicate n 48) = 0
  | 0 => rfl
  | n + 1 => by
    show bit1 48 * p2 (List.replicate n 48).length + valR (List.replicate n 48) = 0
    rw [valR_zeros n]
    show (0 : Int) * _ + 0 = 0
    omega
def bins (n : Nat) : List Nat := (Nat.toDigits 2 n).map Char.toNat
theorem bins_ok (n : Nat) : Digs (bins n) ∧ valR (bins n) = (n : Int) := by
  induction n using Nat.strongRecOn with
  | ind n ih =>
    unfold bins
    rw [Nat.toDigits_eq_if (by decide)]
    by_cases h : n < 2
    · rw [if_pos h]
      have : n = 0 ∨ n = 1 := by omega
      rcases this with rfl | rfl
      · exact ⟨fun c hc => .inl (List.mem_singleton.mp (show c ∈ [48] from hc)), rfl⟩
      · exact ⟨fun c hc => .inr (List.mem_singleton.mp (show c ∈ [49] from hc)), rfl⟩
    · rw [if_neg h, List.map_append]
      obtain ⟨h1, h2⟩ := ih (n / 2) (by omega)
      have hm : n % 2 = 0 ∨ n % 2 = 1 := by omega
      refine ⟨fun c hc => ?_, ?_⟩
      · rcases List.mem_append.mp hc with hc | hc
        · exact h1 c hc
        · rcases hm with e | e
          · rw [e] at hc
            exact .inl (List.mem_singleton.mp (show c ∈ [48] from hc))
          · rw [e] at hc
            exact .inr (List.mem_singleton.mp (show c ∈ [49] from hc))
      · have e1 : valR (List.map Char.toNat (Nat.toDigits 2 (n / 2))) = ((n / 2 : Nat) : Int) := h2
        rw [valR_append, e1]
        rcases hm with e | e
        · rw [e]
          show ((n / 2 : Nat) : Int) * 2 + 0 = (n : Int)
          omega
        · rw [e]
          show ((n / 2 : Nat) : Int) * 2 + 1 = (n : Int)
          omega
theorem bins_len {n k : Nat} (hk : 0 < k) (h : n < 2 ^ k) : (bins n).length ≤ k := by
  unfold bins
  rw [List.length_map]
  exact (Nat.length_toDigits_le_iff (by decide) hk).mpr h
theorem bins_pos (n : Nat) : 0 < (bins n).length := by
  unfold bins
  rw [List.length_map]
  exact Nat.length_toDigits_pos
/-- n as exactly w bits -/
def nbL (n w : Nat) : List Nat := if w = 0 then [] else List.replicate (w - (bins n).length) 48 ++ bins n
structure Nb (l : List Nat) (n : Int) (w : Nat) : Prop where
  len : l.length = w
  digs : Digs l
  v : valR l = n
theorem nb_ok {n w : Nat} (h : n < 2 ^ w) : Nb (nbL n w) (n : Int) w := by
  unfold nbL
  by_cases c : w = 0
  · subst c
    have : n = 0 := by
      rw [Nat.pow_zero] at h
      omega
    subst this
    exact ⟨rfl, fun c hc => (nomatch hc), rfl⟩
  · rw [if_neg c]
    have hl := bins_len (by omega) h
    obtain ⟨h1, h2⟩ := bins_ok n
    refine ⟨?_, fun d hd => ?_, ?_⟩
    · rw [List.length_append, List.length_replicate]
      omega
    · rcases List.mem_append.mp hd with hd | hd
      · exact .inl (List.eq_of_mem_replicate hd)
      · exact h1 d hd
    · rw [valR_append, valR_zeros, h2]
      omega
end Ver
namespace Ver
open PySem PySem.Spec PyProof.Rows L2 Evl
/-! called with keywords alone -/
section
variable {X : Cx} {CX : CXT} {k : Nat} {f : Addr} {fd : FuncData} {ps ks : List Str} {sp : Sp} {E : XK} {x : Str} {p pos : Pos} {kws : List Keyword} {tk : TA} {g : List Value → List Value → List Value} {gV : List V → List V → List V}
theorem pe_callN0 (F : FnOk X.prog X.w X.K X.mg X.base CX k f fd ps sp) (room : Room k X.A) (gl : Gl X x) (at_ : X.mg x = some (.ref f)) (keep : PySem.W.keepIn X.K (.ref f) = true)
    (bd : KBn X.K fd ps 0 ks g gV) (pass : Passes CX X E) (kw : PK X kws tk)
    (named : (backToKw pos (keywordEach kws X.env)).all (·.1.isSome) = true := by rfl)
    (names : (backToKw pos (keywordEach kws X.env)).filterMap (·.1) = ks := by rfl)
    (nodebug : (x == ("__debug__" : Str)) = false := by decide)
    (plain : ((backTo pos (starEach [] X.env)).any (·.1) || (backToKw pos (keywordEach kws X.env)).any (·.1.isNone)) = false := by rfl) :
    PE X (.Call (.Name x p) [] kws pos) (tCallN 0 ks.length sp gV E tNil tk) := by
  refine ⟨fun pins s σ H Q I h => ?_⟩
  refine wpAny_Call_Name_kw (ld_glob I gl at_ ?_ nodebug)
  refine PySem.W.callWith_KW0 (h₀ := X.base) I.ok.mod.kin keep named ?_ plain
  refine thn (kw.run pos pins s σ H _ I h) ?_
  intro ws s2 got
  obtain ⟨zs, H2, I2, rz, l1, l2, q2⟩ := got
  refine ⟨I2.kIn, ?_⟩
  rw [names]
  exact run_fnN (us := []) (vs := []) F room bd pass I2 .nil rz rfl l2 q2
end
theorem E_of {H : Hp} {p : Addr} {o : HO} (h : H p = none) : Ex H (upd H p o) := Ex.new h
/-! ### calls of built-ins on values -/
section
variable {K : PySem.W.Frag} {H : Hp}
theorem rc_min {i j : Int} : RC (fun xs H Q => ∃ i j, xs = [V.int i, V.int j] ∧ Q (V.int (if j < i then j else i)) H) [.int i, .int j] H (.int (min i j)) := fun H1 _ Q q =>
  ⟨i, j, rfl, by
    have e : (if j < i then j else i) = min i j := by
      split <;> omega
    rw [e]
    exact q H1 (Ex.refl H1)⟩
theorem rc_max {i j : Int} : RC (fun xs H Q => ∃ i j, xs = [V.int i, V.int j] ∧ Q (V.int (if j > i then j else i)) H) [.int i, .int j] H (.int (max i j)) := fun H1 _ Q q =>
  ⟨i, j, rfl, by
    have e : (if j > i then j else i) = max i j := by
      split <;> omega
    rw [e]
    exact q H1 (Ex.refl H1)⟩
theorem rc_int {i : Int} : RC (fun xs H Q => (∃ i, xs = [V.int i] ∧ Q (V.int i) H) ∨ ∃ k, xs = [V.bl k] ∧ Q (V.int (if k = true then 1 else 0)) H) [.int i] H (.int i) := fun H1 _ _ q =>
  .inl ⟨i, rfl, q H1 (Ex.refl H1)⟩
theorem rc_intB {b : Bool} : RC (fun xs H Q => (∃ i, xs = [V.int i] ∧ Q (V.int i) H) ∨ ∃ k, xs = [V.bl k] ∧ Q (V.int (if k = true then 1 else 0)) H) [.bl b] H (.int (if b = true then 1 else 0)) := fun H1 _ _ q =>
  .inr ⟨b, rfl, q H1 (Ex.refl H1)⟩
theorem rc_lenL {p : Addr} {xs : List V} (h : SqL K H p xs) : RC (fun vs H Q => ∃ p ys, vs = [V.ref p] ∧ (SqL K H p ys ∨ SqT K H p ys) ∧ Q (V.int ys.length) H) [.ref p] H (.int xs.length) := fun H1 e _ q =>
  ⟨p, xs, rfl, .inl (ex_l e h), q H1 (Ex.refl H1)⟩
theorem rc_sum {p : Addr} {ns : List Int} (h : SqL K H p (ns.map V.int)) : RC (fun vs H Q => ∃ (a : Addr) (ns : List Int), vs = [V.ref a] ∧ SqL K H a (ns.map V.int) ∧ Q (V.int ns.sum) H) [.ref p] H (.int ns.sum) := fun H1 e _ q =>
  ⟨p, ns, rfl, ex_l e h, q H1 (Ex.refl H1)⟩
end
/-- the int at a place -/
theorem at_int {ns : List Int} {i : Nat} (h : i < ns.length) : atI (ns.map V.int) (i : Int) = some (.int (at0 ns i)) := by
  refine atI_nat ?_
  rw [List.getElem?_map, List.getElem?_eq_getElem h]
  unfold at0
  rw [List.getD_eq_getElem?_getD, List.getElem?_eq_getElem h]
  rfl
def bitsOf (n : Int) : Int := ((Builtin.Int.intBits (n - 1) : Nat) : Int)
/-! ### readings in short -/
section
variable {σ : L2.St} {H : Hp} {t : TT} {tu tz : TS} {D : Ends} {K : PySem.W.Frag} {ta tb : TE}
/-- an if that is not taken -/
theorem q_skip (h : EvT t σ H false) (k : ∀ H1, Ex H H1 → tz D σ H1) : tSeq (tIfS t tu tNext) tz D σ H := q_when h (fun hb => absurd hb Bool.false_ne_true) (fun _ => k)
theorem s_skip (h : EvT t σ H false) (k : ∀ H1, Ex H H1 → D.nx σ H1) : tIfS t tu tNext D σ H := s_when h (fun hb => absurd hb Bool.false_ne_true) (fun _ => k)
/-- an if that is taken -/
theorem q_take (h : EvT t σ H true) (k : ∀ H1, Ex H H1 → tu { D with nx := tz D } σ H1) : tSeq (tIfS t tu tNext) tz D σ H := q_when h (fun _ => k) (fun hb => nomatch hb)
theorem et_lt {i j : Int} (ha : Ev ta σ H (.int i)) (hb : Ev tb σ H (.int j)) : EvT (tTest (tOp (rI0 fun i j => .bl (decide (i < j))) ta tb)) σ H (decide (i < j)) := et_test (ev_op ha hb rv_I0)
theorem et_le {i j : Int} (ha : Ev ta σ H (.int i)) (hb : Ev tb σ H (.int j)) : EvT (tTest (tOp (rI0 fun i j => .bl (decide (i ≤ j))) ta tb)) σ H (decide (i ≤ j)) := et_test (ev_op ha hb rv_I0)
theorem et_gt {i j : Int} (ha : Ev ta σ H (.int i)) (hb : Ev tb σ H (.int j)) : EvT (tTest (tOp (rI0 fun i j => .bl (decide (j < i))) ta tb)) σ H (decide (j < i)) := et_test (ev_op ha hb rv_I0)
theorem et_ge {i j : Int} (ha : Ev ta σ H (.int i)) (hb : Ev tb σ H (.int j)) : EvT (tTest (tOp (rI0 fun i j => .bl (decide (j ≤ i))) ta tb)) σ H (decide (j ≤ i)) := et_test (ev_op ha hb rv_I0)
theorem et_neI {i j : Int} (ha : Ev ta σ H (.int i)) (hb : Ev tb σ H (.int j)) : EvT (tTest (tOp rNe ta tb)) σ H (!decide (i = j)) := et_test (ev_is (ev_op ha hb (rv_ne rfl)) (by simp))
theorem et_eqI {i j : Int} (ha : Ev ta σ H (.int i)) (hb : Ev tb σ H (.int j)) : EvT (tTest (tOp rEq ta tb)) σ H (decide (i = j)) := et_test (ev_is (ev_op ha hb (rv_eq rfl)) (by simp))
/-- x + y, x - y, x * y, x // y, x % y -/
theorem ev_add {i j : Int} (ha : Ev ta σ H (.int i)) (hb : Ev tb σ H (.int j)) : Ev (tOp (rI0 fun i j => .int (i + j)) ta tb) σ H (.int (i + j)) := ev_op ha hb rv_I0
theorem ev_sub {i j : Int} (ha : Ev ta σ H (.int i)) (hb : Ev tb σ H (.int j)) : Ev (tOp (rI0 fun i j => .int (i - j)) ta tb) σ H (.int (i - j)) := ev_op ha hb rv_I0
theorem ev_mulR {i j : Int} (h1 : -18446744073709551616 < j) (h2 : j < 18446744073709551616) (ha : Ev ta σ H (.int i)) (hb : Ev tb σ H (.int j)) : Ev (tOp (rI CMul fun i j => .int (i * j)) ta tb) σ H (.int (i * j)) := ev_op ha hb (rv_I (Or.inr ⟨by omega, by omega⟩))
theorem ev_mulL {i j : Int} (h1 : -18446744073709551616 < i) (h2 : i < 18446744073709551616) (ha : Ev ta σ H (.int i)) (hb : Ev tb σ H (.int j)) : Ev (tOp (rI CMul fun i j => .int (i * j)) ta tb) σ H (.int (i * j)) := ev_op ha hb (rv_I (Or.inl ⟨by omega, by omega⟩))
theorem ev_mod {i j : Int} (h : 0 < j) (ha : Ev ta σ H (.int i)) (hb : Ev tb σ H (.int j)) : Ev (tOp (rI (fun _ j => 0 < j) fun i j => .int (i % j)) ta tb) σ H (.int (i % j)) := ev_op ha hb (rv_I h)
theorem div_ok {i j : Int} (h : 0 < j) (h2 : j < 18446744073709551616) : CDivW i j := wide_div (b := 64) h (by omega) (by decide) (by decide)
theorem ev_div {i j : Int} (h : 0 < j) (h2 : j < 18446744073709551616) (ha : Ev ta σ H (.int i)) (hb : Ev tb σ H (.int j)) : Ev (tOp (rI CDivW fun i j => .int (i / j)) ta tb) σ H (.int (i / j)) := ev_op ha hb (rv_I (div_ok h h2))
theorem ev_int {i : Int} (ha : Ev ta σ H (.int i)) : Ev (tCB (fun xs H Q => (∃ i, xs = [V.int i] ∧ Q (V.int i) H) ∨ ∃ k, xs = [V.bl k] ∧ Q (V.int (if k = true then 1 else 0)) H) (tCons ta tNil)) σ H (.int i) := ev_cb (ea_cons ha ea_nil) rc_int
theorem ev_intB {b : Bool} (ha : Ev ta σ H (.bl b)) : Ev (tCB (fun xs H Q => (∃ i, xs = [V.int i] ∧ Q (V.int i) H) ∨ ∃ k, xs = [V.bl k] ∧ Q (V.int (if k = true then 1 else 0)) H) (tCons ta tNil)) σ H (.int (if b = true then 1 else 0)) := ev_cb (ea_cons ha ea_nil) rc_intB
/-- xs[i] of ints -/
theorem ev_at {a : Addr} {ns : List Int} {i : Nat} (hs : SqL K H a (ns.map V.int)) (hi : i < ns.length) (ha : Ev ta σ H (.ref a)) (hb : Ev tb σ H (.int (i : Int))) : Ev (tOp (rIxL K) ta tb) σ H (.int (at0 ns i)) := ev_op ha hb (rv_ixL hs (at_int hi))
end
theorem at0_get {ns : List Int} {i : Nat} {x : V} (h : (ns.map V.int)[i]? = some x) : i < ns.length ∧ x = .int (at0 ns i) := by
  rw [List.getElem?_map] at h
  cases e : ns[i]? with
  | none =>
    rw [e] at h
    cases h
  | some y =>
    rw [e] at h
    have hi : i < ns.length := (List.getElem?_eq_some_iff.mp e).1
    refine ⟨hi, ?_⟩
    unfold at0
    rw [List.getD_eq_getElem?_getD, e]
    exact (Option.some.inj h).symm
theorem at0_mem {ns : List Int} {i : Nat} (h : i < ns.length) : at0 ns i ∈ ns := by
  unfold at0
  rw [List.getD_eq_getElem?_getD, List.getElem?_eq_getElem h]
  exact List.getElem_mem h
section
variable {K : PySem.W.Frag}
theorem rc_isi {n : Int} {c : String} {b : Bool} {H : Hp} (h : kitB "int" c = some b) : RC (rIsi K) [.int n, .ty c] H (.bl b) := fun H1 _ _ q =>
  ⟨.int n, .ty c, _, _, b, rfl, .ty c, .base (.int n), kit_ty h, q H1 (Ex.refl H1)⟩
theorem rc_isiS {z : Str} {c : String} {b : Bool} {H : Hp} (h : kitB "str" c = some b) : RC (rIsi K) [.str z, .ty c] H (.bl b) := fun H1 _ _ q =>
  ⟨.str z, .ty c, _, _, b, rfl, .ty c, .base (.str z), kit_ty h, q H1 (Ex.refl H1)⟩
theorem pow_mono {b : Int} (hb : 1 ≤ b) {i j : Nat} (h : i ≤ j) : b ^ i ≤ b ^ j := by
  induction h with
  | refl => exact Int.le_refl _
  | @step k _ ih =>
    have hp : 0 ≤ b ^ k := Int.pow_nonneg (by omega)
    have h2 : b ^ k * 1 ≤ b ^ k * b := Int.mul_le_mul_of_nonneg_left hb hp
    rw [Int.mul_one] at h2
    rw [Int.pow_succ]
    omega
theorem pow_pos1 {b : Int} (hb : 1 ≤ b) (i : Nat) : 1 ≤ b ^ i := by
  have h := pow_mono hb (Nat.zero_le i)
  rw [Int.pow_zero] at h
  exact h
theorem log2_is {n i : Nat} (h1 : 2 ^ i ≤ n) (h2 : n < 2 ^ (i + 1)) : n.log2 = i := by
  have h0 : n ≠ 0 := by
    have := Nat.pow_pos (n := i) (show 0 < 2 by decide)
    omega
  have a := (Nat.log2_lt h0).mpr h2
  have b := (Nat.le_log2 h0).mpr h1
  omega
theorem bits_is {m : Int} {i : Nat} (h1 : 1 ≤ m) (h2 : m ≤ 2 ^ i) (h3 : i = 0 ∨ ∃ j, i = j + 1 ∧ (2 : Int) ^ j < m) : bitsOf m = (i : Int) := by
  unfold bitsOf Builtin.Int.intBits
  obtain ⟨n, hn⟩ := Int.eq_ofNat_of_zero_le (show 0 ≤ m - 1 by omega)
  rw [hn]
  have cast : ∀ k : Nat, ((2 : Int) ^ k) = ((2 ^ k : Nat) : Int) := fun k => by
    rw [Int.natCast_pow]
    rfl
  rw [cast] at h2
  have hlt : n < 2 ^ i := by omega
  rcases h3 with rfl | ⟨j, rfl, h3⟩
  · have hz : n = 0 := by
      rw [Nat.pow_zero] at hlt
      omega
    subst hz
    rfl
  · rw [cast] at h3
    have hge : 2 ^ j ≤ n := by omega
    have h0 : n ≠ 0 := by
      have := Nat.pow_pos (n := j) (show 0 < 2 by decide)
      omega
    rw [if_neg (by simpa using h0)]
    show (((n : Int).natAbs.log2 + 1 : Nat) : Int) = ((j + 1 : Nat) : Int)
    rw [Int.natAbs_natCast, log2_is hge hlt]
theorem bits_nn (m : Int) : 0 ≤ bitsOf m := Int.natCast_nonneg _
theorem ev_atI {ta tb : TE} {σ : L2.St} {H : Hp} {a : Addr} {ns : List Int} {i : Nat} {z : Int} (hs : SqL K H a (ns.map V.int)) (hi : i < ns.length) (hz : z = (i : Int)) (ha : Ev ta σ H (.ref a)) (hb : Ev tb σ H (.int z)) : Ev (tOp (rIxL K) ta tb) σ H (.int (at0 ns i)) := by
  subst hz
  exact ev_at hs hi ha hb
theorem ev_callN0 {tk : TA} {σ : L2.St} {H : Hp} {sp : Sp} {n : Nat} {gV : List V → List V → List V} {E : XK} {zs : List V} {z : V} (h : EvA tk σ H zs) (hn : zs.length = n) (hs : SpV sp (gV [] zs) H z) : Ev (tCallN 0 n sp gV E tNil tk) σ H z := fun H1 e Q q =>
  h H1 e _ fun H2 e2 => ⟨rfl, hn, hs H2 (e.trans e2) Q (fun H3 e3 => q H3 (e2.trans e3)) E⟩
end
end Ver
namespace Ver
open PySem PySem.Spec PyProof.Rows L2 Evl
/-! ### enumerate(xs, start=k), xs a list or a tuple -/
section
variable {M : Model} {A : Around} {E : Value → Shared → Prop} {s : Shared} {env : Env}
theorem type_with_kw {pos : Pos} {T : String} {args : List (Bool × Sem Value)} {kw : List (Option Str × Sem Value)} {Q : Value → Shared → Prop}
    (h1 : args.any (·.1) = false) (h2 : kw.any (·.1.isNone) = false)
    (h : wpAny M A (evalArgs (.type T) true args kw) (fun a s1 => wpAny M A (call (.type T) a.pos a.kw) Q E s1) E s) :
    wpAny M A (callWith pos (.type T) [] args kw) Q E s := by
  unfold callWith
  refine wpAny_bind (wpAny_holding ?_)
  refine wpAny_mono h (fun a s1 got => ?_) (fun _ _ x => x)
  refine wpAny_bind (wpAny_standAt ?_)
  simp only [h1, h2, Bool.or_false]
  refine wpAny_bind (wpAny_pure ?_)
  refine wpAny_bind (wpAny_mono got (fun r s2 hr => ?_) (fun _ _ x => x))
  exact wpAny_bind (wpAny_holding (wpAny_point (wpAny_pure hr)))
end
/-- the list at a, its items in new pairs, counted from k on -/
def IteL (K : PySem.W.Frag) (k : Int) (a : Addr) : It where
  go := fun i H => ∃ (xs : List V) (x : V), SqL K H a xs ∧ xs[i]? = some x
  yld := fun i H v H' => ∃ T x, v = .ref T ∧ H T = none ∧ H' = upd H T (.tup [.int (k + (i : Int)), x]) ∧ ∀ xs, SqL K H a xs → xs[i]? = some x
  stop := fun i H => ∃ xs : List V, SqL K H a xs ∧ xs.length = i
def IteT (K : PySem.W.Frag) (k : Int) (a : Addr) : It where
  go := fun i H => ∃ (xs : List V) (x : V), SqT K H a xs ∧ xs[i]? = some x
  yld := fun i H v H' => ∃ T x, v = .ref T ∧ H T = none ∧ H' = upd H T (.tup [.int (k + (i : Int)), x]) ∧ ∀ xs, SqT K H a xs → xs[i]? = some x
  stop := fun i H => ∃ xs : List V, SqT K H a xs ∧ xs.length = i
theorem two_mem {b e i : Addr} (h : b ∈ [e, i]) : b = e ∨ b = i := by simpa using h
section
variable {P : Program} {w : World} {K : PySem.W.Frag} {elts : List Expr} {kk : Nat} {tpos : Pos}
theorem turnL (k : Int) (a e it : Addr) : Turn P w K (.Tuple elts kk tpos) (IteL K k a) [e, it] e
    (fun i h => (∃ old, IsEnum h e it (k + (i : Int)) old) ∧ h.IsListIter it a i ∧ e ≠ it ∧ a ≠ it ∧ a ≠ e) where
  mem := List.mem_cons_self ..
  obj := fun i h st b hb => by
    obtain ⟨⟨old, he⟩, ⟨o, ho, _, hd⟩, _⟩ := st
    rcases two_mem hb with z | z
    · subst z
      exact ⟨_, he, fun v q => nomatch q⟩
    · subst z
      refine ⟨o, ho, fun v q => ?_⟩
      rw [hd] at q
      cases q
  keep := fun i h h' st kp => by
    obtain ⟨⟨old, he⟩, hi, r⟩ := st
    exact ⟨⟨old, kp e (by simp) _ he⟩, hi.at fun o q => kp it (by simp) o q, r⟩
  item := by
    intro X hP hw hK hc i pins s σ H E I hf st hg
    subst hP hw hK
    obtain ⟨⟨old, he⟩, hit, hei, hai, hae⟩ := st
    obtain ⟨xs, x, hq, hx⟩ := hg
    obtain ⟨its, rv, p, hz⟩ := I.list hq
    obtain ⟨u, hu, ru⟩ := rv.get hx
    have hil : i < its.toArray.size := by
      have := (List.getElem?_eq_some_iff.mp hu).1
      simpa using this
    have D := Draws.list (prog := X.prog) (w := X.w) (A := X.A.in1) (I.ok.hd hc) it a hai its.toArray
    have lte : e < s.heap.objs.size := Heap.lt_size he
    have lti : it < s.heap.objs.size := by
      obtain ⟨_, q, _⟩ := hit
      exact Heap.lt_size q
    refine wpAny_pyNext_enum_itemC D he ⟨hit, p.isList⟩ hil hei (by simp [hei, hae.symm]) ?_
    intro y h' tk hy ho hst hT hsz keep
    have eu : y = u := by
      have h2 : its.toArray[i]? = some u := by simpa using hu
      rw [h2] at hy
      exact (Option.some.inj hy).symm
    subst eu
    refine ⟨_, rfl, wpAny_letOwnedTupleGo_enum (s := { s with heap := h', toks := tk + 1 }) ho ?_⟩
    intro h2 he2 sb
    have t2 : h2.get? s.heap.objs.size = some { cls := .type "tuple", data := .seq #[.int (k + (i : Int)) tk, y] } := (sb.2 _ (Nat.ne_of_gt lte)).trans hT
    have new : ObjOk X.prog X.w (upd H s.heap.objs.size (.tup [.int (k + (i : Int)), x])) h2 s.heap.objs.size (.tup [.int (k + (i : Int)), x]) :=
      ⟨(by show 2 ≤ sizeLine; decide), [.int (k + (i : Int)) tk, y], .cons ⟨_, rfl⟩ (.cons ru .nil), ⟨_, t2, rfl, _, rfl⟩⟩
    have I1 : Inv X pins σ (upd H s.heap.objs.size (.tup [.int (k + (i : Int)), x])) { s with heap := h2, toks := tk + 1 } := by
      refine I.turnedNew (ch := [e, it]) (fun b ob nb q => ?_) hf (Nat.le_refl _) new
      have n1 : b ≠ e := fun z => nb (by simp [z])
      have n2 : b ≠ it := fun z => nb (by simp [z])
      exact (sb.2 b n1).trans (keep b ob n1 n2 q)
    refine ⟨.ref s.heap.objs.size, _, I1, rfl, ⟨_, x, rfl, I.hok.fresh (Nat.le_refl _), rfl, fun ys hy2 => ?_⟩, ⟨⟨y, ?_⟩, hst.1.at fun o q => (sb.2 it (Ne.symm hei)).trans q, hei, hai, hae⟩, fun b hb => ?_⟩
    · rw [I.list_inj hy2 hq]
      exact hx
    · have e1 : k + ((i + 1 : Nat) : Int) = k + (i : Int) + 1 := by omega
      rw [e1]
      exact he2
    · have lb : b < s.heap.objs.size := by
        rcases two_mem hb with z | z
        · rw [z]
          exact lte
        · rw [z]
          exact lti
      rw [upd_ne (Nat.ne_of_lt lb)]
      exact (hf b hb).1
  done := by
    intro X hP hw hK hc i pins s σ H E I hf st hg
    subst hP hw hK
    obtain ⟨⟨old, he⟩, hit, hei, hai, hae⟩ := st
    obtain ⟨xs, hq, hx⟩ := hg
    obtain ⟨its, rv, p, hz⟩ := I.list hq
    obtain ⟨f0, f1, f2, f3, f4, f5⟩ := hf it (by simp)
    have hl := rv.length
    have D := Draws.list (prog := X.prog) (w := X.w) (A := X.A.in1) (I.ok.hd hc) it a hai its.toArray
    have c : i = its.toArray.size := by
      simp
      omega
    subst c
    exact wpAny_pyNext_enum_endD D he ⟨hit, p.isList⟩ fun h' eb => ⟨rfl, I.turned (t' := s.toks) (fun b o hb q => eb b o hb q) f0 f1 f3 f4 f5⟩
  self := fun A i s Q E st h => by
    obtain ⟨⟨_, he⟩, _⟩ := st
    exact wpAny_pyIter_enum he h
theorem turnT (k : Int) (a e it : Addr) : Turn P w K (.Tuple elts kk tpos) (IteT K k a) [e, it] e
    (fun i h => (∃ old, IsEnum h e it (k + (i : Int)) old) ∧ h.IsTupleIter it a i ∧ e ≠ it ∧ a ≠ it ∧ a ≠ e) where
  mem := List.mem_cons_self ..
  obj := fun i h st b hb => by
    obtain ⟨⟨old, he⟩, ⟨o, ho, _, hd⟩, _⟩ := st
    rcases two_mem hb with z | z
    · subst z
      exact ⟨_, he, fun v q => nomatch q⟩
    · subst z
      refine ⟨o, ho, fun v q => ?_⟩
      rw [hd] at q
      cases q
  keep := fun i h h' st kp => by
    obtain ⟨⟨old, he⟩, hi, r⟩ := st
    exact ⟨⟨old, kp e (by simp) _ he⟩, hi.at fun o q => kp it (by simp) o q, r⟩
  item := by
    intro X hP hw hK hc i pins s σ H E I hf st hg
    subst hP hw hK
    obtain ⟨⟨old, he⟩, hit, hei, hai, hae⟩ := st
    obtain ⟨xs, x, hq, hx⟩ := hg
    obtain ⟨its, rv, p, hz⟩ := I.tuple hq
    obtain ⟨u, hu, ru⟩ := rv.get hx
    have hil : i < its.toArray.size := by
      have := (List.getElem?_eq_some_iff.mp hu).1
      simpa using this
    have D := Draws.tuple (prog := X.prog) (w := X.w) (A := X.A.in1) (I.ok.hd hc) it a hai its.toArray
    have lte : e < s.heap.objs.size := Heap.lt_size he
    have lti : it < s.heap.objs.size := by
      obtain ⟨_, q, _⟩ := hit
      exact Heap.lt_size q
    refine wpAny_pyNext_enum_itemC D he ⟨hit, (show s.heap.IsTuple a its.toArray from p)⟩ hil hei (by simp [hei, hae.symm]) ?_
    intro y h' tk hy ho hst hT hsz keep
    have eu : y = u := by
      have h2 : its.toArray[i]? = some u := by simpa using hu
      rw [h2] at hy
      exact (Option.some.inj hy).symm
    subst eu
    refine ⟨_, rfl, wpAny_letOwnedTupleGo_enum (s := { s with heap := h', toks := tk + 1 }) ho ?_⟩
    intro h2 he2 sb
    have t2 : h2.get? s.heap.objs.size = some { cls := .type "tuple", data := .seq #[.int (k + (i : Int)) tk, y] } := (sb.2 _ (Nat.ne_of_gt lte)).trans hT
    have new : ObjOk X.prog X.w (upd H s.heap.objs.size (.tup [.int (k + (i : Int)), x])) h2 s.heap.objs.size (.tup [.int (k + (i : Int)), x]) :=
      ⟨(by show 2 ≤ sizeLine; decide), [.int (k + (i : Int)) tk, y], .cons ⟨_, rfl⟩ (.cons ru .nil), ⟨_, t2, rfl, _, rfl⟩⟩
    have I1 : Inv X pins σ (upd H s.heap.objs.size (.tup [.int (k + (i : Int)), x])) { s with heap := h2, toks := tk + 1 } := by
      refine I.turnedNew (ch := [e, it]) (fun b ob nb q => ?_) hf (Nat.le_refl _) new
      have n1 : b ≠ e := fun z => nb (by simp [z])
      have n2 : b ≠ it := fun z => nb (by simp [z])
      exact (sb.2 b n1).trans (keep b ob n1 n2 q)
    refine ⟨.ref s.heap.objs.size, _, I1, rfl, ⟨_, x, rfl, I.hok.fresh (Nat.le_refl _), rfl, fun ys hy2 => ?_⟩, ⟨⟨y, ?_⟩, hst.1.at fun o q => (sb.2 it (Ne.symm hei)).trans q, hei, hai, hae⟩, fun b hb => ?_⟩
    · rw [I.tuple_inj hy2 hq]
      exact hx
    · have e1 : k + ((i + 1 : Nat) : Int) = k + (i : Int) + 1 := by omega
      rw [e1]
      exact he2
    · have lb : b < s.heap.objs.size := by
        rcases two_mem hb with z | z
        · rw [z]
          exact lte
        · rw [z]
          exact lti
      rw [upd_ne (Nat.ne_of_lt lb)]
      exact (hf b hb).1
  done := by
    intro X hP hw hK hc i pins s σ H E I hf st hg
    subst hP hw hK
    obtain ⟨⟨old, he⟩, hit, hei, hai, hae⟩ := st
    obtain ⟨xs, hq, hx⟩ := hg
    obtain ⟨its, rv, p, hz⟩ := I.tuple hq
    obtain ⟨f0, f1, f2, f3, f4, f5⟩ := hf it (by simp)
    have hl := rv.length
    have D := Draws.tuple (prog := X.prog) (w := X.w) (A := X.A.in1) (I.ok.hd hc) it a hai its.toArray
    have c : i = its.toArray.size := by
      simp
      omega
    subst c
    exact wpAny_pyNext_enum_endD D he ⟨hit, (show s.heap.IsTuple a its.toArray from p)⟩ fun h' eb => ⟨rfl, I.turned (t' := s.toks) (fun b o hb q => eb b o hb q) f0 f1 f3 f4 f5⟩
  self := fun A i s Q E st h => by
    obtain ⟨⟨_, he⟩, _⟩ := st
    exact wpAny_pyIter_enum he h
/-- what enumerate(xs, start=k) walks -/
def iEnumK (K : PySem.W.Frag) (ta tk : TA) : TI := fun σ H R => ta σ H fun vs H1 => tk σ H1 fun zs H2 => ∃ (a : Addr) (k : Int), vs = [.ref a] ∧ zs = [.int k] ∧ (0 ≤ k ∧ k ≤ 1000) ∧
  ((∃ xs, SqL K H2 a xs ∧ R (IteL K k a) H2) ∨ (∃ xs, SqT K H2 a xs ∧ R (IteT K k a) H2))
theorem pi_enumK {X : Cx} {e ke : Expr} {ta tk : TA} {p pos tpos kpos : Pos} {elts : List Expr} {kk : Nat} (gl : Gl X "enumerate") (no : X.mg "enumerate" = none) (ha : PA X [e] ta) (hk : PK X [⟨some (Str.ofString "start"), ke, kpos⟩] tk)
    (h1 : backTo pos (starEach [e] X.env) = (false, eval e X.env) :: backTo pos (starEach [] X.env) := by rfl) (h2 : (backTo pos (starEach [e] X.env)).any (·.1) = false := by rfl)
    (h3 : (backToKw pos (keywordEach [⟨some (Str.ofString "start"), ke, kpos⟩] X.env)).all (·.1.isSome) = true := by rfl)
    (h4 : (backToKw pos (keywordEach [⟨some (Str.ofString "start"), ke, kpos⟩] X.env)).any (·.1.isNone) = false := by rfl)
    (h5 : (backToKw pos (keywordEach [⟨some (Str.ofString "start"), ke, kpos⟩] X.env)).filterMap (·.1) = [Str.ofString "start"] := by rfl) :
    PI X (.Tuple elts kk tpos) (.Call (.Name "enumerate" p) [e] [⟨some (Str.ofString "start"), ke, kpos⟩] pos) (iEnumK X.K ta tk) := by
  refine ⟨fun pins s σ H R I h => ?_⟩
  refine wpAny_Call_Name_kw (ld_blt I gl no boot_enumerate ?_ (by decide) (by decide))
  refine type_with_kw h2 h4 ?_
  have run := ha.run pos pins s σ H _ I h
  rw [h1] at run ⊢
  refine evalArgs_kwB h3 (thn run ?_)
  intro us s1 got
  obtain ⟨vs, H1, I1, r1, q1⟩ := got
  refine thn (hk.run pos pins s1 σ H1 _ I1 q1) ?_
  intro ws s2 got2
  obtain ⟨zs, H2, I2, r2, a, k, rfl, rfl, hkb, q2⟩ := got2
  rw [h5]
  obtain ⟨u, rfl, ru⟩ := vals1 r1
  obtain ⟨v, rfl, rv⟩ := vals1 r2
  cases (show u = Value.ref a from ru)
  obtain ⟨t, rfl⟩ := rv
  have fin : ∀ (h' : Heap) (J : It) (tn : Nat → Heap → Prop), (∀ b o, s2.heap.get? b = some o → h'.get? b = some o) → Turn X.prog X.w X.K (.Tuple elts kk tpos) J [s2.heap.objs.size + 1, s2.heap.objs.size] (s2.heap.objs.size + 1) tn → tn 0 h' → R J H2 →
      PIE X pins σ (.Tuple elts kk tpos) R (.ref (s2.heap.objs.size + 1)) { s2 with heap := h' } := by
    intro h' J tn keep tr t0 q
    have I3 : Inv X pins σ H2 { s2 with heap := h' } := I2.kept (t' := s2.toks) keep
    refine ⟨s2.heap.objs.size + 1, [s2.heap.objs.size + 1, s2.heap.objs.size], tn, J, H2, rfl, I3, tr, t0, fun b hb => ?_, q⟩
    have le : s2.heap.objs.size ≤ b := by
      rcases two_mem hb with z | z
      · rw [z]
        exact Nat.le_add_right _ _
      · rw [z]
        exact Nat.le_refl _
    exact I2.fpOk le (I2.hok.fresh le)
  have k0 : k + ((0 : Nat) : Int) = k := by simp
  rcases q2 with ⟨xs, hs, q⟩ | ⟨xs, hs, q⟩
  · obtain ⟨its, _, p', _⟩ := I2.list hs
    have la : a < s2.heap.objs.size := p'.lt
    refine enum_begins_start (begins_list a its.toArray) p'.isList (by omega) (by omega) fun h' he hit hsz keep => wpAny_pyIter_enum he ?_
    exact fin h' _ _ keep (turnL k a _ _) ⟨⟨.none, by rw [k0]; exact he⟩, ⟨_, hit, rfl, rfl⟩, Nat.succ_ne_self _, Nat.ne_of_lt la, Nat.ne_of_lt (Nat.lt_succ_of_lt la)⟩ q
  · obtain ⟨its, _, p', _⟩ := I2.tuple hs
    have la : a < s2.heap.objs.size := p'.lt
    refine enum_begins_start (begins_tuple a its.toArray) (show s2.heap.IsTuple a its.toArray from p') (by omega) (by omega) fun h' he hit hsz keep => wpAny_pyIter_enum he ?_
    exact fin h' _ _ keep (turnT k a _ _) ⟨⟨.none, by rw [k0]; exact he⟩, ⟨_, hit, rfl, rfl⟩, Nat.succ_ne_self _, Nat.ne_of_lt la, Nat.ne_of_lt (Nat.lt_succ_of_lt la)⟩ q
end
end Ver
namespace Ver
open PySem PySem.Spec PyProof.Rows L2 Evl
/-! ### zip of two texts, in new pairs -/
def Izs (x y : Str) : It where
  go := fun i H => i < x.cps.size ∧ i < y.cps.size
  yld := fun i H v H' => ∃ T c d, v = .ref T ∧ H T = none ∧ H' = upd H T (.tup [.str ⟨#[c]⟩, .str ⟨#[d]⟩]) ∧ x.cps[i]? = some c ∧ y.cps[i]? = some d
  stop := fun i H => i ≤ x.cps.size ∧ i ≤ y.cps.size ∧ (i = x.cps.size ∨ i = y.cps.size)
section
variable {P : Program} {w : World} {K : PySem.W.Frag} {elts : List Expr} {kk : Nat} {tpos : Pos}
theorem five_mem {c z a b d e : Addr} (h : c ∈ [z, a, b, d, e]) : c = z ∨ c = a ∨ c = b ∨ c = d ∨ c = e := by simpa using h
theorem si_at {h h' : Heap} {i : Addr} {n : String} {x : Str} {t : Tok} {k : Nat} (s : h.IsStrIter i n x t k) (f : ∀ o, h.get? i = some o → h'.get? i = some o) : h'.IsStrIter i n x t k := by
  obtain ⟨o, e, r⟩ := s
  exact ⟨o, f o e, r⟩
theorem turnZs (x y : Str) (t u : Tok) (z TI TO i1 i2 : Addr) (S : ZipSep2 z TI TO i1 i2 [i1] [i2]) : Turn P w K (.Tuple elts kk tpos) (Izs x y) [z, TI, TO, i1, i2] z
    (fun i h => IsZip h z TI TO .none ∧ IsTupOf2 h TI (.ref i1) (.ref i2) ∧ (∃ a1 a2, IsTupOf2 h TO a1 a2) ∧ h.IsStrIter i1 (strIterType x) x t i ∧ h.IsStrIter i2 (strIterType y) y u i) where
  mem := List.mem_cons_self ..
  obj := fun i h st c hc => by
    obtain ⟨hz, hTI, ⟨a1, a2, hTO⟩, ⟨o1, e1, _, d1⟩, ⟨o2, e2, _, d2⟩⟩ := st
    rcases five_mem hc with q | q | q | q | q
    · rw [q]; exact ⟨_, hz, fun v q => nomatch q⟩
    · rw [q]; exact ⟨_, hTI, fun v q => nomatch q⟩
    · rw [q]; exact ⟨_, hTO, fun v q => nomatch q⟩
    · rw [q]; exact ⟨o1, e1, fun v q => by rw [d1] at q; cases q⟩
    · rw [q]; exact ⟨o2, e2, fun v q => by rw [d2] at q; cases q⟩
  keep := fun i h h' st k => by
    obtain ⟨hz, hTI, ⟨a1, a2, hTO⟩, h1, h2⟩ := st
    exact ⟨k z (by simp) _ hz, k TI (by simp) _ hTI, ⟨a1, a2, k TO (by simp) _ hTO⟩, si_at h1 fun o q => k i1 (by simp) o q, si_at h2 fun o q => k i2 (by simp) o q⟩
  item := by
    intro X hP hw hK hc i pins s σ H E I hf st hg
    subst hP hw hK
    obtain ⟨hz, hTI, ⟨a1, a2, hTO⟩, h1, h2⟩ := st
    have D1 := Draws.text (prog := X.prog) (w := X.w) (A := X.A.in1) (I.ok.hd hc) i1 x t
    have D2 := Draws.text (prog := X.prog) (w := X.w) (A := X.A.in1) (I.ok.hd hc) i2 y u
    have hzl : z < s.heap.objs.size := Heap.lt_size hz
    have l1 : i1 < s.heap.objs.size := by
      obtain ⟨o, e, _⟩ := h1
      exact Heap.lt_size e
    have l2 : i2 < s.heap.objs.size := by
      obtain ⟨o, e, _⟩ := h2
      exact Heap.lt_size e
    refine wpAny_pyNext_zipD2_item S D1 D2 hz hTI hTO h1 h2 hg.1 hg.2 fun y1 y2 h' tk ⟨c, u1, hc1, ev1⟩ ⟨d, u2, hd1, ev2⟩ b1 b2 s1 s2 hT hsz hk => ?_
    subst ev1
    subst ev2
    refine ⟨_, rfl, wpAny_letOwnedTupleGo_zip (s := { s with heap := h', toks := tk }) b1 fun h'' z'' sb => ?_⟩
    have hT2 : h''.get? s.heap.objs.size = some { cls := .type "tuple", data := .seq #[.str ⟨#[c]⟩ u1, .str ⟨#[d]⟩ u2] } := (sb.2 _ (Nat.ne_of_gt hzl)).trans hT
    have new : ObjOk X.prog X.w (upd H s.heap.objs.size (.tup [.str ⟨#[c]⟩, .str ⟨#[d]⟩])) h'' s.heap.objs.size (.tup [.str ⟨#[c]⟩, .str ⟨#[d]⟩]) :=
      ⟨(by show 2 ≤ sizeLine; decide), [.str ⟨#[c]⟩ u1, .str ⟨#[d]⟩ u2], .cons ⟨_, rfl⟩ (.cons ⟨_, rfl⟩ .nil), ⟨_, hT2, rfl, _, rfl⟩⟩
    have I1 : Inv X pins σ (upd H s.heap.objs.size (.tup [.str ⟨#[c]⟩, .str ⟨#[d]⟩])) { s with heap := h'', toks := tk } := by
      refine I.turnedNew (ch := [z, TI, TO, i1, i2]) (fun b ob nb q => ?_) hf (Nat.le_refl _) new
      exact (sb.2 b (fun q' => nb (by simp [q']))).trans (hk b ob (fun q' => nb (by simp [q'])) (fun q' => nb (by simp [q'])) (fun q' => nb (by simp [q'])) (fun q' => nb (by simp [q'])) q)
    refine ⟨.ref s.heap.objs.size, _, I1, rfl, ⟨_, c, d, rfl, I.hok.fresh (Nat.le_refl _), rfl, hc1, hd1⟩, ⟨z'', ?_, ⟨.str ⟨#[c]⟩ u1, .str ⟨#[d]⟩ u2, ?_⟩, ?_, ?_⟩, fun b hb => ?_⟩
    · exact (sb.2 _ S.TIz).trans (hk _ _ S.TIz S.TITO S.TIi1 S.TIi2 hTI)
    · exact (sb.2 _ S.TOz).trans b2
    · exact si_at s1 fun o q => (sb.2 _ S.zi1.symm).trans q
    · exact si_at s2 fun o q => (sb.2 _ S.zi2.symm).trans q
    · have hlt : b < s.heap.objs.size := by
        rcases five_mem hb with q | q | q | q | q
        · rw [q]; exact hzl
        · rw [q]; exact Heap.lt_size hTI
        · rw [q]; exact Heap.lt_size hTO
        · rw [q]; exact l1
        · rw [q]; exact l2
      rw [upd_ne (Nat.ne_of_lt hlt)]
      exact (hf b hb).1
  done := by
    intro X hP hw hK hc i pins s σ H E I hf st hg
    subst hP hw hK
    obtain ⟨hz, hTI, ⟨a1, a2, hTO⟩, h1, h2⟩ := st
    have D1 := Draws.text (prog := X.prog) (w := X.w) (A := X.A.in1) (I.ok.hd hc) i1 x t
    have D2 := Draws.text (prog := X.prog) (w := X.w) (A := X.A.in1) (I.ok.hd hc) i2 y u
    exact wpAny_pyNext_zipD2_end S D1 D2 hz hTI hTO h1 h2 hg.1 hg.2.1 hg.2.2 fun h' tk hk => ⟨rfl, I.turnedL (t' := tk) (ch := [z, TI, TO, i1, i2]) (fun c o hb q =>
      hk c o (fun q' => hb (by simp [q'])) (fun q' => hb (by simp [q'])) (fun q' => hb (by simp [q'])) (fun q' => hb (by simp [q'])) q) hf⟩
  self := fun A i s Q E st h => wpAny_pyIter_zip st.1 h
theorem ne_nat {a b : Nat} (h : a ≠ b) : (show Addr from a) ≠ (show Addr from b) := h
theorem sep_n (n : Nat) : ZipSep2 (n + 4) (n + 2) (n + 3) n (n + 1) [n] [n + 1] :=
  ⟨ne_nat (by omega), ne_nat (by omega), ne_nat (by omega), ne_nat (by omega), List.mem_singleton.mpr rfl, fun h => absurd (List.mem_singleton.mp h) (ne_nat (by omega)), fun h => absurd (List.mem_singleton.mp h) (ne_nat (by omega)),
    ne_nat (by omega), List.mem_singleton.mpr rfl, fun h => absurd (List.mem_singleton.mp h) (ne_nat (by omega)), fun h => absurd (List.mem_singleton.mp h) (ne_nat (by omega)), fun h => absurd (List.mem_singleton.mp h) (ne_nat (by omega)), fun h => absurd (List.mem_singleton.mp h) (ne_nat (by omega))⟩
def iZipS (ta : TA) : TI := fun σ H R => ta σ H fun vs H1 => ∃ x y, vs = [.str x, .str y] ∧ R (Izs x y) H1
theorem pi_zipS {X : Cx} {e e2 : Expr} {ta : TA} {p pos tpos : Pos} {elts : List Expr} {kk : Nat} (hg : Gl X "zip") (hm : X.mg "zip" = none) (ha : PA X [e, e2] ta)
    (hs : starEach [e, e2] X.env = (false, eval e X.env) :: starEach [e2] X.env := by rfl) (hpl : (backTo pos (starEach [e2] X.env)).any (·.1) = false := by rfl) :
    PI X (.Tuple elts kk tpos) (.Call (.Name "zip" p) [e, e2] [] pos) (iZipS ta) := by
  refine ⟨fun pins s σ H R I h => ?_⟩
  refine Call_ (ld_blt I hg hm PyProof.Rows.boot_zip (PyProof.Rows.callWith_type1 (thn (ha.run pos pins s σ H _ I h) fun us s1 ⟨vs, H1, I1, r1, q1⟩ => ?_) hs hpl))
  obtain ⟨x, y, ex, q⟩ := q1
  subst ex
  cases r1 with
  | cons r rr =>
    cases rr with
    | cons r' rr =>
      cases rr
      obtain ⟨t, rfl⟩ := r
      obtain ⟨u, rfl⟩ := r'
      refine zip_begins2 (begins_text x t) (begins_text y u) trivial trivial fun h' hz hTI hTO g1 g2 hsz hk => wpAny_pyIter_zip hz ?_
      have I2 : Inv X pins σ H1 { s1 with heap := h' } := I1.kept (t' := s1.toks) hk
      have S := sep_n s1.heap.objs.size
      refine ⟨s1.heap.objs.size + 4, [s1.heap.objs.size + 4, s1.heap.objs.size + 2, s1.heap.objs.size + 3, s1.heap.objs.size, s1.heap.objs.size + 1], _, _, H1, rfl, I2, turnZs x y t u _ _ _ _ _ S, ⟨hz, hTI, ⟨_, _, hTO⟩, ⟨_, g1, rfl, rfl⟩, ⟨_, g2, rfl, rfl⟩⟩, fun c hcm => ?_, q⟩
      have hle : s1.heap.objs.size ≤ c := by
        rcases five_mem hcm with z | z | z | z | z
        · rw [z]; exact Nat.le_add_right _ _
        · rw [z]; exact Nat.le_add_right _ _
        · rw [z]; exact Nat.le_add_right _ _
        · rw [z]; exact Nat.le_refl _
        · rw [z]; exact Nat.le_add_right _ _
      exact I1.fpOk hle (I1.hok.fresh hle)
end
end Ver
namespace Ver
open PySem PySem.Spec PyProof.Rows L2 Evl
section
open AutoSeq1 (wpAny_loadPart')
theorem meets_enumerate_newT (l : Addr) (items : Array Value) (n : Nat) (dct : Option Addr) (sl : Array (Option Value)) :
    Meets (Builtin.«enumerate.__new__» ⟨[.type "enumerate", .ref l], []⟩) (fun _ R s => s.heap.get? l = some { cls := .type "tuple", dict := dct, data := .seq items n, slots := sl } ∧
      R (.ok (.ret (.ref (s.heap.push { cls := .type "tuple_iterator", data := .fields #[.ref l, .int 0 0] }).objs.size)))
        { s with heap := (s.heap.push { cls := .type "tuple_iterator", data := .fields #[.ref l, .int 0 0] }).push { cls := .type "enumerate", data := .fields #[.none, .bool false, .ref s.heap.objs.size, rawInt 0, .none, .none] } }) :=
  .of_wp fun prog w A R s h => by
    obtain ⟨hp, g, d, tk, os⟩ := s; obtain ⟨hl, h⟩ := h
    have hsub := sub_enumerate
    have hL : Heap.IsTuple (Shared.heap ⟨hp, g, d, tk, os⟩) l items := ⟨_, hl, rfl, n, rfl⟩
    wp_walk using wpAny_loadPart' hl
    refine wpAny_stack_any fun st => wpAny_pure ?_
    split
    · rename_i c _ _ _ _ _
      cases (c == Value.type "enumerate")
      · wp_walk using wpAny_loadPart' hl, wpAny_pyIter_tuple hL
        exact ⟨_, rfl, h⟩
      · wp_walk using wpAny_loadPart' hl, wpAny_pyIter_tuple hL
        exact ⟨_, rfl, h⟩
    · wp_walk using wpAny_loadPart' hl, wpAny_pyIter_tuple hL
      exact ⟨_, rfl, h⟩
end
section
variable {prog : Program} {w : World} {A : Around} {E : Value → Shared → Prop} {s : Shared}
theorem call_enumerate_tuple {l : Addr} {items : Array Value} {Q : Value → Shared → Prop} (hL : s.heap.IsTuple l items)
    (h : ∀ h', IsEnum h' (s.heap.objs.size + 1) s.heap.objs.size 0 .none → h'.get? s.heap.objs.size = some { cls := .type "tuple_iterator", data := .fields #[.ref l, .int 0 0] } → h'.objs.size = s.heap.objs.size + 2 →
      (∀ b o, s.heap.get? b = some o → h'.get? b = some o) → Q (.ref (s.heap.objs.size + 1)) { s with heap := h' }) :
    wpAny (model prog w) A (call (.type "enumerate") [.ref l]) Q E s := by
  obtain ⟨⟨c, dct, dt, sl⟩, hl, hc, n, hd⟩ := hL
  replace hc : c = .type "tuple" := hc
  replace hd : dt = .seq items n := hd
  subst hc hd
  refine callType_new F.called_enumerate (by decide) (F.typeCall_enumerate_1 _) (F.newCall_enumerate_1 _) (fun obj => F.args_object_init_2 obj _) F.entry_enumerate_new
    (meets_enumerate_newT l items n dct sl) ⟨hl, ?_⟩
  have hz : (s.heap.push { cls := .type "tuple_iterator", data := .fields #[.ref l, .int 0 0] }).objs.size = s.heap.objs.size + 1 := Heap.size_push ..
  show _ ∧ _
  rw [hz]
  have he : IsEnum ((s.heap.push { cls := .type "tuple_iterator", data := .fields #[.ref l, .int 0 0] }).push
      { cls := .type "enumerate", data := .fields #[.none, .bool false, .ref s.heap.objs.size, rawInt 0, .none, .none] }) (s.heap.objs.size + 1) s.heap.objs.size 0 .none := by
    have := Heap.get?_push_size (s.heap.push { cls := .type "tuple_iterator", data := .fields #[.ref l, .int 0 0] })
      (o := { cls := .type "enumerate", data := .fields #[.none, .bool false, .ref s.heap.objs.size, rawInt 0, .none, .none] }) rfl
    rw [hz] at this; exact this
  refine ⟨⟨_, he, rfl⟩, h _ he (Heap.get?_push_of_some _ (Heap.get?_push_size _ rfl)) (by rw [Heap.size_push, hz]) fun b o x => Heap.get?_push_of_some _ (Heap.get?_push_of_some _ x)⟩
end
def iEnumT (K : PySem.W.Frag) (ta : TA) : TI := fun σ H R => ta σ H fun vs H1 => ∃ (a : Addr) (xs : List V), vs = [.ref a] ∧ SqT K H1 a xs ∧ R (IteT K 0 a) H1
theorem pi_enumT {X : Cx} {e : Expr} {ta : TA} {p pos tpos : Pos} {elts : List Expr} {kk : Nat} (hg : Gl X "enumerate") (hm : X.mg "enumerate" = none) (ha : PA X [e] ta) (hs : starEach [e] X.env = [(false, eval e X.env)] := by rfl) :
    PI X (.Tuple elts kk tpos) (.Call (.Name "enumerate" p) [e] [] pos) (iEnumT X.K ta) := by
  refine ⟨fun pins s σ H R I h => ?_⟩
  refine Call_ (ld_blt I hg hm boot_enumerate (PyProof.Rows.callWith_type1 (thn (ha.run pos pins s σ H _ I h) fun us s1 ⟨vs, H1, I1, r1, q1⟩ => ?_) hs rfl))
  obtain ⟨a, xs, ex, hq, q⟩ := q1
  subst ex
  cases r1 with
  | cons r rr =>
    cases rr
    cases r
    obtain ⟨its, rv, p', hz⟩ := I1.tuple hq
    have la : a < s1.heap.objs.size := p'.lt
    refine call_enumerate_tuple (show s1.heap.IsTuple a its.toArray from p') fun h' he hit hsz hk => wpAny_pyIter_enum he ?_
    have I2 : Inv X pins σ H1 { s1 with heap := h' } := I1.kept (t' := s1.toks) hk
    have k0 : (0 : Int) + ((0 : Nat) : Int) = 0 := by simp
    refine ⟨s1.heap.objs.size + 1, [s1.heap.objs.size + 1, s1.heap.objs.size], _, _, H1, rfl, I2, turnT 0 a (s1.heap.objs.size + 1) s1.heap.objs.size, ⟨⟨.none, by rw [k0]; exact he⟩, ⟨_, hit, rfl, rfl⟩, Nat.succ_ne_self _, Nat.ne_of_lt la, Nat.ne_of_lt (Nat.lt_succ_of_lt la)⟩, fun b hb => ?_, q⟩
    have hle : s1.heap.objs.size ≤ b := by
      rcases two_mem hb with z | z
      · rw [z]; exact Nat.le_add_right _ _
      · rw [z]; exact Nat.le_refl _
    exact I1.fpOk hle (I1.hok.fresh hle)
/-! ### what follows: readings of walks with pairs -/
section
variable {K : PySem.W.Frag}
theorem walk_zs {x y : Str} : Walk (Izs x y) (min x.cps.size y.cps.size) (fun _ => True) (YPair (fun i => (x.cps.toList[i]?).map fun c => V.str ⟨#[c]⟩) (fun i => (y.cps.toList[i]?).map fun c => V.str ⟨#[c]⟩)) := by
  refine ⟨fun i _ hi q => ?_, fun _ q => ?_, fun i H v H' hi q y' => ?_⟩
  · show i < x.cps.size ∧ i < y.cps.size
    omega
  · show _ ≤ x.cps.size ∧ _ ≤ y.cps.size ∧ _
    omega
  obtain ⟨T, c, d, h1, h2, h3, h4, h5⟩ := y'
  refine ⟨T, .str ⟨#[c]⟩, .str ⟨#[d]⟩, h1, h2, h3, ?_, ?_⟩
  · show Option.map _ (x.cps.toList[i]?) = _
    rw [Array.getElem?_toList, h4]
    rfl
  · show Option.map _ (y.cps.toList[i]?) = _
    rw [Array.getElem?_toList, h5]
    rfl
end
end Ver
namespace Ver
open PySem PySem.Spec PyProof.Rows L2 Evl
open PySem.Builtin PySem.Builtin.Float
/-! ### f"{n:b}" -/
def binS (n : Nat) : Str := ⟨((Nat.toDigits 2 n).map Char.toNat).toArray⟩
def fB : FormatSpec := { align := 62, type := some 98 }
theorem parse_b (name : String) : parseFormatSpec (Str.ofString "b").cps.toList name 62 = .ok fB := by rfl
section
variable {prog : Program} {w : World} {A : Around} {E : Value → Shared → Prop} {s : Shared}
theorem plain_field {D : List Nat} (h : D.isEmpty = false) : intField' { align := 62, type := some 98 } false [] D [] 4 = ⟨D.toArray⟩ := by
  unfold intField'
  simp [h]
theorem field_b {n : Nat} {t : Tok} {sp : Str} {f : FormatSpec} {Q : Value → Shared → Prop} (hz : (binS n).length ≤ sizeLine) (sz : sp.length ≤ sizeLine) (hne : (sp.length == 0) = false)
    (hasc : ((sp.cps.toList.drop 1).any (· ≥ 128) || (sp.cps.getD 0 0 ≥ 128 && !([60, 62, 61, 94] : List Nat).contains (sp.cps.getD 1 0))) = false)
    (hp : ∀ name, parseFormatSpec sp.cps.toList name 62 = .ok f) (hf : f = { align := 62, type := some 98 })
    (h : ∀ k1 k2, Q (.str (binS n) k1) { s with toks := k2 }) :
    wpAny (model prog w) A (formatField (.int (n : Int) t) sp) Q E s := by
  show wpAny _ _ (holding [.int (n : Int) t] (pyFormat (.int (n : Int) t) sp)) Q E s
  refine wpAny_holding ?_
  unfold pyFormat
  refine wpAny_bind (wpAny_mkStr ?_ sz)
  have isI : ∀ s' : Shared, s'.TypeIs (.int (n : Int) t) "int" := fun s' => typeIs_int s' (n : Int) t
  refine wpAny_bind (m := callSpecial? (.int (n : Int) t) (Str.ofString "__format__") [.str sp s.toks])
    (wpAny_callSpecial?_slot (name := Str.ofString "__format__") (isI _) slot_int_format ?_)
  refine wpAny_call (codeAny_call_builtin slot_int_format.plain entry_int_format
    (slot_int_format.check _ _ _ _ _ _ _ _ (isI _) (args_int_format _ _) ?_))
  unfold Builtin.«int.__format__»
  have hv : (Value.str sp s.toks == Value.none) = false := rfl
  simp only [selfAndOne, noKeywords, Int.intOfSelf, asInt?, asStr?, List.isEmpty_nil, if_true, pure_bind, bind_pure, bind_assoc, hne, hasc, Bool.false_eq_true, if_false, hv]
  refine wpAny_bind (wpAny_typeNameOf (T := "str") (typeIs_str _ _ _) (by decide) ?_)
  intro kind
  refine wpAny_bind (wpAny_typeNameOfCut_int ?_)
  have hty : f.type.getD (if sp.cps.back? == some 0 then 0 else 100) = 98 := by
    rw [hf]
    rfl
  have hpr : f.precision = none := by rw [hf]
  have hnz : f.noNeg0 = false := by rw [hf]
  have hw : f.width = none := by rw [hf]
  have hal : f.alt = false := by rw [hf]
  simp only [hp, hty]
  rw [if_pos (by decide)]
  show wpAny _ _ (if _ then _ else _) _ _ _
  rw [if_neg (by simp [hpr])]
  show wpAny _ _ (if _ then _ else _) _ _ _
  rw [if_neg (by simp [hnz])]
  show wpAny _ _ (if _ then _ else _) _ _ _
  rw [if_neg (by decide)]
  show wpAny _ _ (if _ then _ else _) _ _ _
  rw [if_neg (by decide)]
  show wpAny _ _ (if _ then _ else _) _ _ _
  rw [if_neg (by simp [hw])]
  show wpAny _ _ (retStr _) _ _ _
  unfold retStr
  have neg : decide ((n : Int) < 0) = false := by
    rw [decide_eq_false_iff_not]
    omega
  have ab : ((n : Int)).natAbs = n := Int.natAbs_natCast n
  have up : (fun c : Char => (if ((98 : Nat) == 88) = true then c.toUpper else c).toNat) = Char.toNat := by
    funext c
    rfl
  have b2 : ((2 : Nat) == 10) = false := rfl
  simp only [hal, neg, ab, up, b2, Bool.false_eq_true, if_false]
  subst hf
  have len1 := tDigits_len_ge 2 n
  unfold binS at hz h
  generalize hD : (Nat.toDigits 2 n).map Char.toNat = D at hz h ⊢
  have hD2 : D.isEmpty = false := by
    rw [← hD]
    cases hE : Nat.toDigits 2 n with
    | nil =>
      rw [hE] at len1
      exact absurd len1 (by decide)
    | cons x r => rfl
  refine wpAny_bind (wpAny_mkStr (wpAny_pure ?_) ?hs2)
  case hs2 =>
    show (intField' { align := 62, type := some 98 } false [] D [] 4).length ≤ sizeLine
    rw [plain_field hD2]
    exact hz
  have e : ∀ (k1 : Tok) (k2 : Nat), Q (.str (intField' { align := 62, type := some 98 } false [] D [] 4) k1) { s with toks := k2 } := by
    rw [plain_field hD2]
    exact h
  dsimp only
  refine wpAny_bind (wpAny_isInstance (typeIs_str _ _ _) isSubtype_str_str ?_)
  exact wpAny_pure (e _ _)
end
/-- f"{n:b}" of a number that is not below 0 -/
def tBin (te : TE) : TE := fun σ H Q => te σ H fun x H1 => ∃ n : Nat, x = .int (n : Int) ∧ n < 2 ^ 1000 ∧ Q (.str (binS n)) H1
theorem binS_len {n : Nat} (h : n < 2 ^ 1000) : (binS n).length ≤ sizeLine := by
  have e : (binS n).length = (bins n).length := by
    unfold binS bins Str.length
    simp
  rw [e]
  exact Nat.le_trans (bins_len (by decide) h) (by decide)
theorem spec_facts : (Str.ofString "b").length ≤ sizeLine ∧ ((Str.ofString "b").length == 0) = false ∧
    (((Str.ofString "b").cps.toList.drop 1).any (· ≥ 128) || ((Str.ofString "b").cps.getD 0 0 ≥ 128 && !([60, 62, 61, 94] : List Nat).contains ((Str.ofString "b").cps.getD 1 0))) = false := by decide +kernel
theorem pe_bin {X : Cx} {e se : Expr} {te : TE} {pos : Pos} (he : PE X e te) (hs : PE X se (tC (.str (Str.ofString "b")))) : PE X (.FormattedValue e (-1) (some se) pos) (tBin te) := by
  refine ⟨fun pins s σ H Q I h => ?_⟩
  refine wpAny_FormattedValue_spec (thn (he.run pins s σ H _ I h) ?_)
  intro v s1 got
  obtain ⟨x, H1, I1, r1, n, rfl, hn, q⟩ := got
  obtain ⟨t, rfl⟩ := r1
  refine thn (hs.run pins s1 σ H1 (fun y H2 => y = .str (Str.ofString "b") ∧ Q (.str (binS n)) H2) I1 ⟨rfl, q⟩) ?_
  intro r s2 got2
  obtain ⟨y, H2, I2, r2, rfl, q2⟩ := got2
  obtain ⟨t2, rfl⟩ := r2
  obtain ⟨z1, z2, z3⟩ := spec_facts
  exact ⟨_, t2, rfl, field_b (binS_len hn) z1 z2 z3 parse_b rfl fun k1 k2 => ⟨.str (binS n), H2, I2.tok k2, ⟨k1, rfl⟩, q2⟩⟩
theorem ev_bin {te : TE} {σ : L2.St} {H : Hp} {n : Nat} (h : Ev te σ H (.int (n : Int))) (hn : n < 2 ^ 1000) : Ev (tBin te) σ H (.str (binS n)) := fun H1 e Q q =>
  h H1 e _ fun H2 e2 => ⟨n, rfl, hn, q H2 e2⟩
end Ver
namespace Ver
open PySem PySem.Spec PyProof.Rows L2 Evl
section
variable {P : Program} {w : World} {K : PySem.W.Frag} {mg : Str → Option Value} {base : Heap}
theorem walk_eL {k : Int} {a : Addr} {xs : List V} : Walk (IteL K k a) xs.length (fun H => SqL K H a xs) (YPair (fun i => some (.int (k + (i : Int)))) (fun i => xs[i]?)) := by
  refine ⟨fun i _ hi q => ⟨xs, xs[i], q, by simp [hi]⟩, fun _ q => ⟨xs, q, rfl⟩, fun i H v H' _ q y => ?_⟩
  obtain ⟨T, x, h1, h2, h3, h4⟩ := y
  exact ⟨T, .int (k + (i : Int)), x, h1, h2, h3, rfl, h4 xs q⟩
theorem walk_eT {k : Int} {a : Addr} {xs : List V} : Walk (IteT K k a) xs.length (fun H => SqT K H a xs) (YPair (fun i => some (.int (k + (i : Int)))) (fun i => xs[i]?)) := by
  refine ⟨fun i _ hi q => ⟨xs, xs[i], q, by simp [hi]⟩, fun _ q => ⟨xs, q, rfl⟩, fun i H v H' _ q y => ?_⟩
  obtain ⟨T, x, h1, h2, h3, h4⟩ := y
  exact ⟨T, .int (k + (i : Int)), x, h1, h2, h3, rfl, h4 xs q⟩
theorem s_forE {tl tk : TA} {tb : TS} {D : Ends} {σ : L2.St} {H : Hp} {a : Addr} {k : Int} {xs : List V} {j1 j2 : Nat} (h : EvA tl σ H [.ref a]) (hk : EvA tk σ H [.int k]) (hb : 0 ≤ k ∧ k ≤ 1000) (hx : SqL K H a xs ∨ SqT K H a xs)
    (Pv : Nat → L2.St → Hp → Prop) (h0 : ∀ H1, Ex H H1 → Pv 0 σ H1) (hG : ∀ i σ' H', Pv i σ' H' → Ex H H')
    (hs : ∀ i x σ' H' H2, xs[i]? = some x → Pv i σ' H' → Ex H' H2 → tb { D with nx := Pv (i + 1), ct := Pv (i + 1), bk := D.nx } ((σ'.set j1 (some (.int (k + (i : Int))))).set j2 (some x)) H2)
    (hd : ∀ σ' H', Pv xs.length σ' H' → D.nx σ' H') : tFor (iEnumK K tl tk) (gTup K 2 (gCons (gName j1) (gCons (gName j2) gNil))) tb D σ H := by
  refine h H (Ex.refl H) _ fun H1 e1 => hk H1 e1 _ fun H2 e2 => ?_
  have e12 := e1.trans e2
  have step : ∀ (i : Nat) (x : V) (σ' : L2.St) (H3 H4 : Hp), i < xs.length → Pv i σ' H3 → YPair (fun i => some (.int (k + (i : Int)))) (fun i => xs[i]?) i H3 x H4 →
      gTup K 2 (gCons (gName j1) (gCons (gName j2) gNil)) x σ' H4 fun σ2 H5 => tb { D with nx := Pv (i + 1), ct := Pv (i + 1), bk := D.nx } σ2 H5 := by
    intro i v σ' H3 H4 _ p y
    obtain ⟨T, x, z, rfl, hT, rfl, e3, e4⟩ := y
    cases e3
    exact ⟨T, [.int (k + (i : Int)), z], rfl, st_of upd_same, rfl, _, _, rfl, _, _, rfl, rfl, hs i z σ' H3 _ e4 p (Ex.new hT)⟩
  refine ⟨a, k, rfl, rfl, hb, ?_⟩
  rcases hx with hx | hx
  · exact .inl ⟨xs, ex_l e12 hx, for_it (walk_eL (xs := xs)) Pv (h0 H2 e12) (fun i σ' H' _ p => ex_l (hG i σ' H' p) hx) step hd⟩
  · exact .inr ⟨xs, ex_t e12 hx, for_it (walk_eT (xs := xs)) Pv (h0 H2 e12) (fun i σ' H' _ p => ex_t (hG i σ' H' p) hx) step hd⟩
theorem ev_bm {r : V → List V → Hp → VK → Prop} {to : TE} {ta : TA} {σ : L2.St} {H : Hp} {ty : String} {x z : V} {vs : List V} (hx : Ev to σ H x) (ht : ∀ H1, Ex H H1 → tyV K ty x H1) (ha : EvA ta σ H vs)
    (hr : ∀ H1, Ex H H1 → ∀ Q : VK, (∀ H2, Ex H1 H2 → Q z H2) → r x vs H1 Q) : Ev (tBM K ty r to ta) σ H z := fun H1 e Q q =>
  hx H1 e _ fun H2 e2 => ⟨ht H2 (e.trans e2), ha H2 (e.trans e2) _ fun H3 e3 => hr H3 ((e.trans e2).trans e3) Q fun H4 e4 => q H4 ((e2.trans e3).trans e4)⟩
def nb (n m : Int) : Str := ⟨(nbL n.toNat (bitsOf m).toNat).toArray⟩
theorem bits_lt {n m : Int} (h0 : 0 ≤ n) (h : n < m) : n.toNat < 2 ^ (bitsOf m).toNat := by
  unfold bitsOf Builtin.Int.intBits
  obtain ⟨k, hk⟩ := Int.eq_ofNat_of_zero_le (show 0 ≤ m - 1 by omega)
  rw [hk]
  have hn : n.toNat ≤ k := by omega
  by_cases c : k = 0
  · subst c
    have : n.toNat = 0 := by omega
    rw [this]
    decide
  · rw [if_neg (by simpa using c)]
    rw [Int.toNat_natCast, Int.natAbs_natCast]
    exact Nat.lt_of_le_of_lt hn Nat.lt_log2_self
theorem bits_le {m : Int} {b : Nat} (h1 : 1 ≤ m) (h : m ≤ 2 ^ b) : bitsOf m ≤ (b : Int) := by
  unfold bitsOf Builtin.Int.intBits
  obtain ⟨k, hk⟩ := Int.eq_ofNat_of_zero_le (show 0 ≤ m - 1 by omega)
  rw [hk]
  by_cases c : k = 0
  · subst c
    exact Int.natCast_nonneg b
  · rw [if_neg (by simpa using c)]
    have cast : (2 : Int) ^ b = ((2 ^ b : Nat) : Int) := by
      rw [Int.natCast_pow]
      rfl
    rw [cast] at h
    have := (Nat.log2_lt c).mpr (show k < 2 ^ b by omega)
    rw [Int.natAbs_natCast]
    omega
theorem zfill_is {n w : Nat} (hw : w ≠ 0) (h : n < 2 ^ w) : Txt.zfill (binS n) (w : Int) = ⟨(nbL n w).toArray⟩ := by
  have hl : (binS n).length = (bins n).length := by
    unfold binS bins Str.length
    simp
  have hle := bins_len (by omega) h
  have hpos := bins_pos n
  have hd := (bins_ok n).1
  unfold Txt.zfill nbL
  rw [if_neg hw, hl]
  by_cases c : (w : Int) ≤ ((bins n).length : Nat)
  · rw [if_pos c]
    have e : w - (bins n).length = 0 := by omega
    rw [e]
    rfl
  · rw [if_neg c, Int.toNat_natCast]
    have hb : binS n = ⟨(bins n).toArray⟩ := rfl
    rw [hb]
    unfold zfilled
    cases hc : bins n with
    | nil =>
      rw [hc] at hpos
      exact absurd hpos (by decide)
    | cons x r =>
      have hx := hd x (by rw [hc]; exact List.mem_cons_self ..)
      rcases hx with rfl | rfl
      · show Builtin.Str.padded _ _ 0 48 = _
        unfold Builtin.Str.padded
        simp
      · show Builtin.Str.padded _ _ 0 48 = _
        unfold Builtin.Str.padded
        simp
theorem pad_ok {n : Nat} (h : n ≤ 1000) : PadOk (n : Int) = true := by
  have k : ∀ m : Nat, m ≤ 1000 → PadOk (m : Int) = true := by decide +kernel
  exact k n h
theorem q_forS {z : Str} {te : TE} {tb tz : TS} {D : Ends} {σ : L2.St} {H : Hp} {j : Nat} (h : Ev te σ H (.str z)) (Pv : Nat → L2.St → Hp → Prop) (h0 : ∀ H1, Ex H H1 → Pv 0 σ H1)
    (hs : ∀ i c σ' H', z.cps.toList[i]? = some c → Pv i σ' H' → tb { D with nx := Pv (i + 1), ct := Pv (i + 1), bk := tz D } (σ'.set j (some (.str ⟨#[c]⟩))) H') (hd : ∀ σ' H', Pv z.cps.size σ' H' → tz D σ' H') :
    tSeq (tFor (iStr te) (gName j) tb) tz D σ H := by
  refine h H (Ex.refl H) _ fun H1 e1 => ⟨z, rfl, ?_⟩
  refine for_it (D := { D with nx := tz D }) (walk_str (z := z)) Pv (h0 H1 e1) (fun _ _ _ _ _ => trivial) ?_ hd
  intro i x σ' H2 H3 _ p y
  obtain ⟨rfl, c, hc, rfl⟩ := y
  refine hs i c σ' _ ?_ p
  rw [Array.getElem?_toList]
  exact hc
theorem one_code {c d : Nat} : (V.str ⟨#[c]⟩ = V.str ⟨#[d]⟩) ↔ c = d := by
  constructor
  · intro h
    have h2 := V.str.inj h
    have h3 := congrArg (fun s : Str => s.cps.toList) h2
    simpa using h3
  · intro h
    rw [h]
theorem str0 : Str.ofString "0" = (⟨#[48]⟩ : Str) := by decide +kernel
theorem str1 : Str.ofString "1" = (⟨#[49]⟩ : Str) := by decide +kernel
/-! ### more words for readings -/
section
variable {σ : L2.St} {H : Hp} {ta tb : TE}
theorem rcl_list {p : Addr} {xs : List V} (h : SqL K H p xs) : RCL (fun vs H Q => ∃ p ys, vs = [V.ref p] ∧ (SqL K H p ys ∨ SqT K H p ys) ∧ ∀ l, H l = none → Q (V.ref l) (upd H l (.lst ys))) [.ref p] H xs := fun H1 e Q q =>
  ⟨p, xs, rfl, .inl (ex_l e h), fun l hl => q l _ hl (Ex.new hl) upd_same⟩
theorem el_rep {xs : List V} {n : Nat} (h : EvL ta σ H xs) (hk : ∀ H1, Ex H H1 → Ev tb σ H1 (.int (n : Int))) (hz : xs.length * n ≤ 100000) (hn : n ≤ 100000) : EvL (tOp rRep ta tb) σ H (List.replicate n xs).flatten := fun H1 e Q q =>
  h H1 e _ fun p H2 hp e2 h2 => hk H2 (e.trans e2) H2 (Ex.refl H2) _ fun H3 e3 =>
    ⟨p, (n : Int), xs, rfl, rfl, e3 _ _ h2, by omega, by omega, by rw [Int.toNat_natCast]; exact sz_of hz, fun l hl => by
      rw [Int.toNat_natCast]
      exact q l _ (fresh_back (e2.trans e3) hl) ((e2.trans e3).trans (Ex.new hl)) upd_same⟩
theorem flat_one {n : Nat} {v : V} : (List.replicate n [v]).flatten = List.replicate n v := by
  induction n with
  | zero => rfl
  | succ n ih =>
    rw [List.replicate_succ, List.flatten_cons, ih]
    rfl
theorem map_rep {n : Nat} {z : Int} : (List.replicate n z).map V.int = List.replicate n (V.int z) := List.map_replicate
theorem el_catV {xs ys : List V} {b : Addr} (h : EvL ta σ H xs) (hb : ∀ H1, Ex H H1 → Ev tb σ H1 (.ref b)) (hy : H b = some (.lst ys)) (hz : xs.length + ys.length ≤ 100000) : EvL (tOp rCat ta tb) σ H (xs ++ ys) := fun H1 e Q q =>
  h H1 e _ fun p H2 hp e2 h2 => hb H2 (e.trans e2) H2 (Ex.refl H2) _ fun H3 e3 =>
    ⟨p, b, xs, ys, rfl, rfl, e3 _ _ h2, (((e.trans e2).trans e3)) _ _ hy, sz_of hz, fun l hl => q l _ (fresh_back (e2.trans e3) hl) ((e2.trans e3).trans (Ex.new hl)) upd_same⟩
theorem el_catL {xs ys : List V} (h : EvL ta σ H xs) (hb : EvL tb σ H ys) (hz : xs.length + ys.length ≤ 100000) : EvL (tOp rCat ta tb) σ H (xs ++ ys) := fun H1 e Q q =>
  h H1 e _ fun p H2 hp e2 h2 => hb H2 (e.trans e2) _ fun p2 H3 hp2 e3 h3 =>
    ⟨p, p2, xs, ys, rfl, rfl, e3 _ _ h2, h3, sz_of hz, fun l hl => q l _ (fresh_back (e2.trans e3) hl) ((e2.trans e3).trans (Ex.new hl)) upd_same⟩
theorem et_yes : EvT tYes σ H true := fun H1 _ _ q => q H1 (Ex.refl H1)
theorem given_all (n : Nat) (v : Nat → V) : given n (fun _ => true) v = (List.range n).map v := by
  unfold given
  rw [List.filter_eq_self.mpr fun _ _ => rfl]
/-- the data of a list of ints -/
theorem dp_ints : ∀ ns : List Int, DpAll K H (ns.map V.int) (ns.map PyData.int)
  | [] => .nil
  | n :: ns => .cons (.int n) (dp_ints ns)
theorem lay_ints : ∀ ns : List Int, PyData.canLayAll0 (ns.map PyData.int) = true
  | [] => by simp [PyData.canLayAll0]
  | n :: ns => by simp [PyData.canLayAll0, PyData.canLay0, lay_ints ns]
theorem deep_ints : ∀ ns : List Int, PyData.depthAll (ns.map PyData.int) = 0
  | [] => by simp [PyData.depthAll]
  | n :: ns => by simp [PyData.depthAll, PyData.depth, deep_ints ns]
theorem shaped_list_of_ints (ns : List Int) : SeqAt.shaped (.list (ns.map PyData.int)) = true := by
  show (PyData.canLay0 _ && decide (PyData.depth _ ≤ 64)) = true
  simp [PyData.canLay0, PyData.depth, lay_ints ns, deep_ints ns]
theorem rv_neInts {p q : Addr} {ns : List Int} (h1 : SqL K H p (ns.map V.int)) (h2 : SqL K H q (ns.map V.int)) : RV (rNeD K) (.ref p) (.ref q) H (.bl false) := fun H1 e Q k => by
  refine ⟨.list (ns.map PyData.int), .list (ns.map PyData.int), .lst (ex_l e h1) (dp_ints ns), .lst (ex_l e h2) (dp_ints ns), shaped_list_of_ints ns, shaped_list_of_ints ns, ?_⟩
  have r : PyData.eqv (.list (ns.map PyData.int)) (.list (ns.map PyData.int)) = true := SeqAt.eqv_refl _ (SeqAt.canLay_of_shaped (shaped_list_of_ints ns))
  rw [r]
  exact k H1 (Ex.refl H1)
end
theorem cut_to (xs : List V) (n : Nat) : cutV xs none (some (n : Int)) = xs.take n := by
  unfold cutV
  rw [HT.sIx_none, HT.sIx_nat]
  simp only [Nat.sub_zero, List.drop_zero]
  by_cases h : n ≤ xs.length
  · rw [Nat.min_eq_left h]
  · rw [Nat.min_eq_right (by omega), List.take_length, List.take_of_length_le (by omega)]
theorem cut_of (xs : List V) (a b : Nat) : ∃ k m, cutV xs (some (a : Int)) (some (b : Int)) = (xs.drop k).take m := by
  unfold cutV
  rw [HT.sIx_nat, HT.sIx_nat]
  exact ⟨_, _, rfl⟩
theorem at0_rep {z : Int} {n i : Nat} (h : i < n) : at0 (List.replicate n z) i = z := by
  unfold at0
  rw [List.getD_eq_getElem?_getD, List.getElem?_replicate, if_pos h]
  rfl
theorem at0_of_mem {ps : List Int} {x : Int} (h : x ∈ ps) : ∃ i, i < ps.length ∧ at0 ps i = x := by
  obtain ⟨i, hi, e⟩ := List.mem_iff_getElem.mp h
  refine ⟨i, hi, ?_⟩
  unfold at0
  rw [List.getD_eq_getElem?_getD, List.getElem?_eq_getElem hi]
  exact e
def restF (c : Int) (ss : List Int) : Nat → Int
  | 0 => c - 10 ^ 18
  | i + 1 => restF c ss i / at0 ss i
def digA (c : Int) (ss : List Int) (i : Nat) : Int := restF c ss i % at0 ss i
def sdF (c : Int) : Nat → Int
  | 0 => c % 2147483629
  | i + 1 => (sdF c i * 48271 + 974711 * i + 12345) % 2147483647
def twF (c : Int) (i : Nat) : Int := (sdF c (i + 1) * (sdF c (i + 1) / 65537 + 3)) % 2147483629
def digB (c : Int) (ss : List Int) (i : Nat) : Int := twF c i / 19 % at0 ss i
def dig (c : Int) (ss : List Int) (i : Nat) : Int := if 10 ^ 18 ≤ c then digA c ss i else digB c ss i
def digits (c : Int) (ss : List Int) : List Int := (List.range ss.length).map (dig c ss)
theorem digits_len (c : Int) (ss : List Int) : (digits c ss).length = ss.length := by
  unfold digits
  rw [List.length_map, List.length_range]
theorem at0_map {n i : Nat} (f : Nat → Int) (h : i < n) : at0 ((List.range n).map f) i = f i := by
  unfold at0
  rw [List.getD_eq_getElem?_getD, List.getElem?_map, List.getElem?_range h]
  rfl
theorem dig_bound {c : Int} {ss : List Int} {i : Nat} (h : 0 < at0 ss i) : 0 ≤ dig c ss i ∧ dig c ss i < at0 ss i := by
  unfold dig digA digB
  split
  · exact ⟨Int.emod_nonneg _ (by omega), Int.emod_lt_of_pos _ h⟩
  · exact ⟨Int.emod_nonneg _ (by omega), Int.emod_lt_of_pos _ h⟩
theorem digits_at {c : Int} {ss : List Int} {i : Nat} (hi : i < ss.length) (h : 0 < at0 ss i) : 0 ≤ at0 (digits c ss) i ∧ at0 (digits c ss) i < at0 ss i := by
  unfold digits
  rw [at0_map _ hi]
  exact dig_bound h
theorem sd_bound (c : Int) : ∀ i, 0 ≤ sdF c i ∧ sdF c i < 2147483647
  | 0 => by
    show 0 ≤ c % 2147483629 ∧ c % 2147483629 < 2147483647
    omega
  | i + 1 => by
    show 0 ≤ (sdF c i * 48271 + 974711 * i + 12345) % 2147483647 ∧ (sdF c i * 48271 + 974711 * i + 12345) % 2147483647 < 2147483647
    omega
theorem map_range_succ (f : Nat → Int) (n : Nat) : ((List.range (n + 1)).map f).map V.int = ((List.range n).map f).map V.int ++ [V.int (f n)] := by
  rw [List.range_succ, List.map_append, List.map_append]
  rfl
def spDigits (K : PySem.W.Frag) : Sp := fun vs H Q _ => ∃ (c : Int) (a : Addr) (ss : List Int), vs = [.int c, .ref a] ∧ SqL K H a (ss.map V.int) ∧ ss.length ≤ 1000 ∧ (∀ i, i < ss.length → 0 < at0 ss i ∧ at0 ss i < 18446744073709551616) ∧ RetL ((digits c ss).map V.int) H Q
def spWhole : Sp := fun vs H Q _ => ∃ n : Int, vs = [.int n] ∧ RetV (.bl true) H Q
def seedF (ns : List Int) : Nat → Int
  | 0 => 17
  | i + 1 => (seedF ns i * 31 + at0 ns i % 1000003) % 1000003
def cell (ns : List Int) (k : Int) : Int := if k < (ns.length : Int) then at0 ns k.toNat else ((seedF ns ns.length + 7) * (k + 3) * 69621) % 2147483647
def spCell (K : PySem.W.Frag) : Sp := fun vs H Q _ => ∃ (a : Addr) (ns : List Int) (k : Int), vs = [.ref a, .int k] ∧ SqL K H a (ns.map V.int) ∧ ns.length ≤ 63 ∧ (0 ≤ k ∧ k ≤ 1000) ∧ RetV (.int (cell ns k)) H Q
theorem sv_whole {n : Int} {H : Hp} : SpV spWhole ([V.int n] ++ []) H (.bl true) := fun _ _ _ q _ => ⟨n, rfl, q⟩
theorem sv_cell {a : Addr} {ns : List Int} {k : Int} {H : Hp} (hS : SqL K H a (ns.map V.int)) (h : ns.length ≤ 63) (hk : 0 ≤ k ∧ k ≤ 1000) : SpV (spCell K) ([V.ref a, V.int k] ++ []) H (.int (cell ns k)) := fun _ e _ q _ => ⟨a, ns, k, rfl, ex_l e hS, h, hk, q⟩
theorem sl_digits {c : Int} {a : Addr} {ss : List Int} {H : Hp} (hS : SqL K H a (ss.map V.int)) (hz : ss.length ≤ 1000) (hss : ∀ i, i < ss.length → 0 < at0 ss i ∧ at0 ss i < 18446744073709551616) : SpL (spDigits K) ([V.int c, V.ref a] ++ []) H ((digits c ss).map V.int) := fun _ e _ q _ => ⟨c, a, ss, rfl, ex_l e hS, hz, hss, q⟩
section
variable {σ : L2.St} {H : Hp} {ta tl : TE} {sp : Sp} {E : XK} {tz : TS} {D : Ends}
theorem el_digs {c : Int} {ss : List Int} (h : Ev ta σ H (.int c)) (hl : EvL tl σ H (ss.map V.int)) (hz : ss.length ≤ 1000) (hss : ∀ i, i < ss.length → 0 < at0 ss i ∧ at0 ss i < 18446744073709551616) : EvL (tCall (spDigits K) [] E (tCons ta (tCons tl tNil))) σ H ((digits c ss).map V.int) := fun H1 e Q q =>
  h H1 e _ fun H2 e2 => hl H2 (e.trans e2) _ fun p H3 hp e3 h3 => ⟨c, p, ss, rfl, sq_of h3, hz, hss, fun l H4 hl4 e4 h4 => q l H4 (fresh_back (e2.trans e3) hl4) ((e2.trans e3).trans e4) h4⟩
theorem ev_call2L {x z : V} {xs dvs : List V} (h : Ev ta σ H x) (hl : EvL tl σ H xs) (hs : ∀ p H1, Ex H H1 → H1 p = some (.lst xs) → SpV sp ([x, .ref p] ++ dvs) H1 z) : Ev (tCall sp dvs E (tCons ta (tCons tl tNil))) σ H z := fun H1 e Q q =>
  h H1 e _ fun H2 e2 => hl H2 (e.trans e2) _ fun p H3 hp e3 h3 => hs p H3 ((e.trans e2).trans e3) h3 H3 (Ex.refl H3) Q (fun H4 e4 => q H4 ((e2.trans e3).trans e4)) E
theorem ev_call1L {y z : V} {xs dvs : List V} (hl : EvL tl σ H xs) (h : ∀ H1, Ex H H1 → Ev ta σ H1 y) (hs : ∀ p H1, Ex H H1 → H1 p = some (.lst xs) → SpV sp ([.ref p, y] ++ dvs) H1 z) : Ev (tCall sp dvs E (tCons tl (tCons ta tNil))) σ H z := fun H1 e Q q =>
  hl H1 e _ fun p H2 hp e2 h2 => h H2 (e.trans e2) H2 (Ex.refl H2) _ fun H3 e3 => hs p H3 ((e.trans e2).trans e3) (e3 _ _ h2) H3 (Ex.refl H3) Q (fun H4 e4 => q H4 ((e2.trans e3).trans e4)) E
theorem ev_callL {z : V} {xs dvs : List V} (hl : EvL tl σ H xs) (hs : ∀ p H1, Ex H H1 → H1 p = some (.lst xs) → SpV sp ([.ref p] ++ dvs) H1 z) : Ev (tCall sp dvs E (tCons tl tNil)) σ H z := fun H1 e Q q =>
  hl H1 e _ fun p H2 hp e2 h2 => hs p H2 (e.trans e2) h2 H2 (Ex.refl H2) Q (fun H4 e4 => q H4 (e2.trans e4)) E
theorem el_slN {xs : List V} {t1 t2 : TO} {lo hi : Option Int} (h : EvL tl σ H xs) (h1 : ∀ H1, Ex H H1 → EvO t1 σ H1 lo) (h2 : ∀ H1, Ex H H1 → EvO t2 σ H1 hi) : EvL (tSl (rSlL K) tl t1 t2) σ H (cutV xs lo hi) := fun H1 e Q q =>
  h H1 e _ fun p H2 hp e2 hx => h1 H2 (e.trans e2) H2 (Ex.refl H2) _ fun H3 e3 => h2 H3 ((e.trans e2).trans e3) H3 (Ex.refl H3) _ fun H4 e4 =>
    ⟨p, xs, rfl, sq_of (e4 _ _ (e3 _ _ hx)), fun l hl => q l _ (fresh_back ((e2.trans e3).trans e4) hl) (((e2.trans e3).trans e4).trans (Ex.new hl)) upd_same⟩
theorem q_callD {ta : TA} {vs dvs : List V} {i : Nat} (h : EvA ta σ H vs) (k : ∀ H1, Ex H H1 → sp (vs ++ dvs) H1 (fun x H2 => tz D (σ.set i (some x)) H2) E) : tSeq (tAsg (tCall sp dvs E ta) (gName i)) tz D σ H := h H (Ex.refl H) _ k
end
def spLw : Sp := fun vs H Q _ => ∃ n : Int, vs = [.int n] ∧ 1 ≤ n ∧ n ≤ 2 ^ 2100 ∧ RetV (.int (bitsOf n)) H Q
theorem sv_lw {n : Int} {H : Hp} (h1 : 1 ≤ n) (h2 : n ≤ 2 ^ 2100) : SpV spLw ([V.int n] ++ []) H (.int (bitsOf n)) := fun _ _ _ q _ => ⟨n, rfl, h1, h2, q⟩
def spNb : Sp := fun vs H Q _ => ∃ n m : Int, vs = [.int n, .int m] ∧ 0 ≤ n ∧ n < m ∧ m ≤ 2 ^ 1000 ∧ RetV (.str (nb n m)) H Q
theorem sv_nb {n m : Int} {H : Hp} (h0 : 0 ≤ n) (h1 : n < m) (h2 : m ≤ 2 ^ 1000) : SpV spNb ([V.int n, V.int m] ++ []) H (.str (nb n m)) := fun _ _ _ q _ => ⟨n, m, rfl, h0, h1, h2, q⟩
def spWidth : Sp := fun vs H Q _ => ∃ n : Int, vs = [.int n] ∧ RetV (.int (bitsOf n)) H Q
theorem sv_width {n : Int} {H : Hp} : SpV spWidth ([V.int n] ++ []) H (.int (bitsOf n)) := fun _ _ _ q _ => ⟨n, rfl, q⟩
end
end Ver
namespace Ver
open PySem PySem.Spec PyProof.Rows L2 Evl
open PySem.Builtin PySem.Builtin.Str
/-! ### texts as lists of codes -/
abbrev tx (l : List Nat) : V := .str (SX.S l)
theorem tx_inj {a b : List Nat} (h : tx a = tx b) : a = b := SX.S_inj (V.str.inj h)
theorem tx_dec {a b : List Nat} : decide (tx a = tx b) = decide (a = b) := decide_eq_decide.mpr ⟨tx_inj, fun h => by rw [h]⟩
theorem stripLo_all {goes : Nat → Bool} {l : List Nat} (h : ∀ c ∈ l, goes c = true) : stripLo goes true (SX.S l) = l.length := by
  unfold stripLo
  rw [if_pos rfl]
  show (l.takeWhile goes).length = _
  rw [List.takeWhile_eq_filter_of_all h]
where
  List.takeWhile_eq_filter_of_all {goes : Nat → Bool} {l : List Nat} (h : ∀ c ∈ l, goes c = true) : l.takeWhile goes = l := by
    induction l with
    | nil => rfl
    | cons a r ih =>
      rw [List.takeWhile_cons, if_pos (h a (List.mem_cons_self ..)), ih fun c hc => h c (List.mem_cons_of_mem _ hc)]
theorem strip_to {goes : Nat → Bool} {r : Bool} {l : List Nat} (h : ∀ c ∈ l, goes c = true) : Txt.stripBy goes true r (SX.S l) = SX.S [] := by
  have hlo := stripLo_all h
  unfold Txt.stripBy stripSame stripped
  rw [hlo]
  have hhi : stripHi goes r (SX.S l) l.length = l.length := by
    unfold stripHi
    rw [SX.S_len]
    have e : (SX.S l).cps.toList.drop l.length = [] := List.drop_length
    rw [e]
    cases r <;> rfl
  rw [hhi, SX.S_len]
  cases l with
  | nil => rfl
  | cons a t =>
    rw [if_neg (by simp)]
    unfold strSub
    rw [← SX.S_tl ((⟨(SX.S (a :: t)).cps.extract (a :: t).length (a :: t).length⟩ : Str))]
    congr 1
    simp
theorem has_contains {l m : List Nat} (h : ∀ c ∈ l, c ∈ m) : ∀ c ∈ l, (SX.S m).cps.contains c = true := fun c hc => by
  have := h c hc
  simpa using this
theorem strip_chars {l m : List Nat} (h : ∀ c ∈ l, c ∈ m) : Txt.stripChars (SX.S l) (SX.S m) = SX.S [] := strip_to (has_contains h)
theorem lstrip_chars {l m : List Nat} (h : ∀ c ∈ l, c ∈ m) : Txt.lstripChars (SX.S l) (SX.S m) = SX.S [] := strip_to (has_contains h)
theorem occ_mem (s sub : Str) (hi lim : Nat) : ∀ (l : List Nat) (st : Array Nat × Nat) (k : Nat), k ∈ (forIn l st (StrLaws.occBody s sub hi lim)).run.fst.toList → k ∈ st.fst.toList ∨ (k + sub.length ≤ hi ∧ subAt s sub k = true)
  | [], st, k, h => .inl h
  | a :: l, st, k, h => by
    rw [List.forIn_cons] at h
    unfold StrLaws.occBody at h
    split at h
    · rename_i c
      rcases occ_mem s sub hi lim l _ k h with q | q
      · have q2 : k ∈ st.fst.toList ++ [a] := by simpa using q
        rcases List.mem_append.mp q2 with z | z
        · exact .inl z
        · rw [List.mem_singleton.mp z]
          exact .inr ⟨c.1.2, c.2⟩
      · exact .inr q
    · exact occ_mem s sub hi lim l _ k h
/-- the one place of a sign in a text without repeats -/
theorem index_one {l : List Nat} {c i : Nat} (nd : l.Nodup) (h : l[i]? = some c) : ∃ rest, occurrences (SX.S l) (SX.S [c]) 0 (SX.S l).length 1 = i :: rest := by
  have f := StrLaws.found_one (SX.S l) c
  have hm : c ∈ l := List.mem_of_getElem? h
  have e : (⟨#[c]⟩ : Str) = SX.S [c] := rfl
  rw [e] at f
  rw [show decide (c ∈ (SX.S l).cps.toList) = true from decide_eq_true hm] at f
  cases ho : occurrences (SX.S l) (SX.S [c]) 0 (SX.S l).length 1 with
  | nil =>
    rw [ho] at f
    cases f
  | cons j rest =>
    have hj : j ∈ occurrences (SX.S l) (SX.S [c]) 0 (SX.S l).length 1 := by
      rw [ho]
      exact List.mem_cons_self ..
    rw [StrLaws.occ_eq] at hj
    rcases occ_mem _ _ _ _ _ _ _ hj with z | z
    · cases z
    · have g := (StrLaws.subAt_one (SX.S l) c j).mp z
      have g2 : l[j]? = some c := g
      obtain ⟨h1, e1⟩ := List.getElem?_eq_some_iff.mp h
      obtain ⟨h2, e2⟩ := List.getElem?_eq_some_iff.mp g2
      have : i = j := (List.getElem_inj nd).mp (e1.trans e2.symm)
      subst this
      exact ⟨rest, rfl⟩
theorem starts_S {a b : List Nat} : Txt.startswith (SX.S a) (SX.S b) = decide (b <+: a) := by
  unfold Txt.startswith
  rw [StrLaws.subAt_eq, SX.S_len, SX.S_len]
  show (decide (0 + b.length ≤ a.length) && ((a.drop 0).take b.length == b)) = _
  rw [List.drop_zero, Nat.zero_add, Bool.eq_iff_iff, Bool.and_eq_true, decide_eq_true_eq, beq_iff_eq, decide_eq_true_eq]
  constructor
  · intro h
    rw [← h.2]
    exact List.take_prefix _ _
  · intro h
    exact ⟨h.length_le, (List.prefix_iff_eq_take.mp h).symm⟩
/-! ### text * n -/
theorem foldl_reps (l : List Nat) : ∀ (n : Nat) (acc : Array Nat), ((List.replicate n l.toArray).foldl (· ++ ·) acc).toList = acc.toList ++ (List.replicate n l).flatten
  | 0, acc => by simp
  | n + 1, acc => by
    rw [List.replicate_succ, List.foldl_cons, foldl_reps l n, List.replicate_succ, List.flatten_cons]
    simp
theorem mul_S {l : List Nat} {n : Nat} : Txt.mul (SX.S l) (n : Int) = SX.S (List.replicate n l).flatten := by
  unfold Txt.mul
  by_cases h : (n : Int) < 1
  · rw [if_pos h]
    have : n = 0 := by omega
    subst this
    rfl
  · rw [if_neg h]
    by_cases c : ((n : Int) == 1 || (SX.S l).length == 0) = true
    · rw [if_pos c]
      rw [SX.S_len, Bool.or_eq_true, beq_iff_eq, beq_iff_eq] at c
      rcases c with c | c
      · have : n = 1 := by omega
        subst this
        simp
      · have : l = [] := List.eq_nil_of_length_eq_zero c
        subst this
        have e : (List.replicate n ([] : List Nat)).flatten = [] := by simp
        rw [e]
    · rw [if_neg c, Int.toNat_natCast]
      have e := foldl_reps l n #[]
      rw [← SX.S_tl ((⟨(List.replicate n (SX.S l).cps).foldl (· ++ ·) #[]⟩ : Str))]
      congr 1
def rMulS : R2 := fun x y H Q => ∃ (l : List Nat) (n : Nat), x = tx l ∧ y = .int (n : Int) ∧ n ≤ 100000 ∧ l.length * n ≤ 100000 ∧ Q (tx (List.replicate n l).flatten) H
theorem mul_ok {l : List Nat} {n : Nat} (h1 : n ≤ 100000) (h2 : l.length * n ≤ 100000) : MulOk (SX.S l) (n : Int) := by
  refine ⟨?_, fun h c => ?_, fun h c => ?_⟩
  · have a : ¬ (n : Int) < -(2 ^ 63 : Int) := by omega
    have b : ¬ (n : Int) ≥ 2 ^ 63 := by omega
    rw [decide_eq_false a, decide_eq_false b]
    rfl
  · rw [SX.S_len]
    have hn : 0 < (n : Int) := by omega
    have e : ((l.length : Int) * n) ≤ 100000 := by
      rw [← Int.natCast_mul]
      omega
    have k : (l.length : Int) ≤ (2 ^ 63 - 1) / n := (Int.le_ediv_iff_mul_le hn).mpr (by omega)
    omega
  · rw [SX.S_len, Int.toNat_natCast]
    unfold tooLong
    have := sz_of h2
    exact decide_eq_false (by omega)
theorem op_mulS {X : Cx} : OpR X (binaryOp .Mult) rMulS := by
  intro pins s σ H x y v u Q I rx ry h
  obtain ⟨l, n, rfl, rfl, h1, h2, q⟩ := h
  obtain ⟨t, rfl⟩ := rx
  obtain ⟨t', rfl⟩ := ry
  refine SB.mul (mul_ok h1 h2) fun t2 k => ?_
  rw [mul_S]
  exact ⟨tx _, H, I.tok _, ⟨_, rfl⟩, q⟩
/-! ### text[::-1] -/
theorem pe_revS {X : Cx} {e : Expr} {te : TE} {k : Nat} {p1 p2 p3 pos : Pos} (he : PE X e te) : PE X (.Subscript e (.Slice none none (some (.UnaryOp .USub (.Constant (.int 1) k p1) p2)) p3) pos) (tRevS te) := by
  refine ⟨fun pins s σ H Q I h => ?_⟩
  refine Subscript_ (thn (he.run pins s σ H _ I h) fun v s1 ⟨x, H1, I1, r1, q1⟩ => ?_)
  obtain ⟨z, ex, hz, q⟩ := q1
  subst ex
  obtain ⟨t, rfl⟩ := r1
  have hst : PO X (some (.UnaryOp .USub (.Constant (.int 1) k p1) p2)) (tPart (tUn (rU fun i => .int (-i)) (tC (.int 1)))) := po_some (pe_un un_neg pe_int)
  refine wpAny_Slice (thn (po_none.run pins s1 σ H1 (fun o H2 => o = none ∧ H2 = H1) I1 ⟨rfl, rfl⟩) fun vl s2 ⟨l, H2, I2, pl, el, e2⟩ => ?_)
  subst el e2
  refine thn (po_none.run pins s2 σ H2 (fun o H3 => o = none ∧ H3 = H2) I2 ⟨rfl, rfl⟩) fun vu s3 ⟨u, H3, I3, pu, eu, e3⟩ => ?_
  subst eu e3
  refine thn (hst.run pins s3 σ H3 (fun o H4 => o = some (-1) ∧ H4 = H3) I3 ⟨1, rfl, -1, rfl, rfl, rfl⟩) fun vs s4 ⟨o, H4, I4, ps, eo, e4⟩ => ?_
  subst eo e4
  have I5 : Inv X pins σ H4 { s4 with heap := s4.heap.push { cls := .type "slice", data := .fields #[vl, vu, vs] } } := I4.kept (t' := s4.toks) fun b ob q => Heap.get?_push_of_some _ q
  obtain ⟨l, rfl, hl⟩ := IsPart.raw pl
  obtain ⟨u, rfl, hu⟩ := IsPart.raw pu
  obtain ⟨w, rfl, hw⟩ := IsPart.raw ps
  cases l with
  | some l => cases hl
  | none =>
  cases u with
  | some u => cases hu
  | none =>
  cases w with
  | none => cases hw
  | some w =>
  obtain ⟨w1, w2⟩ := w
  have ew : w1 = -1 := by
    have : some w1 = some (-1 : Int) := hw
    exact Option.some.inj this
  subst ew
  refine tail_any (ops := [.ref s4.heap.objs.size, .str z t]) (typeIs_str _ _ _) F.slot_str_getitem.lookup ?_ (by with_unfolding_all rfl)
  refine wpAny_getItem_str_slice (l := none) (u := none) (st := some (-1, w2)) ⟨_, Heap.get?_push_size _ rfl, rfl, rfl⟩ rfl ?_
  have hc : ¬ ((((some ((-1 : Int), w2)).map (·.1)).getD 1 == 1 && (slicePicked z none none (some (-1, w2))).length == z.length) = true) := by
    have : (((some ((-1 : Int), w2)).map (·.1)).getD 1 == 1) = false := rfl
    rw [this]
    simp
  have hl := step_rev_list z w2
  have hn := step_rev_len z w2
  unfold Txt.sliceBy at hl hn
  rw [if_neg hc] at hl hn
  unfold sliceMade
  rw [if_neg hc]
  refine ⟨?_, .str _, H4, I5.tok _, ⟨_, rfl⟩, q _ ?_ (Nat.le_of_eq hn)⟩
  · show (⟨((slicePicked z none none (some (-1, w2))).filterMap (z.cps[·]?)).toArray⟩ : Str).length ≤ sizeLine
    rw [hn]
    exact hz
  · intro c hcm
    rw [hl] at hcm
    obtain ⟨k, hk, rfl⟩ := List.mem_map.mp hcm
    have hk' := List.mem_range.mp hk
    have hlt : z.length - 1 - k < z.cps.size := by
      have : z.length = z.cps.size := rfl
      omega
    have e : z.cps.getD (z.length - 1 - k) 0 = z.cps[z.length - 1 - k] := by simp [Array.getD, hlt]
    rw [e]
    simp
end Ver
namespace Ver
/-! ### numbers of a list in a stretch -/
theorem card_le : ∀ (n a : Nat) (T : List Nat), T.Nodup → (∀ x ∈ T, a ≤ x ∧ x < a + n) → T.length ≤ n
  | 0, a, T, _, h => by
    cases T with
    | nil => exact Nat.le_refl 0
    | cons x r =>
      have := h x (List.mem_cons_self ..)
      omega
  | n + 1, a, T, nd, h => by
    by_cases hm : a + n ∈ T
    · have e := List.length_erase_of_mem hm
      have ih := card_le n a (T.erase (a + n)) (nd.erase _) fun x hx => by
        have h1 := h x (List.mem_of_mem_erase hx)
        have h2 : x ≠ a + n := fun q => by
          rw [q] at hx
          exact nd.not_mem_erase hx
        omega
      omega
    · have ih := card_le n a T nd fun x hx => by
        have h1 := h x hx
        have h2 : x ≠ a + n := fun q => hm (q ▸ hx)
        omega
      omega
/-- how many of T are below v -/
def bel (T : List Nat) (v : Nat) : Nat := T.countP (fun x => decide (x < v))
theorem bel_le {T : List Nat} (nd : T.Nodup) (v : Nat) : bel T v ≤ v := by
  unfold bel
  rw [List.countP_eq_length_filter]
  have := card_le v 0 (T.filter fun x => decide (x < v)) (nd.filter _) fun x hx => by
    have := of_decide_eq_true (List.mem_filter.mp hx).2
    omega
  exact this
theorem bel_step {T : List Nat} (nd : T.Nodup) {x y : Nat} (h : x < y) (hx : x ∉ T) : bel T y ≤ bel T x + (y - x - 1) := by
  have e : bel T y = bel T x + (T.filter fun z => decide (x < z ∧ z < y)).length := by
    unfold bel
    rw [← List.countP_eq_length_filter]
    clear nd
    induction T with
    | nil => rfl
    | cons a r ih =>
      have ih := ih fun q => hx (List.mem_cons_of_mem _ q)
      have ha : a ≠ x := fun q => hx (q ▸ List.mem_cons_self ..)
      rw [List.countP_cons, List.countP_cons, List.countP_cons, ih]
      by_cases c1 : a < x
      · rw [if_pos (decide_eq_true (show a < y by omega)), if_pos (decide_eq_true c1), if_neg (by simp; omega)]
        omega
      · by_cases c2 : a < y
        · rw [if_pos (decide_eq_true c2), if_neg (by simpa using c1), if_pos (decide_eq_true (show x < a ∧ a < y by omega))]
          omega
        · rw [if_neg (by simpa using c2), if_neg (by simpa using c1), if_neg (by simp; omega)]
          omega
  have := card_le (y - x - 1) (x + 1) (T.filter fun z => decide (x < z ∧ z < y)) (nd.filter _) fun z hz => by
    have := of_decide_eq_true (List.mem_filter.mp hz).2
    omega
  omega
/-- the free number of x among those that T leaves is below that of y -/
theorem bel_lt {T : List Nat} (nd : T.Nodup) {x y : Nat} (h : x < y) (hx : x ∉ T) : x - bel T x < y - bel T y := by
  have h1 := bel_step nd h hx
  have h2 := bel_le nd x
  omega
theorem bel_all {T : List Nat} {v : Nat} (h : ∀ x ∈ T, x < v) : bel T v = T.length := by
  unfold bel
  exact List.countP_eq_length.mpr fun x hx => decide_eq_true (h x hx)
/-- x is among the free ones below v -/
theorem bel_room {T : List Nat} (nd : T.Nodup) {x v : Nat} (h : x < v) (hx : x ∉ T) (hT : ∀ z ∈ T, z < v) : x - bel T x < v - T.length := by
  have := bel_lt nd h hx
  rw [bel_all hT] at this
  exact this
/-! ### rows, pieces -/
abbrev Rw := List (Nat × Nat)
def pcs (rs : Rw) : List (List Nat) := rs.foldl (fun ps r => ps ++ [ps.getD r.1 [] ++ [r.2]]) [[]]
theorem pcs_snoc (rs : Rw) (r : Nat × Nat) : pcs (rs ++ [r]) = pcs rs ++ [(pcs rs).getD r.1 [] ++ [r.2]] := by
  unfold pcs
  rw [List.foldl_append]
  rfl
theorem snoc_ind {α : Type} {M : List α → Prop} (h0 : M []) (hs : ∀ l a, M l → M (l ++ [a])) (l : List α) : M l := by
  have h : ∀ n (l : List α), l.length = n → M l := by
    intro n
    induction n with
    | zero =>
      intro l hl
      rw [List.eq_nil_of_length_eq_zero hl]
      exact h0
    | succ n ih =>
      intro l hl
      have hne : l ≠ [] := fun q => by rw [q] at hl; cases hl
      have e := (List.dropLast_concat_getLast hne).symm
      rw [e]
      refine hs _ _ (ih _ ?_)
      rw [List.length_dropLast, hl]
      rfl
  exact h _ l rfl
theorem pcs_len (rs : Rw) : (pcs rs).length = rs.length + 1 := by
  induction rs using snoc_ind with
  | h0 => rfl
  | hs l a ih => rw [pcs_snoc, List.length_append, ih, List.length_append]; rfl
structure RowsOk (al : List Nat) (rs : Rw) : Prop where
  low : ∀ (i p c : Nat), rs[i]? = some (p, c) → p ≤ i ∧ c ∈ al
  nd : rs.Nodup
theorem RowsOk.init {al : List Nat} {rs : Rw} {r : Nat × Nat} (h : RowsOk al (rs ++ [r])) : RowsOk al rs := by
  refine ⟨fun i p c e => h.low i p c ?_, (List.nodup_append.mp h.nd).1⟩
  rw [List.getElem?_append_left (List.getElem?_eq_some_iff.mp e).1]
  exact e
theorem RowsOk.last {al : List Nat} {rs : Rw} {p c : Nat} (h : RowsOk al (rs ++ [(p, c)])) : p ≤ rs.length ∧ c ∈ al ∧ (p, c) ∉ rs := by
  have h1 := h.low rs.length p c (by simp)
  refine ⟨h1.1, h1.2, fun hm => ?_⟩
  have := (List.nodup_append.mp h.nd).2.2 (p, c) hm (p, c) (List.mem_singleton.mpr rfl)
  exact this rfl
theorem RowsOk.snoc {al : List Nat} {rs : Rw} {p c : Nat} (h : RowsOk al rs) (h1 : p ≤ rs.length) (h2 : c ∈ al) (h3 : (p, c) ∉ rs) : RowsOk al (rs ++ [(p, c)]) := by
  refine ⟨fun i q d e => ?_, List.nodup_append.mpr ⟨h.nd, by simp, ?_⟩⟩
  · by_cases hi : i < rs.length
    · rw [List.getElem?_append_left hi] at e
      exact h.low i q d e
    · rw [List.getElem?_append_right (by omega)] at e
      have hz : i - rs.length = 0 := by
        have := (List.getElem?_eq_some_iff.mp e).1
        simp at this
        omega
      rw [hz] at e
      cases e
      exact ⟨by omega, h2⟩
  · intro a ha b hb
    rw [List.mem_singleton.mp hb]
    intro q
    exact h3 (q ▸ ha)
theorem getD_mem {l : List (List Nat)} {i : Nat} (h : i < l.length) : l.getD i [] ∈ l := by
  rw [List.getD_eq_getElem?_getD, List.getElem?_eq_getElem h]
  exact List.getElem_mem h
theorem getD_inj {l : List (List Nat)} (nd : l.Nodup) {i j : Nat} (hi : i < l.length) (hj : j < l.length) (h : l.getD i [] = l.getD j []) : i = j := by
  rw [List.getD_eq_getElem?_getD, List.getD_eq_getElem?_getD, List.getElem?_eq_getElem hi, List.getElem?_eq_getElem hj] at h
  exact (List.getElem_inj nd).mp h
theorem idx_getD {l : List (List Nat)} (nd : l.Nodup) {i : Nat} (h : i < l.length) : l.idxOf (l.getD i []) = i := by
  have hm := getD_mem h
  have h1 := List.idxOf_lt_length_of_mem hm
  refine getD_inj nd h1 h ?_
  rw [List.getD_eq_getElem?_getD, List.getElem?_eq_getElem h1]
  show l[l.idxOf (l.getD i [])] = _
  exact List.getElem_idxOf h1
theorem pcs_zero (rs : Rw) : (pcs rs).getD 0 [] = [] := by
  induction rs using snoc_ind with
  | h0 => rfl
  | hs l a ih =>
    rw [pcs_snoc, List.getD_eq_getElem?_getD, List.getElem?_append_left (by rw [pcs_len]; omega), ← List.getD_eq_getElem?_getD]
    exact ih
/-- the piece of parent p with sign c is there just where the row is, and one place further on -/
theorem pcs_facts {al : List Nat} : ∀ rs : Rw, RowsOk al rs → (pcs rs).Nodup ∧ (∀ (i p c : Nat), rs[i]? = some (p, c) → (pcs rs).getD (i + 1) [] = (pcs rs).getD p [] ++ [c]) ∧
    ∀ (p c : Nat), p ≤ rs.length → ((pcs rs).getD p [] ++ [c] ∈ pcs rs ↔ (p, c) ∈ rs) := by
  intro rs
  induction rs using snoc_ind with
  | h0 =>
    intro _
    refine ⟨by simp [pcs], fun i p c h => by simp at h, fun p c hp => ?_⟩
    simp [pcs]
  | hs rs a ih =>
    intro ok
    obtain ⟨q, d⟩ := a
    obtain ⟨nd, rows, ex⟩ := ih ok.init
    obtain ⟨hq, _, hn⟩ := ok.last
    have hnew : (pcs rs).getD q [] ++ [d] ∉ pcs rs := fun h => hn ((ex q d hq).mp h)
    have hl := pcs_len rs
    have nd2 : (pcs (rs ++ [(q, d)])).Nodup := by
      rw [pcs_snoc]
      exact List.nodup_append.mpr ⟨nd, by simp, fun x hx y hy e => hnew (by rw [List.mem_singleton.mp hy] at e; exact e ▸ hx)⟩
    have old : ∀ k, k ≤ rs.length → (pcs (rs ++ [(q, d)])).getD k [] = (pcs rs).getD k [] := fun k hk => by
      rw [pcs_snoc, List.getD_eq_getElem?_getD, List.getElem?_append_left (by omega), ← List.getD_eq_getElem?_getD]
    have new : (pcs (rs ++ [(q, d)])).getD (rs.length + 1) [] = (pcs rs).getD q [] ++ [d] := by
      rw [pcs_snoc, List.getD_eq_getElem?_getD, List.getElem?_append_right (by omega), hl]
      simp
    refine ⟨nd2, fun i p c h => ?_, fun p c hp => ?_⟩
    · by_cases hi : i < rs.length
      · rw [List.getElem?_append_left hi] at h
        have hp := (ok.init.low i p c h).1
        rw [old _ (by omega), old _ (by omega)]
        exact rows i p c h
      · have hi2 : i = rs.length := by
          have := (List.getElem?_eq_some_iff.mp h).1
          simp at this
          omega
        subst hi2
        have e : (q, d) = (p, c) := by simpa using h
        cases e
        rw [new, old _ hq]
    · by_cases hp2 : p ≤ rs.length
      · rw [old _ hp2, pcs_snoc, List.mem_append, List.mem_append, ex p c hp2, List.mem_singleton, List.mem_singleton]
        refine or_congr Iff.rfl ⟨fun h => ?_, fun h => ?_⟩
        · obtain ⟨e1, e2⟩ := List.append_inj' h rfl
          have := getD_inj nd (by omega) (by omega) e1
          cases e2
          rw [this]
        · cases h
          rfl
      · have e : p = rs.length + 1 := by
          rw [List.length_append] at hp
          simp at hp
          omega
        subst e
        rw [new]
        constructor
        · intro h
          -- a piece one longer than the last one
          exfalso
          rw [pcs_snoc, List.mem_append, List.mem_singleton] at h
          rcases h with h | h
          · -- its beginning would be a piece of the old ones
            obtain ⟨j, hj, ej⟩ := List.mem_iff_getElem.mp h
            cases j with
            | zero =>
              have e0 : (pcs rs)[0] = [] := by
                have h0 : (pcs rs).getD 0 [] = [] := pcs_zero rs
                rw [List.getD_eq_getElem?_getD, List.getElem?_eq_getElem hj] at h0
                exact h0
              rw [e0] at ej
              simp at ej
            | succ j =>
              have hj2 : j < rs.length := by omega
              have hg : rs[j]? = some ((rs[j]).1, (rs[j]).2) := List.getElem?_eq_getElem hj2
              have hrow := rows j _ _ hg
              rw [List.getD_eq_getElem?_getD, List.getElem?_eq_getElem hj] at hrow
              have e3 : (pcs rs)[j + 1] = (pcs rs).getD (rs[j]).1 [] ++ [(rs[j]).2] := hrow
              rw [e3] at ej
              obtain ⟨e1, _⟩ := List.append_inj' ej rfl
              have hp' := (ok.init.low j _ _ hg).1
              refine hnew ?_
              rw [← e1]
              exact getD_mem (by omega)
          · have := congrArg List.length h
            simp at this
        · intro h
          exfalso
          rcases List.mem_append.mp h with h | h
          · obtain ⟨j, hj⟩ := List.mem_iff_getElem?.mp h
            have := (ok.init.low j _ _ hj).1
            have := (List.getElem?_eq_some_iff.mp hj).1
            omega
          · have h2 := List.mem_singleton.mp h
            have : rs.length + 1 = q := congrArg Prod.fst h2
            omega
end Ver
namespace Ver
/-! ### the cut -/
def cutStep (s : Rw × Nat) (c : Nat) : Rw × Nat := if (s.2, c) ∈ s.1 then (s.1, s.1.idxOf (s.2, c) + 1) else (s.1 ++ [(s.2, c)], 0)
def cutW (w : List Nat) : Rw × Nat := w.foldl cutStep ([], 0)
theorem cut_snoc (w : List Nat) (c : Nat) : cutW (w ++ [c]) = cutStep (cutW w) c := by
  unfold cutW
  rw [List.foldl_append]
  rfl
structure CutOk (al w : List Nat) (s : Rw × Nat) : Prop where
  ok : RowsOk al s.1
  low : s.2 ≤ s.1.length
  word : w = (pcs s.1).flatten ++ (pcs s.1).getD s.2 []
  few : s.1.length ≤ w.length
theorem idx_row {rs : Rw} {r : Nat × Nat} (h : r ∈ rs) : rs.idxOf r < rs.length ∧ rs[rs.idxOf r]? = some r := by
  have h1 := List.idxOf_lt_length_of_mem h
  refine ⟨h1, ?_⟩
  rw [List.getElem?_eq_getElem h1, List.getElem_idxOf h1]
theorem cut_ok {al : List Nat} (w : List Nat) (h : ∀ c ∈ w, c ∈ al) : CutOk al w (cutW w) := by
  induction w using snoc_ind with
  | h0 => exact ⟨⟨fun i p c h => by simp [cutW] at h, List.nodup_nil⟩, Nat.le_refl 0, by simp [cutW, pcs], Nat.le_refl 0⟩
  | hs w c ih0 =>
    have ih := ih0 fun d hd => h d (List.mem_append_left _ hd)
    have hc : c ∈ al := h c (List.mem_append_right _ (List.mem_singleton.mpr rfl))
    rw [cut_snoc]
    generalize cutW w = s at ih ⊢
    obtain ⟨rs, p⟩ := s
    obtain ⟨ok, low, word, few⟩ := ih
    have low : p ≤ rs.length := low
    obtain ⟨nd, rows, ex⟩ := pcs_facts rs ok
    have word : w = (pcs rs).flatten ++ (pcs rs).getD p [] := word
    have few : rs.length ≤ w.length := few
    unfold cutStep
    by_cases hm : (p, c) ∈ rs
    · rw [if_pos hm]
      obtain ⟨h1, h2⟩ := idx_row hm
      refine ⟨ok, h1, ?_, ?_⟩
      · show w ++ [c] = (pcs rs).flatten ++ (pcs rs).getD (rs.idxOf (p, c) + 1) []
        rw [rows _ p c h2, word, List.append_assoc]
      · show rs.length ≤ (w ++ [c]).length
        rw [List.length_append]
        omega
    · rw [if_neg hm]
      refine ⟨ok.snoc low hc hm, Nat.zero_le _, ?_, ?_⟩
      · show w ++ [c] = (pcs (rs ++ [(p, c)])).flatten ++ (pcs (rs ++ [(p, c)])).getD 0 []
        rw [pcs_zero, pcs_snoc, List.flatten_append, word]
        simp
      · show (rs ++ [(p, c)]).length ≤ (w ++ [c]).length
        rw [List.length_append, List.length_append]
        show rs.length + 1 ≤ w.length + 1
        omega
theorem cut_inj {al w v : List Nat} (hw : ∀ c ∈ w, c ∈ al) (hv : ∀ c ∈ v, c ∈ al) (h : cutW w = cutW v) : w = v := by
  rw [(cut_ok w hw).word, (cut_ok v hv).word, h]
/-! ### places -/
/-- an alphabet: its signs ascend -/
structure Alf (al : List Nat) : Prop where
  asc : al.Pairwise (· < ·)
  pos : 1 ≤ al.length
  six : al.length ≤ 6
  let' : ∀ c ∈ al, (48 ≤ c ∧ c ≤ 57) ∨ (97 ≤ c ∧ c ≤ 122)
theorem Alf.nd {al : List Nat} (h : Alf al) : al.Nodup := h.asc.imp fun h => Nat.ne_of_lt h
theorem idx_lt {al : List Nat} (h : al.Pairwise (· < ·)) {c d : Nat} (hc : c ∈ al) (hd : d ∈ al) : c < d ↔ al.idxOf c < al.idxOf d := by
  have h1 := List.idxOf_lt_length_of_mem hc
  have h2 := List.idxOf_lt_length_of_mem hd
  have e1 := List.getElem_idxOf h1
  have e2 := List.getElem_idxOf h2
  have key : ∀ i j (hi : i < al.length) (hj : j < al.length), i < j → al[i] < al[j] := fun i j hi hj hij => List.pairwise_iff_getElem.mp h i j hi hj hij
  constructor
  · intro hcd
    rcases Nat.lt_trichotomy (al.idxOf c) (al.idxOf d) with q | q | q
    · exact q
    · have : c = d := by rw [← e1, ← e2]; simp only [q]
      omega
    · have := key _ _ h2 h1 q
      rw [e1, e2] at this
      omega
  · intro q
    have := key _ _ h1 h2 q
    rw [e1, e2] at this
    exact this
def plc (al : List Nat) (r : Nat × Nat) : Nat := r.1 * al.length + al.idxOf r.2
theorem plc_lt {al : List Nat} {p c k : Nat} (hc : c ∈ al) (hp : p ≤ k) : plc al (p, c) < (k + 1) * al.length := by
  have h1 := List.idxOf_lt_length_of_mem hc
  have h2 : p * al.length ≤ k * al.length := Nat.mul_le_mul_right _ hp
  unfold plc
  rw [Nat.add_mul, Nat.one_mul]
  show p * al.length + al.idxOf c < _
  omega
def rlt (a b : Nat × Nat) : Prop := a.1 < b.1 ∨ a.1 = b.1 ∧ a.2 < b.2
theorem plc_mono {al : List Nat} (h : al.Pairwise (· < ·)) {a b : Nat × Nat} (ha : a.2 ∈ al) (hb : b.2 ∈ al) (hl : rlt a b) : plc al a < plc al b := by
  rcases hl with hl | ⟨h1, h2⟩
  · have h1 := plc_lt (p := a.1) ha (Nat.le_refl a.1)
    have h2 : (a.1 + 1) * al.length ≤ b.1 * al.length := Nat.mul_le_mul_right _ hl
    unfold plc at h1 ⊢
    show a.1 * al.length + al.idxOf a.2 < b.1 * al.length + al.idxOf b.2
    have h1 : a.1 * al.length + al.idxOf a.2 < (a.1 + 1) * al.length := h1
    omega
  · have := (idx_lt h ha hb).mp h2
    unfold plc
    rw [h1]
    omega
theorem rlt_tri {a b : Nat × Nat} (h : a ≠ b) : rlt a b ∨ rlt b a := by
  obtain ⟨a1, a2⟩ := a
  obtain ⟨b1, b2⟩ := b
  unfold rlt
  rcases Nat.lt_trichotomy a1 b1 with q | q | q
  · exact .inl (.inl q)
  · subst q
    rcases Nat.lt_trichotomy a2 b2 with q | q | q
    · exact .inl (.inr ⟨rfl, q⟩)
    · subst q
      exact absurd rfl h
    · exact .inr (.inr ⟨rfl, q⟩)
  · exact .inr (.inl q)
theorem plc_inj {al : List Nat} (h : al.Pairwise (· < ·)) {a b : Nat × Nat} (ha : a.2 ∈ al) (hb : b.2 ∈ al) (e : plc al a = plc al b) : a = b := by
  refine Classical.byContradiction fun hn => ?_
  rcases rlt_tri hn with q | q
  · have := plc_mono h ha hb q
    omega
  · have := plc_mono h hb ha q
    omega
def rowAt (rs : Rw) (k : Nat) : Nat × Nat := rs.getD k (0, 0)
theorem rowAt_get {rs : Rw} {k : Nat} (h : k < rs.length) : rs[k]? = some (rowAt rs k) := by
  unfold rowAt
  rw [List.getD_eq_getElem?_getD, List.getElem?_eq_getElem h]
  rfl
def pls (al : List Nat) (rs : Rw) : List Nat := rs.map (plc al)
def pnum (al : List Nat) (rs : Rw) (k : Nat) : Nat := plc al (rowAt rs k) - bel (pls al (rs.take k)) (plc al (rowAt rs k))
theorem row_ok {al : List Nat} {rs : Rw} (h : RowsOk al rs) {k : Nat} (hk : k < rs.length) : (rowAt rs k).1 ≤ k ∧ (rowAt rs k).2 ∈ al := h.low k _ _ (rowAt_get hk)
theorem RowsOk.take {al : List Nat} {rs : Rw} (h : RowsOk al rs) (k : Nat) : RowsOk al (rs.take k) := by
  refine ⟨fun i p c e => h.low i p c ?_, h.nd.sublist (List.take_sublist k rs)⟩
  rw [List.getElem?_take] at e
  split at e
  · exact e
  · cases e
theorem mem_row {al : List Nat} {rs : Rw} (h : RowsOk al rs) {r : Nat × Nat} (hr : r ∈ rs) : r.1 + 1 ≤ rs.length ∧ r.2 ∈ al := by
  obtain ⟨j, hj⟩ := List.mem_iff_getElem?.mp hr
  have h1 := h.low j r.1 r.2 hj
  have h2 := (List.getElem?_eq_some_iff.mp hj).1
  exact ⟨by omega, h1.2⟩
theorem pls_nd {al : List Nat} (ha : al.Pairwise (· < ·)) {rs : Rw} (h : RowsOk al rs) : (pls al rs).Nodup := by
  unfold pls
  refine List.pairwise_map.mpr ?_
  have h2 := h.nd
  refine List.Pairwise.imp_of_mem (fun {a b} ma mb hne e => hne ?_) h2
  exact plc_inj ha (mem_row h ma).2 (mem_row h mb).2 e
theorem pls_room {al : List Nat} {rs : Rw} (h : RowsOk al rs) : ∀ z ∈ pls al rs, z < rs.length * al.length := fun z hz => by
  obtain ⟨r, hr, rfl⟩ := List.mem_map.mp hz
  obtain ⟨h1, h2⟩ := mem_row h hr
  have := plc_lt (p := r.1) (k := r.1) h2 (Nat.le_refl _)
  exact Nat.lt_of_lt_of_le this (Nat.mul_le_mul_right _ h1)
theorem free_row {al : List Nat} (ha : al.Pairwise (· < ·)) {rs : Rw} (h : RowsOk al rs) {k : Nat} (hk : k < rs.length) : plc al (rowAt rs k) ∉ pls al (rs.take k) := fun hm => by
  obtain ⟨r, hr, e⟩ := List.mem_map.mp hm
  have h1 := (mem_row (h.take k) hr).2
  have e2 := plc_inj ha h1 (row_ok h hk).2 e
  obtain ⟨j, hj⟩ := List.mem_iff_getElem?.mp hr
  have hjk : j < k := by
    have := (List.getElem?_eq_some_iff.mp hj).1
    rw [List.length_take] at this
    omega
  rw [List.getElem?_take, if_pos hjk] at hj
  have hg := rowAt_get hk
  rw [e2] at hj
  obtain ⟨a1, b1⟩ := List.getElem?_eq_some_iff.mp hj
  obtain ⟨a2, b2⟩ := List.getElem?_eq_some_iff.mp hg
  have := (List.getElem_inj h.nd).mp (b1.trans b2.symm)
  omega
def opt (al : List Nat) (k : Nat) : Nat := (k + 1) * al.length - k + 1
theorem pnum_lt {al : List Nat} (ha : al.Pairwise (· < ·)) (hp : 1 ≤ al.length) {rs : Rw} (h : RowsOk al rs) {k : Nat} (hk : k < rs.length) : 1 + pnum al rs k < opt al k := by
  have hr := row_ok h hk
  have hl := plc_lt (p := (rowAt rs k).1) hr.2 hr.1
  have hn := pls_nd ha (h.take k)
  have hf := free_row ha h hk
  have hT : ∀ z ∈ pls al (rs.take k), z < (k + 1) * al.length := fun z hz => by
    have h1 := pls_room (h.take k) z hz
    rw [List.length_take, Nat.min_eq_left (by omega)] at h1
    exact Nat.lt_of_lt_of_le h1 (Nat.mul_le_mul_right _ (by omega))
  have key := bel_room hn (x := plc al (rowAt rs k)) hl hf hT
  have e : (pls al (rs.take k)).length = k := by
    unfold pls
    rw [List.length_map, List.length_take]
    omega
  rw [e] at key
  unfold pnum opt
  omega
/-! ### the numbers of the block -/
def num (al : List Nat) (rs : Rw) (k : Nat) : Nat := if k < rs.length then 1 + pnum al rs k else 0
theorem opt_two {al : List Nat} (hp : 1 ≤ al.length) (k : Nat) : 2 ≤ opt al k := by
  unfold opt
  have : (k + 1) * 1 ≤ (k + 1) * al.length := Nat.mul_le_mul_left _ hp
  omega
theorem num_lt {al : List Nat} (ha : al.Pairwise (· < ·)) (hp : 1 ≤ al.length) {rs : Rw} (h : RowsOk al rs) {k : Nat} : num al rs k < opt al k := by
  unfold num
  split
  · exact pnum_lt ha hp h (by assumption)
  · have := opt_two hp k
    omega
theorem num_same {al : List Nat} {rs rt : Rw} {s : Nat} (e : rs.take s = rt.take s) (h1 : s ≤ rs.length) (h2 : s ≤ rt.length) {k : Nat} (hk : k < s) : num al rs k = num al rt k := by
  unfold num pnum
  have er : rowAt rs k = rowAt rt k := by
    unfold rowAt
    rw [List.getD_eq_getElem?_getD, List.getD_eq_getElem?_getD]
    have a : (rs.take s)[k]? = rs[k]? := by rw [List.getElem?_take, if_pos hk]
    have b : (rt.take s)[k]? = rt[k]? := by rw [List.getElem?_take, if_pos hk]
    rw [← a, ← b, e]
  have et : rs.take k = rt.take k := by
    have a : (rs.take s).take k = rs.take k := by rw [List.take_take, Nat.min_eq_left (by omega)]
    have b : (rt.take s).take k = rt.take k := by rw [List.take_take, Nat.min_eq_left (by omega)]
    rw [← a, ← b, e]
  rw [if_pos (by omega), if_pos (by omega), er, et]
def wid (n : Nat) : Nat := (bitsOf (n : Int)).toNat
def nbl (n m : Nat) : List Nat := nbL n (wid m)
theorem nbl_ok {n m : Nat} (h : n < m) : Nb (nbl n m) (n : Int) (wid m) := by
  have := bits_lt (n := (n : Int)) (m := (m : Int)) (by omega) (by omega)
  rw [Int.toNat_natCast] at this
  exact nb_ok this
def prt (al : List Nat) (rs : Rw) (k : Nat) : List Nat := nbl (num al rs k) (opt al k)
def pre (al : List Nat) (rs : Rw) : Nat → List Nat
  | 0 => []
  | k + 1 => pre al rs k ++ prt al rs k
def rch (al : List Nat) : Nat → Nat
  | 0 => 0
  | k + 1 => rch al k + wid (opt al k)
def blk (al : List Nat) (s : Rw × Nat) : List Nat := pre al s.1 (s.1.length + 1) ++ nbl s.2 (s.1.length + 1)
theorem pre_len {al : List Nat} (ha : al.Pairwise (· < ·)) (hp : 1 ≤ al.length) {rs : Rw} (h : RowsOk al rs) : ∀ k, (pre al rs k).length = rch al k
  | 0 => rfl
  | k + 1 => by
    show (pre al rs k ++ nbl (num al rs k) (opt al k)).length = rch al k + wid (opt al k)
    rw [List.length_append, pre_len ha hp h k, (nbl_ok (num_lt ha hp h)).len]
theorem pre_same {al : List Nat} {rs rt : Rw} {s : Nat} (e : rs.take s = rt.take s) (h1 : s ≤ rs.length) (h2 : s ≤ rt.length) : ∀ k, k ≤ s → pre al rs k = pre al rt k
  | 0, _ => rfl
  | k + 1, hk => by
    show pre al rs k ++ prt al rs k = pre al rt k ++ prt al rt k
    rw [pre_same e h1 h2 k (by omega)]
    unfold prt
    rw [num_same e h1 h2 (by omega)]
theorem pre_split {al : List Nat} {rs : Rw} {s : Nat} : ∀ n, s < n → ∃ U, pre al rs n = pre al rs s ++ (prt al rs s ++ U)
  | 0, h => absurd h (Nat.not_lt_zero _)
  | n + 1, h => by
    by_cases c : s = n
    · subst c
      exact ⟨[], by show pre al rs s ++ prt al rs s = _; simp⟩
    · obtain ⟨U, e⟩ := pre_split (al := al) (rs := rs) (s := s) n (by omega)
      refine ⟨U ++ prt al rs n, ?_⟩
      show pre al rs n ++ prt al rs n = _
      rw [e]
      simp
theorem blk_len {al : List Nat} (ha : al.Pairwise (· < ·)) (hp : 1 ≤ al.length) {rs : Rw} (h : RowsOk al rs) {t : Nat} (ht : t ≤ rs.length) : (blk al (rs, t)).length = rch al (rs.length + 1) + wid (rs.length + 1) := by
  show (pre al rs (rs.length + 1) ++ nbl t (rs.length + 1)).length = _
  rw [List.length_append, pre_len ha hp h, (nbl_ok (show t < rs.length + 1 by omega)).len]
/-- A and B agree on R signs, and differ within the next W: there A is before B just where less -/
structure Parted (A B : List Nat) (R W : Nat) (less : Bool) : Prop where
  ex : ∃ P X Y U V, A = P ++ (X ++ U) ∧ B = P ++ (Y ++ V) ∧ P.length = R ∧ X.length = W ∧ Y.length = W ∧ if less = true then X < Y else Y < X
theorem nbl_lex {n k m : Nat} (hn : n < m) (hk : k < m) (h : n < k) : nbl n m < nbl k m := by
  have a := nbl_ok hn
  have b := nbl_ok hk
  exact lex_of_val _ _ (a.len.trans b.len.symm) a.digs b.digs (by rw [a.v, b.v]; omega)
theorem parted_of {al : List Nat} {P U V : List Nat} {n k m R : Nat} {less : Bool} (hn : n < m) (hk : k < m) (hP : P.length = R) (h : if less = true then n < k else k < n) : Parted (P ++ (nbl n m ++ U)) (P ++ (nbl k m ++ V)) R (wid m) less := by
  refine ⟨P, nbl n m, nbl k m, U, V, rfl, rfl, hP, (nbl_ok hn).len, (nbl_ok hk).len, ?_⟩
  cases less with
  | true => exact nbl_lex hn hk h
  | false => exact nbl_lex hk hn h
/-- the rows agree up to s, and there one ends or they differ -/
theorem parted_rows {al : List Nat} (A : Alf al) {rs rt : Rw} {t u s : Nat} (h1 : RowsOk al rs) (h2 : RowsOk al rt) (e : rs.take s = rt.take s) (l1 : s ≤ rs.length) (l2 : s ≤ rt.length) {less : Bool}
    (h : if less = true then num al rs s < num al rt s else num al rt s < num al rs s) : Parted (blk al (rs, t)) (blk al (rt, u)) (rch al s) (wid (opt al s)) less := by
  obtain ⟨U, e1⟩ := pre_split (al := al) (rs := rs) (s := s) (rs.length + 1) (by omega)
  obtain ⟨V, e2⟩ := pre_split (al := al) (rs := rt) (s := s) (rt.length + 1) (by omega)
  have p1 := pre_same (al := al) e l1 l2 s (Nat.le_refl _)
  show Parted (pre al rs (rs.length + 1) ++ nbl t (rs.length + 1)) (pre al rt (rt.length + 1) ++ nbl u (rt.length + 1)) _ _ _
  rw [e1, e2, List.append_assoc, List.append_assoc, List.append_assoc, List.append_assoc, ← p1]
  exact parted_of (al := al) (num_lt A.asc A.pos h1) (num_lt A.asc A.pos h2) (pre_len A.asc A.pos h1 s) h
theorem num_end {al : List Nat} {rs : Rw} : num al rs rs.length = 0 := if_neg (Nat.lt_irrefl _)
theorem num_pos {al : List Nat} {rs : Rw} {k : Nat} (h : k < rs.length) : num al rs k = 1 + pnum al rs k := if_pos h
theorem num_row {al : List Nat} (A : Alf al) {rs rt : Rw} {s : Nat} (h1 : RowsOk al rs) (h2 : RowsOk al rt) (e : rs.take s = rt.take s) (l1 : s < rs.length) (l2 : s < rt.length) (h : rlt (rowAt rs s) (rowAt rt s)) : num al rs s < num al rt s := by
  rw [num_pos l1, num_pos l2]
  unfold pnum
  have k1 := plc_mono A.asc (row_ok h1 l1).2 (row_ok h2 l2).2 h
  have k2 := bel_lt (pls_nd A.asc (h1.take s)) k1 (free_row A.asc h1 l1)
  rw [← e]
  omega
/-- both have the same rows: the tails tell -/
theorem parted_tails {al : List Nat} (A : Alf al) {rs : Rw} {t u : Nat} (h1 : RowsOk al rs) (ht : t ≤ rs.length) (hu : u ≤ rs.length) {less : Bool} (h : if less = true then t < u else u < t) :
    Parted (blk al (rs, t)) (blk al (rs, u)) (rch al (rs.length + 1)) (wid (rs.length + 1)) less := by
  have p := parted_of (al := al) (P := pre al rs (rs.length + 1)) (U := []) (V := []) (n := t) (k := u) (m := rs.length + 1) (R := rch al (rs.length + 1)) (less := less) (by omega) (by omega) (pre_len A.asc A.pos h1 _) h
  rw [List.append_nil, List.append_nil] at p
  exact p
theorem Parted.not_pre {A B : List Nat} {R W : Nat} {less : Bool} (h : Parted A B R W less) : ¬ A <+: B ∧ ¬ B <+: A := by
  obtain ⟨P, X, Y, U, V, rfl, rfl, hP, hX, hY, hl⟩ := h.ex
  have ne : X ≠ Y := fun e => by
    subst e
    cases less with
    | true => exact List.lt_irrefl _ hl
    | false => exact List.lt_irrefl _ hl
  have key : ∀ {X Y U V : List Nat}, X.length = Y.length → P ++ (X ++ U) <+: P ++ (Y ++ V) → X = Y := fun hxy hp => by
    obtain ⟨Z, hz⟩ := hp
    rw [List.append_assoc, List.append_assoc] at hz
    have h2 := List.append_cancel_left hz
    exact (List.append_inj h2 hxy).1
  exact ⟨fun hp => ne (key (hX.trans hY.symm) hp), fun hp => ne (key (hY.trans hX.symm) hp).symm⟩
theorem Parted.cut {A B : List Nat} {R W : Nat} {less : Bool} (h : Parted A B R W less) : R + W ≤ A.length ∧ R + W ≤ B.length ∧ A.take R = B.take R ∧
    (if less = true then (A.drop R).take W < (B.drop R).take W else (B.drop R).take W < (A.drop R).take W) := by
  obtain ⟨P, X, Y, U, V, rfl, rfl, hP, hX, hY, hl⟩ := h.ex
  subst hP
  have t1 : ∀ {Z : List Nat}, (P ++ Z).take P.length = P := fun {Z} => by simp
  have t2 : ∀ {Z : List Nat}, (P ++ Z).drop P.length = Z := fun {Z} => by simp
  have t3 : (X ++ U).take W = X := by rw [← hX]; simp
  have t4 : (Y ++ V).take W = Y := by rw [← hY]; simp
  refine ⟨?_, ?_, ?_, ?_⟩
  · simp only [List.length_append]
    omega
  · simp only [List.length_append]
    omega
  · rw [t1, t1]
  · rw [t2, t2, t3, t4]
    exact hl
theorem rch_mono {al : List Nat} : ∀ {i j : Nat}, i ≤ j → rch al i ≤ rch al j := by
  intro i j h
  induction h with
  | refl => exact Nat.le_refl _
  | @step k _ ih =>
    show rch al i ≤ rch al k + _
    omega
theorem wid_pow {n : Nat} (h : 1 ≤ n) : n ≤ 2 ^ wid n := by
  have := bits_lt (n := ((n - 1 : Nat) : Int)) (m := (n : Int)) (by omega) (by omega)
  rw [Int.toNat_natCast] at this
  unfold wid
  omega
theorem wid_mono {n m : Nat} (h1 : 1 ≤ n) (h : n ≤ m) : wid n ≤ wid m := by
  have hp := wid_pow (show 1 ≤ m by omega)
  have := bits_le (m := (n : Int)) (b := wid m) (by omega) (by
    have e : (2 : Int) ^ wid m = ((2 ^ wid m : Nat) : Int) := by
      rw [Int.natCast_pow]
      rfl
    rw [e]
    omega)
  unfold wid at this ⊢
  omega
theorem wid_two {n : Nat} (h : 2 ≤ n) : 1 ≤ wid n := by
  have hp := wid_pow (show 1 ≤ n by omega)
  cases e : wid n with
  | zero =>
    rw [e] at hp
    simp at hp
    omega
  | succ k => omega
def bln (al : List Nat) (m : Nat) : Nat := rch al (m + 1) + wid (m + 1)
theorem bln_lt {al : List Nat} (hp : 1 ≤ al.length) {m k : Nat} (h : m < k) : bln al m < bln al k := by
  have h1 := rch_mono (al := al) (show m + 2 ≤ k + 1 by omega)
  have h2 := wid_two (opt_two hp (m + 1))
  have h3 := wid_mono (n := m + 1) (m := k + 1) (by omega) (by omega)
  have h4 : rch al (m + 2) = rch al (m + 1) + wid (opt al (m + 1)) := rfl
  unfold bln
  omega
theorem bln_iff {al : List Nat} (hp : 1 ≤ al.length) {m k : Nat} : (bln al m < bln al k ↔ m < k) ∧ (bln al m = bln al k ↔ m = k) := by
  rcases Nat.lt_trichotomy m k with h | h | h
  · have := bln_lt hp h
    omega
  · subst h
    omega
  · have := bln_lt hp h
    omega
/-- what the law computes of two cuts whose rows agree up to s -/
def lR (al : List Nat) (a b : Rw × Nat) (s : Nat) : Nat := if s = a.1.length ∧ s = b.1.length then rch al (s + 1) else rch al s
def lW (al : List Nat) (a b : Rw × Nat) (s : Nat) : Nat := if s = a.1.length ∧ s = b.1.length then wid (s + 1) else wid (opt al s)
def rltb (a b : Nat × Nat) : Bool := decide (a.1 < b.1 ∨ a.1 = b.1 ∧ a.2 < b.2)
def lL (a b : Rw × Nat) (s : Nat) : Bool := if s = a.1.length ∧ s = b.1.length then decide (a.2 < b.2) else if s = a.1.length ∨ s = b.1.length then decide (a.1.length < b.1.length) else rltb (rowAt a.1 s) (rowAt b.1 s)
structure Agree (a b : Rw) (s : Nat) : Prop where
  same : a.take s = b.take s
  l1 : s ≤ a.length
  l2 : s ≤ b.length
  last : s = a.length ∨ s = b.length ∨ rowAt a s ≠ rowAt b s
theorem law_pair {al w v : List Nat} (A : Alf al) (hw : ∀ c ∈ w, c ∈ al) (hv : ∀ c ∈ v, c ∈ al) (ne : w ≠ v) {s : Nat} (g : Agree (cutW w).1 (cutW v).1 s) :
    Parted (blk al (cutW w)) (blk al (cutW v)) (lR al (cutW w) (cutW v) s) (lW al (cutW w) (cutW v) s) (lL (cutW w) (cutW v) s) := by
  have k1 := cut_ok w hw
  have k2 := cut_ok v hv
  have hne : cutW w ≠ cutW v := fun e => ne (cut_inj hw hv e)
  generalize cutW w = a at *
  generalize cutW v = b at *
  obtain ⟨rs, t⟩ := a
  obtain ⟨rt, u⟩ := b
  have o1 : RowsOk al rs := k1.ok
  have o2 : RowsOk al rt := k2.ok
  have t1 : t ≤ rs.length := k1.low
  have t2 : u ≤ rt.length := k2.low
  obtain ⟨same, l1, l2, last⟩ := g
  have l1 : s ≤ rs.length := l1
  have l2 : s ≤ rt.length := l2
  have same : rs.take s = rt.take s := same
  have last : s = rs.length ∨ s = rt.length ∨ rowAt rs s ≠ rowAt rt s := last
  unfold lR lW lL
  show Parted _ _ (if s = rs.length ∧ s = rt.length then rch al (s + 1) else rch al s) (if s = rs.length ∧ s = rt.length then wid (s + 1) else wid (opt al s)) (if s = rs.length ∧ s = rt.length then decide (t < u) else if s = rs.length ∨ s = rt.length then decide (rs.length < rt.length) else rltb (rowAt rs s) (rowAt rt s))
  by_cases c : s = rs.length ∧ s = rt.length
  · rw [if_pos c, if_pos c, if_pos c]
    have er : rs = rt := by
      rw [List.take_of_length_le (by omega), List.take_of_length_le (by omega)] at same
      exact same
    subst er
    have htu : t ≠ u := fun e => hne (by rw [e])
    rw [c.1]
    refine parted_tails A o1 t1 t2 ?_
    by_cases q : t < u
    · rw [if_pos (decide_eq_true q)]
      exact q
    · rw [if_neg (by simpa using q)]
      omega
  · rw [if_neg c, if_neg c, if_neg c]
    refine parted_rows A o1 o2 same l1 l2 ?_
    by_cases d : s = rs.length ∨ s = rt.length
    · rw [if_pos d]
      rcases d with d | d
      · have hlt : rs.length < rt.length := by omega
        rw [if_pos (decide_eq_true hlt)]
        have h0 : num al rs s = 0 := by
          rw [d]
          exact num_end
        rw [h0, num_pos (by omega)]
        omega
      · have hlt : ¬ rs.length < rt.length := by omega
        rw [if_neg (by simpa using hlt)]
        have h0 : num al rt s = 0 := by
          rw [d]
          exact num_end
        rw [h0, num_pos (by omega)]
        omega
    · rw [if_neg d]
      have d1 : s < rs.length := by omega
      have d2 : s < rt.length := by omega
      have hn : rowAt rs s ≠ rowAt rt s := by
        rcases last with z | z | z
        · exact absurd (.inl z) d
        · exact absurd (.inr z) d
        · exact z
      by_cases q : rlt (rowAt rs s) (rowAt rt s)
      · rw [if_pos (show rltb (rowAt rs s) (rowAt rt s) = true from decide_eq_true q)]
        exact num_row A o1 o2 same d1 d2 q
      · rw [if_neg (show ¬ rltb (rowAt rs s) (rowAt rt s) = true from fun h => q (by unfold rltb at h; unfold rlt; exact of_decide_eq_true h))]
        have q2 := (rlt_tri hn).resolve_left q
        exact num_row A o2 o1 same.symm d2 d1 q2
theorem blk_cut_len {al w : List Nat} (A : Alf al) (hw : ∀ c ∈ w, c ∈ al) : (blk al (cutW w)).length = bln al (cutW w).1.length := by
  have k := cut_ok w hw
  exact blk_len A.asc A.pos k.ok k.low
/-- one there is: the rows agree up to some place -/
theorem agree_ex : ∀ (a b : Rw), ∃ s, Agree a b s := by
  intro a b
  have h : ∀ n, n ≤ a.length → n ≤ b.length → a.take n = b.take n → ∃ s, Agree a b s := by
    intro n
    generalize hd : a.length - n = d
    induction d generalizing n with
    | zero => exact fun h1 h2 e => ⟨n, e, h1, h2, .inl (by omega)⟩
    | succ d ih =>
      intro h1 h2 e
      by_cases c : n = b.length
      · exact ⟨n, e, h1, h2, .inr (.inl c)⟩
      · by_cases q : rowAt a n = rowAt b n
        · refine ih (n + 1) (by omega) (by omega) (by omega) ?_
          rw [List.take_add_one, List.take_add_one, e, rowAt_get (by omega), rowAt_get (by omega), q]
        · exact ⟨n, e, h1, h2, .inr (.inr q)⟩
  exact h 0 (Nat.zero_le _) (Nat.zero_le _) rfl
theorem blk_not_pre {al w v : List Nat} (A : Alf al) (hw : ∀ c ∈ w, c ∈ al) (hv : ∀ c ∈ v, c ∈ al) (ne : w ≠ v) : ¬ blk al (cutW w) <+: blk al (cutW v) := by
  obtain ⟨s, g⟩ := agree_ex (cutW w).1 (cutW v).1
  exact (law_pair A hw hv ne g).not_pre.1
end Ver
namespace Ver
open PySem PySem.Spec PyProof.Rows L2 Evl
structure At (K : PySem.W.Frag) (mg : Str → Option Value) (x : Str) (st : Stmt) : Prop where
  ex : ∃ f fd, Fun K x x st f fd ∧ mg x = some (.ref f)
def Has (P : Program) (w : World) (K : PySem.W.Frag) (mg : Str → Option Value) (base : Heap) (x : Str) (st : Stmt) (ps : List Str) (k : Nat) (sp : Sp) : Prop :=
  ∃ f fd, Fun K x x st f fd ∧ FnOk P w K mg base CX0 k f fd ps sp ∧ Binds K fd ps [] ∧ mg x = some (.ref f) ∧ PySem.W.keepIn K (.ref f) = true
/-- an __init__, and the class that it makes -/
structure AtI (K : PySem.W.Frag) (C : Addr) (q : Str) (st : Stmt) : Prop where
  ex : ∃ f fd, Fun K "__init__" q st f fd ∧ Mk K C f
def HasI (P : Program) (w : World) (K : PySem.W.Frag) (mg : Str → Option Value) (base : Heap) (C : Addr) (ps : List Str) (k : Nat) (sp : Sp) : Prop :=
  ∃ f fd, FnOk P w K mg base CX0 k f fd ps sp ∧ Binds K fd ps [] ∧ Mk K C f
/-! ### data of the heap -/
structure RowsAt (H : Hp) (xs : List V) (rs : Rw) : Prop where
  len : xs.length = rs.length
  row : ∀ (i p c : Nat), rs[i]? = some (p, c) → ∃ r, xs[i]? = some (V.ref r) ∧ H r = some (.tup [.int (p : Int), tx [c]])
theorem RowsAt.mono {H H' : Hp} {xs : List V} {rs : Rw} (h : RowsAt H xs rs) (e : Ex H H') : RowsAt H' xs rs := ⟨h.len, fun i p c q => by
  obtain ⟨r, a, b⟩ := h.row i p c q
  exact ⟨r, a, e _ _ b⟩⟩
/-- what is no tuple may change -/
theorem RowsAt.upd {H : Hp} {xs : List V} {rs : Rw} {l : Addr} {o u : HO} (h : RowsAt H xs rs) (hl : H l = some u) (hu : ∀ ys, u ≠ .tup ys) : RowsAt (upd H l o) xs rs := ⟨h.len, fun i p c q => by
  obtain ⟨r, a, b⟩ := h.row i p c q
  refine ⟨r, a, ?_⟩
  rw [upd_ne]
  · exact b
  · intro z
    rw [z, hl] at b
    exact hu _ (Option.some.inj b)⟩
theorem RowsAt.nil {H : Hp} : RowsAt H [] [] := ⟨rfl, fun i p c q => by simp at q⟩
theorem RowsAt.snoc {H : Hp} {xs : List V} {rs : Rw} {r : Addr} {p c : Nat} (h : RowsAt H xs rs) (hr : H r = some (.tup [.int (p : Int), tx [c]])) : RowsAt H (xs ++ [.ref r]) (rs ++ [(p, c)]) := by
  refine ⟨by rw [List.length_append, List.length_append, h.len]; rfl, fun i q d e => ?_⟩
  by_cases hi : i < rs.length
  · rw [List.getElem?_append_left hi] at e
    obtain ⟨r', a, b⟩ := h.row i q d e
    exact ⟨r', by rw [List.getElem?_append_left (by rw [h.len]; exact hi)]; exact a, b⟩
  · have h1 := (List.getElem?_eq_some_iff.mp e).1
    rw [List.length_append] at h1
    have e2 : i = rs.length := by
      simp at h1
      omega
    subst e2
    have e3 : (p, c) = (q, d) := by simpa using e
    cases e3
    refine ⟨r, ?_, hr⟩
    rw [← h.len]
    simp
theorem RowsAt.get {H : Hp} {xs : List V} {rs : Rw} (h : RowsAt H xs rs) {i : Nat} {x : V} (hx : xs[i]? = some x) : i < rs.length ∧ ∃ r, x = .ref r ∧ H r = some (.tup [.int ((rowAt rs i).1 : Int), tx [(rowAt rs i).2]]) := by
  have hi : i < rs.length := by
    rw [← h.len]
    exact (List.getElem?_eq_some_iff.mp hx).1
  refine ⟨hi, ?_⟩
  obtain ⟨r, a, b⟩ := h.row i _ _ (rowAt_get hi)
  rw [a] at hx
  exact ⟨r, (Option.some.inj hx).symm, b⟩
/-! ### promises' shapes -/
def RetU (xs : List V) (H : Hp) (Q : VK) : Prop := ∀ p H2, H p = none → Ex H H2 → H2 p = some (.tup xs) → Q (.ref p) H2
section
variable {K : PySem.W.Frag} {σ : L2.St} {H : Hp} {ta tb te : TE} {t : TT} {tu tz : TS} {D : Ends}
/-! ### texts -/
theorem rc_lenS {l : List Nat} (h : l.length ≤ 100000) : RC (fun vs H Q => ∃ z : Str, vs = [.str z] ∧ z.length ≤ sizeLine ∧ Q (.int (z.length : Int)) H) [tx l] H (.int (l.length : Int)) := fun H1 _ Q q =>
  ⟨SX.S l, rfl, by rw [SX.S_len]; exact sz_of h, by rw [SX.S_len]; exact q H1 (Ex.refl H1)⟩
theorem ev_lenS {l : List Nat} (h : l.length ≤ 100000) (ha : Ev ta σ H (tx l)) : Ev (tCB (fun vs H Q => ∃ z : Str, vs = [.str z] ∧ z.length ≤ sizeLine ∧ Q (.int (z.length : Int)) H) (tCons ta tNil)) σ H (.int (l.length : Int)) := ev_cb (ea_cons ha ea_nil) (rc_lenS h)
theorem rv_ltS {a b : List Nat} : RV (fun x y H Q => ∃ i j : Str, x = .str i ∧ y = .str j ∧ Q (.bl (decide (i.cps.toList < j.cps.toList))) H) (tx a) (tx b) H (.bl (decide (a < b))) := fun H1 _ _ q => ⟨_, _, rfl, rfl, q H1 (Ex.refl H1)⟩
theorem ev_catS {a b : List Nat} (h : a.length + b.length ≤ 100000) (ha : Ev ta σ H (tx a)) (hb : Ev tb σ H (tx b)) : Ev (tOp (fun x y H Q => ∃ i j : Str, x = .str i ∧ y = .str j ∧ i.length + j.length ≤ sizeLine ∧ Q (.str (i ++ j)) H) ta tb) σ H (tx (a ++ b)) :=
  ev_op ha hb fun H1 _ Q q => ⟨_, _, rfl, rfl, by rw [SX.S_len, SX.S_len]; exact sz_of h, by rw [SX.S_cat]; exact q H1 (Ex.refl H1)⟩
theorem et_neS {a b : List Nat} (ha : Ev ta σ H (tx a)) (hb : Ev tb σ H (tx b)) : EvT (tTest (tOp rNe ta tb)) σ H (!decide (a = b)) := et_test (ev_is (ev_op ha hb (rv_ne rfl)) (by rw [tx_dec]))
theorem et_eqS {a b : List Nat} (ha : Ev ta σ H (tx a)) (hb : Ev tb σ H (tx b)) : EvT (tTest (tOp rEq ta tb)) σ H (decide (a = b)) := et_test (ev_is (ev_op ha hb (rv_eq rfl)) (by rw [tx_dec]))
theorem rv_inSign {c : Nat} {l : List Nat} : RV (fun x y H Q => ∃ (c : Nat) (z : Str), x = .str ⟨#[c]⟩ ∧ y = .str z ∧ Q (.bl (decide (c ∈ z.cps.toList))) H) (tx [c]) (tx l) H (.bl (decide (c ∈ l))) := fun H1 _ _ q => ⟨c, SX.S l, rfl, rfl, q H1 (Ex.refl H1)⟩
theorem cutS_all {l : List Nat} {lo hi : Option Int} : cutS (SX.S l) lo hi = SX.S ((l.drop (HT.sIx l.length 0 lo)).take (HT.sIx l.length l.length hi - HT.sIx l.length 0 lo)) := by
  unfold cutS
  rw [SX.S_len]
def cutL (l : List Nat) (lo hi : Option Int) : List Nat := (l.drop (HT.sIx l.length 0 lo)).take (HT.sIx l.length l.length hi - HT.sIx l.length 0 lo)
theorem cutL_from {l : List Nat} (n : Nat) : cutL l (some (n : Int)) none = l.drop n := by
  unfold cutL
  rw [HT.sIx_none, HT.sIx_nat]
  by_cases h : n ≤ l.length
  · rw [Nat.min_eq_left h]
    exact List.take_of_length_le (by rw [List.length_drop]; omega)
  · rw [Nat.min_eq_right (by omega), Nat.sub_self, List.take_zero, List.drop_eq_nil_of_le (by omega)]
theorem cutL_to {l : List Nat} (n : Nat) : cutL l none (some (n : Int)) = l.take n := by
  unfold cutL
  rw [HT.sIx_none, HT.sIx_nat]
  simp only [Nat.sub_zero, List.drop_zero]
  by_cases h : n ≤ l.length
  · rw [Nat.min_eq_left h]
  · rw [Nat.min_eq_right (by omega), List.take_length, List.take_of_length_le (by omega)]
theorem cutL_both {l : List Nat} (a b : Nat) : cutL l (some (a : Int)) (some ((a + b : Nat) : Int)) = (l.drop a).take b := by
  unfold cutL
  rw [HT.sIx_nat, HT.sIx_nat]
  by_cases h : a ≤ l.length
  · rw [Nat.min_eq_left h]
    by_cases h2 : a + b ≤ l.length
    · rw [Nat.min_eq_left h2]
      congr 1
      omega
    · rw [Nat.min_eq_right (by omega), List.take_of_length_le (by rw [List.length_drop]; omega), List.take_of_length_le (by rw [List.length_drop]; omega)]
  · rw [Nat.min_eq_right (by omega), Nat.min_eq_right (by omega), Nat.sub_self, List.take_zero, List.drop_eq_nil_of_le (by omega)]
    simp
theorem cutL_sub {l : List Nat} {lo hi : Option Int} : ∀ c ∈ cutL l lo hi, c ∈ l := fun c h => List.mem_of_mem_drop (List.mem_of_mem_take h)
theorem cutL_len {l : List Nat} {lo hi : Option Int} : (cutL l lo hi).length ≤ l.length := by
  unfold cutL
  rw [List.length_take, List.length_drop]
  omega
theorem ev_slS {l : List Nat} {tl th : TO} {lo hi : Option Int} (hz : l.length ≤ 100000) (h : Ev te σ H (tx l)) (h1 : EvO tl σ H lo) (h2 : EvO th σ H hi) : Ev (tSl rSlS te tl th) σ H (tx (cutL l lo hi)) := fun H1 e Q q =>
  h H1 e _ fun H2 e2 => h1 H2 (e.trans e2) _ fun H3 e3 => h2 H3 ((e.trans e2).trans e3) _ fun H4 e4 =>
    ⟨SX.S l, rfl, by rw [SX.S_len]; exact sz_of hz, by rw [cutS_all]; exact q H4 ((e2.trans e3).trans e4)⟩
theorem ev_ixS {l : List Nat} {i c : Nat} (hz : l.length ≤ 100000) (hi : l[i]? = some c) (ha : Ev ta σ H (tx l)) (hb : Ev tb σ H (.int (i : Int))) : Ev (tOp rIxS ta tb) σ H (tx [c]) :=
  ev_op ha hb (rv_ixS (w := SX.S l) (by rw [SX.S_len]; exact hz) (atI_nat hi))
theorem ev_mulS {l : List Nat} {n : Nat} (h1 : n ≤ 100000) (h2 : l.length * n ≤ 100000) (ha : Ev ta σ H (tx l)) (hb : Ev tb σ H (.int (n : Int))) : Ev (tOp rMulS ta tb) σ H (tx (List.replicate n l).flatten) :=
  ev_op ha hb fun H1 _ Q q => ⟨l, n, rfl, rfl, h1, h2, q H1 (Ex.refl H1)⟩
/-! ### lists made on the way -/
theorem ev_allN {bs : List Bool} (ha : EvL ta σ H (bs.map V.bl)) : Ev (tCB (rAll K) (tCons ta tNil)) σ H (.bl (bs.all id)) := fun H1 e Q q =>
  ha H1 e _ fun p H2 _ e2 h2 => ⟨p, bs, rfl, sq_of h2, q H2 e2⟩
theorem eu_tupOfL {xs : List V} (ha : EvL ta σ H xs) : EvU (tCB (fun xs H Q => ∃ p ys, xs = [.ref p] ∧ ((SqL K H p ys ∧ ∀ l, H l = none → Q (.ref l) (upd H l (.tup ys))) ∨ (SqT K H p ys ∧ Q (.ref p) H))) (tCons ta tNil)) σ H xs := fun H1 e Q q =>
  ha H1 e _ fun p H2 _ e2 h2 => ⟨p, xs, rfl, .inl ⟨sq_of h2, fun l hl => q l _ (fresh_back e2 hl) (e2.trans (Ex.new hl)) upd_same⟩⟩
theorem eu_tupOf {p : Addr} {xs : List V} (ha : Ev ta σ H (.ref p)) (hp : SqL K H p xs) : EvU (tCB (fun xs H Q => ∃ p ys, xs = [.ref p] ∧ ((SqL K H p ys ∧ ∀ l, H l = none → Q (.ref l) (upd H l (.tup ys))) ∨ (SqT K H p ys ∧ Q (.ref p) H))) (tCons ta tNil)) σ H xs := fun H1 e Q q =>
  ha H1 e _ fun H2 e2 => ⟨p, xs, rfl, .inl ⟨ex_l (e.trans e2) hp, fun l hl => q l _ (fresh_back e2 hl) (e2.trans (Ex.new hl)) upd_same⟩⟩
theorem rc_lenT {p : Addr} {xs : List V} (h : SqT K H p xs) : RC (fun vs H Q => ∃ p ys, vs = [V.ref p] ∧ (SqL K H p ys ∨ SqT K H p ys) ∧ Q (V.int ys.length) H) [.ref p] H (.int xs.length) := fun H1 e _ q =>
  ⟨p, xs, rfl, .inr (ex_t e h), q H1 (Ex.refl H1)⟩
/-- a list made over zip(text, text) -/
theorem el_lcZ {x y : List Nat} {tp : TA} {j1 j2 : Nat} {vs : List Nat} (v : Nat → V) (h : EvA tp σ H [tx x, tx y]) (hz : x.length ≤ 40000)
    (hw : ∀ a b, wipe (((wipe σ vs).set j1 (some a)).set j2 (some b)) vs = wipe σ vs)
    (he : ∀ (i c d : Nat) H1, Ex H H1 → x[i]? = some c → y[i]? = some d → Ev te (((wipe σ vs).set j1 (some (tx [c]))).set j2 (some (tx [d]))) H1 (v i)) :
    EvL (tLc (iZipS tp) (gTup K 2 (gCons (gName j1) (gCons (gName j2) gNil))) tYes te vs) σ H ((List.range (min x.length y.length)).map v) := fun H0 e Q q => h H0 e _ fun H1 e1 => ⟨SX.S x, SX.S y, rfl, fun Dl hD => by
  have hn : min (SX.S x).cps.size (SX.S y).cps.size = min x.length y.length := by
    show min x.toArray.size y.toArray.size = _
    simp
  refine lc_it walk_zs (Cw H1 (fun _ => true) v Dl) ⟨hD, Ex.new hD, upd_same⟩ (fun _ _ _ _ => trivial) (fun i z H' H2 hi p yp => ?_) (fun H' p => ?_)
  · obtain ⟨T, a, b, rfl, hT, rfl, ha, hb⟩ := yp
    have ha2 : (x[i]?).map (fun c => tx [c]) = some a := ha
    have hb2 : (y[i]?).map (fun c => tx [c]) = some b := hb
    cases hx : x[i]? with
    | none =>
      rw [hx] at ha2
      cases ha2
    | some c =>
    cases hy : y[i]? with
    | none =>
      rw [hy] at hb2
      cases hb2
    | some d =>
    rw [hx] at ha2
    rw [hy] at hb2
    cases ha2
    cases hb2
    have hxl := (List.getElem?_eq_some_iff.mp hx).1
    have p2 : Cw H1 (fun _ => true) v Dl i (L2.upd H' T (.tup [tx [c], tx [d]])) := ⟨p.1, p.2.1.trans (Ex.new hT), Ex.new hT _ _ p.2.2⟩
    exact ⟨T, _, rfl, st_of upd_same, rfl, _, _, rfl, _, _, rfl, rfl, hw _ _, cw_turn p2 (by omega) et_yes fun _ => he i c d H1 (e.trans e1) hx hy⟩
  · rw [hn] at p
    have e9 := given_all (min x.length y.length) v
    have p3 := p.2.2
    rw [e9] at p3
    exact q Dl H' (fresh_back e1 p.1) (e1.trans p.2.1) p3⟩
end
end Ver
namespace Ver
open PySem PySem.Spec PyProof.Rows L2 Evl
section
variable {K : PySem.W.Frag} {σ : L2.St} {H : Hp} {ta tb tc te tl ty td : TE} {t : TT} {tu tz : TS} {D : Ends}
abbrev gPair (K : PySem.W.Frag) (j1 j2 : Nat) : TG := gTup K 2 (gCons (gName j1) (gCons (gName j2) gNil))
theorem q_drop {v : V} (h : Ev te σ H v) (k : ∀ H1, Ex H H1 → tz D σ H1) : tSeq (tDrop te) tz D σ H := s_drop (D := { D with nx := tz D }) h k
/-- a, b = a pair that stands -/
theorem q_unp {r : Addr} {a b : V} {j1 j2 : Nat} (h : Ev te σ H (.ref r)) (hr : H r = some (.tup [a, b])) (k : ∀ H1, Ex H H1 → tz D ((σ.set j1 (some a)).set j2 (some b)) H1) : tSeq (tAsg te (gPair K j1 j2)) tz D σ H :=
  h H (Ex.refl H) _ fun H1 e => ⟨r, [a, b], rfl, st_of (e _ _ hr), rfl, a, [b], rfl, b, [], rfl, rfl, k H1 e⟩
/-- for i, x in enumerate(a tuple) -/
theorem s_forET {tp : TA} {a : Addr} {xs : List V} {j1 j2 : Nat} (h : EvA tp σ H [.ref a]) (hx : SqT K H a xs)
    (Pv : Nat → L2.St → Hp → Prop) (h0 : ∀ H1, Ex H H1 → Pv 0 σ H1) (hG : ∀ i σ' H', Pv i σ' H' → SqT K H' a xs)
    (hs : ∀ i x σ' H' H2, xs[i]? = some x → Pv i σ' H' → Ex H' H2 → tu { D with nx := Pv (i + 1), ct := Pv (i + 1), bk := D.nx } ((σ'.set j1 (some (.int (i : Int)))).set j2 (some x)) H2)
    (hd : ∀ σ' H', Pv xs.length σ' H' → D.nx σ' H') : tFor (iEnumT K tp) (gPair K j1 j2) tu D σ H := by
  refine h H (Ex.refl H) _ fun H1 e1 => ⟨a, xs, rfl, ex_t e1 hx, for_it (walk_eT (k := 0) (xs := xs)) Pv (h0 H1 e1) (fun i σ' H' _ p => hG i σ' H' p) ?_ hd⟩
  intro i v σ' H3 H4 _ p y
  obtain ⟨T, x, z, rfl, hT, rfl, e3, e4⟩ := y
  cases e3
  have g := hs i z σ' H3 (L2.upd H3 T (.tup [.int (0 + (i : Int)), z])) e4 p (Ex.new hT)
  have e0 : (0 : Int) + (i : Int) = (i : Int) := Int.zero_add _
  refine ⟨T, [.int (0 + (i : Int)), z], rfl, st_of upd_same, rfl, _, _, rfl, _, _, rfl, rfl, ?_⟩
  generalize L2.upd H3 T (.tup [.int (0 + (i : Int)), z]) = HX at g ⊢
  show tu _ ((σ'.set j1 (some (.int (0 + (i : Int))))).set j2 (some z)) HX
  rw [e0]
  exact g
/-- for p, c in rows (a tuple of pairs) -/
theorem q_forRows {a : Addr} {xs : List V} {rs : Rw} {j1 j2 : Nat} (h : Ev tl σ H (.ref a)) (hx : SqT K H a xs) (R : RowsAt H xs rs)
    (Pv : Nat → L2.St → Hp → Prop) (h0 : ∀ H1, Ex H H1 → Pv 0 σ H1) (hG : ∀ i σ' H', Pv i σ' H' → SqT K H' a xs ∧ RowsAt H' xs rs)
    (hs : ∀ i σ' H', i < rs.length → Pv i σ' H' → tu { D with nx := Pv (i + 1), ct := Pv (i + 1), bk := tz D } ((σ'.set j1 (some (.int ((rowAt rs i).1 : Int)))).set j2 (some (tx [(rowAt rs i).2]))) H')
    (hd : ∀ σ' H', Pv rs.length σ' H' → tz D σ' H') : tSeq (tFor (iTup K tl) (gPair K j1 j2) tu) tz D σ H := by
  refine q_forT h hx Pv h0 (fun i σ' H' _ p => (hG i σ' H' p).1) ?_ (by rw [R.len]; exact hd)
  intro i x σ' H' hi p
  obtain ⟨hlt, r, rfl, hr⟩ := (hG i σ' H' p).2.get hi
  exact ⟨r, _, rfl, st_of hr, rfl, _, _, rfl, _, _, rfl, rfl, hs i σ' H' hlt p⟩
/-! ### dicts -/
theorem et_din {a : Addr} {y : V} {o : Option V} (hy : Ev ty σ H y) (hd : Ev td σ H (.ref a)) (hg : ∀ H1, Ex H H1 → DGet H1 a y o) : EvT (tB (tDIn ty td)) σ H o.isSome := fun H1 e Q q =>
  hy H1 e _ fun H2 e2 => hd H2 (e.trans e2) _ fun H3 e3 => ⟨a, o, rfl, hg H3 ((e.trans e2).trans e3), o.isSome, rfl, q H3 (e2.trans e3)⟩
theorem ev_dget {a : Addr} {y v : V} (hd : Ev td σ H (.ref a)) (hy : Ev ty σ H y) (hg : ∀ H1, Ex H H1 → DGet H1 a y (some v)) : Ev (tDGet td ty) σ H v := fun H1 e Q q =>
  hd H1 e _ fun H2 e2 => hy H2 (e.trans e2) _ fun H3 e3 => ⟨a, v, rfl, hg H3 ((e.trans e2).trans e3), q H3 (e2.trans e3)⟩
theorem s_dput {a : Addr} {y v : V} {g : Hp → Hp} (hv : Ev te σ H v) (hd : Ev td σ H (.ref a)) (hy : Ev ty σ H y) (hp : ∀ H1, Ex H H1 → DPut H1 a y v (g H1)) (k : ∀ H1, Ex H H1 → D.nx σ (g H1)) : sDPut td ty te D σ H :=
  hv H (Ex.refl H) _ fun H1 e1 => hd H1 e1 _ fun H2 e2 => hy H2 (e1.trans e2) _ fun H3 e3 => ⟨a, g H3, rfl, hp H3 ((e1.trans e2).trans e3), k H3 ((e1.trans e2).trans e3)⟩
theorem q_dput {a : Addr} {y v : V} {g : Hp → Hp} (hv : Ev te σ H v) (hd : Ev td σ H (.ref a)) (hy : Ev ty σ H y) (hp : ∀ H1, Ex H H1 → DPut H1 a y v (g H1)) (k : ∀ H1, Ex H H1 → tz D σ (g H1)) : tSeq (sDPut td ty te) tz D σ H :=
  s_dput (D := { D with nx := tz D }) hv hd hy hp k
theorem q_newT {i : Nat} (k : ∀ p H1, H p = none → Ex H H1 → H1 p = some (.dT []) → tz D (σ.set i (some (.ref p))) H1) : tSeq (tAsg tDNewT (gName i)) tz D σ H := fun p hp => k p _ hp (Ex.new hp) upd_same
/-! ### list.insert, text.index, join -/
theorem q_ins {l : Addr} {xs : List V} {i : Nat} {v : V} (hl : H l = some (.lst xs)) (ha : Ev ta σ H (.ref l)) (hb : Ev tb σ H (.int (i : Int))) (hc : Ev tc σ H v) (hz : xs.length < 100000) (hi : i ≤ 100000)
    (k : ∀ H1, Ex H H1 → tz D σ (upd H1 l (.lst (xs.take i ++ [v] ++ xs.drop i)))) :
    tSeq (tDrop (tBM K "list" (fun x vs H Q => ∃ (l : Addr) (xs : List V) (i : Int) (y : V), x = .ref l ∧ vs = [.int i, y] ∧ H l = some (.lst xs) ∧ xs.length < sizeLine ∧ 0 ≤ i ∧ i < 2 ^ 63 ∧
      Q .non (upd H l (.lst (xs.take i.toNat ++ [y] ++ xs.drop i.toNat)))) ta (tCons tb (tCons tc tNil)))) tz D σ H :=
  ha H (Ex.refl H) _ fun H1 e1 => ⟨Or.inl ⟨rfl, xs, sq_of (e1 l _ hl)⟩, hb H1 e1 _ fun H2 e2 => hc H2 (e1.trans e2) _ fun H3 e3 =>
    ⟨l, xs, (i : Int), v, rfl, rfl, ((e1.trans e2).trans e3) l _ hl, sz_lt hz, by omega, by omega, by rw [Int.toNat_natCast]; exact k H3 ((e1.trans e2).trans e3)⟩⟩
theorem ev_sidx {l : List Nat} {c i : Nat} (nd : l.Nodup) (hi : l[i]? = some c) (ha : Ev ta σ H (tx l)) (hb : Ev tb σ H (tx [c])) : Ev (tBM K "str" (fun x xs H Q => ∃ a b i rest, x = .str a ∧ xs = [.str b] ∧ Builtin.Str.occurrences a b 0 a.length 1 = i :: rest ∧ Q (.int (i : Nat)) H) ta (tCons tb tNil)) σ H (.int (i : Int)) :=
  ev_bm ha (fun _ _ => rfl) (ea_cons hb ea_nil) fun H1 _ Q q => by
    obtain ⟨rest, e⟩ := index_one nd hi
    exact ⟨_, _, i, rest, rfl, rfl, e, q H1 (Ex.refl H1)⟩
theorem joinL_nil : ∀ ps : List (List Nat), TL.joinL [] ps = ps.flatten
  | [] => rfl
  | [p] => by
    show p = [p].flatten
    simp
  | p :: q :: r => by
    show p ++ ([] ++ TL.joinL [] (q :: r)) = (p :: q :: r).flatten
    rw [joinL_nil (q :: r)]
    simp
theorem join_flat (ps : List (List Nat)) : Txt.join (SX.S []) (ps.map SX.S) = SX.S ps.flatten := by
  rw [SX.join_S, joinL_nil]
theorem map_tx (ps : List (List Nat)) : ps.map tx = (ps.map SX.S).map V.str := by
  rw [List.map_map]
  rfl
theorem sum_lens : ∀ ps : List (List Nat), ((ps.map SX.S).map (·.length)).sum = ps.flatten.length
  | [] => rfl
  | p :: r => by
    rw [List.map_cons, List.map_cons, List.sum_cons, sum_lens r, SX.S_len, List.flatten_cons, List.length_append]
abbrev rJoin (K : PySem.W.Frag) : V → List V → Hp → VK → Prop := fun x xs H Q => ∃ a p, ∃ ys : List Str, x = .str a ∧ xs = [.ref p] ∧ (SqL K H p (ys.map V.str) ∨ SqT K H p (ys.map V.str)) ∧
  (ys.map (·.length)).sum + ys.length * a.length ≤ 16777216 ∧ Q (.str (Txt.join a ys)) H
theorem join_ok {p : Addr} {ps : List (List Nat)} (hp : SqL K H p (ps.map tx) ∨ SqT K H p (ps.map tx)) (hz : ps.flatten.length ≤ 100000) {Q : VK} (q : Q (tx ps.flatten) H) : rJoin K (tx []) [.ref p] H Q := by
  refine ⟨SX.S [], p, ps.map SX.S, rfl, rfl, by rw [← map_tx]; exact hp, ?_, ?_⟩
  · rw [sum_lens, SX.S_len]
    show _ + _ * 0 ≤ _
    omega
  · rw [join_flat]
    exact q
theorem ev_join {p : Addr} {ps : List (List Nat)} (ha : Ev ta σ H (tx [])) (hb : Ev tb σ H (.ref p)) (hp : SqL K H p (ps.map tx) ∨ SqT K H p (ps.map tx)) (hz : ps.flatten.length ≤ 100000) : Ev (tM1 (rJoin K) ta tb) σ H (tx ps.flatten) := fun H1 e Q q =>
  ha H1 e _ fun H2 e2 => ⟨⟨_, rfl⟩, hb H2 (e.trans e2) _ fun H3 e3 => join_ok (hp.elim (fun h => .inl (ex_l ((e.trans e2).trans e3) h)) (fun h => .inr (ex_t ((e.trans e2).trans e3) h))) hz (q H3 (e2.trans e3))⟩
theorem ev_joinL {ps : List (List Nat)} (ha : Ev ta σ H (tx [])) (hb : EvL tb σ H (ps.map tx)) (hz : ps.flatten.length ≤ 100000) : Ev (tM1 (rJoin K) ta tb) σ H (tx ps.flatten) := fun H1 e Q q =>
  ha H1 e _ fun H2 e2 => ⟨⟨_, rfl⟩, hb H2 (e.trans e2) _ fun p H3 _ e3 h3 => join_ok (.inl (sq_of h3)) hz (q H3 (e2.trans e3))⟩
/-! ### fields -/
theorem ev_fld {p C dx : Addr} {fs : List (Str × V)} {f : Str} {v : V} (h : Ev te σ H (.ref p)) (hp : H p = some (.ins C dx fs)) (c : Cls K C) (n : NoAttr K C f) (hl : fs.lookup f = some v) : Ev (tFld K te f) σ H v := fun H1 e Q q =>
  h H1 e _ fun H2 e2 => ⟨p, C, dx, fs, v, rfl, (e.trans e2) _ _ hp, c, n, hl, q H2 e2⟩
theorem q_fld {p C dx : Addr} {fs : List (Str × V)} {f : Str} {v : V} (hv : Ev te σ H v) (ho : Ev ta σ H (.ref p)) (hp : H p = some (.ins C dx fs)) (c : Cls K C) (n : NoAttr K C f) (hz : fs.length < 1000)
    (k : ∀ H1, Ex H H1 → tz D σ (upd H1 p (.ins C dx (putF f v fs)))) : tSeq (sFld K ta te f) tz D σ H :=
  hv H (Ex.refl H) _ fun H1 e1 => ho H1 e1 _ fun H2 e2 => ⟨p, C, dx, fs, rfl, (e1.trans e2) _ _ hp, c, n, hz, k H2 (e1.trans e2)⟩
theorem q_fldU {p C dx : Addr} {fs : List (Str × V)} {f : Str} {xs : List V} (hv : EvU te σ H xs) (ho : ∀ H1, Ex H H1 → Ev ta σ H1 (.ref p)) (hp : H p = some (.ins C dx fs)) (c : Cls K C) (n : NoAttr K C f) (hz : fs.length < 1000)
    (k : ∀ r H1, H r = none → Ex H H1 → H1 r = some (.tup xs) → tz D σ (upd H1 p (.ins C dx (putF f (.ref r) fs)))) : tSeq (sFld K ta te f) tz D σ H :=
  hv H (Ex.refl H) _ fun r H1 hr e1 h1 => ho H1 e1 H1 (Ex.refl H1) _ fun H2 e2 => ⟨p, C, dx, fs, rfl, (e1.trans e2) _ _ hp, c, n, hz, k r H2 hr (e1.trans e2) (e2 _ _ h1)⟩
theorem s_fldU {p C dx : Addr} {fs : List (Str × V)} {f : Str} {xs : List V} (hv : EvU te σ H xs) (ho : ∀ H1, Ex H H1 → Ev ta σ H1 (.ref p)) (hp : H p = some (.ins C dx fs)) (c : Cls K C) (n : NoAttr K C f) (hz : fs.length < 1000)
    (k : ∀ r H1, H r = none → Ex H H1 → H1 r = some (.tup xs) → D.nx σ (upd H1 p (.ins C dx (putF f (.ref r) fs)))) : sFld K ta te f D σ H :=
  hv H (Ex.refl H) _ fun r H1 hr e1 h1 => ho H1 e1 H1 (Ex.refl H1) _ fun H2 e2 => ⟨p, C, dx, fs, rfl, (e1.trans e2) _ _ hp, c, n, hz, k r H2 hr (e1.trans e2) (e2 _ _ h1)⟩
/-- a call that gives a new tuple -/
def SpU (sp : Sp) (vs : List V) (H : Hp) (xs : List V) : Prop := ∀ H1, Ex H H1 → ∀ Q : VK, (∀ p H2, H1 p = none → Ex H1 H2 → H2 p = some (.tup xs) → Q (.ref p) H2) → ∀ E : XK, sp vs H1 Q E
theorem eu_call {sp : Sp} {dvs vs xs : List V} {E : XK} {tp : TA} (h : EvA tp σ H vs) (hs : SpU sp (vs ++ dvs) H xs) : EvU (tCall sp dvs E tp) σ H xs := fun H1 e Q q =>
  h H1 e _ fun H2 e2 => hs H2 (e.trans e2) Q (fun p H3 hp e3 h3 => q p H3 (fresh_back e2 hp) (e2.trans e3) h3) E
end
end Ver
namespace Ver
open PySem PySem.Spec PyProof.Rows L2 Evl
/-! ### d.setdefault(k, x), tuple keys -/
section
variable {X : Cx}
def rSetT : V → List V → Hp → VK → Prop := fun x xs H Q => ∃ (a : Addr) (kvs : List (List L2.Key × V)) (k : List L2.Key) (b : Addr) (d : V), x = .ref a ∧ xs = [.ref b, d] ∧ H a = some (.dT kvs) ∧ H b = some (.tup (k.map kV)) ∧ kvs.length < sizeLine ∧
  (∀ v, valV kvs k = some v → Q v H) ∧ (valV kvs k = none → Q d (upd H a (.dT (putK kvs k d))))
theorem mt_setT (hu : X.A.units + 1 < cLine) : MtR X "dict.setdefault" rSetT := by
  intro pins s σ H x xs v us Q I rx rxs h
  obtain ⟨a, kvs, k, b, d, rfl, rfl, ha, hb, hl, q1, q2⟩ := h
  cases rx
  obtain ⟨u1, u2, rfl, r1, r2⟩ := vals2 rxs
  cases r1
  obtain ⟨z, hd, xs', rel, dd⟩ := dt_of I.hok ha
  have hz : xs'.length ≤ sizeLine := by rw [← Paired.length rel]; exact z
  refine call_setdefault_heap (hsz := hz) (k := k) (tupleKind_room_in1 hu) (key_of I.hok hb) hd dd (fun p hp => ?_) (fun hn h' dd' hs => ?_)
  · have r := rel.val k
    rw [hp] at r
    obtain ⟨v0, ev, rv⟩ : ∃ v0, valV kvs k = some v0 ∧ RelV v0 p.2 := by
      cases ev : valV kvs k with
      | none =>
        rw [ev] at r
        exact (show False from r).elim
      | some v0 =>
        rw [ev] at r
        exact ⟨v0, rfl, r⟩
    exact ⟨v0, H, I.tok _, rv, q1 v0 ev⟩
  · have r := rel.val k
    rw [hn] at r
    have e : valV kvs k = none := by
      cases ev : valV kvs k with
      | none => rfl
      | some v0 =>
        rw [ev] at r
        exact (show False from r).elim
    obtain ⟨q, es, ep, hq, h2, h3, h4, _, h5⟩ := dd'
    have hl2 : (putK kvs k d).length ≤ sizeLine := by
      have := length_putK kvs k d
      omega
    refine ⟨d, _, d_write (t' := s.toks + (tupleKind (mixKind X.prog X.w)).draws k) (ob := .dT (putK kvs k d)) I (by rw [ha]; exact True.intro) hs ⟨q, hq⟩ ⟨hl2, hd, _, (rel.put k hb r2).keeps fun c ys ec => ?_, q, es, ep, hq, h2, h3, h4, h5⟩, r2, q2 e⟩
    rw [upd_ne (ne_of ec ha (fun z => nomatch z))]
    exact ec
end
def rLenK : List V → Hp → VK → Prop := fun xs H Q => ∃ (p : Addr) (kvs : List (Key × V)), xs = [.ref p] ∧ H p = some (.dK kvs) ∧ Q (.int ((kvs.length : Nat) : Int)) H
theorem call_len_dK {X : Cx} : CallR X (.builtin "len") rLenK := by
  intro pins s σ H xs us Q I r h
  obtain ⟨p, kvs, rfl, hp, q⟩ := h
  obtain ⟨u, rfl, rx⟩ := vals1 r
  obtain rfl : u = .ref p := rx
  exact d_len I (.inl hp) fun t s' I' => ⟨.int ((kvs.length : Nat) : Int), H, I', ⟨_, rfl⟩, q⟩
theorem q_newK {σ : L2.St} {H : Hp} {D : Ends} {tz : TS} {i : Nat} (k : ∀ p H1, H p = none → Ex H H1 → H1 p = some (.dK []) → tz D (σ.set i (some (.ref p))) H1) : tSeq (tAsg tDNewK (gName i)) tz D σ H := fun p hp => k p _ hp (Ex.new hp) upd_same
/-! ### zip of a text and a list -/
def Izsl (K : PySem.W.Frag) (x : Str) (b : Addr) (ys : List V) : It where
  go := fun i H => i < x.cps.size ∧ i < ys.length ∧ SqL K H b ys
  yld := fun i H v H' => ∃ T c y, v = .ref T ∧ H T = none ∧ H' = upd H T (.tup [.str ⟨#[c]⟩, y]) ∧ x.cps[i]? = some c ∧ ys[i]? = some y
  stop := fun i H => i ≤ x.cps.size ∧ i ≤ ys.length ∧ (i = x.cps.size ∨ i = ys.length) ∧ SqL K H b ys
section
variable {P : Program} {w : World} {K : PySem.W.Frag} {elts : List Expr} {kk : Nat} {tpos : Pos}
theorem turnZsl (x : Str) (ys : List V) (t : Tok) (z TI TO i1 i2 b : Addr) (S : ZipSep2 z TI TO i1 i2 [i1] [i2, b]) (hne : b ≠ i2) : Turn P w K (.Tuple elts kk tpos) (Izsl K x b ys) [z, TI, TO, i1, i2] z
    (fun i h => IsZip h z TI TO .none ∧ IsTupOf2 h TI (.ref i1) (.ref i2) ∧ (∃ a1 a2, IsTupOf2 h TO a1 a2) ∧ h.IsStrIter i1 (strIterType x) x t i ∧ h.IsListIter i2 b i) where
  mem := List.mem_cons_self ..
  obj := fun i h st c hc => by
    obtain ⟨hz, hTI, ⟨a1, a2, hTO⟩, ⟨o1, e1, _, d1⟩, ⟨o2, e2, _, d2⟩⟩ := st
    rcases five_mem hc with q | q | q | q | q
    · rw [q]; exact ⟨_, hz, fun v q => nomatch q⟩
    · rw [q]; exact ⟨_, hTI, fun v q => nomatch q⟩
    · rw [q]; exact ⟨_, hTO, fun v q => nomatch q⟩
    · rw [q]; exact ⟨o1, e1, fun v q => by rw [d1] at q; cases q⟩
    · rw [q]; exact ⟨o2, e2, fun v q => by rw [d2] at q; cases q⟩
  keep := fun i h h' st k => by
    obtain ⟨hz, hTI, ⟨a1, a2, hTO⟩, h1, h2⟩ := st
    exact ⟨k z (by simp) _ hz, k TI (by simp) _ hTI, ⟨a1, a2, k TO (by simp) _ hTO⟩, si_at h1 fun o q => k i1 (by simp) o q, h2.at fun o q => k i2 (by simp) o q⟩
  item := by
    intro X hP hw hK hc i pins s σ H E I hf st hg
    subst hP hw hK
    obtain ⟨hz, hTI, ⟨a1, a2, hTO⟩, h1, h2⟩ := st
    obtain ⟨its, rv, p, _⟩ := I.list hg.2.2
    have D1 := Draws.text (prog := X.prog) (w := X.w) (A := X.A.in1) (I.ok.hd hc) i1 x t
    have D2 := Draws.list (prog := X.prog) (w := X.w) (A := X.A.in1) (I.ok.hd hc) i2 b hne its.toArray
    have hzl : z < s.heap.objs.size := Heap.lt_size hz
    have l1 : i1 < s.heap.objs.size := by
      obtain ⟨o, e, _⟩ := h1
      exact Heap.lt_size e
    have l2 : i2 < s.heap.objs.size := by
      obtain ⟨o, e, _⟩ := h2
      exact Heap.lt_size e
    have hlen := rv.length
    refine wpAny_pyNext_zipD2_item S D1 D2 hz hTI hTO h1 ⟨h2, p.isList⟩ hg.1 (by rw [List.size_toArray, ← hlen]; exact hg.2.1) fun y1 y2 h' tk ⟨c, u1, hc1, ev1⟩ hy2 b1 b2 s1 s2 hT hsz hk => ?_
    subst ev1
    have hy3 : its[i]? = some y2 := by simpa using hy2
    have hyi : ys[i]? = some (ys[i]'hg.2.1) := List.getElem?_eq_getElem hg.2.1
    obtain ⟨u2, hu2, ru2⟩ := rv.get hyi
    obtain rfl : u2 = y2 := Option.some.inj (hu2.symm.trans hy3)
    refine ⟨_, rfl, wpAny_letOwnedTupleGo_zip (s := { s with heap := h', toks := tk }) b1 fun h'' z'' sb => ?_⟩
    have hT2 : h''.get? s.heap.objs.size = some { cls := .type "tuple", data := .seq #[.str ⟨#[c]⟩ u1, u2] } := (sb.2 _ (Nat.ne_of_gt hzl)).trans hT
    have new : ObjOk X.prog X.w (upd H s.heap.objs.size (.tup [.str ⟨#[c]⟩, ys[i]'hg.2.1])) h'' s.heap.objs.size (.tup [.str ⟨#[c]⟩, ys[i]'hg.2.1]) :=
      ⟨(by show 2 ≤ sizeLine; decide), [.str ⟨#[c]⟩ u1, u2], .cons ⟨_, rfl⟩ (.cons ru2 .nil), ⟨_, hT2, rfl, _, rfl⟩⟩
    have I1 : Inv X pins σ (upd H s.heap.objs.size (.tup [.str ⟨#[c]⟩, ys[i]'hg.2.1])) { s with heap := h'', toks := tk } := by
      refine I.turnedNew (ch := [z, TI, TO, i1, i2]) (fun b ob nb q => ?_) hf (Nat.le_refl _) new
      exact (sb.2 b (fun q' => nb (by simp [q']))).trans (hk b ob (fun q' => nb (by simp [q'])) (fun q' => nb (by simp [q'])) (fun q' => nb (by simp [q'])) (fun q' => nb (by simp [q'])) q)
    refine ⟨.ref s.heap.objs.size, _, I1, rfl, ⟨_, c, _, rfl, I.hok.fresh (Nat.le_refl _), rfl, hc1, hyi⟩, ⟨z'', ?_, ⟨.str ⟨#[c]⟩ u1, u2, ?_⟩, ?_, ?_⟩, fun b hb => ?_⟩
    · exact (sb.2 _ S.TIz).trans (hk _ _ S.TIz S.TITO S.TIi1 S.TIi2 hTI)
    · exact (sb.2 _ S.TOz).trans b2
    · exact si_at s1 fun o q => (sb.2 _ S.zi1.symm).trans q
    · exact s2.1.at fun o q => (sb.2 _ S.zi2.symm).trans q
    · have hlt : b < s.heap.objs.size := by
        rcases five_mem hb with q | q | q | q | q
        · rw [q]; exact hzl
        · rw [q]; exact Heap.lt_size hTI
        · rw [q]; exact Heap.lt_size hTO
        · rw [q]; exact l1
        · rw [q]; exact l2
      rw [upd_ne (Nat.ne_of_lt hlt)]
      exact (hf b hb).1
  done := by
    intro X hP hw hK hc i pins s σ H E I hf st hg
    subst hP hw hK
    obtain ⟨hz, hTI, ⟨a1, a2, hTO⟩, h1, h2⟩ := st
    obtain ⟨its, rv, p, _⟩ := I.list hg.2.2.2
    have hlen := rv.length
    have D1 := Draws.text (prog := X.prog) (w := X.w) (A := X.A.in1) (I.ok.hd hc) i1 x t
    have D2 := Draws.list (prog := X.prog) (w := X.w) (A := X.A.in1) (I.ok.hd hc) i2 b hne its.toArray
    exact wpAny_pyNext_zipD2_end S D1 D2 hz hTI hTO h1 ⟨h2, p.isList⟩ hg.1 (by rw [List.size_toArray, ← hlen]; exact hg.2.1) (by have h9 := hg.2.2.1; rw [hlen] at h9; exact h9) fun h' tk hk => ⟨rfl, I.turnedL (t' := tk) (ch := [z, TI, TO, i1, i2]) (fun c o hb q =>
      hk c o (fun q' => hb (by simp [q'])) (fun q' => hb (by simp [q'])) (fun q' => hb (by simp [q'])) (fun q' => hb (by simp [q'])) q) hf⟩
  self := fun A i s Q E st h => wpAny_pyIter_zip st.1 h
theorem sep_nl (n b : Nat) (h : b < n) : ZipSep2 (n + 4) (n + 2) (n + 3) n (n + 1) [n] [n + 1, b] := by
  have two : ∀ c : Addr, c ∈ [(show Addr from n + 1), (show Addr from b)] → c = (show Addr from n + 1) ∨ c = (show Addr from b) := fun c h => by simpa using h
  have no : ∀ m : Nat, m ≠ n + 1 → m ≠ b → (show Addr from m) ∉ [(show Addr from n + 1), (show Addr from b)] := fun m h1 h2 h => (two _ h).elim h1 h2
  exact ⟨ne_nat (by omega), ne_nat (by omega), ne_nat (by omega), ne_nat (by omega), List.mem_singleton.mpr rfl, fun h => absurd (List.mem_singleton.mp h) (ne_nat (by omega)), fun h => absurd (List.mem_singleton.mp h) (ne_nat (by omega)),
    ne_nat (by omega), List.mem_cons_self .., no _ (by omega) (by omega), no _ (by omega) (by omega), no _ (by omega) (by omega), fun h => absurd (List.mem_singleton.mp h) (ne_nat (by omega))⟩
def iZipSL (K : PySem.W.Frag) (ta : TA) : TI := fun σ H R => ta σ H fun vs H1 => ∃ x b ys, vs = [.str x, .ref b] ∧ SqL K H1 b ys ∧ R (Izsl K x b ys) H1
theorem pi_zipSL {X : Cx} {e e2 : Expr} {ta : TA} {p pos tpos : Pos} {elts : List Expr} {kk : Nat} (hg : Gl X "zip") (hm : X.mg "zip" = none) (ha : PA X [e, e2] ta)
    (hs : starEach [e, e2] X.env = (false, eval e X.env) :: starEach [e2] X.env := by rfl) (hpl : (backTo pos (starEach [e2] X.env)).any (·.1) = false := by rfl) :
    PI X (.Tuple elts kk tpos) (.Call (.Name "zip" p) [e, e2] [] pos) (iZipSL X.K ta) := by
  refine ⟨fun pins s σ H R I h => ?_⟩
  refine Call_ (ld_blt I hg hm PyProof.Rows.boot_zip (PyProof.Rows.callWith_type1 (thn (ha.run pos pins s σ H _ I h) fun us s1 ⟨vs, H1, I1, r1, q1⟩ => ?_) hs hpl))
  obtain ⟨x, b, ys, ex, hb, q⟩ := q1
  subst ex
  cases r1 with
  | cons r rr =>
    cases rr with
    | cons r' rr =>
      cases rr
      obtain ⟨t, rfl⟩ := r
      cases r'
      obtain ⟨its, rv, p1, _⟩ := I1.list hb
      refine zip_begins2 (begins_text x t) (begins_list b its.toArray) trivial p1.isList fun h' hz hTI hTO g1 g2 hsz hk => wpAny_pyIter_zip hz ?_
      have I2 : Inv X pins σ H1 { s1 with heap := h' } := I1.kept (t' := s1.toks) hk
      have S := sep_nl s1.heap.objs.size b p1.lt
      refine ⟨s1.heap.objs.size + 4, [s1.heap.objs.size + 4, s1.heap.objs.size + 2, s1.heap.objs.size + 3, s1.heap.objs.size, s1.heap.objs.size + 1], _, _, H1, rfl, I2, turnZsl x ys t _ _ _ _ _ b S (fun e => absurd (show (show Nat from b) = s1.heap.objs.size + 1 from e) (by have h9 : (show Nat from b) < s1.heap.objs.size := p1.lt; omega)), ⟨hz, hTI, ⟨_, _, hTO⟩, ⟨_, g1, rfl, rfl⟩, ⟨_, g2, rfl, rfl⟩⟩, fun c hcm => ?_, q⟩
      have hle : s1.heap.objs.size ≤ c := by
        rcases five_mem hcm with z | z | z | z | z
        · rw [z]; exact Nat.le_add_right _ _
        · rw [z]; exact Nat.le_add_right _ _
        · rw [z]; exact Nat.le_add_right _ _
        · rw [z]; exact Nat.le_refl _
        · rw [z]; exact Nat.le_add_right _ _
      exact I1.fpOk hle (I1.hok.fresh hle)
theorem walk_zsl {x : Str} {b : Addr} {ys : List V} : Walk (Izsl K x b ys) (min x.cps.size ys.length) (fun H => SqL K H b ys) (YPair (fun i => (x.cps.toList[i]?).map fun c => V.str ⟨#[c]⟩) (fun i => ys[i]?)) := by
  refine ⟨fun i _ hi q => ?_, fun _ q => ?_, fun i H v H' hi q y' => ?_⟩
  · exact ⟨by omega, by omega, q⟩
  · exact ⟨by omega, by omega, by omega, q⟩
  obtain ⟨T, c, d, h1, h2, h3, h4, h5⟩ := y'
  refine ⟨T, .str ⟨#[c]⟩, d, h1, h2, h3, ?_, h5⟩
  show Option.map _ (x.cps.toList[i]?) = _
  rw [Array.getElem?_toList, h4]
  rfl
/-! ### lists of tuples -/
structure TpAt (H : Hp) (xs : List V) (ps : List (List V)) : Prop where
  len : xs.length = ps.length
  row : ∀ (i : Nat) (p : List V), ps[i]? = some p → ∃ r, xs[i]? = some (V.ref r) ∧ H r = some (.tup p)
theorem TpAt.mono {H H' : Hp} {xs : List V} {ps : List (List V)} (h : TpAt H xs ps) (e : Ex H H') : TpAt H' xs ps := ⟨h.len, fun i p q => by
  obtain ⟨r, a, b⟩ := h.row i p q
  exact ⟨r, a, e _ _ b⟩⟩
theorem TpAt.upd {H : Hp} {xs : List V} {ps : List (List V)} {l : Addr} {o u : HO} (h : TpAt H xs ps) (hl : H l = some u) (hu : ∀ ys, u ≠ .tup ys) : TpAt (upd H l o) xs ps := ⟨h.len, fun i p q => by
  obtain ⟨r, a, b⟩ := h.row i p q
  refine ⟨r, a, ?_⟩
  rw [upd_ne]
  · exact b
  · intro z
    rw [z, hl] at b
    exact hu _ (Option.some.inj b)⟩
theorem TpAt.nil {H : Hp} : TpAt H [] [] := ⟨rfl, fun i p q => by simp at q⟩
theorem TpAt.snoc {H : Hp} {xs : List V} {ps : List (List V)} {r : Addr} {p : List V} (h : TpAt H xs ps) (hr : H r = some (.tup p)) : TpAt H (xs ++ [.ref r]) (ps ++ [p]) := by
  refine ⟨by rw [List.length_append, List.length_append, h.len]; rfl, fun i q e => ?_⟩
  by_cases hi : i < ps.length
  · rw [List.getElem?_append_left hi] at e
    obtain ⟨r', a, b⟩ := h.row i q e
    exact ⟨r', by rw [List.getElem?_append_left (by rw [h.len]; exact hi)]; exact a, b⟩
  · have h1 := (List.getElem?_eq_some_iff.mp e).1
    rw [List.length_append] at h1
    have e2 : i = ps.length := by
      simp at h1
      omega
    subst e2
    have e3 : p = q := by simpa using e
    subst e3
    refine ⟨r, ?_, hr⟩
    rw [← h.len]
    simp
/-- a new list of new tuples over zip(a text, a list) -/
theorem run_lcZ {σ : L2.St} {H : Hp} {te : TE} {x : List Nat} {b : Addr} {ys : List V} {tp : TA} {j1 j2 : Nat} {vs : List Nat} {Q : VK} (v : Nat → List V) (h : EvA tp σ H [tx x, .ref b]) (hy : SqL K H b ys) (hl : ys.length = x.length) (hz : x.length ≤ 40000)
    (hw : ∀ a b, wipe (((wipe σ vs).set j1 (some a)).set j2 (some b)) vs = wipe σ vs)
    (he : ∀ (i c : Nat) (y : V) H1, Ex H H1 → x[i]? = some c → ys[i]? = some y → EvU te (((wipe σ vs).set j1 (some (tx [c]))).set j2 (some y)) H1 (v i))
    (k : ∀ l xs H1, H l = none → Ex H H1 → H1 l = some (.lst xs) → TpAt H1 xs ((List.range x.length).map v) → Q (.ref l) H1) :
    tLc (iZipSL K tp) (gTup K 2 (gCons (gName j1) (gCons (gName j2) gNil))) tYes te vs σ H Q := h H (Ex.refl H) _ fun H1 e1 => ⟨SX.S x, b, ys, rfl, ex_l e1 hy, fun Dl hD => by
  have hn : min (SX.S x).cps.size ys.length = x.length := by
    show min x.toArray.size ys.length = _
    rw [List.size_toArray, hl, Nat.min_self]
  have hD0 : H Dl = none := fresh_back e1 hD
  refine lc_it walk_zsl (fun i H' => Ex H H' ∧ ∃ xs, H' Dl = some (.lst xs) ∧ TpAt H' xs ((List.range i).map v)) ⟨e1.trans (Ex.new hD), [], upd_same, .nil⟩ (fun i H' _ p => ex_l p.1 hy) (fun i z H' H2 hi p yp => ?_) (fun H' p => ?_)
  · obtain ⟨T, a, d, rfl, hT, rfl, ha, hd⟩ := yp
    obtain ⟨p1, xs, p2, p3⟩ := p
    have ha2 : (x[i]?).map (fun c => tx [c]) = some a := ha
    have hd2 : ys[i]? = some d := hd
    cases hx : x[i]? with
    | none =>
      rw [hx] at ha2
      cases ha2
    | some c =>
    rw [hx] at ha2
    cases ha2
    have hxl := (List.getElem?_eq_some_iff.mp hx).1
    have e2 : Ex H (L2.upd H' T (.tup [tx [c], d])) := p1.trans (Ex.new hT)
    refine ⟨T, _, rfl, st_of upd_same, rfl, _, _, rfl, _, _, rfl, rfl, hw _ _, ?_⟩
    refine et_yes _ (Ex.refl _) _ fun H3 e3 => ?_
    rw [if_pos rfl]
    have e3' : Ex H H3 := e2.trans e3
    refine he i c d H3 e3' hx hd2 H3 (Ex.refl _) _ fun r H4 hr e4 h4 => ?_
    have g4 := e4 _ _ (e3 _ _ (Ex.new hT _ _ p2))
    have hlen := p3.len
    rw [List.length_map, List.length_range] at hlen
    refine ⟨xs, g4, sz_lt (by omega), (e3'.trans e4).mut hD0, xs ++ [.ref r], upd_same, ?_⟩
    rw [List.range_succ, List.map_append]
    have hTp := ((p3.mono ((Ex.new hT).trans (e3.trans e4))).snoc h4)
    exact hTp.upd g4 (fun ys => by intro z; cases z)
  · rw [hn] at p
    obtain ⟨p1, xs, p2, p3⟩ := p
    exact k Dl xs H' hD0 p1 p2 p3⟩
end
/-! ### text.find(text, start) -/
section
theorem take_getD {l : List Nat} {i : Nat} (h : i < l.length) : l[i]? = some (l.getD i 0) := by
  rw [List.getD_eq_getElem?_getD, List.getElem?_eq_getElem h]
  rfl
end
end Ver
namespace Ver
open PySem PySem.Spec PyProof.Rows L2 Evl
/-! ### math.isqrt -/
def rIsq : List V → Hp → VK → Prop := fun vs H Q => ∃ a : Int, vs = [.int a] ∧ 0 ≤ a ∧ a < 2 ^ 200 ∧ ∀ r : Nat, r * r ≤ a.toNat → a.toNat < (r + 1) * (r + 1) → Q (.int (r : Int)) H
theorem Vals.int1 {a : Int} {us : List Value} (r : Vals [.int a] us) : ∃ t, us = [.int a t] := by
  cases r with
  | cons h t =>
    cases t
    obtain ⟨t, rfl⟩ := h
    exact ⟨t, rfl⟩
theorem cr_isqrt {X : Cx} : CallR X (.builtin "math.isqrt") rIsq := by
  intro pins s σ H vs us Q I r h
  obtain ⟨a, rfl, h0, h1, q⟩ := h
  obtain ⟨t, rfl⟩ := Vals.int1 r
  have hl : a.toNat.log2 ≤ 199 := PySem.W.mg_log (by
    have : (a.toNat : Int) < 2 ^ 200 := by omega
    exact_mod_cast this)
  obtain ⟨k1, k2⟩ := PySem.Float64.isqrt_spec a.toNat
  exact PySem.call_function_meets PySem.W.MGF.kind_isqrt PySem.W.MGF.plain_isqrt PySem.W.MGF.entry_isqrt (PySem.W.MGF.args_isqrt _) (PySem.W.mg_run_isqrt a t (by omega) (by omega) (by omega)).meets ⟨.int _, H, I.tok _, ⟨_, rfl⟩, q _ k1 k2⟩
theorem q_asgX {σ : L2.St} {H : Hp} {D : Ends} {tz : TS} {te : TE} {i : Nat} (h : te σ H fun x H1 => tz D (σ.set i (some x)) H1) : tSeq (tAsg te (gName i)) tz D σ H := h
/-- a list made over enumerate(a list) -/
theorem el_lcEn {σ : L2.St} {H : Hp} {K : PySem.W.Frag} {te : TE} {a : Addr} {xs : List V} {tp : TA} {j1 j2 : Nat} {vs : List Nat} (v : Nat → V) (h : EvA tp σ H [.ref a]) (hx : SqL K H a xs) (hz : xs.length ≤ 40000)
    (hw : ∀ a b, wipe (((wipe σ vs).set j1 (some a)).set j2 (some b)) vs = wipe σ vs)
    (he : ∀ (i : Nat) (x : V) H1, Ex H H1 → xs[i]? = some x → Ev te (((wipe σ vs).set j1 (some (.int (i : Int)))).set j2 (some x)) H1 (v i)) :
    EvL (tLc (iEnum K tp) (gTup K 2 (gCons (gName j1) (gCons (gName j2) gNil))) tYes te vs) σ H ((List.range xs.length).map v) := fun H0 e Q q => h H0 e _ fun H1 e1 => ⟨a, xs, rfl, ex_l (e.trans e1) hx, fun Dl hD => by
  refine lc_it (walk_enum (xs := xs)) (Cw H1 (fun _ => true) v Dl) ⟨hD, Ex.new hD, upd_same⟩ (fun i H' _ p => ex_l (((e.trans e1).trans p.2.1)) hx) (fun i z H' H2 hi p yp => ?_) (fun H' p => ?_)
  · obtain ⟨T, c, d, rfl, hT, rfl, ha, hb⟩ := yp
    obtain rfl := Option.some.inj ha
    have hb2 : xs[i]? = some d := hb
    have hxl := (List.getElem?_eq_some_iff.mp hb2).1
    have p2 : Cw H1 (fun _ => true) v Dl i (L2.upd H' T (.tup [.int (i : Int), d])) := ⟨p.1, p.2.1.trans (Ex.new hT), Ex.new hT _ _ p.2.2⟩
    exact ⟨T, _, rfl, st_of upd_same, rfl, _, _, rfl, _, _, rfl, rfl, hw _ _, cw_turn p2 (by omega) et_yes fun _ => he i d H1 (e.trans e1) hb2⟩
  · have e9 := given_all xs.length v
    have p3 := p.2.2
    rw [e9] at p3
    exact q Dl H' (fresh_back e1 p.1) (e1.trans p.2.1) p3⟩
theorem root_ex {a : Int} (h : 0 ≤ a) : ∃ r : Nat, (r : Int) * r ≤ a ∧ a < ((r : Int) + 1) * (r + 1) := by
  obtain ⟨k1, k2⟩ := PySem.Float64.isqrt_spec a.toNat
  refine ⟨PySem.Float64.isqrt a.toNat, ?_, ?_⟩
  · have : ((PySem.Float64.isqrt a.toNat * PySem.Float64.isqrt a.toNat : Nat) : Int) ≤ a := by omega
    rw [Int.natCast_mul] at this
    exact this
  · have : a < (((PySem.Float64.isqrt a.toNat + 1) * (PySem.Float64.isqrt a.toNat + 1) : Nat) : Int) := by omega
    rw [Int.natCast_mul, Int.natCast_add] at this
    exact this
/-- a def's call with a value and a new list -/
theorem ev_cVL {σ : L2.St} {H : Hp} {sp : Sp} {E : XK} {t1 tl : TE} {x1 y : V} {xs : List V} (h1 : Ev t1 σ H x1) (hl : EvL tl σ H xs) (hs : ∀ p H1, Ex H H1 → H1 p = some (.lst xs) → SpV sp ([x1, .ref p] ++ []) H1 y) : Ev (tCall sp [] E (tCons t1 (tCons tl tNil))) σ H y := fun H0 e Q q =>
  h1 H0 e _ fun H1 e1 => hl H1 (e.trans e1) _ fun p H2 hp e2 g2 => hs p H2 ((e.trans e1).trans e2) g2 H2 (Ex.refl H2) Q (fun H3 e3 => q H3 ((e1.trans e2).trans e3)) _
theorem sum_cast {α : Type} (f : α → Nat) : ∀ l : List α, (l.map fun x => ((f x : Nat) : Int)).sum = ((l.map f).sum : Int)
  | [] => rfl
  | a :: l => by
    rw [List.map_cons, List.map_cons, List.sum_cons, List.sum_cons, sum_cast f l, Int.natCast_add]
/-! ### own methods -/
structure AtM (K : PySem.W.Frag) (C : Addr) (m q : Str) (st : Stmt) : Prop where
  ex : ∃ f fd, Fun K m q st f fd ∧ Meth K C m f
def HasM (P : Program) (w : World) (K : PySem.W.Frag) (mg : Str → Option Value) (base : Heap) (C : Addr) (m : Str) (ps : List Str) (k : Nat) (sp : Sp) : Prop :=
  ∃ f fd, FnOk P w K mg base CX0 k f fd ps sp ∧ Binds K fd ps [] ∧ Meth K C m f
section
variable {σ : L2.St} {H : Hp}
theorem ev_isqrt {ta : TE} {a : Int} {Q : V → Prop} (ha : Ev ta σ H (.int a)) (h0 : 0 ≤ a) (h1 : a < 2 ^ 200) (r : Nat) (hr : (r : Int) * r ≤ a) (hr2 : a < ((r : Int) + 1) * (r + 1)) : Ev (tCB rIsq (tCons ta tNil)) σ H (.int (r : Int)) := fun H1 e Q q =>
  ha H1 e _ fun H2 e2 => ⟨a, rfl, h0, h1, fun s k1 k2 => by
    have e1 : s = r := by
      have a1 : s * s < (r + 1) * (r + 1) := by
        have : ((s * s : Nat) : Int) < (((r + 1) * (r + 1) : Nat) : Int) := by
          rw [Int.natCast_mul, Int.natCast_mul, Int.natCast_add]
          have : ((s * s : Nat) : Int) ≤ a := by omega
          rw [Int.natCast_mul] at this
          exact Int.lt_of_le_of_lt this hr2
        omega
      have a2 : r * r < (s + 1) * (s + 1) := by
        have : ((r * r : Nat) : Int) ≤ a := by
          rw [Int.natCast_mul]
          exact hr
        omega
      have b1 : s < r + 1 := Classical.byContradiction fun c => absurd (Nat.mul_le_mul (show r + 1 ≤ s by omega) (show r + 1 ≤ s by omega)) (by omega)
      have b2 : r < s + 1 := Classical.byContradiction fun c => absurd (Nat.mul_le_mul (show s + 1 ≤ r by omega) (show s + 1 ≤ r by omega)) (by omega)
      omega
    rw [e1]
    exact q H2 e2⟩
/-- the call of an own method -/
theorem ev_meth {C a dx : Addr} {fs : List (Str × V)} {m : Str} {sp : Sp} {ta : TE} {t : TA} {vs : List V} {v : V} {E : XK} (ha : Ev ta σ H (.ref a)) (hi : H a = some (.ins C dx fs)) (hl : fs.lookup m = none) (ht : EvA t σ H vs) (h : ∀ H1, Ex H H1 → ∀ Q : VK, (∀ H2, Ex H1 H2 → Q v H2) → sp (.ref a :: (vs ++ [])) H1 Q E) :
    Ev (tMeth C m sp [] E ta t) σ H v := fun H1 e Q q => ha H1 e _ fun H2 e2 => ⟨a, dx, fs, rfl, (e.trans e2) _ _ hi, hl, ht H2 (e.trans e2) _ fun H3 e3 => h H3 ((e.trans e2).trans e3) Q fun H4 e4 => q H4 ((e2.trans e3).trans e4)⟩
end
end Ver
namespace Ver
open PySem PySem.Spec PyProof.Rows L2 Evl
def top (i : Nat) : Stmt := PySem.Challenge.pw_outpressed_k31_overtaking_number.main.body.getD i (.Pass ⟨0, 0, 0, 0⟩)
abbrev s_width : Stmt := top 1
abbrev N_width : List Str := ["options"]
theorem S_width : FnScope N_width ["options"] (defScope s_width) := ⟨rfl, rfl, rfl, by decide +kernel, rfl, by decide +kernel, by decide +kernel⟩
abbrev s_free_places : Stmt := top 3
abbrev N_free_places : List Str := ["size", "number"]
theorem S_free_places : FnScope N_free_places ["size", "number"] (defScope s_free_places) := ⟨rfl, rfl, rfl, by decide +kernel, rfl, by decide +kernel, by decide +kernel⟩
abbrev s_width_total : Stmt := top 4
abbrev N_width_total : List Str := ["size", "last", "step", "total", "bits", "first"]
theorem S_width_total : FnScope N_width_total ["size", "last"] (defScope s_width_total) := ⟨rfl, rfl, rfl, by decide +kernel, rfl, by decide +kernel, by decide +kernel⟩
abbrev s_pressed_length : Stmt := top 5
abbrev N_pressed_length : List Str := ["size", "count"]
theorem S_pressed_length : FnScope N_pressed_length ["size", "count"] (defScope s_pressed_length) := ⟨rfl, rfl, rfl, by decide +kernel, rfl, by decide +kernel, by decide +kernel⟩
abbrev s_overtaken_from : Stmt := top 7
abbrev N_overtaken_from : List Str := ["size", "variety", "standings", "count", "begin", "answer", "needed"]
theorem S_overtaken_from : FnScope N_overtaken_from ["size", "variety", "standings"] (defScope s_overtaken_from) := ⟨rfl, rfl, rfl, by decide +kernel, rfl, by decide +kernel, by decide +kernel⟩
abbrev s_next_length : Stmt := top 8
abbrev N_next_length : List Str := ["variety", "count"]
theorem S_next_length : FnScope N_next_length ["variety", "count"] (defScope s_next_length) := ⟨rfl, rfl, rfl, by decide +kernel, rfl, by decide +kernel, by decide +kernel⟩
abbrev s_stays_ahead : Stmt := top 9
abbrev N_stays_ahead : List Str := ["size", "variety", "standings", "count", "options"]
theorem S_stays_ahead : FnScope N_stays_ahead ["size", "variety", "standings", "count"] (defScope s_stays_ahead) := ⟨rfl, rfl, rfl, by decide +kernel, rfl, by decide +kernel, by decide +kernel⟩
abbrev s__law_whole : Stmt := top 11
abbrev N__law_whole : List Str := ["value"]
theorem S__law_whole : FnScope N__law_whole ["value"] (defScope s__law_whole) := ⟨rfl, rfl, rfl, by decide +kernel, rfl, by decide +kernel, by decide +kernel⟩
abbrev s__law_cell : Stmt := top 12
abbrev N__law_cell : List Str := ["script", "k", "seed", "cell"]
theorem S__law_cell : FnScope N__law_cell ["script", "k"] (defScope s__law_cell) := ⟨rfl, rfl, rfl, by decide +kernel, rfl, by decide +kernel, by decide +kernel⟩
abbrev s__law_digits : Stmt := top 13
abbrev N__law_digits : List Str := ["cell", "sizes", "row", "rest", "letters", "seed", "k", "twice"]
theorem S__law_digits : FnScope N__law_digits ["cell", "sizes"] (defScope s__law_digits) := ⟨rfl, rfl, rfl, by decide +kernel, rfl, by decide +kernel, by decide +kernel⟩
abbrev s__law_width : Stmt := top 14
abbrev N__law_width : List Str := ["options", "wide", "top", "k"]
theorem S__law_width : FnScope N__law_width ["options"] (defScope s__law_width) := ⟨rfl, rfl, rfl, by decide +kernel, rfl, by decide +kernel, by decide +kernel⟩
abbrev s__law_giant : Stmt := top 15
abbrev N__law_giant : List Str := ["row", "number", "k"]
theorem S__law_giant : FnScope N__law_giant ["row"] (defScope s__law_giant) := ⟨rfl, rfl, rfl, by decide +kernel, rfl, by decide +kernel, by decide +kernel⟩
abbrev s__law_fill : Stmt := top 16
abbrev N__law_fill : List Str := ["kinds", "length", "low", "high", "k", "middle"]
theorem S__law_fill : FnScope N__law_fill ["kinds", "length"] (defScope s__law_fill) := ⟨rfl, rfl, rfl, by decide +kernel, rfl, by decide +kernel, by decide +kernel⟩
abbrev s__law_pressed : Stmt := top 17
abbrev N__law_pressed : List Str := ["letters", "many", "total", "power", "wide", "first"]
theorem S__law_pressed : FnScope N__law_pressed ["letters", "many"] (defScope s__law_pressed) := ⟨rfl, rfl, rfl, by decide +kernel, rfl, by decide +kernel, by decide +kernel⟩
abbrev s__law_words_total : Stmt := top 18
abbrev N__law_words_total : List Str := ["kinds", "many", "full"]
theorem S__law_words_total : FnScope N__law_words_total ["kinds", "many"] (defScope s__law_words_total) := ⟨rfl, rfl, rfl, by decide +kernel, rfl, by decide +kernel, by decide +kernel⟩
abbrev s__law_overtaken : Stmt := top 19
abbrev N__law_overtaken : List Str := ["letters", "kinds", "places", "length"]
theorem S__law_overtaken : FnScope N__law_overtaken ["letters", "kinds", "places", "length"] (defScope s__law_overtaken) := ⟨rfl, rfl, rfl, by decide +kernel, rfl, by decide +kernel, by decide +kernel⟩
abbrev s__law_least_length : Stmt := top 20
abbrev N__law_least_length : List Str := ["row", "told", "beyond", "letters", "kinds", "places", "many", "k", "length", "more"]
theorem S__law_least_length : FnScope N__law_least_length ["row", "told", "beyond"] (defScope s__law_least_length) := ⟨rfl, rfl, rfl, by decide +kernel, rfl, by decide +kernel, by decide +kernel⟩
abbrev s_law : Stmt := top 21
abbrev N_law : List Str := ["script", "one", "two", "beyond", "k", "told"]
theorem S_law : FnScope N_law ["script"] (defScope s_law) := ⟨rfl, rfl, rfl, by decide +kernel, rfl, by decide +kernel, by decide +kernel⟩
structure Top (K : PySem.W.Frag) (mg : Str → Option Value) : Prop where
  z_bool : mg "bool" = none
  z_int : mg "int" = none
  z_isinstance : mg "isinstance" = none
  z_len : mg "len" = none
  z_range : mg "range" = none
end Ver
namespace Ver
open PySem PySem.Spec PyProof.Rows L2 Evl
section
variable {P : Program} {w : World} {K : PySem.W.Frag} {mg : Str → Option Value} {base : Heap}
theorem has_width (F : At K mg "width" s_width) : Has P w K mg base "width" s_width ["options"] 1 spWidth := by
  obtain ⟨f, fd, F, m⟩ := F.ex
  refine ⟨f, fd, F, F.ok S_width (fun vs H Q E h => ?_) (fun cdv A outer s H vs Q E hr h => ?_), F.binds fun _ _ _ _ _ _ us hl => match us, hl with | [_], _ => rfl, m, F.kp⟩
  · obtain ⟨n, rfl, _⟩ := h
    rfl
  obtain ⟨n, rfl, q⟩ := h
  refine ⟨_, (pss_one
    (ps_ret (pe_bits (pe_op op_sub (pv 0) pe_int)))), ?_⟩
  refine ⟨_, rfl, _, _, rfl, rfl, _, rfl, ?_⟩
  exact q H (Ex.refl H)
theorem kb_width {f : Addr} {fd : FuncData} (F : Fun K "width" "width" s_width f fd) : KBn K fd ["options"] 0 ["options"] (fun _ ws => ws) (fun _ ws => ws) := by
  obtain ⟨oc, od, kV, doc, pm, an, cdv, ct, osl, rfl, lk, hcd⟩ := F.ex
  refine ⟨fun s us ws X l1 l2 => ?_, fun r1 r2 => r2⟩
  match us, ws, l1, l2 with
  | [], [v], _, _ => exact .of_eq rfl
end
end Ver
namespace Ver
/-! ### the length of a block by its number of pieces alone -/
def opts (s k : Nat) : Nat := (k + 1) * s - k + 1
def rcs (s : Nat) : Nat → Nat
  | 0 => 0
  | k + 1 => rcs s k + wid (opts s k)
theorem rch_is (al : List Nat) : ∀ k, rch al k = rcs al.length k
  | 0 => rfl
  | k + 1 => by
    show rch al k + wid (opt al k) = rcs al.length k + wid (opts al.length k)
    rw [rch_is al k]
    rfl
theorem wid_gt {b m : Nat} (h : 1 ≤ m) : b < wid m ↔ 2 ^ b < m := by
  constructor
  · intro hb
    refine Classical.byContradiction fun hn => ?_
    have := bits_le (m := (m : Int)) (b := b) (by omega) (by
      have e : (2 : Int) ^ b = ((2 ^ b : Nat) : Int) := by
        rw [Int.natCast_pow]
        rfl
      rw [e]
      omega)
    unfold wid at hb
    omega
  · intro hb
    have hp := wid_pow h
    refine Classical.byContradiction fun hn => ?_
    have : 2 ^ wid m ≤ 2 ^ b := Nat.pow_le_pow_right (by decide) (by omega)
    omega
theorem opts_is {s k : Nat} (h : 1 ≤ s) : opts s k = (k + 1) * (s - 1) + 2 := by
  unfold opts
  obtain ⟨r, rfl⟩ : ∃ r, s = r + 1 := ⟨s - 1, by omega⟩
  rw [Nat.mul_add, Nat.mul_one]
  show (k + 1) * r + (k + 1) - k + 1 = (k + 1) * r + 2
  omega
/-- how many of the first numbers have at most b bits -/
def wi (s b : Nat) : Nat := if b = 0 then 0 else (2 ^ b - 2) / (s - 1)
theorem wi_lt {s b n : Nat} (hs : 2 ≤ s) (hn : 1 ≤ n) : wi s b < n ↔ 2 ^ b < n * (s - 1) + 2 := by
  unfold wi
  by_cases c : b = 0
  · subst c
    rw [if_pos rfl]
    have : 1 * (s - 1) ≤ n * (s - 1) := Nat.mul_le_mul_right _ hn
    constructor
    · intro _
      show 1 < _
      omega
    · intro _
      omega
  · rw [if_neg c, Nat.div_lt_iff_lt_mul (by omega)]
    have h2 : 2 ≤ 2 ^ b := by
      have : 2 ^ 1 ≤ 2 ^ b := Nat.pow_le_pow_right (by decide) (by omega)
      omega
    omega
def tot (s L : Nat) : Nat → Nat
  | 0 => 0
  | b + 1 => tot s L b + (L - wi s b)
theorem tot_zero (s : Nat) : ∀ B, tot s 0 B = 0
  | 0 => rfl
  | B + 1 => by
    show tot s 0 B + (0 - wi s B) = 0
    rw [tot_zero s B]
    omega
theorem tot_succ {s L : Nat} (hs : 2 ≤ s) : ∀ B, tot s (L + 1) B = tot s L B + min B (wid (opts s L))
  | 0 => by
    show 0 = 0 + min 0 _
    omega
  | B + 1 => by
    have ih := tot_succ (L := L) hs B
    have e := opts_is (s := s) (k := L) (by omega)
    have h1 := wid_gt (b := B) (m := opts s L) (by rw [e]; omega)
    have h2 := wi_lt (s := s) (b := B) (n := L + 1) hs (by omega)
    rw [e] at h1
    show tot s (L + 1) B + (L + 1 - wi s B) = tot s L B + (L - wi s B) + min (B + 1) (wid (opts s L))
    rw [ih]
    rw [e]
    by_cases c : wi s B < L + 1
    · have := h1.mpr (h2.mp c)
      omega
    · have : ¬ B < wid ((L + 1) * (s - 1) + 2) := fun q => c (h2.mpr (h1.mp q))
      omega
theorem wid_mono2 {n m : Nat} (h1 : 1 ≤ n) (h : n ≤ m) : wid n ≤ wid m := wid_mono h1 h
theorem tot_is {s : Nat} (hs : 2 ≤ s) (B : Nat) : ∀ L, (1 ≤ L → L ≤ wi s B) → tot s L B = rcs s L
  | 0, _ => tot_zero s B
  | L + 1, h => by
    have hw := h (by omega)
    have ih := tot_is hs B L fun h1 => by omega
    rw [tot_succ hs, ih]
    show rcs s L + min B (wid (opts s L)) = rcs s L + wid (opts s L)
    have e := opts_is (s := s) (k := L) (by omega)
    have h1 := wid_gt (b := B) (m := opts s L) (by rw [e]; omega)
    have h2 := wi_lt (s := s) (b := B) (n := L + 1) hs (by omega)
    have : ¬ B < wid (opts s L) := fun q => by
      have q2 := h1.mp q
      rw [e] at q2
      have := h2.mpr q2
      omega
    omega
/-- one letter: each number has one bit -/
theorem rcs_one : ∀ L, rcs 1 L = L
  | 0 => rfl
  | L + 1 => by
    show rcs 1 L + wid (opts 1 L) = L + 1
    rw [rcs_one L]
    have e : opts 1 L = 2 := by
      unfold opts
      omega
    rw [e]
    rfl
/-- the first number with more than b bits -/
theorem first_is {s b : Nat} (hs : 2 ≤ s) (hb : 1 ≤ b) : (2 ^ b + (s - 1) - 2) / (s - 1) = wi s b + 1 := by
  unfold wi
  rw [if_neg (by omega)]
  have h2 : 2 ≤ 2 ^ b := by
    have : 2 ^ 1 ≤ 2 ^ b := Nat.pow_le_pow_right (by decide) (by omega)
    omega
  have e : 2 ^ b + (s - 1) - 2 = (2 ^ b - 2) + (s - 1) := by omega
  rw [e, Nat.add_div_right _ (by omega)]
def plen (s m : Nat) : Nat := rcs s (m + 1) + wid (m + 1)
theorem bln_is (al : List Nat) (m : Nat) : bln al m = plen al.length m := by
  unfold bln plen
  rw [rch_is]
end Ver
namespace Ver
/-! ### the block against the number of texts -/
/-- free places: k of them at number k - 1 -/
def fre (s k : Nat) : Nat := k * (s - 1) + 1
def prd (s : Nat) : Nat → Nat
  | 0 => 1
  | p + 1 => prd s p * fre s (p + 1)
theorem fre_pos (s k : Nat) : 1 ≤ fre s k := by
  unfold fre
  omega
theorem prd_pos (s : Nat) : ∀ p, 1 ≤ prd s p
  | 0 => Nat.le_refl 1
  | p + 1 => by
    have h1 := prd_pos s p
    have h2 := fre_pos s (p + 1)
    show 1 ≤ prd s p * fre s (p + 1)
    have := Nat.mul_le_mul h1 h2
    omega
theorem opts_fre {s k : Nat} (h : 1 ≤ s) : opts s k = fre s (k + 1) + 1 := by
  rw [opts_is h]
  rfl
theorem wid_mul {a b : Nat} (ha : 1 ≤ a) (hb : 1 ≤ b) : wid (a * b) ≤ wid a + wid b := by
  refine Classical.byContradiction fun hn => ?_
  have h := (wid_gt (b := wid a + wid b) (m := a * b) (by have := Nat.mul_le_mul ha hb; omega)).mp (by omega)
  rw [Nat.pow_add] at h
  have := Nat.mul_le_mul (wid_pow ha) (wid_pow hb)
  omega
theorem wid_one : wid 1 = 0 := rfl
theorem prd_wid {s : Nat} (hs : 1 ≤ s) : ∀ p, wid (prd s p) ≤ rcs s p
  | 0 => Nat.le_refl _
  | p + 1 => by
    have ih := prd_wid hs p
    have h := wid_mul (prd_pos s p) (fre_pos s (p + 1))
    have h2 := wid_mono (n := fre s (p + 1)) (m := fre s (p + 1) + 1) (fre_pos s (p + 1)) (by omega)
    show wid (prd s p * fre s (p + 1)) ≤ rcs s p + wid (opts s p)
    rw [opts_fre hs]
    omega
/-- at least the number of texts -/
theorem plen_low {s : Nat} (hs : 1 ≤ s) (p : Nat) : wid ((p + 1) * prd s p) ≤ plen s p := by
  have h1 := wid_mul (a := p + 1) (b := prd s p) (by omega) (prd_pos s p)
  have h2 := prd_wid hs p
  unfold plen
  show _ ≤ rcs s p + wid (opts s p) + wid (p + 1)
  omega
theorem wid_half {f : Nat} (h : 1 ≤ f) : 1 ≤ wid (f + 1) ∧ 2 ^ (wid (f + 1) - 1) ≤ f := by
  have h1 := wid_two (n := f + 1) (by omega)
  refine ⟨h1, ?_⟩
  have := (wid_gt (b := wid (f + 1) - 1) (m := f + 1) (by omega)).mp (by omega)
  omega
theorem prd_pow {s : Nat} (hs : 1 ≤ s) : ∀ p, p ≤ rcs s p ∧ 2 ^ (rcs s p - p) ≤ prd s p
  | 0 => ⟨Nat.le_refl 0, Nat.le_refl 1⟩
  | p + 1 => by
    obtain ⟨i1, i2⟩ := prd_pow hs p
    obtain ⟨h1, h2⟩ := wid_half (fre_pos s (p + 1))
    have e : rcs s (p + 1) = rcs s p + wid (fre s (p + 1) + 1) := by
      show rcs s p + wid (opts s p) = _
      rw [opts_fre hs]
    refine ⟨by omega, ?_⟩
    have e2 : rcs s (p + 1) - (p + 1) = (rcs s p - p) + (wid (fre s (p + 1) + 1) - 1) := by omega
    rw [e2, Nat.pow_add]
    exact Nat.mul_le_mul i2 h2
theorem plen_high {s : Nat} (hs : 1 ≤ s) (p : Nat) : plen s p ≤ wid ((p + 1) * prd s p) + p + wid (fre s (p + 1) + 1) := by
  obtain ⟨i1, i2⟩ := prd_pow hs p
  have e : plen s p = rcs s p + wid (fre s (p + 1) + 1) + wid (p + 1) := by
    unfold plen
    show rcs s p + wid (opts s p) + _ = _
    rw [opts_fre hs]
  rw [e]
  by_cases c : p = 0
  · subst c
    show rcs s 0 + _ + wid 1 ≤ _
    rw [wid_one]
    show 0 + _ + 0 ≤ _
    omega
  · obtain ⟨h1, h2⟩ := wid_half (f := p) (by omega)
    have h3 := (wid_gt (b := wid (p + 1) - 1) (m := p + 1) (by omega)).mp (by omega)
    have hp := prd_pos s p
    have h4 : 2 ^ ((wid (p + 1) - 1) + (rcs s p - p)) < (p + 1) * prd s p := by
      rw [Nat.pow_add]
      calc 2 ^ (wid (p + 1) - 1) * 2 ^ (rcs s p - p) ≤ 2 ^ (wid (p + 1) - 1) * prd s p := Nat.mul_le_mul_left _ i2
        _ < (p + 1) * prd s p := Nat.mul_lt_mul_of_pos_right h3 (by omega)
    have h5 := (wid_gt (m := (p + 1) * prd s p) (by have := Nat.mul_le_mul (show 1 ≤ p + 1 by omega) hp; omega)).mpr h4
    omega
theorem prd_le {s : Nat} (h : s ≤ 6) : ∀ p, p ≤ 200 → prd s p ≤ 1001 ^ p
  | 0, _ => Nat.le_refl 1
  | p + 1, hp => by
    have ih := prd_le h p (by omega)
    have hf : fre s (p + 1) ≤ 1001 := by
      unfold fre
      have : (p + 1) * (s - 1) ≤ 200 * 5 := Nat.mul_le_mul (by omega) (by omega)
      omega
    show prd s p * fre s (p + 1) ≤ 1001 ^ (p + 1)
    rw [Nat.pow_succ]
    exact Nat.mul_le_mul ih hf
theorem prd_big {s p : Nat} (h : s ≤ 6) (hp : p ≤ 200) : (p + 1) * prd s p ≤ 2 ^ 2100 := by
  have h1 := prd_le h p hp
  have h2 : 1001 ^ p ≤ 1001 ^ 200 := Nat.pow_le_pow_right (by decide) hp
  have h3 : (201 : Nat) * 1001 ^ 200 ≤ 2 ^ 2100 := by decide +kernel
  have h4 : (p + 1) * prd s p ≤ 201 * 1001 ^ 200 := Nat.mul_le_mul (by omega) (Nat.le_trans h1 h2)
  exact Nat.le_trans h4 h3
end Ver
namespace Ver
open PySem PySem.Spec PyProof.Rows L2 Evl
/-- numbers of pieces that are asked -/
def ML : Nat := 10 ^ 31
theorem ml_is : ML = 10000000000000000000000000000000 := by decide +kernel
theorem wi_big {s b L : Nat} (hs : 2 ≤ s) (h6 : s ≤ 6) (hL : L ≤ ML) (h : wi s b < L) : b < 110 := by
  have h2 := (wi_lt hs (show 1 ≤ L by omega)).mp h
  have h3 : L * (s - 1) ≤ ML * 5 := Nat.mul_le_mul hL (by omega)
  rw [ml_is] at h3
  refine Classical.byContradiction fun hn => ?_
  have h4 : 2 ^ 110 ≤ 2 ^ b := Nat.pow_le_pow_right (by decide) (by omega)
  have h5 : (2 : Nat) ^ 110 = 1298074214633706907132624082305024 := by decide +kernel
  omega
theorem bits_w {n : Nat} : bitsOf (n : Int) = (wid n : Int) := by
  have := bits_nn (n : Int)
  unfold wid
  omega
theorem ml_pow : (ML : Int) * 6 + 2 ≤ 2 ^ 2100 := by decide +kernel
section
variable {P : Program} {w : World} {K : PySem.W.Frag} {mg : Str → Option Value} {base : Heap}
/-! ### width_total, pressed_length -/
def spWt : Sp := fun vs H Q _ => ∃ s L : Nat, vs = [.int (s : Int), .int (L : Int)] ∧ 1 ≤ s ∧ s ≤ 6 ∧ L ≤ ML ∧ RetV (.int (rcs s L : Int)) H Q
theorem has_wt (F : At K mg "width_total" s_width_total) (T : Top K mg) : Has P w K mg base "width_total" s_width_total ["size", "last"] 1 spWt := by
  obtain ⟨f, fd, F, m⟩ := F.ex
  refine ⟨f, fd, F, F.ok S_width_total (fun vs H Q E h => ?_) (fun cdv A outer s H vs Q E hr h => ?_), F.binds fun _ _ _ _ _ _ us hl => match us, hl with | [_, _], _ => rfl, m, F.kp⟩
  · obtain ⟨s, L, rfl, _⟩ := h
    rfl
  obtain ⟨s, L, rfl, h1, h6, hL, q⟩ := h
  refine ⟨_, (pss_cons
    (ps_if (pt_cmpR op_eq (pv 0) pe_int (nomark _)) (pss_one
    (ps_ret (pv 1))) pss_nil)
    (pss_cons
    (ps_set (i := 2) S_width_total.nd rfl (Or.inl rfl) (pe_op op_sub (pv 0) pe_int))
    (pss_cons
    (ps_set (i := 3) S_width_total.nd rfl (Or.inl rfl) pe_int)
    (pss_cons
    (ps_set (i := 4) S_width_total.nd rfl (Or.inl rfl) pe_int)
    (pss_cons
    (ps_set (i := 5) S_width_total.nd rfl (Or.inl rfl) pe_int)
    (pss_cons
    (ps_while PassesOwn.never (pt_cmpR op_le (pv 5) (pv 1) (nomark _)) (pss_cons
    (ps_aug (i := 3) S_width_total.nd rfl (Or.inl rfl) (pe_op op_add (pe_op op_sub (pv 1) (pv 5)) pe_int) ip_add)
    (pss_cons
    (ps_aug (i := 4) S_width_total.nd rfl (Or.inl rfl) pe_int ip_add)
    (pss_one
    (ps_set (i := 5) S_width_total.nd rfl (Or.inl rfl) (pe_op op_fdivW (pe_op op_sub (pe_op op_add (pe_op op_shl pe_int (pv 4)) (pv 2)) pe_int) (pv 2)))))))
    (pss_one
    (ps_ret (pv 3))))))))), ?_⟩
  refine q_when (et_eqI (ev_var rfl) ev_c) (fun hb H1 e1 => ?_) (fun hb H1 e1 => ?_)
  · have hs : s = 1 := by
      have := of_decide_eq_true hb
      omega
    subst hs
    refine s_ret (ev_var rfl) fun H2 e2 => ?_
    rw [rcs_one] at q
    exact q H2 (e1.trans e2)
  have hs : 2 ≤ s := by
    have := of_decide_eq_false hb
    omega
  refine q_asg (v := .int ((s - 1 : Nat) : Int)) (ev_is (ev_sub (ev_var rfl) ev_c) (by congr 1; omega)) fun H2 e2 => ?_
  refine q_asg (v := .int ((tot s L 0 : Nat) : Int)) ev_c fun H3 e3 => ?_
  refine q_asg (v := .int ((0 : Nat) : Int)) ev_c fun H4 e4 => ?_
  refine q_asg (v := .int ((wi s 0 + 1 : Nat) : Int)) ev_c fun H5 e5 => ?_
  have e15 := (((e1.trans e2).trans e3).trans e4).trans e5
  refine q_while (fun n σ' H' => ∃ b : Nat, σ' = [some (.int (s : Int)), some (.int (L : Int)), some (.int ((s - 1 : Nat) : Int)), some (.int (tot s L b : Int)), some (.int (b : Int)), some (.int ((wi s b + 1 : Nat) : Int))] ∧ Ex H H' ∧ n = 200 - b ∧ b ≤ 111) 200 ⟨0, rfl, e15, rfl, by omega⟩ ?_
  intro n σ' H' z
  obtain ⟨b, rfl, e6, rfl, hb110⟩ := z
  refine ⟨decide (((wi s b + 1 : Nat) : Int) ≤ (L : Int)), et_le (ev_var rfl) (ev_var rfl), fun hc H6 e7 => ?_, fun hc H6 e7 => ?_⟩
  · have hw : wi s b < L := by
      have := of_decide_eq_true hc
      omega
    have hb := wi_big hs h6 hL hw
    refine ⟨fun σ2 H7 => ∃ b2 : Nat, σ2 = [some (.int (s : Int)), some (.int (L : Int)), some (.int ((s - 1 : Nat) : Int)), some (.int (tot s L b2 : Int)), some (.int (b2 : Int)), some (.int ((wi s b2 + 1 : Nat) : Int))] ∧ Ex H H7 ∧ 200 - b2 < 200 - b ∧ b2 ≤ 111, fun σ2 H7 ⟨b2, i1, i2, i3, i4⟩ => ⟨200 - b2, i3, b2, i1, i2, rfl, i4⟩, ?_⟩
    refine q_aug (f := fun a b => a + b) (a := (tot s L b : Int)) rfl (ev_add (ev_sub (ev_var rfl) (ev_var rfl)) ev_c) fun H7 e8 => ?_
    refine q_aug (f := fun a b => a + b) (a := (b : Int)) rfl ev_c fun H8 e9 => ?_
    have hp : CPow 1 ((b : Int) + 1) := ⟨by omega, by omega, by decide⟩
    have hsh : (1 : Int) * 2 ^ ((b : Int) + 1).toNat = ((2 ^ (b + 1) : Nat) : Int) := by
      have e : ((b : Int) + 1).toNat = b + 1 := by omega
      rw [e, Int.one_mul, Int.natCast_pow]
      rfl
    have hfi := first_is (s := s) (b := b + 1) hs (by omega)
    have h2p : 2 ≤ 2 ^ (b + 1) := by
      have : 2 ^ 1 ≤ 2 ^ (b + 1) := Nat.pow_le_pow_right (by decide) (by omega)
      omega
    refine s_asg (v := .int ((wi s (b + 1) + 1 : Nat) : Int)) (ev_is (ev_div (j := ((s - 1 : Nat) : Int)) (by omega) (by omega) (ev_sub (ev_add (ev_op ev_c (ev_var rfl) (rv_I hp)) (ev_var rfl)) ev_c) (ev_var rfl)) ?_) fun H9 e10 => ⟨b + 1, ?_, (((e6.trans e7).trans e8).trans e9).trans e10, by omega, by omega⟩
    · rw [hsh, ← hfi, Int.natCast_ediv]
      congr 2
      omega
    · show [_, _, _, some (V.int ((tot s L b : Int) + ((L : Int) - ((wi s b + 1 : Nat) : Int) + 1))), some (V.int ((b : Int) + 1)), _] = _
      have et : (tot s L b : Int) + ((L : Int) - ((wi s b + 1 : Nat) : Int) + 1) = ((tot s L (b + 1) : Nat) : Int) := by
        show _ = ((tot s L b + (L - wi s b) : Nat) : Int)
        omega
      rw [et]
      rfl
  · have hw : L ≤ wi s b := by
      have := of_decide_eq_false hc
      omega
    refine s_ret (ev_var rfl) fun H7 e8 => ?_
    rw [← tot_is hs b L (fun _ => hw)] at q
    exact q H7 ((e6.trans e7).trans e8)
theorem sv_wt {s L : Nat} {H : Hp} (h1 : 1 ≤ s) (h6 : s ≤ 6) (hL : L ≤ ML) : SpV spWt ([V.int (s : Int), V.int (L : Int)] ++ []) H (.int (rcs s L : Int)) := fun _ _ _ q _ => ⟨s, L, rfl, h1, h6, hL, q⟩
def spPlen : Sp := fun vs H Q _ => ∃ s p : Nat, vs = [.int (s : Int), .int (p : Int)] ∧ 1 ≤ s ∧ s ≤ 6 ∧ p < ML ∧ RetV (.int (plen s p : Int)) H Q
theorem has_plen (F : At K mg "pressed_length" s_pressed_length) (T : Top K mg) (h1 : Has P w K mg base "width_total" s_width_total ["size", "last"] 1 spWt) (h2 : Has P w K mg base "width" s_width ["options"] 1 spWidth) : Has P w K mg base "pressed_length" s_pressed_length ["size", "count"] 2 spPlen := by
  obtain ⟨f, fd, F, m⟩ := F.ex
  obtain ⟨f1, fd1, _, G_width_total, b_width_total, m_width_total, k_width_total⟩ := h1
  obtain ⟨f2, fd2, _, G_width, b_width, m_width, k_width⟩ := h2
  refine ⟨f, fd, F, F.ok S_pressed_length (fun vs H Q E h => ?_) (fun cdv A outer s H vs Q E hr h => ?_), F.binds fun _ _ _ _ _ _ us hl => match us, hl with | [_, _], _ => rfl, m, F.kp⟩
  · obtain ⟨s, p, rfl, _⟩ := h
    rfl
  obtain ⟨s, p, rfl, h1, h6, hp, q⟩ := h
  refine ⟨_, (pss_one
    (ps_ret (pe_op op_add (pe_call G_width_total (hr.mono (by decide)) rfl m_width_total k_width_total b_width_total .nil pass0 (pa_cons (pv 0) (pa_cons (pe_op op_add (pv 1) pe_int) pa_nil))) (pe_call G_width (hr.mono (by decide)) rfl m_width k_width b_width .nil pass0 (pa_cons (pe_op op_add (pv 1) pe_int) pa_nil))))), ?_⟩
  have e : (p : Int) + 1 = ((p + 1 : Nat) : Int) := by omega
  refine s_ret (ev_is (ev_add (ev_call (ea_cons (ev_var rfl) (ea_cons (ev_is (ev_add (ev_var rfl) ev_c) (by rw [e])) ea_nil)) (sv_wt (s := s) (L := p + 1) h1 h6 hp)) (ev_call (ea_cons (ev_is (ev_add (ev_var rfl) ev_c) (by rw [e])) ea_nil) (sv_width (n := ((p + 1 : Nat) : Int))))) ?_) q
  rw [bits_w]
  unfold plen
  rw [Int.natCast_add]
theorem sv_plen {s p : Nat} {H : Hp} (h1 : 1 ≤ s) (h6 : s ≤ 6) (hp : p < ML) : SpV spPlen ([V.int (s : Int), V.int (p : Int)] ++ []) H (.int (plen s p : Int)) := fun _ _ _ q _ => ⟨s, p, rfl, h1, h6, hp, q⟩
theorem kb_plen {f : Addr} {fd : FuncData} (F : Fun K "pressed_length" "pressed_length" s_pressed_length f fd) : KBn K fd ["size", "count"] 0 ["count", "size"] (fun _ ws => ws.reverse) (fun _ ws => ws.reverse) := by
  obtain ⟨oc, od, kV, doc, pm, an, cdv, ct, osl, rfl, lk, hcd⟩ := F.ex
  refine ⟨fun s us ws X l1 l2 => ?_, fun r1 r2 => ?_⟩
  · match us, ws, l1, l2 with
    | [], [v, u], _, _ => exact .of_eq rfl
  · exact vals_rev r2
where
  vals_rev {xs : List V} {us : List Value} (r : Vals xs us) : Vals xs.reverse us.reverse := by
    induction r with
    | nil => exact .nil
    | cons h _ ih =>
      rw [List.reverse_cons, List.reverse_cons]
      exact Vals.append ih (.cons h .nil)
end
end Ver
namespace Ver
/-! ### words whose beginnings stand ahead of them are cut into themselves -/
/-- every word is new, not empty, and each of its beginnings that is not empty stands ahead -/
structure Closed (ws : List (List Nat)) : Prop where
  nd : ws.Nodup
  ne : ∀ x ∈ ws, x ≠ []
  beg : ∀ (i : Nat) (x : List Nat), ws[i]? = some x → ∀ y z, x = y ++ z → z ≠ [] → y = [] ∨ y ∈ ws.take i
theorem Closed.take {ws : List (List Nat)} (h : Closed ws) (n : Nat) : Closed (ws.take n) := by
  refine ⟨h.nd.sublist (List.take_sublist n ws), fun x hx => h.ne x (List.mem_of_mem_take hx), fun i x hx y z e hz => ?_⟩
  have hi : i < n := by
    have := (List.getElem?_eq_some_iff.mp hx).1
    rw [List.length_take] at this
    omega
  rw [List.getElem?_take, if_pos hi] at hx
  rw [List.take_take, Nat.min_eq_left (by omega)]
  exact h.beg i x hx y z e hz
/-- read on through pieces that are there -/
theorem cut_known {al : List Nat} {ps : List (List Nat)} {v : List Nat} (hv : ∀ c ∈ v, c ∈ al) (hp : pcs (cutW v).1 = ps) (h0 : (cutW v).2 = 0) (x : List Nat) (hx : ∀ y z, x = y ++ z → y ∈ ps) (ho : ∀ c ∈ x, c ∈ al) :
    (cutW (v ++ x)).1 = (cutW v).1 ∧ ps.getD (cutW (v ++ x)).2 [] = x ∧ (cutW (v ++ x)).2 ≤ (cutW v).1.length := by
  induction x using snoc_ind with
  | h0 =>
    rw [List.append_nil, h0]
    refine ⟨rfl, ?_, Nat.zero_le _⟩
    rw [← hp]
    exact pcs_zero _
  | hs x c ih =>
    obtain ⟨i1, i2, i3⟩ := ih (fun y z e => hx y (z ++ [c]) (by rw [e, List.append_assoc])) (fun d hd => ho d (List.mem_append_left _ hd))
    rw [← List.append_assoc, cut_snoc]
    generalize cutW (v ++ x) = st at i1 i2 i3 ⊢
    obtain ⟨rs, cur⟩ := st
    have i1 : rs = (cutW v).1 := i1
    rw [← i1] at hp i3
    have ok : RowsOk al (cutW v).1 := (cut_ok (al := al) v hv).ok
    rw [← i1] at ok
    obtain ⟨nd, rows, ex⟩ := pcs_facts rs ok
    have hin : (pcs rs).getD cur [] ++ [c] ∈ pcs rs := by
      have i2 : ps.getD cur [] = x := i2
      rw [hp, i2]
      exact hx (x ++ [c]) [] (by simp)
    have hm : (cur, c) ∈ rs := (ex cur c i3).mp hin
    have es : cutStep (rs, cur) c = (rs, rs.idxOf (cur, c) + 1) := if_pos hm
    rw [es]
    obtain ⟨h1, h2⟩ := idx_row hm
    refine ⟨i1, ?_, ?_⟩
    · show ps.getD (rs.idxOf (cur, c) + 1) [] = x ++ [c]
      have i2 : ps.getD cur [] = x := i2
      rw [← hp, rows _ cur c h2, hp, i2]
    · rw [← i1]
      exact h1
theorem cut_words {al : List Nat} : ∀ ws : List (List Nat), Closed ws → (∀ x ∈ ws, ∀ c ∈ x, c ∈ al) → pcs (cutW ws.flatten).1 = [] :: ws ∧ (cutW ws.flatten).2 = 0 := by
  intro ws
  induction ws using snoc_ind with
  | h0 =>
    intro _ _
    exact ⟨rfl, rfl⟩
  | hs ws x ih =>
    intro hc ho
    have hc2 : Closed ws := by
      have := hc.take ws.length
      rw [List.take_append_of_le_length (Nat.le_refl _), List.take_length] at this
      exact this
    obtain ⟨i1, i2⟩ := ih hc2 fun y hy => ho y (List.mem_append_left _ hy)
    have hlast : (ws ++ [x])[ws.length]? = some x := by simp
    have hxne := hc.ne x (List.mem_append_right _ (List.mem_singleton.mpr rfl))
    have hnew : x ∉ ws := fun hm => by
      have := (List.nodup_append.mp hc.nd).2.2 x hm x (List.mem_singleton.mpr rfl)
      exact this rfl
    have ex := (List.dropLast_concat_getLast hxne).symm
    have ov : ∀ c ∈ ws.flatten, c ∈ al := fun c hcm => by
      obtain ⟨y, hy, hcy⟩ := List.mem_flatten.mp hcm
      exact ho y (List.mem_append_left _ hy) c hcy
    have ox : ∀ c ∈ x, c ∈ al := ho x (List.mem_append_right _ (List.mem_singleton.mpr rfl))
    generalize x.dropLast = y at ex
    generalize x.getLast hxne = d at ex
    have hkn : ∀ a b, y = a ++ b → a ∈ [] :: ws := fun a b e => by
      have := hc.beg ws.length x hlast a (b ++ [d]) (by rw [ex, e, List.append_assoc]) (by simp)
      rcases this with h | h
      · rw [h]
        exact List.mem_cons_self ..
      · rw [List.take_append_of_le_length (Nat.le_refl _), List.take_length] at h
        exact List.mem_cons_of_mem _ h
    obtain ⟨k1, k2, k3⟩ := cut_known ov i1 i2 y hkn (fun c hcm => ox c (by rw [ex]; exact List.mem_append_left _ hcm))
    have ef : (ws ++ [x]).flatten = (ws.flatten ++ y) ++ [d] := by
      rw [List.flatten_append, ex]
      simp
    rw [ef, cut_snoc]
    have ok : RowsOk al (cutW ws.flatten).1 := (cut_ok (al := al) _ ov).ok
    generalize cutW (ws.flatten ++ y) = st at k1 k2 k3 ⊢
    obtain ⟨rs, cur⟩ := st
    have k1 : rs = (cutW ws.flatten).1 := k1
    rw [← k1] at i1 ok k3
    obtain ⟨nd, rows, exx⟩ := pcs_facts rs ok
    have k2 : (pcs rs).getD cur [] = y := by
      rw [i1]
      exact k2
    have hout : (cur, d) ∉ rs := fun hm => by
      have := (exx cur d k3).mpr hm
      rw [k2, ← ex, i1] at this
      rcases List.mem_cons.mp this with h | h
      · exact hxne h
      · exact hnew h
    have es : cutStep (rs, cur) d = (rs ++ [(cur, d)], 0) := if_neg hout
    rw [es]
    refine ⟨?_, rfl⟩
    show pcs (rs ++ [(cur, d)]) = [] :: (ws ++ [x])
    rw [pcs_snoc]
    show pcs rs ++ [(pcs rs).getD cur [] ++ [d]] = _
    rw [k2, ← ex, i1]
    rfl
/-- how many pieces a beginning has: the words that are whole -/
theorem cut_begin {al : List Nat} {ws : List (List Nat)} (hc : Closed ws) (ho : ∀ x ∈ ws, ∀ c ∈ x, c ∈ al) {m n : Nat} (hm : m < ws.length) (h1 : (ws.take m).flatten.length ≤ n) (h2 : n < (ws.take (m + 1)).flatten.length) :
    (cutW (ws.flatten.take n)).1.length = m := by
  have hcm := hc.take m
  have hom : ∀ x ∈ ws.take m, ∀ c ∈ x, c ∈ al := fun x hx => ho x (List.mem_of_mem_take hx)
  obtain ⟨i1, i2⟩ := cut_words (al := al) (ws.take m) hcm hom
  have et : ws.take (m + 1) = ws.take m ++ [ws[m]] := by
    rw [List.take_add_one, List.getElem?_eq_getElem hm]
    rfl
  have ew : ws.flatten.take n = (ws.take m).flatten ++ ws[m].take (n - (ws.take m).flatten.length) := by
    have e0 : ws = ws.take m ++ (ws[m] :: ws.drop (m + 1)) := by
      rw [← List.drop_eq_getElem_cons hm, List.take_append_drop]
    conv => lhs; rw [e0, List.flatten_append, List.flatten_cons]
    rw [List.take_append, List.take_of_length_le h1, List.take_append]
    have hle : n - (ws.take m).flatten.length - ws[m].length = 0 := by
      rw [et, List.flatten_append, List.length_append] at h2
      have : [ws[m]].flatten.length = ws[m].length := by simp
      omega
    rw [hle, List.take_zero, List.append_nil]
  have hx : ∀ y z, ws[m].take (n - (ws.take m).flatten.length) = y ++ z → y ∈ [] :: ws.take m := fun y z e => by
    have hlt : n - (ws.take m).flatten.length < ws[m].length := by
      rw [et, List.flatten_append, List.length_append] at h2
      have : [ws[m]].flatten.length = ws[m].length := by simp
      omega
    have e2 : ws[m] = y ++ (z ++ ws[m].drop (n - (ws.take m).flatten.length)) := by
      rw [← List.append_assoc, ← e, List.take_append_drop]
    have hz : z ++ ws[m].drop (n - (ws.take m).flatten.length) ≠ [] := fun q => by
      have := congrArg List.length q
      rw [List.length_append, List.length_drop, List.length_nil] at this
      omega
    rcases hc.beg m ws[m] (List.getElem?_eq_getElem hm) y _ e2 hz with h | h
    · rw [h]
      exact List.mem_cons_self ..
    · exact List.mem_cons_of_mem _ h
  have ov : ∀ c ∈ (ws.take m).flatten, c ∈ al := fun c hcm => by
    obtain ⟨y, hy, hcy⟩ := List.mem_flatten.mp hcm
    exact hom y hy c hcy
  obtain ⟨k1, _, _⟩ := cut_known ov i1 i2 _ hx (fun c hcm => ho _ (List.getElem_mem hm) c (List.mem_of_mem_take hcm))
  rw [ew, k1]
  have := congrArg List.length i1
  rw [pcs_len, List.length_cons, List.length_take] at this
  omega
end Ver
namespace Ver
/-! ### all words that are not empty, in order -/
def nxtN (al : List Nat) (v : List Nat) : List (List Nat) := al.map fun c => v ++ [c]
def levN (al : List Nat) : Nat → List (List Nat)
  | 0 => [[]]
  | t + 1 => (levN al t).flatMap (nxtN al)
def wo (al : List Nat) : Nat → List (List Nat)
  | 0 => []
  | n + 1 => wo al n ++ levN al (n + 1)
theorem levN_word {al : List Nat} : ∀ t, ∀ v ∈ levN al t, v.length = t ∧ ∀ c ∈ v, c ∈ al
  | 0, v, h => by
    rw [List.mem_singleton.mp h]
    exact ⟨rfl, fun c h => (by cases h)⟩
  | t + 1, v, h => by
    obtain ⟨x, hx, hv⟩ := List.mem_flatMap.mp h
    obtain ⟨c, hc, rfl⟩ := List.mem_map.mp hv
    obtain ⟨h1, h2⟩ := levN_word t x hx
    refine ⟨by rw [List.length_append, h1]; rfl, fun d hd => ?_⟩
    rcases List.mem_append.mp hd with hd | hd
    · exact h2 d hd
    · rw [List.mem_singleton.mp hd]
      exact hc
theorem levN_all {al : List Nat} (v : List Nat) (h : ∀ c ∈ v, c ∈ al) : v ∈ levN al v.length := by
  induction v using snoc_ind with
  | h0 => exact List.mem_singleton.mpr rfl
  | hs v c ih =>
    have h1 := ih fun d hd => h d (List.mem_append_left _ hd)
    rw [List.length_append]
    show v ++ [c] ∈ (levN al v.length).flatMap (nxtN al)
    exact List.mem_flatMap.mpr ⟨v, h1, List.mem_map.mpr ⟨c, h c (List.mem_append_right _ (List.mem_singleton.mpr rfl)), rfl⟩⟩
theorem levN_len {al : List Nat} : ∀ t, (levN al t).length = al.length ^ t
  | 0 => rfl
  | t + 1 => by
    have h : ∀ l : List (List Nat), (l.flatMap (nxtN al)).length = l.length * al.length := by
      intro l
      induction l with
      | nil => simp
      | cons a r ih =>
        rw [List.flatMap_cons, List.length_append, ih]
        unfold nxtN
        rw [List.length_map, List.length_cons, Nat.add_mul, Nat.one_mul, Nat.add_comm]
    show ((levN al t).flatMap (nxtN al)).length = _
    rw [h, levN_len t, Nat.pow_succ]
theorem levN_nd {al : List Nat} (nd : al.Nodup) : ∀ t, (levN al t).Nodup
  | 0 => by simp [levN]
  | t + 1 => by
    show ((levN al t).flatMap (nxtN al)).Pairwise (· ≠ ·)
    rw [List.pairwise_flatMap]
    refine ⟨fun x _ => ?_, ?_⟩
    · unfold nxtN
      refine List.pairwise_map.mpr (nd.imp fun {a b} h e => h ?_)
      have := (List.append_inj' e rfl).2
      exact (List.cons.inj this).1
    · refine (levN_nd nd t).imp fun {a b} h x hx y hy e => h ?_
      obtain ⟨c, _, rfl⟩ := List.mem_map.mp hx
      obtain ⟨d, _, rfl⟩ := List.mem_map.mp hy
      exact (List.append_inj' e rfl).1
theorem wo_word {al : List Nat} : ∀ n, ∀ v ∈ wo al n, 1 ≤ v.length ∧ v.length ≤ n ∧ ∀ c ∈ v, c ∈ al
  | 0, v, h => by cases h
  | n + 1, v, h => by
    rcases List.mem_append.mp h with h | h
    · obtain ⟨h0, h1, h2⟩ := wo_word n v h
      exact ⟨h0, by omega, h2⟩
    · obtain ⟨h1, h2⟩ := levN_word (n + 1) v h
      exact ⟨by omega, by omega, h2⟩
theorem wo_all {al : List Nat} : ∀ n (v : List Nat), 1 ≤ v.length → v.length ≤ n → (∀ c ∈ v, c ∈ al) → v ∈ wo al n
  | 0, v, h1, h2, _ => by omega
  | n + 1, v, h1, h2, h => by
    show v ∈ wo al n ++ levN al (n + 1)
    by_cases c : v.length = n + 1
    · rw [← c]
      exact List.mem_append_right _ (levN_all v h)
    · exact List.mem_append_left _ (wo_all n v h1 (by omega) h)
theorem wo_nd {al : List Nat} (nd : al.Nodup) : ∀ n, (wo al n).Nodup
  | 0 => List.nodup_nil
  | n + 1 => List.nodup_append.mpr ⟨wo_nd nd n, levN_nd nd (n + 1), fun a ha b hb e => by
    have h1 := (wo_word n a ha).2.1
    have h2 := (levN_word (n + 1) b hb).1
    rw [e] at h1
    omega⟩
theorem wo_closed {al : List Nat} (nd : al.Nodup) (n : Nat) : Closed (wo al n) := by
  refine ⟨wo_nd nd n, fun x hx e => ?_, ?_⟩
  · have := (wo_word n x hx).1
    rw [e] at this
    exact absurd this (by decide)
  · induction n with
    | zero =>
      intro i x hx
      simp [wo] at hx
    | succ n ih =>
      intro i x hx y z e hz
      have hx : (wo al n ++ levN al (n + 1))[i]? = some x := hx
      by_cases hi : i < (wo al n).length
      · rw [List.getElem?_append_left hi] at hx
        show y = [] ∨ y ∈ (wo al n ++ levN al (n + 1)).take i
        rw [List.take_append_of_le_length (by omega)]
        exact ih i x hx y z e hz
      · rw [List.getElem?_append_right (by omega)] at hx
        obtain ⟨hl, ho⟩ := levN_word (n + 1) x (List.mem_of_getElem? hx)
        by_cases c : y = []
        · exact .inl c
        · refine .inr ?_
          have hy1 : 1 ≤ y.length := List.length_pos_iff.mpr c
          have hz1 : 1 ≤ z.length := List.length_pos_iff.mpr hz
          have hyl : y.length ≤ n := by
            rw [e, List.length_append] at hl
            omega
          have hin := wo_all (al := al) n y hy1 hyl fun d hd => ho d (by rw [e]; exact List.mem_append_left _ hd)
          show y ∈ (wo al n ++ levN al (n + 1)).take i
          rw [List.take_append, List.take_of_length_le (by omega)]
          exact List.mem_append_left _ hin
theorem lens_all {t : Nat} : ∀ l : List (List Nat), (∀ v ∈ l, v.length = t) → l.flatten.length = l.length * t
  | [], _ => by simp
  | a :: r, h => by
    rw [List.flatten_cons, List.length_append, h a (List.mem_cons_self ..), lens_all r fun v hv => h v (List.mem_cons_of_mem _ hv), List.length_cons, Nat.add_mul, Nat.one_mul, Nat.add_comm]
/-- words up to n letters -/
def sw (s : Nat) : Nat → Nat
  | 0 => 0
  | n + 1 => sw s n + s ^ (n + 1)
theorem wo_len {al : List Nat} : ∀ n, (wo al n).length = sw al.length n
  | 0 => rfl
  | n + 1 => by
    show (wo al n ++ levN al (n + 1)).length = sw al.length n + al.length ^ (n + 1)
    rw [List.length_append, wo_len n, levN_len]
/-- letters of the first m words, of at most n letters each -/
def lw (s m : Nat) : Nat → Nat
  | 0 => 0
  | n + 1 => lw s m n + min (m - sw s n) (s ^ (n + 1)) * (n + 1)
theorem wo_letters {al : List Nat} (m : Nat) : ∀ n, ((wo al n).take m).flatten.length = lw al.length m n
  | 0 => by simp [wo, lw]
  | n + 1 => by
    show ((wo al n ++ levN al (n + 1)).take m).flatten.length = lw al.length m n + min (m - sw al.length n) (al.length ^ (n + 1)) * (n + 1)
    rw [List.take_append, List.flatten_append, List.length_append, wo_letters m n, wo_len]
    congr 1
    rw [lens_all (t := n + 1) _ fun v hv => (levN_word (n + 1) v (List.mem_of_mem_take hv)).1, List.length_take, levN_len]
/-- different words that are not empty have at least as many letters as the first ones in order -/
theorem nodup_subL : ∀ (a b : List (List Nat)), a.Nodup → (∀ x ∈ a, x ∈ b) → a.length ≤ b.length
  | [], b, _, _ => Nat.zero_le _
  | x :: r, b, nd, h => by
    have hx := h x (List.mem_cons_self ..)
    have ih := nodup_subL r (b.erase x) (List.nodup_cons.mp nd).2 fun y hy => (List.mem_erase_of_ne (fun (e : y = x) => (List.nodup_cons.mp nd).1 (e ▸ hy))).mpr (h y (List.mem_cons_of_mem _ hy))
    have e := List.length_erase_of_mem hx
    have hp : 0 < b.length := List.length_pos_of_mem hx
    show r.length + 1 ≤ _
    omega
theorem two_parts {α : Type} (p : α → Bool) : ∀ l : List α, l.length = l.countP p + l.countP (fun v => !p v)
  | [] => rfl
  | a :: r => by
    rw [List.length_cons, List.countP_cons, List.countP_cons, two_parts p r]
    cases p a
    · simp
      omega
    · simp
      omega
/-- how many of xs have more than i letters -/
def above (xs : List (List Nat)) (i : Nat) : Nat := xs.countP fun v => decide (i < v.length)
theorem above_ge {al : List Nat} {xs : List (List Nat)} (nd : xs.Nodup) (h : ∀ x ∈ xs, 1 ≤ x.length ∧ ∀ c ∈ x, c ∈ al) (i : Nat) : xs.length - sw al.length i ≤ above xs i := by
  have e : xs.length = above xs i + (xs.filter fun v => !decide (i < v.length)).length := by
    unfold above
    rw [← List.countP_eq_length_filter]
    exact two_parts _ xs
  have h2 := nodup_subL (xs.filter fun v => !decide (i < v.length)) (wo al i) (nd.filter _) fun x hx => by
    obtain ⟨h1, h3⟩ := List.mem_filter.mp hx
    obtain ⟨h4, h5⟩ := h x h1
    have : ¬ i < x.length := by simpa using h3
    exact wo_all i x h4 (by omega) h5
  rw [wo_len] at h2
  omega
def sumA (xs : List (List Nat)) : Nat → Nat
  | 0 => 0
  | n + 1 => sumA xs n + above xs n
theorem sumA_le : ∀ (xs : List (List Nat)) (n : Nat), sumA xs n ≤ xs.flatten.length := by
  intro xs n
  have h : ∀ n, sumA xs n = (xs.map fun v => min n v.length).sum := by
    intro n
    induction n with
    | zero =>
      show 0 = _
      induction xs with
      | nil => rfl
      | cons a r ih => rw [List.map_cons, List.sum_cons, ← ih]; omega
    | succ n ih =>
      show sumA xs n + above xs n = _
      rw [ih]
      clear ih
      unfold above
      induction xs with
      | nil => rfl
      | cons a r ih =>
        rw [List.map_cons, List.map_cons, List.sum_cons, List.sum_cons, List.countP_cons, ← ih]
        by_cases c : n < a.length
        · rw [if_pos (decide_eq_true c)]
          omega
        · rw [if_neg (by simpa using c)]
          omega
  rw [h n]
  clear h
  induction xs with
  | nil => simp
  | cons a r ih =>
    rw [List.map_cons, List.sum_cons, List.flatten_cons, List.length_append]
    omega
end Ver
namespace Ver
/-! ### words by length: p i words of i + 1 letters -/
def S (p : Nat → Int) : Nat → Int
  | 0 => 0
  | i + 1 => S p i + p i
/-- the letters of m words, the shortest first -/
def C (p : Nat → Int) (m : Int) : Nat → Int
  | 0 => 0
  | i + 1 => C p m i + max 0 (m - S p i)
/-- the loop of the weight: left, total -/
def wl (p : Nat → Int) (m : Int) : Nat → Int
  | 0 => m
  | i + 1 => wl p m i - min (wl p m i) (p i)
def wt (p : Nat → Int) (m : Int) : Nat → Int
  | 0 => 0
  | i + 1 => wt p m i + min (wl p m i) (p i) * ((i : Int) + 1)
/-- the loop of the fill: left, total -/
def fl (p : Nat → Int) (s : Int) : Nat → Int
  | 0 => s
  | i + 1 => fl p s i - min (p i) (fl p s i / ((i : Int) + 1)) * ((i : Int) + 1)
def ft (p : Nat → Int) (s : Int) : Nat → Int
  | 0 => 0
  | i + 1 => ft p s i + min (p i) (fl p s i / ((i : Int) + 1))

section
variable {p : Nat → Int} (hp : ∀ i, 0 ≤ p i)
include hp
theorem S_nonneg : ∀ i, 0 ≤ S p i
  | 0 => Int.le_refl 0
  | i + 1 => by
    have h := S_nonneg i
    have h2 := hp i
    show 0 ≤ S p i + p i
    omega
theorem S_mono : ∀ {i j : Nat}, i ≤ j → S p i ≤ S p j := by
  intro i j h
  induction h with
  | refl => exact Int.le_refl _
  | @step j _ ih =>
    have h2 := hp j
    show S p i ≤ S p j + p j
    omega
theorem wl_eq {m : Int} (h0 : 0 ≤ m) : ∀ i, wl p m i = max 0 (m - S p i)
  | 0 => by
    show m = max 0 (m - 0)
    omega
  | i + 1 => by
    have h := wl_eq h0 i
    have h1 := hp i
    show wl p m i - min (wl p m i) (p i) = max 0 (m - (S p i + p i))
    omega
theorem C_mono {m k : Int} (h : m ≤ k) : ∀ n, C p m n ≤ C p k n
  | 0 => Int.le_refl 0
  | n + 1 => by
    have ih := C_mono h n
    show C p m n + max 0 (m - S p n) ≤ C p k n + max 0 (k - S p n)
    omega
theorem C_lip {m d : Int} (h : 0 ≤ d) : ∀ n : Nat, C p (m + d) n ≤ C p m n + d * n
  | 0 => by
    show (0 : Int) ≤ 0 + d * 0
    omega
  | n + 1 => by
    have ih := C_lip (m := m) h n
    have e : d * ((n + 1 : Nat) : Int) = d * n + d := by
      rw [Int.natCast_add, Int.mul_add]
      simp
    show C p (m + d) n + max 0 (m + d - S p n) ≤ C p m n + max 0 (m - S p n) + d * ((n + 1 : Nat) : Int)
    rw [e]
    omega
theorem C_lin {m d : Int} (h : 0 ≤ d) : ∀ n : Nat, (∀ j, j < n → S p j ≤ m) → C p (m + d) n = C p m n + d * n
  | 0, _ => by
    show (0 : Int) = 0 + d * 0
    omega
  | n + 1, hm => by
    have ih := C_lin h n fun j hj => hm j (Nat.lt_succ_of_lt hj)
    have hn := hm n (Nat.lt_succ_self n)
    have e : d * ((n + 1 : Nat) : Int) = d * n + d := by
      rw [Int.natCast_add, Int.mul_add]
      simp
    show C p (m + d) n + max 0 (m + d - S p n) = C p m n + max 0 (m - S p n) + d * ((n + 1 : Nat) : Int)
    rw [e]
    omega
theorem C_lin_S {d : Int} (h : 0 ≤ d) (n : Nat) : C p (S p n + d) n = C p (S p n) n + d * n :=
  C_lin hp h n fun _ hj => S_mono hp (Nat.le_of_lt hj)
/-- the weight of at most all words is C; beyond it stays -/
theorem wt_eq {m : Int} (h0 : 0 ≤ m) : ∀ n : Nat, wt p m n = C p (min m (S p n)) n
  | 0 => rfl
  | n + 1 => by
    have ih := wt_eq h0 n
    have hw := wl_eq hp h0 n
    have h1 := hp n
    have e : C p (min m (S p (n + 1))) (n + 1) = C p (min m (S p n + p n)) n + max 0 (min m (S p n + p n) - S p n) := rfl
    rw [e]
    show wt p m n + min (wl p m n) (p n) * ((n : Int) + 1) = _
    rw [ih, hw]
    by_cases c : m ≤ S p n
    · have e1 : min (max 0 (m - S p n)) (p n) = 0 := by omega
      have e2 : min m (S p n) = m := by omega
      have e3 : min m (S p n + p n) = m := by omega
      rw [e1, e2, e3]
      omega
    · have hd : 0 ≤ min (m - S p n) (p n) := by omega
      have e1 : min (max 0 (m - S p n)) (p n) = min (m - S p n) (p n) := by omega
      have e2 : min m (S p n) = S p n := by omega
      have e3 : min m (S p n + p n) = S p n + min (m - S p n) (p n) := by omega
      rw [e1, e2, e3, C_lin_S hp hd n]
      generalize min (m - S p n) (p n) = d at hd
      have e4 : d * ((n : Int) + 1) = d * n + d := by
        rw [Int.mul_add]
        omega
      rw [e4]
      omega
theorem wt_le {m : Int} (h0 : 0 ≤ m) {n : Nat} (h : m ≤ S p n) : wt p m n = C p m n := by
  rw [wt_eq hp h0 n]
  have e : min m (S p n) = m := by omega
  rw [e]

/-- what the greedy fill is, after i sizes -/
structure Gd (p : Nat → Int) (s : Int) (i : Nat) : Prop where
  l0 : 0 ≤ fl p s i
  t0 : 0 ≤ ft p s i
  tS : ft p s i ≤ S p i
  eC : C p (ft p s i) i = s - fl p s i
  mx : ft p s i < S p i → s < C p (ft p s i + 1) i
theorem gd {s : Int} (h0 : 0 ≤ s) : ∀ i, Gd p s i
  | 0 => ⟨h0, Int.le_refl 0, Int.le_refl 0, by
      show (0 : Int) = s - s
      omega, fun h => absurd h (Int.lt_irrefl 0)⟩
  | i + 1 => by
    obtain ⟨l0, t0, tS, eC, mx⟩ := gd h0 i
    have hpi := hp i
    have hq0 : 0 ≤ fl p s i / ((i : Int) + 1) := Int.ediv_nonneg l0 (by omega)
    have hq1 : fl p s i / ((i : Int) + 1) * ((i : Int) + 1) ≤ fl p s i := Int.ediv_mul_le _ (by omega)
    have hq2 : fl p s i < (fl p s i / ((i : Int) + 1) + 1) * ((i : Int) + 1) := by
      have := Int.lt_ediv_add_one_mul_self (fl p s i) (show (0 : Int) < (i : Int) + 1 by omega)
      exact this
    have eL : fl p s (i + 1) = fl p s i - min (p i) (fl p s i / ((i : Int) + 1)) * ((i : Int) + 1) := rfl
    have eT : ft p s (i + 1) = ft p s i + min (p i) (fl p s i / ((i : Int) + 1)) := rfl
    have eS : S p (i + 1) = S p i + p i := rfl
    have eCs : ∀ m, C p m (i + 1) = C p m i + max 0 (m - S p i) := fun _ => rfl
    generalize hL : fl p s i = L at *
    generalize hT : ft p s i = T at *
    generalize hq : L / ((i : Int) + 1) = q at *
    generalize ht : min (p i) q = t at *
    have ht0 : 0 ≤ t := by omega
    have htq : t ≤ q := by omega
    have htp : t ≤ p i := by omega
    have htl : t * ((i : Int) + 1) ≤ q * ((i : Int) + 1) := Int.mul_le_mul_of_nonneg_right htq (by omega)
    have en : t * ((i : Int) + 1) = t * i + t := by
      rw [Int.mul_add]
      omega
    rcases Int.lt_or_eq_of_le tS with c | c
    · -- the fill has stopped before
      have h1 := mx c
      have h2 := C_lip hp (m := T) (d := 1) (by omega) i
      rw [eC] at h2
      have hz : L < (i : Int) + 1 := by omega
      have hq3 : q = 0 := by
        rw [← hq]
        exact Int.ediv_eq_zero_of_lt l0 hz
      have ht3 : t = 0 := by omega
      subst ht3
      refine ⟨by rw [eL]; omega, by rw [eT]; omega, by rw [eT, eS]; omega, ?_, fun _ => ?_⟩
      · rw [eT, eL, eCs, Int.add_zero, eC]
        omega
      · rw [eT, eCs, Int.add_zero]
        omega
    · -- all are taken so far
      subst c
      have k1 := C_lin_S hp ht0 i
      refine ⟨by rw [eL]; omega, by rw [eT]; omega, by rw [eT, eS]; omega, ?_, fun c2 => ?_⟩
      · rw [eT, eL, eCs, k1, eC]
        omega
      · rw [eT, eS] at c2
        have ht4 : t = q := by omega
        have k2 := C_lin_S hp (show 0 ≤ t + 1 by omega) i
        rw [eT, eCs, show S p i + t + 1 = S p i + (t + 1) by omega, k2, eC]
        have e5 : (t + 1) * ((i : Int) + 1) = (t + 1) * i + (t + 1) := by
          rw [Int.mul_add]
          omega
        rw [ht4] at e5 ⊢
        omega
theorem ft_most {s : Int} (h0 : 0 ≤ s) {n : Nat} {t : Int} (h2 : t ≤ S p n) (h3 : C p t n ≤ s) : t ≤ ft p s n := by
  have g := gd hp h0 n
  by_cases c : t ≤ ft p s n
  · exact c
  · have h4 := g.mx (by omega)
    have h5 := C_mono hp (show ft p s n + 1 ≤ t by omega) n
    omega
/-- m words of the next size and the best of the rest are no more than the fill -/
theorem dp_le {s m : Int} (h0 : 0 ≤ s) {i : Nat} (hm : 0 ≤ m) (hmp : m ≤ p i) (hs : m * ((i : Int) + 1) ≤ s) :
    ft p (s - m * ((i : Int) + 1)) i + m ≤ ft p s (i + 1) := by
  have g := gd hp (show 0 ≤ s - m * ((i : Int) + 1) by omega) i
  have l0 := g.l0
  have tS := g.tS
  have eC := g.eC
  have lp := C_lip hp (m := ft p (s - m * ((i : Int) + 1)) i) hm i
  have en : m * ((i : Int) + 1) = m * i + m := by
    rw [Int.mul_add]
    omega
  refine ft_most hp h0 ?_ ?_
  · show _ ≤ S p i + p i
    omega
  · show C p (ft p (s - m * ((i : Int) + 1)) i + m) i + max 0 (ft p (s - m * ((i : Int) + 1)) i + m - S p i) ≤ s
    omega
/-- and one m is as good -/
theorem dp_ge {s : Int} (h0 : 0 ≤ s) (i : Nat) :
    ∃ m : Int, 0 ≤ m ∧ m ≤ p i ∧ m * ((i : Int) + 1) ≤ s ∧ ft p s (i + 1) ≤ ft p (s - m * ((i : Int) + 1)) i + m := by
  have g := gd hp h0 i
  have l0 := g.l0
  have t0 := g.t0
  have eC := g.eC
  have hpi := hp i
  have hq0 : 0 ≤ fl p s i / ((i : Int) + 1) := Int.ediv_nonneg l0 (by omega)
  have hq1 : fl p s i / ((i : Int) + 1) * ((i : Int) + 1) ≤ fl p s i := Int.ediv_mul_le _ (by omega)
  have htl : min (p i) (fl p s i / ((i : Int) + 1)) * ((i : Int) + 1) ≤ fl p s i / ((i : Int) + 1) * ((i : Int) + 1) :=
    Int.mul_le_mul_of_nonneg_right (by omega) (by omega)
  have hC0 : ∀ (m : Int) (n : Nat), 0 ≤ C p m n := by
    intro m n
    induction n with
    | zero => exact Int.le_refl 0
    | succ n ih =>
      show 0 ≤ C p m n + max 0 (m - S p n)
      omega
  have hc := hC0 (ft p s i) i
  have h5 : min (p i) (fl p s i / ((i : Int) + 1)) * ((i : Int) + 1) ≤ s := by omega
  refine ⟨min (p i) (fl p s i / ((i : Int) + 1)), by omega, by omega, h5, ?_⟩
  have key : ft p s i ≤ ft p (s - min (p i) (fl p s i / ((i : Int) + 1)) * ((i : Int) + 1)) i :=
    ft_most hp (by omega) g.tS (by rw [eC]; omega)
  show ft p s i + min (p i) (fl p s i / ((i : Int) + 1)) ≤ _
  omega
end
/-! ### the sums and letters of a list -/
theorem S_sum : ∀ (ps : List Int) (i : Nat), i ≤ ps.length → S (at0 ps) i = (ps.take i).sum
  | _, 0, _ => by simp [S]
  | ps, i + 1, h => by
    have ih := S_sum ps i (by omega)
    have e : ps.take (i + 1) = ps.take i ++ [ps[i]'(by omega)] := (List.take_append_getElem (by omega)).symm
    rw [e, List.sum_append]
    show S (at0 ps) i + at0 ps i = _
    rw [ih]
    have e2 : at0 ps i = ps[i]'(by omega) := by
      unfold at0
      rw [List.getD_eq_getElem?_getD, List.getElem?_eq_getElem (by omega)]
      rfl
    rw [e2]
    simp
theorem S_all (ps : List Int) : S (at0 ps) ps.length = ps.sum := by
  rw [S_sum ps ps.length (Nat.le_refl _), List.take_length]
theorem at0_nonneg {ps : List Int} (h : ∀ x ∈ ps, 0 ≤ x) (i : Nat) : 0 ≤ at0 ps i := by
  unfold at0
  rw [List.getD_eq_getElem?_getD]
  cases e : ps[i]? with
  | none => exact Int.le_refl 0
  | some x => exact h x (List.mem_of_getElem? e)
def weight (ps : List Int) (m : Int) : Int := wt (at0 ps) m ps.length
def fillF (s : Int) (ps : List Int) : Int := ft (at0 ps) s ps.length
/-- the fill is right: at most all, its letters fit, and one more would not -/
theorem fill_right {ps : List Int} (h : ∀ x ∈ ps, 0 ≤ x) {s : Int} (h0 : 0 ≤ s) :
    0 ≤ fillF s ps ∧ fillF s ps ≤ ps.sum ∧ weight ps (fillF s ps) ≤ s ∧ (fillF s ps = ps.sum ∨ s < weight ps (fillF s ps + 1)) := by
  have hp := at0_nonneg h
  have g := gd hp h0 ps.length
  have t0 := g.t0
  have tS := g.tS
  have l0 := g.l0
  have eC := g.eC
  have mx := g.mx
  have a := S_all ps
  have w1 := wt_le hp t0 tS
  unfold fillF weight
  rw [a] at tS mx
  refine ⟨t0, tS, ?_, ?_⟩
  · rw [w1, eC]
    omega
  · by_cases c : ft (at0 ps) s ps.length = ps.sum
    · exact .inl c
    · refine .inr ?_
      rw [wt_le hp (by omega) (by rw [a]; omega)]
      exact mx (by omega)
theorem fillF_nonneg {ps : List Int} (h : ∀ x ∈ ps, 0 ≤ x) {s : Int} (h0 : 0 ≤ s) : 0 ≤ fillF s ps := (fill_right h h0).1
theorem weight_nonneg {ps : List Int} (h : ∀ x ∈ ps, 0 ≤ x) {m : Int} (h0 : 0 ≤ m) : 0 ≤ weight ps m := by
  unfold weight
  rw [wt_eq (at0_nonneg h) h0]
  generalize min m (S (at0 ps) ps.length) = k
  generalize ps.length = n
  induction n with
  | zero => exact Int.le_refl 0
  | succ n ih =>
    show 0 ≤ C (at0 ps) k n + max 0 (k - S (at0 ps) n)
    omega
end Ver
namespace Ver
/-! ### the most pieces that a text may have -/
def cap (s k : Nat) : Nat := min (10 ^ 9) (s ^ (k + 1))
def prts (s : Nat) : List Int := (List.range 30).map fun k => (cap s k : Int)
theorem prts_at {s i : Nat} (h : i < 30) : at0 (prts s) i = (cap s i : Int) := by
  unfold at0 prts
  rw [List.getD_eq_getElem?_getD, List.getElem?_map, List.getElem?_range h]
  rfl
theorem prts_nn {s : Nat} : ∀ x ∈ prts s, 0 ≤ x := fun x hx => by
  obtain ⟨k, _, rfl⟩ := List.mem_map.mp hx
  omega
theorem prts_len {s : Nat} : (prts s).length = 30 := by
  unfold prts
  rw [List.length_map, List.length_range]
/-- the words up to i letters, as the parts tell them: all, or more than enough -/
theorem cap_S {s : Nat} : ∀ i, i ≤ 30 → (S (at0 (prts s)) i = (sw s i : Int)) ∨ ((10 ^ 9 : Int) ≤ S (at0 (prts s)) i ∧ 10 ^ 9 ≤ sw s i)
  | 0, _ => .inl rfl
  | i + 1, h => by
    have ih := cap_S (s := s) i (by omega)
    have e : S (at0 (prts s)) (i + 1) = S (at0 (prts s)) i + (cap s i : Int) := by
      show _ + at0 (prts s) i = _
      rw [prts_at (by omega)]
    have e2 : sw s (i + 1) = sw s i + s ^ (i + 1) := rfl
    rw [e, e2]
    have hc : cap s i = min (10 ^ 9) (s ^ (i + 1)) := rfl
    rcases ih with ih | ⟨ih1, ih2⟩
    · by_cases c : s ^ (i + 1) ≤ 10 ^ 9
      · left
        rw [ih, hc, Nat.min_eq_right c, Int.natCast_add]
      · right
        rw [hc, Nat.min_eq_left (by omega)]
        omega
    · right
      omega
theorem cap_left {s m i : Nat} (hm : m ≤ 10 ^ 9) (h : i ≤ 30) : max 0 ((m : Int) - S (at0 (prts s)) i) = ((m - sw s i : Nat) : Int) := by
  rcases cap_S (s := s) i h with e | ⟨e1, e2⟩
  · rw [e]
    omega
  · omega
theorem wt_is {s m : Nat} (hm : m ≤ 10 ^ 9) : ∀ n, n ≤ 30 → wt (at0 (prts s)) (m : Int) n = (lw s m n : Int)
  | 0, _ => rfl
  | n + 1, h => by
    have ih := wt_is (s := s) hm n (by omega)
    have hp := at0_nonneg (prts_nn (s := s))
    have hw := wl_eq hp (m := (m : Int)) (by omega) n
    show wt (at0 (prts s)) (m : Int) n + min (wl (at0 (prts s)) (m : Int) n) (at0 (prts s) n) * ((n : Int) + 1) = ((lw s m n + min (m - sw s n) (s ^ (n + 1)) * (n + 1) : Nat) : Int)
    rw [ih, hw, cap_left hm (by omega), prts_at (by omega)]
    have hc : cap s n = min (10 ^ 9) (s ^ (n + 1)) := rfl
    have e : min ((m - sw s n : Nat) : Int) (cap s n : Int) = ((min (m - sw s n) (s ^ (n + 1)) : Nat) : Int) := by
      rw [hc]
      omega
    rw [e, Int.natCast_add, Int.natCast_mul, Int.natCast_add]
    rfl
theorem C_above {al : List Nat} {xs : List (List Nat)} (nd : xs.Nodup) (h : ∀ x ∈ xs, 1 ≤ x.length ∧ ∀ c ∈ x, c ∈ al) (hm : xs.length ≤ 10 ^ 9) : ∀ n, n ≤ 30 → C (at0 (prts al.length)) (xs.length : Int) n ≤ (sumA xs n : Int)
  | 0, _ => Int.le_refl 0
  | n + 1, hn => by
    have ih := C_above nd h hm n (by omega)
    have ha := above_ge nd h n
    have hc := cap_left (s := al.length) hm (show n ≤ 30 by omega)
    show C (at0 (prts al.length)) (xs.length : Int) n + max 0 ((xs.length : Int) - S (at0 (prts al.length)) n) ≤ ((sumA xs n + above xs n : Nat) : Int)
    rw [hc]
    omega
theorem C_first {p : Nat → Int} {m : Int} (h0 : 0 ≤ m) : ∀ n, 1 ≤ n → m ≤ C p m n
  | 0, h => absurd h (by decide)
  | 1, _ => by
    show m ≤ 0 + max 0 (m - 0)
    omega
  | n + 2, _ => by
    have ih := C_first (p := p) h0 (n + 1) (by omega)
    show m ≤ C p m (n + 1) + max 0 (m - S p (n + 1))
    omega
theorem one_C : (400 : Int) < C (at0 (prts 1)) 30 30 := by decide +kernel
theorem one_S : S (at0 (prts 1)) 30 = 30 := by decide +kernel
theorem two_S {s : Nat} (h : 2 ≤ s) : (10 ^ 9 : Int) ≤ S (at0 (prts s)) 30 := by
  rcases cap_S (s := s) 30 (Nat.le_refl _) with e | e
  · rw [e]
    have h2 : sw s 30 = sw s 29 + s ^ 30 := rfl
    have h3 : 2 ^ 30 ≤ s ^ 30 := Nat.pow_le_pow_left h 30
    have h4 : (2 : Nat) ^ 30 = 1073741824 := by decide
    omega
  · exact e.1
/-- the most -/
theorem most_ex {s : Nat} (h1 : 1 ≤ s) {n : Nat} (hn : n ≤ 400) : ∃ M : Nat, fillF (n : Int) (prts s) = (M : Int) ∧ M ≤ n ∧ lw s M 30 ≤ n ∧ n < lw s (M + 1) 30 ∧ (M : Int) < S (at0 (prts s)) 30 := by
  have hp := at0_nonneg (prts_nn (s := s))
  obtain ⟨f0, f1, f2, f3⟩ := fill_right (prts_nn (s := s)) (s := (n : Int)) (by omega)
  have hS : S (at0 (prts s)) 30 = (prts s).sum := by
    have := S_all (prts s)
    rw [prts_len] at this
    exact this
  generalize hM : fillF (n : Int) (prts s) = F at *
  obtain ⟨M, rfl⟩ := Int.eq_ofNat_of_zero_le f0
  have hwt : weight (prts s) (M : Int) = C (at0 (prts s)) (M : Int) 30 := by
    unfold weight
    rw [prts_len]
    exact wt_le hp (by omega) (by rw [hS]; exact f1)
  have hMn : M ≤ n := by
    have := C_first (p := at0 (prts s)) (m := (M : Int)) (by omega) 30 (by decide)
    omega
  have hlt : (M : Int) < S (at0 (prts s)) 30 := by
    by_cases c : s = 1
    · subst c
      rw [one_S]
      refine Classical.byContradiction fun hn2 => ?_
      have hM30 : (M : Int) = 30 := by
        rw [← hS, one_S] at f1
        omega
      have := one_C
      rw [hwt, hM30] at f2
      omega
    · have := two_S (s := s) (by omega)
      omega
  refine ⟨M, rfl, hMn, ?_, ?_, hlt⟩
  · have e := wt_is (s := s) (m := M) (by omega) 30 (Nat.le_refl _)
    unfold weight at f2
    rw [prts_len, e] at f2
    omega
  · have e := wt_is (s := s) (m := M + 1) (by omega) 30 (Nat.le_refl _)
    rcases f3 with f3 | f3
    · omega
    · unfold weight at f3
      rw [prts_len, show (M : Int) + 1 = ((M + 1 : Nat) : Int) by omega, e] at f3
      omega
/-- no text of n letters has more pieces -/
theorem most_pieces {al : List Nat} (h1 : 1 ≤ al.length) {xs : List (List Nat)} (nd : xs.Nodup) (h : ∀ x ∈ xs, 1 ≤ x.length ∧ ∀ c ∈ x, c ∈ al) {n M : Nat} (hn : n ≤ 400) (hx : xs.flatten.length ≤ n) (hM : fillF (n : Int) (prts al.length) = (M : Int)) : xs.length ≤ M := by
  have hp := at0_nonneg (prts_nn (s := al.length))
  have hxl : xs.length ≤ xs.flatten.length := by
    have : ∀ l : List (List Nat), (∀ x ∈ l, 1 ≤ x.length) → l.length ≤ l.flatten.length := by
      intro l
      induction l with
      | nil => intro _; exact Nat.le_refl 0
      | cons a r ih =>
        intro hh
        have h1 := hh a (List.mem_cons_self ..)
        have h2 := ih fun x hx => hh x (List.mem_cons_of_mem _ hx)
        rw [List.flatten_cons, List.length_append, List.length_cons]
        omega
    exact this xs fun x hx => (h x hx).1
  have hC := C_above nd h (by omega) 30 (Nat.le_refl _)
  have hs := sumA_le xs 30
  have hle : (xs.length : Int) ≤ S (at0 (prts al.length)) 30 := by
    by_cases c : al.length = 1
    · rw [c] at hC hp ⊢
      rw [one_S]
      refine Classical.byContradiction fun hn2 => ?_
      have := C_mono (p := at0 (prts 1)) hp (show (30 : Int) ≤ (xs.length : Int) by omega) 30
      have := one_C
      omega
    · have := two_S (s := al.length) (by omega)
      omega
  have := ft_most hp (s := (n : Int)) (by omega) hle (by omega)
  have e : fillF (n : Int) (prts al.length) = ft (at0 (prts al.length)) (n : Int) 30 := by
    unfold fillF
    rw [prts_len]
  rw [← e, hM] at this
  omega
end Ver
namespace Ver
theorem word_pieces {al : List Nat} (h1 : 1 ≤ al.length) {v : List Nat} (hv : ∀ c ∈ v, c ∈ al) (hn : v.length ≤ 400) {M : Nat} (hM : fillF (v.length : Int) (prts al.length) = (M : Int)) : (cutW v).1.length ≤ M := by
  have ko := cut_ok v hv
  obtain ⟨nd, rows, ex⟩ := pcs_facts _ ko.ok
  have hl := pcs_len (cutW v).1
  have h0 := pcs_zero (cutW v).1
  have word := ko.word
  generalize (cutW v).1 = rs at *
  cases hp : pcs rs with
  | nil =>
    rw [hp] at hl
    cases hl
  | cons a xs =>
    rw [hp] at nd hl h0 word
    have ha : a = [] := h0
    subst ha
    have hxl : xs.length = rs.length := by
      rw [List.length_cons] at hl
      omega
    rw [← hxl]
    have nd2 := List.nodup_cons.mp nd
    have hfl : ([] :: xs).flatten = xs.flatten := by simp
    rw [hfl] at word
    refine most_pieces h1 nd2.2 (fun x hx => ⟨List.length_pos_iff.mpr fun e => nd2.1 (e ▸ hx), fun c hc => hv c ?_⟩) hn ?_ hM
    · rw [word]
      exact List.mem_append_left _ (List.mem_flatten.mpr ⟨x, hx, hc⟩)
    · have := congrArg List.length word
      rw [List.length_append] at this
      omega
theorem wo_pre {al : List Nat} : ∀ {i j : Nat}, i ≤ j → wo al i <+: wo al j := by
  intro i j h
  induction h with
  | refl => exact List.prefix_refl _
  | @step k _ ih => exact ih.trans (List.prefix_append _ _)
theorem flat_pre {a b : List (List Nat)} (h : a <+: b) : a.flatten <+: b.flatten := by
  obtain ⟨t, rfl⟩ := h
  rw [List.flatten_append]
  exact List.prefix_append _ _
theorem take_pre {a b : List Nat} (h : a <+: b) {n : Nat} (hn : n ≤ a.length) : a.take n = b.take n := by
  obtain ⟨t, rfl⟩ := h
  rw [List.take_append_of_le_length hn]
/-- the words in order have as many pieces as any text may have -/
theorem order_pieces {al : List Nat} (A : Alf al) {n T M : Nat} (hn : n ≤ 400) (hT : n ≤ (wo al T).flatten.length) (hM : fillF (n : Int) (prts al.length) = (M : Int)) : (cutW ((wo al T).flatten.take n)).1.length = M := by
  obtain ⟨M', e, _, a1, a2, _⟩ := most_ex A.pos hn
  have em : M' = M := by
    rw [hM] at e
    omega
  subst em
  have l1 := wo_letters (al := al) M' 30
  have l2 := wo_letters (al := al) (M' + 1) 30
  have hlen : M' < (wo al 30).length := by
    refine Classical.byContradiction fun hn2 => ?_
    rw [List.take_of_length_le (by omega)] at l1 l2
    omega
  have h30 : n ≤ (wo al 30).flatten.length := by
    have h := flat_pre (List.take_prefix (M' + 1) (wo al 30))
    have := h.length_le
    omega
  have et : (wo al T).flatten.take n = (wo al 30).flatten.take n := by
    by_cases c : T ≤ 30
    · exact take_pre (flat_pre (wo_pre c)) hT
    · exact (take_pre (flat_pre (wo_pre (by omega))) h30).symm
  rw [et]
  exact cut_begin (al := al) (wo_closed A.nd 30) (fun x hx => (wo_word 30 x hx).2.2) hlen (by omega) (by omega)
/-! ### letters exchanged -/
def ren (f : Nat → Nat) (r : Nat × Nat) : Nat × Nat := (r.1, f r.2)
theorem idx_ren {f : Nat → Nat} {cur c : Nat} : ∀ rs : Rw, (∀ r ∈ rs, ren f r = (cur, f c) → r = (cur, c)) → (cur, c) ∈ rs → (rs.map (ren f)).idxOf (cur, f c) = rs.idxOf (cur, c)
  | [], _, hm => nomatch hm
  | a :: r, inj, hm => by
    by_cases ca : a = (cur, c)
    · subst ca
      rw [List.map_cons]
      simp [ren, List.idxOf_cons]
    · have hne : ren f a ≠ (cur, f c) := fun e => ca (inj a (List.mem_cons_self ..) e)
      have hmr : (cur, c) ∈ r := (List.mem_cons.mp hm).resolve_left fun e => ca e.symm
      rw [List.map_cons, List.idxOf_cons, List.idxOf_cons, idx_ren r (fun x hx => inj x (List.mem_cons_of_mem _ hx)) hmr]
      have b1 : (ren f a == (cur, f c)) = false := by simpa using hne
      have b2 : (a == (cur, c)) = false := by simpa using ca
      rw [b1, b2]
theorem cut_ren {al : List Nat} {f : Nat → Nat} (hf : ∀ a ∈ al, ∀ b ∈ al, f a = f b → a = b) (v : List Nat) (hv : ∀ c ∈ v, c ∈ al) : cutW (v.map f) = ((cutW v).1.map (ren f), (cutW v).2) := by
  induction v using snoc_ind with
  | h0 => rfl
  | hs v c ih =>
    have ih := ih fun d hd => hv d (List.mem_append_left _ hd)
    have hc := hv c (List.mem_append_right _ (List.mem_singleton.mpr rfl))
    have ko := cut_ok (al := al) v fun d hd => hv d (List.mem_append_left _ hd)
    rw [List.map_append]
    show cutW (v.map f ++ [f c]) = _
    rw [cut_snoc, cut_snoc, ih]
    generalize cutW v = st at *
    obtain ⟨rs, cur⟩ := st
    have hr : ∀ r ∈ rs, r.2 ∈ al := fun r hr => (mem_row ko.ok hr).2
    have inj : ∀ r ∈ rs, ren f r = (cur, f c) → r = (cur, c) := fun r hrm e => by
      have e1 := congrArg Prod.fst e
      have e2 := hf _ (hr r hrm) _ hc (congrArg Prod.snd e)
      exact Prod.ext e1 e2
    show cutStep (rs.map (ren f), cur) (f c) = ((cutStep (rs, cur) c).1.map (ren f), (cutStep (rs, cur) c).2)
    by_cases hm : (cur, c) ∈ rs
    · have e1 : cutStep (rs, cur) c = (rs, rs.idxOf (cur, c) + 1) := if_pos hm
      have hm2 : (cur, f c) ∈ rs.map (ren f) := List.mem_map.mpr ⟨_, hm, rfl⟩
      have e2 : cutStep (rs.map (ren f), cur) (f c) = (rs.map (ren f), (rs.map (ren f)).idxOf (cur, f c) + 1) := if_pos hm2
      rw [e1, e2]
      have ei : (rs.map (ren f)).idxOf (cur, f c) = rs.idxOf (cur, c) := idx_ren rs inj hm
      rw [ei]
    · have e1 : cutStep (rs, cur) c = (rs ++ [(cur, c)], 0) := if_neg hm
      have hm2 : (cur, f c) ∉ rs.map (ren f) := fun h => by
        obtain ⟨r, hrm, e⟩ := List.mem_map.mp h
        exact hm (inj r hrm e ▸ hrm)
      have e2 : cutStep (rs.map (ren f), cur) (f c) = (rs.map (ren f) ++ [(cur, f c)], 0) := if_neg hm2
      rw [e1, e2, List.map_append]
      rfl
/-- the letters from the other end -/
def flip (al : List Nat) (c : Nat) : Nat := al.getD (al.length - 1 - al.idxOf c) 0
theorem flip_mem {al : List Nat} {c : Nat} (hc : c ∈ al) : flip al c ∈ al ∧ al[al.length - 1 - al.idxOf c]? = some (flip al c) := by
  have h := List.idxOf_lt_length_of_mem hc
  have e : al[al.length - 1 - al.idxOf c]? = some (flip al c) := by
    unfold flip
    rw [List.getD_eq_getElem?_getD, List.getElem?_eq_getElem (by omega)]
    rfl
  exact ⟨List.mem_of_getElem? e, e⟩
theorem flip_inj {al : List Nat} (nd : al.Nodup) : ∀ a ∈ al, ∀ b ∈ al, flip al a = flip al b → a = b := fun a ha b hb e => by
  have h1 := List.idxOf_lt_length_of_mem ha
  have h2 := List.idxOf_lt_length_of_mem hb
  have e1 := (flip_mem ha).2
  have e2 := (flip_mem hb).2
  rw [e] at e1
  obtain ⟨i1, j1⟩ := List.getElem?_eq_some_iff.mp e1
  obtain ⟨i2, j2⟩ := List.getElem?_eq_some_iff.mp e2
  have := (List.getElem_inj nd).mp (j1.trans j2.symm)
  have e3 : al.idxOf a = al.idxOf b := by omega
  rw [← List.getElem_idxOf h1, ← List.getElem_idxOf h2]
  simp only [e3]
theorem flip_pieces {al : List Nat} (nd : al.Nodup) {v : List Nat} (hv : ∀ c ∈ v, c ∈ al) : (cutW (v.map (flip al))).1.length = (cutW v).1.length := by
  rw [cut_ren (flip_inj nd) v hv, List.length_map]
/-! ### the length grows with the pieces -/
theorem plen_mono {s : Nat} (h : 1 ≤ s) {m k : Nat} (hmk : m ≤ k) : plen s m ≤ plen s k := by
  have hl : (List.replicate s 0).length = s := List.length_replicate
  have e := fun j => bln_is (List.replicate s 0) j
  rw [hl] at e
  rw [← e m, ← e k]
  by_cases c : m = k
  · rw [c]
    exact Nat.le_refl _
  · exact Nat.le_of_lt (bln_lt (by rw [hl]; exact h) (by omega))
end Ver
namespace Ver
/-! ### lengths and pieces on an endless text of a variety: from where on the presser is ahead -/
/-- the least length with c pieces -/
def bg (v : Nat) : Nat → Nat
  | 0 => 0
  | c + 1 => bg v c + (c / v + 1)
theorem bg_lt (v c : Nat) : bg v c < bg v (c + 1) := by
  exact Nat.lt_add_of_pos_right (Nat.succ_pos _)
theorem bg_mono {v a b : Nat} (h : a ≤ b) : bg v a ≤ bg v b := by
  induction h with
  | refl => exact Nat.le_refl _
  | step h ih => exact Nat.le_trans ih (Nat.le_of_lt (bg_lt v _))
theorem bg_ge (v : Nat) : ∀ c, c ≤ bg v c
  | 0 => Nat.le_refl 0
  | c + 1 => by
    have := bg_ge v c
    have := bg_lt v c
    omega
theorem bg_sq {v : Nat} (hv : 1 ≤ v) : ∀ c, c * (c + 1) ≤ 2 * v * bg v c
  | 0 => by simp
  | c + 1 => by
    have ih := bg_sq hv c
    have h1 : c + 1 ≤ v * (c / v + 1) := by
      have := Nat.div_add_mod c v
      have := Nat.mod_lt c (show 0 < v by omega)
      rw [Nat.mul_add]
      omega
    show (c + 1) * (c + 1 + 1) ≤ 2 * v * (bg v c + (c / v + 1))
    generalize c / v + 1 = d at h1 ⊢
    have e : (c + 1) * (c + 1 + 1) = c * (c + 1) + 2 * (c + 1) := by
      rw [Nat.mul_comm c (c + 1), Nat.mul_comm 2 (c + 1), ← Nat.mul_add]
    have e2 : 2 * v * (bg v c + d) = 2 * v * bg v c + 2 * (v * d) := by rw [Nat.mul_add, Nat.mul_assoc 2 v d]
    omega
theorem bg_layer {v : Nat} (hv : 1 ≤ v) (q : Nat) : ∀ r, r ≤ v → bg v (v * q + r) = bg v (v * q) + r * (q + 1)
  | 0, _ => by simp
  | r + 1, h => by
    have ih := bg_layer hv q r (by omega)
    have e : (v * q + r) / v = q := by
      rw [Nat.mul_add_div (by omega), Nat.div_eq_of_lt (by omega)]
      omega
    show bg v (v * q + r) + ((v * q + r) / v + 1) = _
    rw [ih, e, Nat.add_mul, Nat.one_mul]
    omega
theorem bg_full {v : Nat} (hv : 1 ≤ v) : ∀ q, 2 * bg v (v * q) = v * q * (q + 1)
  | 0 => by simp [bg]
  | q + 1 => by
    have ih := bg_full hv q
    have h := bg_layer hv q v (Nat.le_refl v)
    have e : v * (q + 1) = v * q + v := by rw [Nat.mul_add, Nat.mul_one]
    rw [e, h, Nat.mul_add, ih]
    have e2 : (v * q + v) * (q + 1 + 1) = v * q * (q + 1) + 2 * (v * (q + 1)) := by
      rw [← e, Nat.mul_assoc, Nat.mul_assoc, Nat.mul_left_comm 2 v, ← Nat.mul_add]
      congr 1
      rw [Nat.mul_comm q (q + 1), Nat.mul_comm 2 (q + 1), ← Nat.mul_add]
    omega
theorem bg_half {v : Nat} (hv : 1 ≤ v) (q : Nat) : v * q * (q + 1) / 2 = bg v (v * q) := by
  have := bg_full hv q
  omega
/-- m pieces at the length L -/
def OvM (v L m : Nat) : Prop := bg v m ≤ L ∧ L < bg v (m + 1)
theorem OvM.le {v L m k : Nat} (h : OvM v L m) (hk : bg v k ≤ L) : k ≤ m := by
  refine Classical.byContradiction fun hn => ?_
  have := bg_mono (v := v) (show m + 1 ≤ k by omega)
  have := h.2
  omega
theorem OvM.lt {v L m k : Nat} (h : OvM v L m) (hk : L < bg v k) : m < k := by
  refine Classical.byContradiction fun hn => ?_
  have := bg_mono (v := v) (show k ≤ m by omega)
  have := h.1
  omega
theorem OvM.uniq {v L m k : Nat} (h : OvM v L m) (hk : OvM v L k) : m = k := by
  have := h.le hk.1
  have := hk.le h.1
  omega
theorem atm_of {v L q : Nat} (hv : 1 ≤ v) (h1 : bg v (v * q) ≤ L) (h2 : L < bg v (v * (q + 1))) : OvM v L (v * q + (L - bg v (v * q)) / (q + 1)) := by
  have e : bg v (v * (q + 1)) = bg v (v * q) + v * (q + 1) := by
    have := bg_layer hv q v (Nat.le_refl v)
    rw [Nat.mul_add, Nat.mul_one]
    exact this
  rw [e] at h2
  have hr : (L - bg v (v * q)) / (q + 1) < v := (Nat.div_lt_iff_lt_mul (by omega)).mpr (by omega)
  have hd := Nat.div_add_mod (L - bg v (v * q)) (q + 1)
  have hm := Nat.mod_lt (L - bg v (v * q)) (show 0 < q + 1 by omega)
  generalize (L - bg v (v * q)) / (q + 1) = r at hr hd ⊢
  have b1 := bg_layer hv q r (by omega)
  have b2 := bg_layer hv q (r + 1) (by omega)
  rw [Nat.mul_comm (q + 1) r] at hd
  rw [Nat.add_mul, Nat.one_mul] at b2
  constructor
  · rw [b1]
    omega
  · have e3 : v * q + r + 1 = v * q + (r + 1) := by omega
    rw [e3, b2]
    omega
theorem atm_ex {v : Nat} (hv : 1 ≤ v) (L : Nat) : ∃ m, OvM v L m := by
  induction L with
  | zero => exact ⟨0, Nat.le_refl 0, bg_lt v 0⟩
  | succ L ih =>
    obtain ⟨m, h1, h2⟩ := ih
    by_cases c : L + 1 < bg v (m + 1)
    · exact ⟨m, by omega, c⟩
    · refine ⟨m + 1, by omega, ?_⟩
      have := bg_lt v (m + 1)
      omega
/-- what a machine with t standings needs -/
def ndd (s t c : Nat) : Nat := t * (plen s c + 1)
theorem ndd_mono {s t a b : Nat} (hs : 1 ≤ s) (h : a ≤ b) : ndd s t a ≤ ndd s t b := Nat.mul_le_mul_left _ (by have := plen_mono hs h; omega)
/-- overtaken at the length L -/
def Ov (s v t L : Nat) : Prop := ∀ m, OvM v L m → ndd s t m ≤ L
theorem ov_iff {s v t L m : Nat} (ht : 1 ≤ t) (h : OvM v L m) : Ov s v t L ↔ plen s m < L / t := by
  have key : ndd s t m ≤ L ↔ plen s m < L / t := by
    unfold ndd
    rw [Nat.mul_comm t, ← Nat.le_div_iff_mul_le (by omega)]
    exact Iff.rfl
  constructor
  · intro o
    exact key.mp (o m h)
  · intro p k hk
    rw [hk.uniq h]
    exact key.mpr p
/-- stays ahead from the count c on -/
def Stay (s v t c : Nat) : Prop := t * (wid (opts s (c + 1)) + 2) ≤ c / v + 1
theorem opts_pos (s k : Nat) : 1 ≤ opts s k := by
  unfold opts
  omega
theorem wid_dbl {a b : Nat} (ha : 1 ≤ a) (h : b ≤ 2 * a) (hb : 1 ≤ b) : wid b ≤ wid a + 1 := by
  refine Classical.byContradiction fun hn => ?_
  have h1 := (wid_gt (b := wid a + 1) (m := b) hb).mp (by omega)
  have h2 := wid_pow ha
  rw [Nat.pow_succ] at h1
  omega
theorem opts_dbl {s c d : Nat} (hs : 1 ≤ s) (h : d ≤ 2 * c + 2) : opts s (d + 1) ≤ 2 * opts s (c + 1) := by
  rw [opts_is hs, opts_is hs]
  have : (d + 1 + 1) * (s - 1) ≤ (2 * (c + 1 + 1)) * (s - 1) := Nat.mul_le_mul_right _ (by omega)
  rw [Nat.mul_assoc] at this
  omega
theorem stay_dbl {s v t c : Nat} (hs : 1 ≤ s) (hv : 1 ≤ v) (ht : 1 ≤ t) (h : Stay s v t c) : Stay s v t (2 * c + 2) := by
  unfold Stay at *
  have hw := wid_dbl (opts_pos s (c + 1)) (opts_dbl hs (Nat.le_refl (2 * c + 2))) (opts_pos s _)
  have h1 : t * (wid (opts s (2 * c + 2 + 1)) + 2) ≤ t * (wid (opts s (c + 1)) + 3) := Nat.mul_le_mul_left _ (by omega)
  have h2 : 2 * (c / v) ≤ (2 * c + 2) / v := by
    rw [Nat.le_div_iff_mul_le (by omega)]
    have := Nat.div_mul_le_self c v
    rw [Nat.mul_assoc]
    omega
  have h3 : t * (wid (opts s (c + 1)) + 3) + t * (wid (opts s (c + 1)) + 1) = 2 * (t * (wid (opts s (c + 1)) + 2)) := by
    rw [← Nat.mul_add, Nat.mul_left_comm 2 t]
    congr 1
    omega
  have h4 : 1 ≤ t * (wid (opts s (c + 1)) + 1) := Nat.mul_le_mul ht (show 1 ≤ wid (opts s (c + 1)) + 1 by omega)
  omega
theorem stay_on {s v t : Nat} (hs : 1 ≤ s) (hv : 1 ≤ v) (ht : 1 ≤ t) : ∀ (n c d : Nat), d - c ≤ n → c ≤ d → Stay s v t c → t * (wid (opts s (d + 1)) + 1) ≤ d / v + 1
  | n, c, d, hn, hcd, h => by
    by_cases q : d ≤ 2 * c + 2
    · have hw := wid_dbl (opts_pos s (c + 1)) (opts_dbl hs q) (opts_pos s _)
      have h1 : t * (wid (opts s (d + 1)) + 1) ≤ t * (wid (opts s (c + 1)) + 2) := Nat.mul_le_mul_left _ (by omega)
      have h2 : c / v ≤ d / v := Nat.div_le_div_right hcd
      unfold Stay at h
      omega
    · match n, hn with
      | 0, hn => omega
      | n + 1, hn => exact stay_on hs hv ht n (2 * c + 2) d (by omega) (by omega) (stay_dbl hs hv ht h)
theorem plen_step {s : Nat} (c : Nat) : plen s (c + 1) ≤ plen s c + wid (opts s (c + 1)) + 1 := by
  have h := wid_dbl (a := c + 1) (b := c + 2) (by omega) (by omega) (by omega)
  unfold plen
  show rcs s (c + 1) + wid (opts s (c + 1)) + wid (c + 1 + 1) ≤ _
  have e : c + 1 + 1 = c + 2 := by omega
  rw [e]
  omega
theorem ahead_on {s v t c : Nat} (hs : 1 ≤ s) (hv : 1 ≤ v) (ht : 1 ≤ t) (h : Stay s v t c) (hb : ndd s t c ≤ bg v c) : ∀ k, ndd s t (c + k) ≤ bg v (c + k)
  | 0 => hb
  | k + 1 => by
    have ih := ahead_on hs hv ht h hb k
    have h1 := stay_on hs hv ht k c (c + k) (by omega) (by omega) h
    have h2 : ndd s t (c + k + 1) ≤ ndd s t (c + k) + t * (wid (opts s (c + k + 1)) + 1) := by
      unfold ndd
      rw [← Nat.mul_add]
      exact Nat.mul_le_mul_left _ (by have := plen_step (s := s) (c + k); omega)
    show ndd s t (c + k + 1) ≤ bg v (c + k) + ((c + k) / v + 1)
    omega
/-- what the loop keeps -/
structure Kept (s v t c A : Nat) : Prop where
  ov : ∀ L, A ≤ L → L < bg v c → Ov s v t L
  not : c = 0 ∨ (1 ≤ A ∧ ¬ Ov s v t (A - 1))
theorem Kept.zero {s v t : Nat} : Kept s v t 0 0 := ⟨fun L _ h => absurd h (Nat.not_lt_zero _), .inl rfl⟩
theorem Kept.behind {s v t c : Nat} (hs : 1 ≤ s) (hv : 1 ≤ v) (ht : 1 ≤ t) (h : bg v c < ndd s t c) : Kept s v t (c + 1) (ndd s t c) := by
  have h1 : 1 ≤ ndd s t c := by omega
  refine ⟨fun L hL hL2 m hm => ?_, .inr ⟨h1, fun o => ?_⟩⟩
  · have e : m = c := hm.uniq ⟨by omega, hL2⟩
    rw [e]
    exact hL
  · obtain ⟨m, hm⟩ := atm_ex hv (ndd s t c - 1)
    have h2 := o m hm
    have h3 := hm.le (k := c) (by omega)
    have h4 := ndd_mono (t := t) hs h3
    omega
theorem Kept.ahead {s v t c A : Nat} (hA : Kept s v t c A) (hc : c ≠ 0) (h : ndd s t c ≤ bg v c) : Kept s v t (c + 1) A := by
  refine ⟨fun L hL hL2 => ?_, .inr (hA.not.elim (fun e => absurd e hc) id)⟩
  by_cases q : L < bg v c
  · exact hA.ov L hL q
  · intro m hm
    have e : m = c := hm.uniq ⟨by omega, hL2⟩
    rw [e]
    omega
theorem Kept.done {s v t c A : Nat} (hs : 1 ≤ s) (hv : 1 ≤ v) (ht : 1 ≤ t) (hA : Kept s v t c A) (h : ndd s t c ≤ bg v c) (st : Stay s v t c) : ∀ L, A ≤ L → Ov s v t L := by
  intro L hL
  by_cases q : L < bg v c
  · exact hA.ov L hL q
  · intro m hm
    have h1 := hm.le (k := c) (by omega)
    have h2 := ahead_on hs hv ht st h (m - c)
    have e : c + (m - c) = m := by omega
    rw [e] at h2
    have := hm.1
    omega
theorem zero_behind {s v t : Nat} (ht : 1 ≤ t) : bg v 0 < ndd s t 0 := by
  unfold ndd
  have : 1 * 1 ≤ t * (plen s 0 + 1) := Nat.mul_le_mul ht (by omega)
  show 0 < _
  omega
/-! ### the loop ends -/
theorem rcs_le {s W : Nat} : ∀ L, (∀ k, k < L → wid (opts s k) ≤ W) → rcs s L ≤ L * W
  | 0, _ => Nat.zero_le _
  | L + 1, h => by
    have ih := rcs_le (s := s) (W := W) L fun k hk => h k (by omega)
    have := h L (by omega)
    show rcs s L + wid (opts s L) ≤ (L + 1) * W
    rw [Nat.add_mul, Nat.one_mul]
    omega
theorem wid_le' {n b : Nat} (h1 : 1 ≤ n) (h : n ≤ 2 ^ b) : wid n ≤ b := by
  refine Classical.byContradiction fun hn => ?_
  have := (wid_gt (b := b) (m := n) h1).mp (by omega)
  omega
theorem opts_le {s k : Nat} (h1 : 1 ≤ s) (h6 : s ≤ 6) (hk : k ≤ 100001) : wid (opts s k) ≤ 19 := by
  refine wid_le' (opts_pos s k) ?_
  rw [opts_is h1]
  have : (k + 1) * (s - 1) ≤ 100002 * 5 := Nat.mul_le_mul (by omega) (by omega)
  omega
theorem plen_cap {s c : Nat} (h1 : 1 ≤ s) (h6 : s ≤ 6) (hc : c ≤ 100000) : plen s c ≤ (c + 1) * 19 + 17 := by
  have a := rcs_le (s := s) (W := 19) (c + 1) fun k hk => opts_le h1 h6 (by omega)
  have b := wid_le' (n := c + 1) (b := 17) (by omega) (by omega)
  unfold plen
  omega
theorem ends_at {s v t : Nat} (h1 : 1 ≤ s) (h6 : s ≤ 6) (hv : 1 ≤ v) (hv2 : v ≤ 20) (ht : t ≤ 12) : ndd s t 100000 ≤ bg v 100000 ∧ Stay s v t 100000 := by
  constructor
  · have a := plen_cap h1 h6 (c := 100000) (by omega)
    have b : ndd s t 100000 ≤ 12 * 1900037 := Nat.mul_le_mul ht (by omega)
    have c := bg_sq hv 100000
    have d : 2 * v * bg v 100000 ≤ 40 * bg v 100000 := Nat.mul_le_mul_right _ (by omega)
    omega
  · unfold Stay
    have a := opts_le h1 h6 (k := 100000 + 1) (by omega)
    have b : t * (wid (opts s (100000 + 1)) + 2) ≤ 12 * 21 := Nat.mul_le_mul ht (by omega)
    have c : 100000 / 20 ≤ 100000 / v := Nat.div_le_div_left hv2 hv
    omega
/-- the least length from which on all are overtaken -/
structure Lst (s v t A : Nat) : Prop where
  pos : 1 ≤ A
  all : ∀ L, A ≤ L → Ov s v t L
  not : ¬ Ov s v t (A - 1)
theorem Lst.uniq {s v t A B : Nat} (a : Lst s v t A) (b : Lst s v t B) : A = B := by
  refine Classical.byContradiction fun hn => ?_
  have h1 := a.pos
  have h2 := b.pos
  rcases Nat.lt_or_gt_of_ne hn with h | h
  · exact b.not (a.all _ (by omega))
  · exact a.not (b.all _ (by omega))
theorem bg_le (v : Nat) : ∀ c, bg v c ≤ c * (c + 1)
  | 0 => Nat.le_refl 0
  | c + 1 => by
    have ih := bg_le v c
    have h : c / v ≤ c := Nat.div_le_self c v
    have e : (c + 1) * (c + 1 + 1) = c * (c + 1) + 2 * (c + 1) := by
      rw [Nat.mul_comm c (c + 1), Nat.mul_comm 2 (c + 1), ← Nat.mul_add]
    show bg v c + (c / v + 1) ≤ _
    omega
theorem ov_zero {s v t : Nat} (ht : 1 ≤ t) : ¬ Ov s v t 0 := fun o => by
  have h := o 0 ⟨Nat.le_refl 0, bg_lt v 0⟩
  have h2 := zero_behind (s := s) (v := v) ht
  have h3 : bg v 0 = 0 := rfl
  omega
theorem least_of {p : Nat → Prop} : ∀ N, (∀ L, N ≤ L → p L) → ¬ p 0 → ∃ A, 1 ≤ A ∧ A ≤ N ∧ (∀ L, A ≤ L → p L) ∧ ¬ p (A - 1)
  | 0, h, h0 => absurd (h 0 (Nat.le_refl 0)) h0
  | N + 1, h, h0 => by
    by_cases c : p N
    · obtain ⟨A, a1, a2, a3, a4⟩ := least_of N (fun L hL => by
        by_cases e : L = N
        · rw [e]
          exact c
        · exact h L (by omega)) h0
      exact ⟨A, a1, by omega, a3, a4⟩
    · exact ⟨N + 1, by omega, Nat.le_refl _, h, c⟩
theorem lst_ex {s v t : Nat} (h1 : 1 ≤ s) (h6 : s ≤ 6) (hv : 1 ≤ v) (hv2 : v ≤ 20) (ht : 1 ≤ t) (ht2 : t ≤ 12) : ∃ A, Lst s v t A ∧ A ≤ 100000000000 := by
  obtain ⟨e1, e2⟩ := ends_at h1 h6 hv hv2 ht2
  obtain ⟨A, a1, a2, a3, a4⟩ := least_of (p := Ov s v t) (bg v 100000) (fun L hL m hm => by
    have h3 := hm.le hL
    have h4 := ahead_on h1 hv ht e2 e1 (m - 100000)
    have e : 100000 + (m - 100000) = m := by omega
    rw [e] at h4
    have := hm.1
    omega) (ov_zero ht)
  have := bg_le v 100000
  exact ⟨A, ⟨a1, a3, a4⟩, by omega⟩
end Ver
namespace Ver
open PySem PySem.Spec PyProof.Rows L2 Evl
section
variable {P : Program} {w : World} {K : PySem.W.Frag} {mg : Str → Option Value} {base : Heap}
/-! ### free_places, next_length, stays_ahead, overtaken_from -/
def spFreO : Sp := fun vs H Q _ => ∃ s k : Nat, vs = [.int (s : Int), .int ((k + 1 : Nat) : Int)] ∧ s ≤ 6 ∧ RetV (.int (((k + 1) * s : Nat) - (k : Int))) H Q
theorem has_freO (F : At K mg "free_places" s_free_places) : Has P w K mg base "free_places" s_free_places ["size", "number"] 1 spFreO := by
  obtain ⟨f, fd, F, m⟩ := F.ex
  refine ⟨f, fd, F, F.ok S_free_places (fun vs H Q E h => ?_) (fun cdv A outer s H vs Q E hr h => ?_), F.binds fun _ _ _ _ _ _ us hl => match us, hl with | [_, _], _ => rfl, m, F.kp⟩
  · obtain ⟨s, k, rfl, _⟩ := h
    rfl
  obtain ⟨s, k, rfl, h6, q⟩ := h
  refine ⟨_, (pss_one
    (ps_ret (pe_op op_sub (pe_op op_mul (pv 1) (pv 0)) (pe_op op_sub (pv 1) pe_int)))), ?_⟩
  refine s_ret (ev_is (ev_sub (ev_mulR (j := (s : Int)) (by omega) (by omega) (ev_var rfl) (ev_var rfl)) (ev_sub (ev_var rfl) ev_c)) ?_) q
  rw [Int.natCast_mul]
  congr 2
  omega
def spNext : Sp := fun vs H Q _ => ∃ v c : Nat, vs = [.int (v : Int), .int (c : Int)] ∧ 1 ≤ v ∧ v ≤ 400 ∧ RetV (.int ((c / v + 1 : Nat) : Int)) H Q
theorem has_next (F : At K mg "next_length" s_next_length) : Has P w K mg base "next_length" s_next_length ["variety", "count"] 1 spNext := by
  obtain ⟨f, fd, F, m⟩ := F.ex
  refine ⟨f, fd, F, F.ok S_next_length (fun vs H Q E h => ?_) (fun cdv A outer s H vs Q E hr h => ?_), F.binds fun _ _ _ _ _ _ us hl => match us, hl with | [_, _], _ => rfl, m, F.kp⟩
  · obtain ⟨v, c, rfl, _⟩ := h
    rfl
  obtain ⟨v, c, rfl, h1, h2, q⟩ := h
  refine ⟨_, (pss_one
    (ps_ret (pe_op op_add (pe_op op_fdivW (pv 1) (pv 0)) pe_int))), ?_⟩
  exact s_ret (ev_is (ev_add (ev_div (j := (v : Int)) (by omega) (by omega) (ev_var rfl) (ev_var rfl)) ev_c) (by rw [Int.natCast_add, Int.natCast_ediv]; rfl)) q
theorem sv_next {v c : Nat} {H : Hp} (h1 : 1 ≤ v) (h2 : v ≤ 400) : SpV spNext ([V.int (v : Int), V.int (c : Int)] ++ []) H (.int ((c / v + 1 : Nat) : Int)) := fun _ _ _ q _ => ⟨v, c, rfl, h1, h2, q⟩
instance (s v t c : Nat) : Decidable (Stay s v t c) := inferInstanceAs (Decidable (_ ≤ _))
def spStay : Sp := fun vs H Q _ => ∃ s v t c : Nat, vs = [.int (s : Int), .int (v : Int), .int (t : Int), .int (c : Int)] ∧ 1 ≤ s ∧ s ≤ 6 ∧ 1 ≤ v ∧ v ≤ 400 ∧ t ≤ 4000 ∧ RetV (.bl (decide (Stay s v t c))) H Q
theorem has_stay (F : At K mg "stays_ahead" s_stays_ahead) (h1 : Has P w K mg base "free_places" s_free_places ["size", "number"] 1 spFreO) (h2 : Has P w K mg base "next_length" s_next_length ["variety", "count"] 1 spNext) (h3 : Has P w K mg base "width" s_width ["options"] 1 spWidth) :
    Has P w K mg base "stays_ahead" s_stays_ahead ["size", "variety", "standings", "count"] 2 spStay := by
  obtain ⟨f, fd, F, m⟩ := F.ex
  obtain ⟨f1, fd1, _, G_free_places, b_free_places, m_free_places, k_free_places⟩ := h1
  obtain ⟨f2, fd2, _, G_next_length, b_next_length, m_next_length, k_next_length⟩ := h2
  obtain ⟨f3, fd3, _, G_width, b_width, m_width, k_width⟩ := h3
  refine ⟨f, fd, F, F.ok S_stays_ahead (fun vs H Q E h => ?_) (fun cdv A outer s H vs Q E hr h => ?_), F.binds fun _ _ _ _ _ _ us hl => match us, hl with | [_, _, _, _], _ => rfl, m, F.kp⟩
  · obtain ⟨s, v, t, c, rfl, _⟩ := h
    rfl
  obtain ⟨s, v, t, c, rfl, h1, h6, hv, hv2, ht, q⟩ := h
  refine ⟨_, (pss_cons
    (ps_set (i := 4) S_stays_ahead.nd rfl (Or.inl rfl) (pe_op op_add (pe_call G_free_places (hr.mono (by decide)) rfl m_free_places k_free_places b_free_places .nil pass0 (pa_cons (pv 0) (pa_cons (pe_op op_add (pv 3) pe_int) pa_nil))) pe_int))
    (pss_one
    (ps_ret (pe_cmpR op_ge (pe_call G_next_length (hr.mono (by decide)) rfl m_next_length k_next_length b_next_length .nil pass0 (pa_cons (pv 1) (pa_cons (pv 3) pa_nil))) (pe_op op_mul (pv 2) (pe_op op_add (pe_call G_width (hr.mono (by decide)) rfl m_width k_width b_width .nil pass0 (pa_cons (pv 4) pa_nil)) pe_int)) (nomark _))))), ?_⟩
  have e2 : (c : Int) + 2 = ((c + 1 + 1 : Nat) : Int) := by omega
  refine q_asg (v := .int ((opts s (c + 1) : Nat) : Int)) (ev_is (ev_add (ev_call (z := .int (((c + 1 + 1) * s : Nat) - ((c + 1 : Nat) : Int))) (ea_cons (ev_var rfl) (ea_cons (ev_is (ev_add (ev_var rfl) ev_c) (by rw [e2])) ea_nil)) (fun H2 _ Q' q' _ => ⟨s, c + 1, rfl, h6, q'⟩)) ev_c) ?_) fun H1 e1 => ?_
  · congr 1
    unfold opts
    have : (c + 1 + 1) * 1 ≤ (c + 1 + 1) * s := Nat.mul_le_mul_left _ h1
    omega
  refine s_ret (ev_is (ev_op (ev_call (ea_cons (ev_var rfl) (ea_cons (ev_var rfl) ea_nil)) (sv_next hv hv2)) (ev_mulL (i := (t : Int)) (by omega) (by omega) (ev_var rfl) (ev_add (ev_call (ea_cons (ev_var rfl) ea_nil) (sv_width (n := ((opts s (c + 1) : Nat) : Int)))) ev_c)) rv_I0) ?_) fun H2 e3 => q H2 (e1.trans e3)
  congr 1
  rw [bits_w]
  refine decide_eq_decide.mpr ?_
  unfold Stay
  have e3 : (t : Int) * ((wid (opts s (c + 1)) : Int) + 2) = ((t * (wid (opts s (c + 1)) + 2) : Nat) : Int) := by
    rw [Int.natCast_mul, Int.natCast_add]
    rfl
  rw [e3]
  omega
theorem sv_stay {s v t c : Nat} {H : Hp} (h1 : 1 ≤ s) (h6 : s ≤ 6) (hv : 1 ≤ v) (hv2 : v ≤ 400) (ht : t ≤ 4000) : SpV spStay ([V.int (s : Int), V.int (v : Int), V.int (t : Int), V.int (c : Int)] ++ []) H (.bl (decide (Stay s v t c))) := fun _ _ _ q _ => ⟨s, v, t, c, rfl, h1, h6, hv, hv2, ht, q⟩
def spOvt : Sp := fun vs H Q _ => ∃ s v t A : Nat, vs = [.int (s : Int), .int (v : Int), .int (t : Int)] ∧ 1 ≤ s ∧ s ≤ 6 ∧ 1 ≤ v ∧ v ≤ 20 ∧ 1 ≤ t ∧ t ≤ 12 ∧ Lst s v t A ∧ RetV (.int (A : Int)) H Q
theorem has_ovt (F : At K mg "overtaken_from" s_overtaken_from) (h1 : Has P w K mg base "pressed_length" s_pressed_length ["size", "count"] 2 spPlen) (h2 : Has P w K mg base "next_length" s_next_length ["variety", "count"] 1 spNext) (h3 : Has P w K mg base "stays_ahead" s_stays_ahead ["size", "variety", "standings", "count"] 2 spStay) :
    Has P w K mg base "overtaken_from" s_overtaken_from ["size", "variety", "standings"] 3 spOvt := by
  obtain ⟨f, fd, F, m⟩ := F.ex
  obtain ⟨f1, fd1, _, G_pressed_length, b_pressed_length, m_pressed_length, k_pressed_length⟩ := h1
  obtain ⟨f2, fd2, _, G_next_length, b_next_length, m_next_length, k_next_length⟩ := h2
  obtain ⟨f3, fd3, _, G_stays_ahead, b_stays_ahead, m_stays_ahead, k_stays_ahead⟩ := h3
  refine ⟨f, fd, F, F.ok S_overtaken_from (fun vs H Q E h => ?_) (fun cdv A outer s H vs Q E hr h => ?_), F.binds fun _ _ _ _ _ _ us hl => match us, hl with | [_, _, _], _ => rfl, m, F.kp⟩
  · obtain ⟨s, v, t, A, rfl, _⟩ := h
    rfl
  obtain ⟨s, v, t, A, rfl, h1, h6, hv, hv2, ht, ht2, hL, q⟩ := h
  refine ⟨_, (pss_cons
    (ps_set (i := 3) S_overtaken_from.nd rfl (Or.inl rfl) pe_int)
    (pss_cons
    (ps_set (i := 4) S_overtaken_from.nd rfl (Or.inl rfl) pe_int)
    (pss_cons
    (ps_set (i := 5) S_overtaken_from.nd rfl (Or.inl rfl) pe_int)
    (pss_one
    (ps_while PassesOwn.never (pt_val pe_bl) (pss_cons
    (ps_set (i := 6) S_overtaken_from.nd rfl (Or.inl rfl) (pe_op op_mul (pv 2) (pe_op op_add (pe_call G_pressed_length (hr.mono (by decide)) rfl m_pressed_length k_pressed_length b_pressed_length .nil pass0 (pa_cons (pv 0) (pa_cons (pv 3) pa_nil))) pe_int)))
    (pss_cons
    (ps_if (pt_cmpR op_lt (pv 4) (pv 6) (nomark _)) (pss_one
    (ps_set (i := 5) S_overtaken_from.nd rfl (Or.inl rfl) (pv 6))) (pss_one
    (ps_if (pt_val (pe_call G_stays_ahead (hr.mono (by decide)) rfl m_stays_ahead k_stays_ahead b_stays_ahead .nil pass0 (pa_cons (pv 0) (pa_cons (pv 1) (pa_cons (pv 2) (pa_cons (pv 3) pa_nil)))))) (pss_one
    (ps_ret (pv 5))) pss_nil)))
    (pss_cons
    (ps_aug (i := 4) S_overtaken_from.nd rfl (Or.inl rfl) (pe_call G_next_length (hr.mono (by decide)) rfl m_next_length k_next_length b_next_length .nil pass0 (pa_cons (pv 1) (pa_cons (pv 3) pa_nil))) ip_add)
    (pss_one
    (ps_aug (i := 3) S_overtaken_from.nd rfl (Or.inl rfl) pe_int ip_add)))))))))), ?_⟩
  refine q_asg ev_c fun H1 e1 => ?_
  refine q_asg ev_c fun H2 e2 => ?_
  refine q_asg ev_c fun H3 e3 => ?_
  have e13 := (e1.trans e2).trans e3
  obtain ⟨z1, z2⟩ := ends_at h1 h6 hv hv2 ht2
  refine s_while (fun n σ' H' => ∃ (c B : Nat) (u : Option V), σ' = [some (.int (s : Int)), some (.int (v : Int)), some (.int (t : Int)), some (.int (c : Int)), some (.int ((bg v c : Nat) : Int)), some (.int (B : Int)), u] ∧ Ex H H' ∧ Kept s v t c B ∧ c ≤ 100000 ∧ n = 100001 - c) 100001 ⟨0, 0, none, rfl, e13, Kept.zero, by omega, rfl⟩ ?_
  rintro n σ' H' ⟨c, B, u, rfl, e4, hK, hc, rfl⟩
  refine ⟨true, et_B ev_c, fun _ H4 e5 => ?_, fun hb => nomatch hb⟩
  have hml := ml_is
  refine ⟨fun σ2 H5 => ∃ (B2 : Nat) (u : Option V), σ2 = [some (.int (s : Int)), some (.int (v : Int)), some (.int (t : Int)), some (.int ((c + 1 : Nat) : Int)), some (.int ((bg v (c + 1) : Nat) : Int)), some (.int (B2 : Int)), u] ∧ Ex H H5 ∧ Kept s v t (c + 1) B2 ∧ c < 100000, fun σ2 H5 ⟨B2, u, i1, i2, i3, i4⟩ => ⟨100001 - (c + 1), by omega, c + 1, B2, u, i1, i2, i3, by omega, rfl⟩, ?_⟩
  refine q_asg (v := .int ((ndd s t c : Nat) : Int)) (ev_is (ev_mulL (i := (t : Int)) (by omega) (by omega) (ev_var rfl) (ev_add (ev_call (ea_cons (ev_var rfl) (ea_cons (ev_var rfl) ea_nil)) (sv_plen h1 h6 (by omega))) ev_c)) (by unfold ndd; rw [Int.natCast_mul, Int.natCast_add]; rfl)) fun H5 e6 => ?_
  have e46 := (e4.trans e5).trans e6
  have tail : ∀ (B2 : Nat) (H6 : Hp), Ex H H6 → Kept s v t (c + 1) B2 → c < 100000 → ∀ D : Ends,
      (∀ σ2 H5, (∃ (B2 : Nat) (u : Option V), σ2 = [some (.int (s : Int)), some (.int (v : Int)), some (.int (t : Int)), some (.int ((c + 1 : Nat) : Int)), some (.int ((bg v (c + 1) : Nat) : Int)), some (.int (B2 : Int)), u] ∧ Ex H H5 ∧ Kept s v t (c + 1) B2 ∧ c < 100000) → D.nx σ2 H5) →
      tSeq (tAug 4 (tCall spNext [] E0 (tCons (tVar 1) (tCons (tVar 3) tNil))) (ipI fun a b => a + b)) (tAug 3 (tC (.int 1)) (ipI fun a b => a + b)) D [some (.int (s : Int)), some (.int (v : Int)), some (.int (t : Int)), some (.int (c : Int)), some (.int ((bg v c : Nat) : Int)), some (.int (B2 : Int)), some (.int ((ndd s t c : Nat) : Int))] H6 := by
    intro B2 H6 e7 hK2 hc2 D hD
    refine q_aug (f := fun a b => a + b) (a := ((bg v c : Nat) : Int)) rfl (ev_call (ea_cons (ev_var rfl) (ea_cons (ev_var rfl) ea_nil)) (sv_next hv (by omega))) fun H7 e8 => ?_
    exact s_aug (f := fun a b => a + b) (a := (c : Int)) rfl ev_c fun H8 e9 => hD _ _ ⟨B2, some (.int ((ndd s t c : Nat) : Int)), rfl, (e7.trans e8).trans e9, hK2, hc2⟩
  refine q_if (et_lt (ev_var rfl) (ev_var rfl)) (fun hb H6 e7 => ?_) (fun hb H6 e7 => ?_)
  · have hlt : bg v c < ndd s t c := by
      have := of_decide_eq_true hb
      omega
    refine s_asg (ev_var rfl) fun H7 e8 => ?_
    have hc2 : c < 100000 := by
      refine Classical.byContradiction fun hn => ?_
      have : c = 100000 := by omega
      subst this
      omega
    exact tail (ndd s t c) H7 ((e46.trans e7).trans e8) (Kept.behind h1 hv ht hlt) hc2 _ fun σ2 H9 z => z
  · have hge : ndd s t c ≤ bg v c := by
      have := of_decide_eq_false hb
      omega
    have hc0 : c ≠ 0 := fun e => by
      have := zero_behind (s := s) (v := v) ht
      rw [e] at hge
      omega
    refine s_if (et_B (ev_call (ea_cons (ev_var rfl) (ea_cons (ev_var rfl) (ea_cons (ev_var rfl) (ea_cons (ev_var rfl) ea_nil)))) (sv_stay h1 h6 hv (by omega) (by omega)))) (fun hb2 H7 e8 => ?_) (fun hb2 H7 e8 => ?_)
    · have hst : Stay s v t c := of_decide_eq_true hb2
      have hB : Lst s v t B := by
        rcases hK.not with h | h
        · exact absurd h hc0
        · exact ⟨h.1, hK.done h1 hv ht hge hst, h.2⟩
      rw [hL.uniq hB] at q
      exact s_ret (ev_var rfl) fun H8 e9 => q H8 (((e46.trans e7).trans e8).trans e9)
    · have hc2 : c < 100000 := by
        refine Classical.byContradiction fun hn => ?_
        have : c = 100000 := by omega
        subst this
        exact absurd z2 (of_decide_eq_false hb2)
      exact tail B H7 ((e46.trans e7).trans e8) (hK.ahead hc0 hge) hc2 _ fun σ2 H9 z => z
theorem sv_ovt {s v t A : Nat} {H : Hp} (h1 : 1 ≤ s) (h6 : s ≤ 6) (hv : 1 ≤ v) (hv2 : v ≤ 20) (ht : 1 ≤ t) (ht2 : t ≤ 12) (hL : Lst s v t A) : SpV spOvt ([V.int (s : Int), V.int (v : Int), V.int (t : Int)] ++ []) H (.int (A : Int)) := fun _ _ _ q _ => ⟨s, v, t, A, rfl, h1, h6, hv, hv2, ht, ht2, hL, q⟩
end
end Ver
namespace Ver
open PySem PySem.Spec PyProof.Rows L2 Evl
section
variable {P : Program} {w : World} {K : PySem.W.Frag} {mg : Str → Option Value} {base : Heap}
def spLw4 : Sp := fun vs H Q _ => ∃ n : Int, vs = [.int n] ∧ 1 ≤ n ∧ n ≤ 2 ^ 400 ∧ RetV (.int (bitsOf n)) H Q
theorem has_lw4 (F : At K mg "_law_width" s__law_width) (T : Top K mg) : Has P w K mg base "_law_width" s__law_width ["options"] 1 spLw4 := by
  obtain ⟨f, fd, F, m⟩ := F.ex
  refine ⟨f, fd, F, F.ok S__law_width (fun vs H Q E h => ?_) (fun cdv A outer s H vs Q E hr h => ?_), F.binds fun _ _ _ _ _ _ us hl => match us, hl with | [_], _ => rfl, m, F.kp⟩
  · obtain ⟨n, rfl, _⟩ := h
    rfl
  obtain ⟨n, rfl, h1, h2, q⟩ := h
  generalize hB : (2 : Int) ^ 400 = B at h2
  refine ⟨_, (pss_cons
    (ps_set (i := 1) S__law_width.nd rfl (Or.inl rfl) pe_int)
    (pss_cons
    (ps_set (i := 2) S__law_width.nd rfl (Or.inl rfl) pe_int)
    (pss_cons
    (ps_for PassesOwn.never rfl (pi_range1 rfl T.z_range (pa_cons pe_int pa_nil)) (pg_name (i := 3) S__law_width.nd rfl (Or.inl rfl)) (pss_cons
    (ps_if (pt_cmpR op_ge (pv 2) (pv 0) (nomark _)) (pss_one
    ps_break) pss_nil)
    (pss_cons
    (ps_set (i := 2) S__law_width.nd rfl (Or.inl rfl) (pe_op op_mul (pv 2) pe_int))
    (pss_one
    (ps_set (i := 1) S__law_width.nd rfl (Or.inl rfl) (pe_op op_add (pv 1) pe_int))))))
    (pss_one
    (ps_ret (pv 1)))))), ?_⟩
  refine q_asg ev_c fun H1 e1 => ?_
  refine q_asg ev_c fun H2 e2 => ?_
  refine q_forR1 (ea_cons ev_c ea_nil) (by decide) (fun i σ' H' => (∃ u, σ' = [some (.int n), some (.int (i : Int)), some (.int (2 ^ i)), u]) ∧ Ex H H' ∧ (i = 0 ∨ ∃ j, i = j + 1 ∧ (2 : Int) ^ j < n)) ?_ ?_ ?_
  · intro H3 e3
    exact ⟨⟨none, rfl⟩, (e1.trans e2).trans e3, .inl rfl⟩
  · intro i σ' H' hi z
    obtain ⟨⟨u, rfl⟩, e3, hj⟩ := z
    refine q_when (et_ge (ev_var rfl) (ev_var rfl)) (fun hb H4 e4 => ?_) (fun hb H4 e4 => ?_)
    · have c : n ≤ 2 ^ i := of_decide_eq_true hb
      refine s_ret (ev_var rfl) fun H5 e5 => ?_
      rw [bits_is h1 c hj] at q
      exact q H5 ((e3.trans e4).trans e5)
    · have c : ¬ n ≤ 2 ^ i := of_decide_eq_false hb
      refine q_asg (ev_mulR (by decide) (by decide) (ev_var rfl) ev_c) fun H5 e5 => ?_
      refine s_asg (ev_add (ev_var rfl) ev_c) fun H6 e6 => ⟨⟨some (.int (i : Int)), ?_⟩, ((e3.trans e4).trans e5).trans e6, .inr ⟨i, rfl, by omega⟩⟩
      rw [Int.pow_succ]
      rfl
  · intro σ' H' z
    obtain ⟨⟨u, rfl⟩, e3, hj⟩ := z
    refine s_ret (ev_var rfl) fun H5 e5 => ?_
    have c : n ≤ 2 ^ (400 : Int).toNat := by
      rw [show (400 : Int).toNat = 400 from rfl, hB]
      exact h2
    rw [bits_is h1 c hj] at q
    exact q H5 (e3.trans e5)
theorem sv_lw4b {n : Nat} {H : Hp} (h1 : 1 ≤ n) (h2 : n ≤ 1000000000000000000000000000000000000000000000000000000000000) : SpV spLw4 ([V.int (n : Int)] ++ []) H (.int (wid n : Int)) := fun _ _ _ q _ => ⟨(n : Int), rfl, by omega, Int.le_trans (show (n : Int) ≤ 1000000000000000000000000000000000000000000000000000000000000 by omega) (by decide +kernel), by
    have e : bitsOf (n : Int) = (wid n : Int) := by
      have := bits_nn (n : Int)
      unfold wid
      omega
    rw [e]
    exact q⟩
theorem sv_lw4 {n : Nat} {H : Hp} (h1 : 1 ≤ n) (h2 : n ≤ 8192) : SpV spLw4 ([V.int (n : Int)] ++ []) H (.int (wid n : Int)) := fun _ _ _ q _ => ⟨(n : Int), rfl, by omega, Int.le_trans (show (n : Int) ≤ 8192 by omega) (by decide +kernel), by
    have e : bitsOf (n : Int) = (wid n : Int) := by
      have := bits_nn (n : Int)
      unfold wid
      omega
    rw [e]
    exact q⟩
end
end Ver
namespace Ver
open PySem PySem.Spec PyProof.Rows L2 Evl
section
variable {P : Program} {w : World} {K : PySem.W.Frag} {mg : Str → Option Value} {base : Heap}
theorem has_cell (F : At K mg "_law_cell" s__law_cell) (T : Top K mg) : Has P w K mg base "_law_cell" s__law_cell ["script", "k"] 1 (spCell K) := by
  obtain ⟨f, fd, F, m⟩ := F.ex
  refine ⟨f, fd, F, F.ok S__law_cell (fun vs H Q E h => ?_) (fun cdv A outer s H vs Q E hr h => ?_), F.binds fun _ _ _ _ _ _ us hl => match us, hl with | [_, _], _ => rfl, m, F.kp⟩
  · obtain ⟨a, ns, k, rfl, _⟩ := h
    rfl
  obtain ⟨a, ns, k, rfl, hS, h63, hk, q⟩ := h
  refine ⟨_, (pss_cons
    (ps_if (pt_cmpR op_lt (pv 1) (pe_callB call_len_seq rfl T.z_len PySem.boot_len (pa_cons (pv 0) pa_nil)) (nomark _)) (pss_one
    (ps_ret (pe_ix (r := rIxL K) ix_list (pv 0) (pv 1) (fun _ _ => rfl)))) pss_nil)
    (pss_cons
    (ps_set (i := 2) S__law_cell.nd rfl (Or.inl rfl) pe_int)
    (pss_cons
    (ps_for PassesOwn.never rfl (pi_list (pv 0)) (pg_name (i := 3) S__law_cell.nd rfl (Or.inl rfl)) (pss_one
    (ps_set (i := 2) S__law_cell.nd rfl (Or.inl rfl) (pe_op op_mod (pe_callTy call_int1 rfl T.z_int (by decide +kernel) (pa_cons (pe_op op_add (pe_op op_mul (pv 2) pe_int) (pe_op op_mod (pe_callTy call_int1 rfl T.z_int (by decide +kernel) (pa_cons (pv 3) pa_nil)) pe_int)) pa_nil)) pe_int))))
    (pss_one
    (ps_ret (pe_op op_mod (pe_callTy call_int1 rfl T.z_int (by decide +kernel) (pa_cons (pe_op op_mul (pe_op op_mul (pe_op op_add (pv 2) pe_int) (pe_op op_add (pv 1) pe_int)) pe_int) pa_nil)) pe_int)))))), ?_⟩
  have hl : (((ns.map V.int).length : Nat) : Int) = (ns.length : Int) := by rw [List.length_map]
  refine q_when (et_is (et_lt (ev_var rfl) (ev_is (ev_cb (ea_cons (ev_var rfl) ea_nil) (rc_lenL hS)) (by rw [hl]))) rfl) (fun hb H1 e1 => ?_) (fun hb H1 e1 => ?_)
  · have hlt : k < (ns.length : Int) := of_decide_eq_true hb
    have ek : k = ((k.toNat : Nat) : Int) := by omega
    refine s_ret (ev_at (ex_l e1 hS) (show k.toNat < ns.length by omega) (ev_var rfl) (ev_is (ev_var rfl) (by rw [← ek]))) fun H2 e2 => ?_
    have e : cell ns k = at0 ns k.toNat := if_pos hlt
    rw [e] at q
    exact q H2 (e1.trans e2)
  · have hlt : ¬ k < (ns.length : Int) := of_decide_eq_false hb
    refine q_asg ev_c fun H2 e2 => ?_
    refine q_forLn (ev_var rfl) (ex_l (e1.trans e2) hS) (fun i σ' H' => (∃ u, σ' = [some (.ref a), some (.int k), some (.int (seedF ns i)), u]) ∧ Ex H H') ?_ ?_ ?_ ?_
    · intro H3 e3
      exact ⟨⟨none, rfl⟩, (e1.trans e2).trans e3⟩
    · intro i σ' H' _ p
      exact ex_l p.2 hS
    · intro i x σ' H' hx p
      obtain ⟨⟨u, rfl⟩, e3⟩ := p
      obtain ⟨hi, rfl⟩ := at0_get hx
      refine s_asg (ev_mod (by decide) (ev_int (ev_add (ev_mulR (by decide) (by decide) (ev_var rfl) ev_c) (ev_mod (by decide) (ev_int (ev_var rfl)) ev_c))) ev_c) fun H4 e4 => ⟨⟨some (.int (at0 ns i)), rfl⟩, e3.trans e4⟩
    · intro σ' H' p
      obtain ⟨⟨u, rfl⟩, e3⟩ := p
      rw [List.length_map]
      refine s_ret (ev_mod (by decide) (ev_int (ev_mulR (by decide) (by decide) (ev_mulR (by omega) (by omega) (ev_add (ev_var rfl) ev_c) (ev_add (ev_var rfl) ev_c)) ev_c)) ev_c) fun H4 e4 => ?_
      have e : cell ns k = ((seedF ns ns.length + 7) * (k + 3) * 69621) % 2147483647 := if_neg hlt
      rw [e] at q
      exact q H4 (e3.trans e4)
end
end Ver
namespace Ver
open PySem PySem.Spec PyProof.Rows L2 Evl
section
variable {P : Program} {w : World} {K : PySem.W.Frag} {mg : Str → Option Value} {base : Heap}
theorem has_digits (F : At K mg "_law_digits" s__law_digits) (T : Top K mg) : Has P w K mg base "_law_digits" s__law_digits ["cell", "sizes"] 1 (spDigits K) := by
  obtain ⟨f, fd, F, m⟩ := F.ex
  refine ⟨f, fd, F, F.ok S__law_digits (fun vs H Q E h => ?_) (fun cdv A outer s H vs Q E hr h => ?_), F.binds fun _ _ _ _ _ _ us hl => match us, hl with | [_, _], _ => rfl, m, F.kp⟩
  · obtain ⟨c, a, ss, rfl, _⟩ := h
    rfl
  obtain ⟨c, a, ss, rfl, hS, hz, hss, q⟩ := h
  refine ⟨_, (pss_cons
    (ps_set (i := 2) S__law_digits.nd rfl (Or.inl rfl) (pe_lst pa_nil))
    (pss_cons
    (ps_set (i := 3) S__law_digits.nd rfl (Or.inl rfl) (pe_callTy call_int1 rfl T.z_int (by decide +kernel) (pa_cons (pv 0) pa_nil)))
    (pss_cons
    (ps_if (pt_cmpR op_ge (pv 3) (pe_op op_pow pe_int pe_int) (nomark _)) (pss_cons
    (ps_set (i := 3) S__law_digits.nd rfl (Or.inl rfl) (pe_op op_sub (pv 3) (pe_op op_pow pe_int pe_int)))
    (pss_cons
    (ps_for PassesOwn.never rfl (pi_list (pv 1)) (pg_name (i := 4) S__law_digits.nd rfl (Or.inl rfl)) (pss_cons
    (ps_expr (pe_bm PySem.F.plainAttrs_list PySem.F.slot_list_append PySem.F.type_list_append mt_append (pv 2) (pa_cons (pe_op op_mod (pe_callTy call_int1 rfl T.z_int (by decide +kernel) (pa_cons (pv 3) pa_nil)) (pv 4)) pa_nil)))
    (pss_one
    (ps_set (i := 3) S__law_digits.nd rfl (Or.inl rfl) (pe_op op_fdivW (pe_callTy call_int1 rfl T.z_int (by decide +kernel) (pa_cons (pv 3) pa_nil)) (pv 4))))))
    (pss_one
    (ps_ret (pv 2))))) pss_nil)
    (pss_cons
    (ps_set (i := 5) S__law_digits.nd rfl (Or.inl rfl) (pe_op op_mod (pe_callTy call_int1 rfl T.z_int (by decide +kernel) (pa_cons (pv 3) pa_nil)) pe_int))
    (pss_cons
    (ps_for PassesOwn.never rfl (pi_range1 rfl T.z_range (pa_cons (pe_callB call_len_seq rfl T.z_len PySem.boot_len (pa_cons (pv 1) pa_nil)) pa_nil)) (pg_name (i := 6) S__law_digits.nd rfl (Or.inl rfl)) (pss_cons
    (ps_set (i := 5) S__law_digits.nd rfl (Or.inl rfl) (pe_op op_mod (pe_callTy call_int1 rfl T.z_int (by decide +kernel) (pa_cons (pe_op op_add (pe_op op_add (pe_op op_mul (pv 5) pe_int) (pe_op op_mul pe_int (pv 6))) pe_int) pa_nil)) pe_int))
    (pss_cons
    (ps_set (i := 7) S__law_digits.nd rfl (Or.inl rfl) (pe_op op_mod (pe_callTy call_int1 rfl T.z_int (by decide +kernel) (pa_cons (pe_op op_mul (pv 5) (pe_op op_add (pe_op op_fdivW (pv 5) pe_int) pe_int)) pa_nil)) pe_int))
    (pss_one
    (ps_expr (pe_bm PySem.F.plainAttrs_list PySem.F.slot_list_append PySem.F.type_list_append mt_append (pv 2) (pa_cons (pe_op op_mod (pe_op op_fdivW (pv 7) pe_int) (pe_ix (r := rIxL K) ix_list (pv 1) (pv 6) (fun _ _ => rfl))) pa_nil)))))))
    (pss_one
    (ps_ret (pv 2)))))))), ?_⟩
  have hl : (((ss.map V.int).length : Nat) : Int) = (ss.length : Int) := by rw [List.length_map]
  have e18 : (10 : Int) ^ (18 : Int).toNat = 10 ^ 18 := rfl
  refine q_asgL (el_lst ea_nil (by decide)) fun p H1 hp e1 h1 => ?_
  refine q_asg (ev_int (ev_var rfl)) fun H2 e2 => ?_
  have hP : CPow 10 18 := ⟨by decide, by decide, by decide⟩
  refine q_when (et_is (et_ge (ev_var rfl) (ev_op ev_c ev_c (rv_I hP))) rfl) (fun hb H3 e3 => ?_) (fun hb H3 e3 => ?_)
  · have hc : 10 ^ 18 ≤ c := of_decide_eq_true hb
    refine q_asg (ev_sub (ev_var rfl) (ev_op ev_c ev_c (rv_I hP))) fun H4 e4 => ?_
    have e14 : Ex H H4 := ((e1.trans e2).trans e3).trans e4
    refine q_forLn (ev_var rfl) (ex_l e14 hS) (fun i σ' H' => (∃ u, σ' = [some (.int c), some (.ref a), some (.ref p), some (.int (restF c ss i)), u, none, none, none]) ∧ Ex H H' ∧ H' p = some (.lst (((List.range i).map (digA c ss)).map V.int))) ?_ ?_ ?_ ?_
    · intro H5 e5
      exact ⟨⟨none, rfl⟩, e14.trans e5, e5 _ _ (e4 _ _ (e3 _ _ (e2 _ _ h1)))⟩
    · intro i σ' H' _ z
      exact ex_l z.2.1 hS
    · intro i x σ' H' hx z
      obtain ⟨⟨u, rfl⟩, e5, h5⟩ := z
      obtain ⟨hi, rfl⟩ := at0_get hx
      obtain ⟨s1, s2⟩ := hss i hi
      refine q_app h5 (ev_var rfl) (ev_mod s1 (ev_int (ev_var rfl)) (ev_var rfl)) (by rw [List.length_map, List.length_map, List.length_range]; omega) fun H6 e6 => ?_
      refine s_asg (ev_div s1 s2 (ev_int (ev_var rfl)) (ev_var rfl)) fun H7 e7 => ⟨⟨some (.int (at0 ss i)), rfl⟩, ((e5.trans e6).mut hp).trans e7, ?_⟩
      rw [map_range_succ]
      exact e7 _ _ upd_same
    · intro σ' H' z
      obtain ⟨⟨u, rfl⟩, e5, h5⟩ := z
      rw [List.length_map] at h5
      refine s_ret (ev_var rfl) fun H6 e6 => ?_
      have e : digits c ss = (List.range ss.length).map (digA c ss) := by
        unfold digits
        refine List.map_congr_left fun i _ => ?_
        exact if_pos hc
      rw [e] at q
      exact q p H6 hp (e5.trans e6) (e6 _ _ h5)
  · have hc : ¬ 10 ^ 18 ≤ c := of_decide_eq_false hb
    refine q_asg (ev_mod (by decide) (ev_int (ev_var rfl)) ev_c) fun H4 e4 => ?_
    have e14 : Ex H H4 := ((e1.trans e2).trans e3).trans e4
    refine q_forR1 (ea_cons (ev_is (ev_cb (ea_cons (ev_var rfl) ea_nil) (rc_lenL (ex_l e14 hS))) (by rw [hl])) ea_nil) (by omega) (fun i σ' H' => (∃ u v, σ' = [some (.int c), some (.ref a), some (.ref p), some (.int c), none, some (.int (sdF c i)), u, v]) ∧ Ex H H' ∧ H' p = some (.lst (((List.range i).map (digB c ss)).map V.int))) ?_ ?_ ?_
    · intro H5 e5
      exact ⟨⟨none, none, rfl⟩, e14.trans e5, e5 _ _ (e4 _ _ (e3 _ _ (e2 _ _ h1)))⟩
    · intro i σ' H' hi z
      obtain ⟨⟨u, v, rfl⟩, e5, h5⟩ := z
      have hi' : i < ss.length := by omega
      obtain ⟨s1, s2⟩ := hss i hi'
      have b1 := sd_bound c (i + 1)
      refine q_asg (ev_mod (by decide) (ev_int (ev_add (ev_add (ev_mulR (by decide) (by decide) (ev_var rfl) ev_c) (ev_mulL (by decide) (by decide) ev_c (ev_var rfl))) ev_c)) ev_c) fun H6 e6 => ?_
      refine q_asg (ev_mod (by decide) (ev_int (ev_mulR (i := sdF c (i + 1)) (j := sdF c (i + 1) / 65537 + 3) (by omega) (by omega) (ev_var rfl) (ev_add (ev_div (by decide) (by decide) (ev_var rfl) ev_c) ev_c))) ev_c) fun H7 e7 => ?_
      refine s_app (e7 _ _ (e6 _ _ h5)) (ev_var rfl) (ev_mod s1 (ev_div (by decide) (by decide) (ev_var rfl) ev_c) (ev_at (ex_l ((e5.trans e6).trans e7) hS) hi' (ev_var rfl) (ev_var rfl))) (by rw [List.length_map, List.length_map, List.length_range]; omega) fun H8 e8 => ⟨⟨some (.int (i : Int)), some (.int (twF c i)), rfl⟩, (((e5.trans e6).trans e7).trans e8).mut hp, ?_⟩
      rw [map_range_succ]
      exact upd_same
    · intro σ' H' z
      obtain ⟨⟨u, v, rfl⟩, e5, h5⟩ := z
      refine s_ret (ev_var rfl) fun H6 e6 => ?_
      have e : digits c ss = (List.range ss.length).map (digB c ss) := by
        unfold digits
        refine List.map_congr_left fun i _ => ?_
        exact if_neg hc
      rw [e] at q
      exact q p H6 hp (e5.trans e6) (e6 _ _ h5)
end
end Ver
namespace Ver
open PySem PySem.Spec PyProof.Rows L2 Evl
section
variable {P : Program} {w : World} {K : PySem.W.Frag} {mg : Str → Option Value} {base : Heap}
theorem has_lwhole (F : At K mg "_law_whole" s__law_whole) (T : Top K mg) : Has P w K mg base "_law_whole" s__law_whole ["value"] 1 spWhole := by
  obtain ⟨f, fd, F, m⟩ := F.ex
  refine ⟨f, fd, F, F.ok S__law_whole (fun vs H Q E h => ?_) (fun cdv A outer s H vs Q E hr h => ?_), F.binds fun _ _ _ _ _ _ us hl => match us, hl with | [_], _ => rfl, m, F.kp⟩
  · obtain ⟨n, rfl, _⟩ := h
    rfl
  obtain ⟨n, rfl, q⟩ := h
  refine ⟨_, (pss_one
    (ps_ret (pe_and (pe_callB call_isi rfl T.z_isinstance (by decide +kernel) (pa_cons (pv 0) (pa_cons (pe_bltn (v := .ty "int") rfl T.z_int (by decide +kernel) rfl) pa_nil))) (pe_one (pe_not (pe_callB call_isi rfl T.z_isinstance (by decide +kernel) (pa_cons (pv 0) (pa_cons (pe_bltn (v := .ty "bool") rfl T.z_bool (by decide +kernel) rfl) pa_nil)))))))), ?_⟩
  exact s_ret (ev_is (ev_andV (ev_cb (ea_cons (ev_var rfl) (ea_cons ev_c ea_nil)) (rc_isi (b := true) (by decide +kernel)))
    (fun _ => ev_notV (ev_cb (ea_cons (ev_var rfl) (ea_cons ev_c ea_nil)) (rc_isi (b := false) (by decide +kernel))))) rfl) q
end
end Ver
namespace Ver
open PySem PySem.Spec PyProof.Rows L2 Evl
/-! ### products of great numbers -/
theorem wide_ok {i j : Int} (hi : 0 ≤ i ∧ i < 1000000000000000000000000000000000000000000000000000000000000) (hj : 0 ≤ j ∧ j < 1000000000000000000000000000000000000000000000000000000000000) : CMulW i j := by
  have h : (1000000000000000000000000000000000000000000000000000000000000 : Nat) < 2 ^ 200 := by decide +kernel
  exact wide_mul (a := 200) (b := 200) (by omega) (by omega) (by decide) (by decide) (by decide)
theorem ev_mulW {ta tb : TE} {σ : L2.St} {H : Hp} {i j : Int} (hi : 0 ≤ i ∧ i < 1000000000000000000000000000000000000000000000000000000000000) (hj : 0 ≤ j ∧ j < 1000000000000000000000000000000000000000000000000000000000000) (ha : Ev ta σ H (.int i)) (hb : Ev tb σ H (.int j)) :
    Ev (tOp (rI CMulW fun i j => .int (i * j)) ta tb) σ H (.int (i * j)) := ev_op ha hb (rv_I (wide_ok hi hj))
theorem ev_divB {ta tb : TE} {σ : L2.St} {H : Hp} {i j : Int} (hj : 0 < j ∧ j < 1000000000000000000000000000000000000000000000000000000000000) (ha : Ev ta σ H (.int i)) (hb : Ev tb σ H (.int j)) :
    Ev (tOp (rI CDivW fun i j => .int (i / j)) ta tb) σ H (.int (i / j)) := by
  have h : (1000000000000000000000000000000000000000000000000000000000000 : Nat) < 2 ^ 200 := by decide +kernel
  exact ev_op ha hb (rv_I (wide_div (b := 200) hj.1 (by omega) (by decide) (by decide)))
/-- the half of kinds * q * (q + 1) -/
theorem ev_half {tk tq tq2 : TE} {σ : L2.St} {H : Hp} {v q : Nat} (hv : 1 ≤ v) (hv2 : v ≤ 400) (hq : q ≤ 50000000000000000000000000000000000) (h1 : Ev tk σ H (.int (v : Int))) (h2 : Ev tq σ H (.int (q : Int))) (h3 : Ev tq2 σ H (.int (q : Int))) :
    Ev (tOp (rI CDivW fun i j => .int (i / j)) (tOp (rI CMulW fun i j => .int (i * j)) (tOp (rI CMulW fun i j => .int (i * j)) tk tq) (tOp (rI0 fun i j => .int (i + j)) tq2 (tC (.int 1)))) (tC (.int 2))) σ H (.int ((bg v (v * q) : Nat) : Int)) := by
  have hvq : v * q ≤ 400 * 50000000000000000000000000000000000 := Nat.mul_le_mul hv2 hq
  have e1 : (v : Int) * (q : Int) = ((v * q : Nat) : Int) := by rw [Int.natCast_mul]
  refine ev_is (ev_div (j := 2) (by decide) (by decide) (ev_mulW (i := (v : Int) * (q : Int)) (j := (q : Int) + 1) (by rw [e1]; omega) (by omega) (ev_mulW (by omega) (by omega) h1 h2) (ev_add h3 ev_c)) ev_c) ?_
  rw [← bg_half hv q, Int.natCast_ediv, Int.natCast_mul, Int.natCast_mul, Int.natCast_add]
  rfl
theorem pow_104 : (2 : Nat) ^ 104 = 20282409603651670423947251286016 := by decide +kernel
section
variable {P : Program} {w : World} {K : PySem.W.Frag} {mg : Str → Option Value} {base : Heap}
/-! ### _law_fill -/
def spLfl : Sp := fun vs H Q _ => ∃ v L m : Nat, vs = [.int (v : Int), .int (L : Int)] ∧ 1 ≤ v ∧ v ≤ 400 ∧ L < ML ∧ OvM v L m ∧ RetV (.int (m : Int)) H Q
theorem has_lfl (F : At K mg "_law_fill" s__law_fill) (T : Top K mg) : Has P w K mg base "_law_fill" s__law_fill ["kinds", "length"] 1 spLfl := by
  obtain ⟨f, fd, F, m⟩ := F.ex
  refine ⟨f, fd, F, F.ok S__law_fill (fun vs H Q E h => ?_) (fun cdv A outer s H vs Q E hr h => ?_), F.binds fun _ _ _ _ _ _ us hl => match us, hl with | [_, _], _ => rfl, m, F.kp⟩
  · obtain ⟨v, L, m, rfl, _⟩ := h
    rfl
  obtain ⟨v, L, m, rfl, hv, hv2, hL, hM, q⟩ := h
  rw [ml_is] at hL
  have h104 := pow_104
  refine ⟨_, (pss_cons
    (ps_set (i := 2) S__law_fill.nd rfl (Or.inl rfl) pe_int)
    (pss_cons
    (ps_set (i := 3) S__law_fill.nd rfl (Or.inl rfl) pe_int)
    (pss_cons
    (ps_for PassesOwn.never rfl (pi_range1 rfl T.z_range (pa_cons pe_int pa_nil)) (pg_name (i := 4) S__law_fill.nd rfl (Or.inl rfl)) (pss_cons
    (ps_if (pt_cmpR op_gt (pe_op op_fdivW (pe_op op_mulW (pe_op op_mulW (pv 0) (pv 3)) (pe_op op_add (pv 3) pe_int)) pe_int) (pv 1) (nomark _)) (pss_one
    ps_break) pss_nil)
    (pss_one
    (ps_set (i := 3) S__law_fill.nd rfl (Or.inl rfl) (pe_op op_mulW (pv 3) pe_int)))))
    (pss_cons
    (ps_for PassesOwn.never rfl (pi_range1 rfl T.z_range (pa_cons pe_int pa_nil)) (pg_name (i := 4) S__law_fill.nd rfl (Or.inl rfl)) (pss_cons
    (ps_if (pt_cmpR op_le (pe_op op_sub (pv 3) (pv 2)) pe_int (nomark _)) (pss_one
    ps_break) pss_nil)
    (pss_cons
    (ps_set (i := 5) S__law_fill.nd rfl (Or.inl rfl) (pe_op op_fdivW (pe_op op_add (pv 2) (pv 3)) pe_int))
    (pss_one
    (ps_if (pt_cmpR op_le (pe_op op_fdivW (pe_op op_mulW (pe_op op_mulW (pv 0) (pv 5)) (pe_op op_add (pv 5) pe_int)) pe_int) (pv 1) (nomark _)) (pss_one
    (ps_set (i := 2) S__law_fill.nd rfl (Or.inl rfl) (pv 5))) (pss_one
    (ps_set (i := 3) S__law_fill.nd rfl (Or.inl rfl) (pv 5))))))))
    (pss_one
    (ps_ret (pe_op op_add (pe_op op_mulW (pv 0) (pv 2)) (pe_op op_fdivW (pe_op op_sub (pv 1) (pe_op op_fdivW (pe_op op_mulW (pe_op op_mulW (pv 0) (pv 2)) (pe_op op_add (pv 2) pe_int)) pe_int)) (pe_op op_add (pv 2) pe_int))))))))), ?_⟩
  refine q_asg ev_c fun H1 e1 => ?_
  refine q_asg (v := .int ((2 ^ 0 : Nat) : Int)) ev_c fun H2 e2 => ?_
  have low : ∀ i, (∀ j, j < i → bg v (v * 2 ^ j) ≤ L) → i ≤ 104 := by
    intro i hi
    refine Classical.byContradiction fun hn => ?_
    have h1 := hi 104 (by omega)
    have h2 := bg_ge v (v * 2 ^ 104)
    have h3 : 1 * 2 ^ 104 ≤ v * 2 ^ 104 := Nat.mul_le_mul_right _ hv
    omega
  have p104 : ∀ i, i ≤ 104 → 2 ^ i ≤ 20282409603651670423947251286016 := fun i hi => by
    have : 2 ^ i ≤ 2 ^ 104 := Nat.pow_le_pow_right (by decide) hi
    omega
  refine q_forR1 (ea_cons ev_c ea_nil) (by decide) (fun i σ' H' => (∃ u, σ' = [some (.int (v : Int)), some (.int (L : Int)), some (.int 0), some (.int ((2 ^ i : Nat) : Int)), u, none]) ∧ Ex H H' ∧ ∀ j, j < i → bg v (v * 2 ^ j) ≤ L) ?_ ?_ ?_
  · intro H3 e3
    exact ⟨⟨none, rfl⟩, (e1.trans e2).trans e3, fun j hj => absurd hj (Nat.not_lt_zero _)⟩
  · intro i σ' H' hi z
    obtain ⟨⟨u, rfl⟩, e3, hj⟩ := z
    have hi4 := low i hj
    have hp := p104 i hi4
    refine q_when (et_gt (ev_half hv hv2 (by omega) (ev_var rfl) (ev_var rfl) (ev_var rfl)) (ev_var rfl)) (fun hb H4 e4 => ?_) (fun hb H4 e4 => ?_)
    · have hgt : L < bg v (v * 2 ^ i) := by
        have := of_decide_eq_true hb
        omega
      -- the second loop
      show tSeq _ _ _ _ _
      refine q_forR1 (ea_cons ev_c ea_nil) (by decide) (fun j σ' H' => (∃ (u4 u5 : Option V) (a b : Nat), σ' = [some (.int (v : Int)), some (.int (L : Int)), some (.int (a : Int)), some (.int (b : Int)), u4, u5] ∧ j ≤ i ∧ b = a + 2 ^ (i - j) ∧ b ≤ 2 ^ i ∧ bg v (v * a) ≤ L ∧ L < bg v (v * b)) ∧ Ex H H') ?_ ?_ ?_
      · intro H5 e5
        exact ⟨⟨_, none, 0, 2 ^ i, rfl, Nat.zero_le _, by rw [Nat.zero_add, Nat.sub_zero], Nat.le_refl _, Nat.zero_le _, hgt⟩, (e3.trans e4).trans e5⟩
      · intro j σ' H' hj9 z
        obtain ⟨⟨u4, u5, a, b, rfl, hji, hab, hbi, ha, hb9⟩, e5⟩ := z
        refine q_when (et_le (ev_sub (ev_var rfl) (ev_var rfl)) ev_c) (fun hb H6 e6 => ?_) (fun hb H6 e6 => ?_)
        · have hone : b = a + 1 := by
            have h1 := of_decide_eq_true hb
            have h2 := Nat.two_pow_pos (i - j)
            omega
          rw [hone] at hb9
          have hm := atm_of hv ha hb9
          rw [hM.uniq hm] at q
          have hva : v * a ≤ 400 * 20282409603651670423947251286016 := Nat.mul_le_mul hv2 (by omega)
          refine s_ret (ev_is (ev_add (ev_mulW (i := (v : Int)) (j := (a : Int)) (by omega) (by omega) (ev_var rfl) (ev_var rfl)) (ev_divB (j := (a : Int) + 1) (by omega) (ev_sub (ev_var rfl) (ev_half hv hv2 (by omega) (ev_var rfl) (ev_var rfl) (ev_var rfl))) (ev_add (ev_var rfl) ev_c))) ?_) fun H7 e7 => q H7 ((e5.trans e6).trans e7)
          congr 1
          rw [Int.natCast_add, Int.natCast_mul, Int.natCast_ediv]
          congr 2
          omega
        · have hne : j < i := by
            have h1 := of_decide_eq_false hb
            refine Classical.byContradiction fun hn => ?_
            have : i - j = 0 := by omega
            rw [this] at hab
            have : (2 : Nat) ^ 0 = 1 := rfl
            omega
          have hpw : 2 ^ (i - j) = 2 * 2 ^ (i - (j + 1)) := by
            have e : i - j = (i - (j + 1)) + 1 := by omega
            rw [e, Nat.pow_succ, Nat.mul_comm]
          refine q_asg (v := .int ((a + 2 ^ (i - (j + 1)) : Nat) : Int)) (ev_is (ev_div (j := 2) (by decide) (by decide) (ev_add (ev_var rfl) (ev_var rfl)) ev_c) (by congr 1; omega)) fun H7 e7 => ?_
          refine s_if (et_le (ev_half hv hv2 (by omega) (ev_var rfl) (ev_var rfl) (ev_var rfl)) (ev_var rfl)) (fun hc H8 e8 => ?_) (fun hc H8 e8 => ?_)
          · refine s_asg (ev_var rfl) fun H9 e9 => ⟨⟨_, _, a + 2 ^ (i - (j + 1)), b, rfl, hne, by omega, hbi, ?_, hb9⟩, (((e5.trans e6).trans e7).trans e8).trans e9⟩
            have := of_decide_eq_true hc
            omega
          · refine s_asg (ev_var rfl) fun H9 e9 => ⟨⟨_, _, a, a + 2 ^ (i - (j + 1)), rfl, hne, rfl, by omega, ha, ?_⟩, (((e5.trans e6).trans e7).trans e8).trans e9⟩
            have := of_decide_eq_false hc
            omega
      · intro σ' H' z
        obtain ⟨⟨u4, u5, a, b, rfl, hji, _⟩, e5⟩ := z
        have : (400 : Int).toNat = 400 := rfl
        omega
    · refine s_asg (v := .int ((2 ^ (i + 1) : Nat) : Int)) (ev_is (ev_mulW (i := ((2 ^ i : Nat) : Int)) ⟨Int.natCast_nonneg _, by omega⟩ (by decide) (ev_var rfl) ev_c) (by rw [Nat.pow_succ, Int.natCast_mul]; rfl)) fun H5 e5 => ⟨⟨_, rfl⟩, (e3.trans e4).trans e5, fun j hj2 => ?_⟩
      by_cases c : j < i
      · exact hj j c
      · have e : j = i := by omega
        rw [e]
        have := of_decide_eq_false hb
        omega
  · intro σ' H' z
    obtain ⟨⟨u, rfl⟩, e3, hj⟩ := z
    have := low _ hj
    have : (400 : Int).toNat = 400 := rfl
    omega
/-! ### _law_pressed -/
def spLpr : Sp := fun vs H Q _ => ∃ s p : Nat, vs = [.int (s : Int), .int (p : Int)] ∧ 1 ≤ s ∧ s ≤ 6 ∧ p < ML ∧ RetV (.int (plen s p : Int)) H Q
theorem wi_law {s b : Nat} (hs : 2 ≤ s) : wi s b = if s + 1 ≤ 2 ^ b then (2 ^ b - s - 1) / (s - 1) + 1 else 0 := by
  unfold wi
  by_cases c0 : b = 0
  · subst c0
    rw [if_pos rfl, if_neg (by show ¬ s + 1 ≤ 1; omega)]
  · have h2 : 2 ≤ 2 ^ b := by
      have : 2 ^ 1 ≤ 2 ^ b := Nat.pow_le_pow_right (by decide) (by omega)
      omega
    rw [if_neg c0]
    by_cases c : s + 1 ≤ 2 ^ b
    · rw [if_pos c]
      have e : 2 ^ b - 2 = (2 ^ b - s - 1) + (s - 1) := by omega
      rw [e, Nat.add_div_right _ (by omega)]
    · rw [if_neg c]
      exact Nat.div_eq_of_lt (by omega)
theorem has_lpr (F : At K mg "_law_pressed" s__law_pressed) (T : Top K mg) (h1 : Has P w K mg base "_law_width" s__law_width ["options"] 1 spLw4) : Has P w K mg base "_law_pressed" s__law_pressed ["letters", "many"] 2 spLpr := by
  obtain ⟨f, fd, F, m⟩ := F.ex
  obtain ⟨f1, fd1, _, G__law_width, b__law_width, m__law_width, k__law_width⟩ := h1
  refine ⟨f, fd, F, F.ok S__law_pressed (fun vs H Q E h => ?_) (fun cdv A outer s H vs Q E hr h => ?_), F.binds fun _ _ _ _ _ _ us hl => match us, hl with | [_, _], _ => rfl, m, F.kp⟩
  · obtain ⟨s, p, rfl, _⟩ := h
    rfl
  obtain ⟨s, p, rfl, h1, h6, hp, q⟩ := h
  have hml := ml_is
  refine ⟨_, (pss_cons
    (ps_set (i := 2) S__law_pressed.nd rfl (Or.inl rfl) (pe_call G__law_width (hr.mono (by decide)) rfl m__law_width k__law_width b__law_width .nil pass0 (pa_cons (pe_op op_add (pv 1) pe_int) pa_nil)))
    (pss_cons
    (ps_if (pt_cmpR op_eq (pv 0) pe_int (nomark _)) (pss_one
    (ps_ret (pe_op op_add (pe_op op_add (pv 2) (pv 1)) pe_int))) pss_nil)
    (pss_cons
    (ps_set (i := 3) S__law_pressed.nd rfl (Or.inl rfl) pe_int)
    (pss_cons
    (ps_for PassesOwn.never rfl (pi_range1 rfl T.z_range (pa_cons pe_int pa_nil)) (pg_name (i := 4) S__law_pressed.nd rfl (Or.inl rfl)) (pss_cons
    (ps_set (i := 5) S__law_pressed.nd rfl (Or.inl rfl) pe_int)
    (pss_cons
    (ps_if (pt_cmpR op_ge (pv 3) (pe_op op_add (pv 0) pe_int) (nomark _)) (pss_one
    (ps_set (i := 5) S__law_pressed.nd rfl (Or.inl rfl) (pe_op op_add (pe_op op_fdivW (pe_op op_sub (pe_op op_sub (pv 3) (pv 0)) pe_int) (pe_op op_sub (pv 0) pe_int)) pe_int))) pss_nil)
    (pss_cons
    (ps_if (pt_cmpR op_gt (pv 5) (pv 1) (nomark _)) (pss_one
    ps_break) pss_nil)
    (pss_cons
    (ps_set (i := 2) S__law_pressed.nd rfl (Or.inl rfl) (pe_op op_sub (pe_op op_add (pe_op op_add (pv 2) (pv 1)) pe_int) (pv 5)))
    (pss_one
    (ps_set (i := 3) S__law_pressed.nd rfl (Or.inl rfl) (pe_op op_mul (pv 3) pe_int))))))))
    (pss_one
    (ps_ret (pv 2))))))), ?_⟩
  have e : (p : Int) + 1 = ((p + 1 : Nat) : Int) := by omega
  refine q_asg (v := .int ((wid (p + 1) : Nat) : Int)) (ev_call (ea_cons (ev_is (ev_add (ev_var rfl) ev_c) (by rw [e])) ea_nil) (sv_lw4b (n := p + 1) (by omega) (by omega))) fun H1 e1 => ?_
  refine q_when (et_eqI (ev_var rfl) ev_c) (fun hb H2 e2 => ?_) (fun hb H2 e2 => ?_)
  · have hs : s = 1 := by
      have := of_decide_eq_true hb
      omega
    subst hs
    refine s_ret (ev_is (ev_add (ev_add (ev_var rfl) (ev_var rfl)) ev_c) ?_) fun H3 e3 => q H3 ((e1.trans e2).trans e3)
    unfold plen
    rw [rcs_one]
    congr 1
    omega
  have hs : 2 ≤ s := by
    have := of_decide_eq_false hb
    omega
  refine q_asg (v := .int ((2 ^ 0 : Nat) : Int)) ev_c fun H3 e3 => ?_
  refine q_forR1 (ea_cons ev_c ea_nil) (by decide) (fun b σ' H' => (∃ u4 u5, σ' = [some (.int (s : Int)), some (.int (p : Int)), some (.int ((wid (p + 1) + tot s (p + 1) b : Nat) : Int)), some (.int ((2 ^ b : Nat) : Int)), u4, u5]) ∧ Ex H H' ∧ ∀ k, k < b → wi s k < p + 1) ?_ ?_ ?_
  · intro H4 e4
    exact ⟨⟨none, none, rfl⟩, ((e1.trans e2).trans e3).trans e4, fun k hk => absurd hk (Nat.not_lt_zero _)⟩
  · intro b σ' H' hb z
    obtain ⟨⟨u4, u5, rfl⟩, e4, hall⟩ := z
    have hwl := wi_law (b := b) hs
    refine q_asg (v := .int 0) ev_c fun H5 e5 => ?_
    refine q_ifAsg (v := .int ((wi s b : Nat) : Int)) (b := decide (s + 1 ≤ 2 ^ b)) (et_is (et_ge (ev_var rfl) (ev_add (ev_var rfl) ev_c)) (decide_eq_decide.mpr (by omega))) (fun hc => ?_) (fun hc => ?_) fun H6 e6 => ?_
    · have hc := of_decide_eq_true hc
      rw [hwl, if_pos hc]
      refine ev_is (ev_add (ev_div (i := ((2 ^ b : Nat) : Int) - (s : Int) - 1) (j := (s : Int) - 1) (by omega) (by omega) (ev_sub (ev_sub (ev_var rfl) (ev_var rfl)) ev_c) (ev_sub (ev_var rfl) ev_c)) ev_c) ?_
      rw [Int.natCast_add, Int.natCast_ediv]
      congr 3
      · omega
      · omega
    · have hc := of_decide_eq_false hc
      rw [hwl, if_neg hc]
      rfl
    have e46 := (e4.trans e5).trans e6
    refine q_when (et_gt (ev_var rfl) (ev_var rfl)) (fun hc H7 e7 => ?_) (fun hc H7 e7 => ?_)
    · have hw : p + 1 ≤ wi s b := by
        have := of_decide_eq_true hc
        omega
      refine s_ret (ev_is (ev_var rfl) ?_) fun H8 e8 => q H8 ((e46.trans e7).trans e8)
      rw [tot_is hs b (p + 1) fun _ => hw]
      unfold plen
      rw [Nat.add_comm]
    · have hw : wi s b < p + 1 := by
        have := of_decide_eq_false hc
        omega
      refine q_asg (v := .int ((wid (p + 1) + tot s (p + 1) (b + 1) : Nat) : Int)) (ev_is (ev_sub (ev_add (ev_add (ev_var rfl) (ev_var rfl)) ev_c) (ev_var rfl)) ?_) fun H8 e8 => ?_
      · show V.int (((wid (p + 1) + tot s (p + 1) b : Nat) : Int) + (p : Int) + 1 - (wi s b : Int)) = V.int ((wid (p + 1) + (tot s (p + 1) b + (p + 1 - wi s b)) : Nat) : Int)
        congr 1
        omega
      refine s_asg (v := .int ((2 ^ (b + 1) : Nat) : Int)) (ev_is (ev_mulR (by decide) (by decide) (ev_var rfl) ev_c) (by rw [Nat.pow_succ, Int.natCast_mul]; rfl)) fun H9 e9 => ⟨⟨_, _, rfl⟩, ((e46.trans e7).trans e8).trans e9, fun k hk => ?_⟩
      by_cases c : k < b
      · exact hall k c
      · have : k = b := by omega
        rw [this]
        exact hw
  · intro σ' H' z
    obtain ⟨⟨u4, u5, rfl⟩, e4, hall⟩ := z
    exfalso
    have := wi_big hs h6 (show p + 1 ≤ ML by omega) (hall 150 (by decide))
    omega
theorem sv_lpr {s p : Nat} {H : Hp} (h1 : 1 ≤ s) (h6 : s ≤ 6) (hp : p < ML) : SpV spLpr ([V.int (s : Int), V.int (p : Int)] ++ []) H (.int (plen s p : Int)) := fun _ _ _ q _ => ⟨s, p, rfl, h1, h6, hp, q⟩
theorem sv_lfl {v L m : Nat} {H : Hp} (hv : 1 ≤ v) (hv2 : v ≤ 400) (hL : L < ML) (hM : OvM v L m) : SpV spLfl ([V.int (v : Int), V.int (L : Int)] ++ []) H (.int (m : Int)) := fun _ _ _ q _ => ⟨v, L, m, rfl, hv, hv2, hL, hM, q⟩
/-! ### _law_words_total -/
def spWto : Sp := fun vs H Q _ => ∃ v m : Nat, vs = [.int (v : Int), .int (m : Int)] ∧ 1 ≤ v ∧ v ≤ 400 ∧ m < ML ∧ RetV (.int ((bg v m : Nat) : Int)) H Q
theorem has_wto (F : At K mg "_law_words_total" s__law_words_total) : Has P w K mg base "_law_words_total" s__law_words_total ["kinds", "many"] 1 spWto := by
  obtain ⟨f, fd, F, m⟩ := F.ex
  refine ⟨f, fd, F, F.ok S__law_words_total (fun vs H Q E h => ?_) (fun cdv A outer s H vs Q E hr h => ?_), F.binds fun _ _ _ _ _ _ us hl => match us, hl with | [_, _], _ => rfl, m, F.kp⟩
  · obtain ⟨v, m, rfl, _⟩ := h
    rfl
  obtain ⟨v, m, rfl, hv, hv2, hm, q⟩ := h
  rw [ml_is] at hm
  refine ⟨_, (pss_cons
    (ps_set (i := 2) S__law_words_total.nd rfl (Or.inl rfl) (pe_op op_fdivW (pv 1) (pv 0)))
    (pss_one
    (ps_ret (pe_op op_add (pe_op op_fdivW (pe_op op_mulW (pe_op op_mulW (pv 0) (pv 2)) (pe_op op_add (pv 2) pe_int)) pe_int) (pe_op op_mulW (pe_op op_sub (pv 1) (pe_op op_mulW (pv 0) (pv 2))) (pe_op op_add (pv 2) pe_int)))))), ?_⟩
  refine q_asg (v := .int ((m / v : Nat) : Int)) (ev_is (ev_div (j := (v : Int)) (by omega) (by omega) (ev_var rfl) (ev_var rfl)) (by rw [Int.natCast_ediv])) fun H1 e1 => ?_
  have hd := Nat.div_add_mod m v
  have hr := Nat.mod_lt m (show 0 < v by omega)
  have hle := Nat.div_le_self m v
  generalize m / v = a at hd hle
  have hb := bg_layer hv a (m % v) (by omega)
  rw [hd] at hb
  refine s_ret (ev_is (ev_add (ev_half hv hv2 (by omega) (ev_var rfl) (ev_var rfl) (ev_var rfl)) (ev_mulW (i := ((m % v : Nat) : Int)) (j := (a : Int) + 1) (by omega) (by omega) (ev_is (ev_sub (ev_var rfl) (ev_mulW (i := (v : Int)) (j := (a : Int)) (by omega) (by omega) (ev_var rfl) (ev_var rfl))) ?_) (ev_add (ev_var rfl) ev_c))) ?_) fun H2 e2 => q H2 (e1.trans e2)
  · rw [← Int.natCast_mul]
    congr 1
    omega
  · rw [hb, Int.natCast_add, Int.natCast_mul]
    rfl
theorem sv_wto {v m : Nat} {H : Hp} (hv : 1 ≤ v) (hv2 : v ≤ 400) (hm : m < ML) : SpV spWto ([V.int (v : Int), V.int (m : Int)] ++ []) H (.int ((bg v m : Nat) : Int)) := fun _ _ _ q _ => ⟨v, m, rfl, hv, hv2, hm, q⟩
/-! ### _law_overtaken -/
def spLov : Sp := fun vs H Q _ => ∃ (s v t L : Nat) (b : Bool), vs = [.int (s : Int), .int (v : Int), .int (t : Int), .int (L : Int)] ∧ 1 ≤ s ∧ s ≤ 6 ∧ 1 ≤ v ∧ v ≤ 400 ∧ 1 ≤ t ∧ t ≤ 4000 ∧ L < ML ∧ (b = true ↔ Ov s v t L) ∧ RetV (.bl b) H Q
theorem has_lov (F : At K mg "_law_overtaken" s__law_overtaken) (h1 : Has P w K mg base "_law_fill" s__law_fill ["kinds", "length"] 1 spLfl) (h2 : Has P w K mg base "_law_pressed" s__law_pressed ["letters", "many"] 2 spLpr) :
    Has P w K mg base "_law_overtaken" s__law_overtaken ["letters", "kinds", "places", "length"] 3 spLov := by
  obtain ⟨f, fd, F, m⟩ := F.ex
  obtain ⟨f1, fd1, _, G__law_fill, b__law_fill, m__law_fill, k__law_fill⟩ := h1
  obtain ⟨f2, fd2, _, G__law_pressed, b__law_pressed, m__law_pressed, k__law_pressed⟩ := h2
  refine ⟨f, fd, F, F.ok S__law_overtaken (fun vs H Q E h => ?_) (fun cdv A outer s H vs Q E hr h => ?_), F.binds fun _ _ _ _ _ _ us hl => match us, hl with | [_, _, _, _], _ => rfl, m, F.kp⟩
  · obtain ⟨s, v, t, L, b, rfl, _⟩ := h
    rfl
  obtain ⟨s, v, t, L, b, rfl, h1, h6, hv, hv2, ht, ht2, hL, hb, q⟩ := h
  obtain ⟨m, hM⟩ := atm_ex hv L
  have hmL : m < ML := by
    have := bg_ge v m
    have := hM.1
    omega
  refine ⟨_, (pss_one
    (ps_ret (pe_cmpR op_lt (pe_call G__law_pressed (hr.mono (by decide)) rfl m__law_pressed k__law_pressed b__law_pressed .nil pass0 (pa_cons (pv 0) (pa_cons (pe_call G__law_fill (hr.mono (by decide)) rfl m__law_fill k__law_fill b__law_fill .nil pass0 (pa_cons (pv 1) (pa_cons (pv 3) pa_nil))) pa_nil))) (pe_op op_fdivW (pv 3) (pv 2)) (nomark _)))), ?_⟩
  refine s_ret (ev_is (ev_op (ev_call (ea_cons (ev_var rfl) (ea_cons (ev_call (ea_cons (ev_var rfl) (ea_cons (ev_var rfl) ea_nil)) (sv_lfl hv hv2 hL hM)) ea_nil)) (sv_lpr h1 h6 hmL)) (ev_is (ev_div (j := (t : Int)) (by omega) (by omega) (ev_var rfl) (ev_var rfl)) (by rw [← Int.natCast_ediv])) rv_I0) ?_) q
  congr 1
  have key := ov_iff (s := s) ht hM
  cases b with
  | true =>
    refine decide_eq_true ?_
    have := key.mp (hb.mp rfl)
    omega
  | false =>
    refine decide_eq_false fun hlt => ?_
    have : plen s m < L / t := by omega
    exact Bool.false_ne_true (hb.mpr (key.mpr this))
theorem sv_lov {s v t L : Nat} {H : Hp} (b : Bool) (h1 : 1 ≤ s) (h6 : s ≤ 6) (hv : 1 ≤ v) (hv2 : v ≤ 400) (ht : 1 ≤ t) (ht2 : t ≤ 4000) (hL : L < ML) (hb : b = true ↔ Ov s v t L) : SpV spLov ([V.int (s : Int), V.int (v : Int), V.int (t : Int), V.int (L : Int)] ++ []) H (.bl b) := fun _ _ _ q _ => ⟨s, v, t, L, b, rfl, h1, h6, hv, hv2, ht, ht2, hL, hb, q⟩
end
end Ver
namespace Ver
open PySem PySem.Spec PyProof.Rows L2 Evl
section
variable {K : PySem.W.Frag} {σ : L2.St} {H : Hp} {ta tb tc te tl : TE} {tz : TS} {D : Ends}
/-- a list made over a text -/
theorem el_lcS {x : List Nat} {j : Nat} {vs : List Nat} (v : Nat → V) (h : Ev tl σ H (tx x)) (hz : x.length ≤ 40000) (hw : ∀ a, wipe ((wipe σ vs).set j (some a)) vs = wipe σ vs)
    (he : ∀ (i c : Nat) H1, Ex H H1 → x[i]? = some c → Ev te ((wipe σ vs).set j (some (tx [c]))) H1 (v c)) :
    EvL (tLc (iStr tl) (gName j) tYes te vs) σ H (x.map v) := fun H0 e Q q => h H0 e _ fun H1 e1 => ⟨SX.S x, rfl, fun Dl hD => by
  have hn : (SX.S x).cps.size = x.length := by
    show x.toArray.size = _
    simp
  let g : Nat → V := fun i => v (x.getD i 0)
  refine lc_it (walk_str (z := SX.S x)) (Cw H1 (fun _ => true) g Dl) ⟨hD, Ex.new hD, upd_same⟩ (fun _ _ _ _ => trivial) (fun i z H' H2 hi p yp => ?_) (fun H' p => ?_)
  · obtain ⟨rfl, c, hc, rfl⟩ := yp
    have hc2 : x[i]? = some c := by
      have : (SX.S x).cps.toList[i]? = some c := by rw [Array.getElem?_toList]; exact hc
      exact this
    have hlt := (List.getElem?_eq_some_iff.mp hc2).1
    have eg : g i = v c := by
      show v (x.getD i 0) = v c
      rw [List.getD_eq_getElem?_getD, hc2]
      rfl
    refine ⟨hw _, cw_turn p (by omega) et_yes fun _ => ?_⟩
    rw [eg]
    exact he i c H1 (e.trans e1) hc2
  · rw [hn] at p
    have p3 := p.2.2
    rw [given_all] at p3
    have ee : (List.range x.length).map g = x.map v := by
      refine List.ext_getElem (by simp) fun i h1 h2 => ?_
      have hi : i < x.length := by simpa using h2
      rw [List.getElem_map, List.getElem_map, List.getElem_range]
      show v (x.getD i 0) = _
      rw [List.getD_eq_getElem?_getD, List.getElem?_eq_getElem hi]
      rfl
    rw [ee] at p3
    exact q Dl H' (fresh_back e1 p.1) (e1.trans p.2.1) p3⟩
/-- a call whose second argument of three is a new list -/
theorem ev_call3L {sp : Sp} {E : XK} {x y z : V} {xs dvs : List V} (h : Ev ta σ H x) (hl : EvL tl σ H xs) (h3 : ∀ H1, Ex H H1 → Ev tb σ H1 y) (hs : ∀ p H1, Ex H H1 → H1 p = some (.lst xs) → SpV sp ([x, .ref p, y] ++ dvs) H1 z) : Ev (tCall sp dvs E (tCons ta (tCons tl (tCons tb tNil)))) σ H z := fun H1 e Q q =>
  h H1 e _ fun H2 e2 => hl H2 (e.trans e2) _ fun p H3 hp e3 g3 => h3 H3 ((e.trans e2).trans e3) H3 (Ex.refl H3) _ fun H4 e4 => hs p H4 (((e.trans e2).trans e3).trans e4) (e4 _ _ g3) H4 (Ex.refl H4) Q (fun H5 e5 => q H5 (((e2.trans e3).trans e4).trans e5)) E
/-- len of a new text, parts of texts -/
theorem over_cut {al l : List Nat} {lo hi : Option Int} (h : ∀ c ∈ l, c ∈ al) : ∀ c ∈ cutL l lo hi, c ∈ al := fun c hc => h c (cutL_sub c hc)
theorem over_app {al a b : List Nat} (h1 : ∀ c ∈ a, c ∈ al) (h2 : ∀ c ∈ b, c ∈ al) : ∀ c ∈ a ++ b, c ∈ al := fun c hc => (List.mem_append.mp hc).elim (h1 c) (h2 c)
theorem over_rep {al l : List Nat} {n : Nat} (h : ∀ c ∈ l, c ∈ al) : ∀ c ∈ (List.replicate n l).flatten, c ∈ al := fun c hc => by
  obtain ⟨m, hm, hc2⟩ := List.mem_flatten.mp hc
  rw [List.eq_of_mem_replicate hm] at hc2
  exact h c hc2
theorem rep_len {l : List Nat} {n : Nat} : (List.replicate n l).flatten.length = n * l.length := by
  induction n with
  | zero => simp
  | succ n ih => rw [List.replicate_succ, List.flatten_cons, List.length_append, ih, Nat.add_mul, Nat.one_mul, Nat.add_comm]
/-- a text over al, no longer than n -/
structure Word (al : List Nat) (n : Nat) (v : List Nat) : Prop where
  over : ∀ c ∈ v, c ∈ al
  len : v.length ≤ n
theorem Word.cut {al v : List Nat} {n m : Nat} (h : ∀ c ∈ v, c ∈ al) (hm : m ≤ n) : Word al n (cutL v none (some (m : Int))) := ⟨over_cut h, by rw [cutL_to, List.length_take]; omega⟩
theorem nodup_sub : ∀ (a b : List Nat), a.Nodup → (∀ x ∈ a, x ∈ b) → a.length ≤ b.length
  | [], b, _, _ => Nat.zero_le _
  | x :: r, b, nd, h => by
    have hx := h x (List.mem_cons_self ..)
    have ih := nodup_sub r (b.erase x) (List.nodup_cons.mp nd).2 fun y hy => (List.mem_erase_of_ne (fun (e : y = x) => (List.nodup_cons.mp nd).1 (e ▸ hy))).mpr (h y (List.mem_cons_of_mem _ hy))
    have e := List.length_erase_of_mem hx
    have hp : 0 < b.length := List.length_pos_of_mem hx
    show r.length + 1 ≤ _
    omega
end
end Ver
namespace Ver
open PySem PySem.Spec PyProof.Rows L2 Evl
section
variable {P : Program} {w : World} {K : PySem.W.Frag} {mg : Str → Option Value} {base : Heap}
/-! ### _law_giant -/
structure GRow (ns : List Int) : Prop where
  len : ns.length = 31
  top : 0 ≤ at0 ns 0 ∧ at0 ns 0 < 32
  dig : ∀ i, 1 ≤ i → i < 31 → 0 ≤ at0 ns i ∧ at0 ns i < 10
def GZ : List Int := [32] ++ List.replicate 30 10
theorem gz_len : GZ.length = 31 := by decide +kernel
theorem gz_pos : ∀ i, i < 31 → 0 < at0 GZ i ∧ at0 GZ i < 100 := by decide +kernel
theorem gz_10 : ∀ i, i < 31 → 1 ≤ i → at0 GZ i = 10 := by decide +kernel
theorem g_row (c : Int) : GRow (digits c GZ) := by
  have h := fun i (hi : i < 31) => digits_at (c := c) (ss := GZ) (i := i) (by rw [gz_len]; exact hi) (gz_pos i hi).1
  refine ⟨by rw [digits_len, gz_len], ?_, fun i h3 h4 => ?_⟩
  · have := h 0 (by decide)
    have e : at0 GZ 0 = 32 := by decide +kernel
    omega
  · have := h i h4
    have e := gz_10 i h4 h3
    omega
def spGia (K : PySem.W.Frag) : Sp := fun vs H Q _ => ∃ (a : Addr) (ns : List Int), vs = [.ref a] ∧ SqL K H a (ns.map V.int) ∧ GRow ns ∧ ∀ x : Int, 0 ≤ x → x ≤ 1000000000000000000000000000000 → RetV (.int x) H Q
theorem has_gia (F : At K mg "_law_giant" s__law_giant) (T : Top K mg) : Has P w K mg base "_law_giant" s__law_giant ["row"] 1 (spGia K) := by
  obtain ⟨f, fd, F, m⟩ := F.ex
  refine ⟨f, fd, F, F.ok S__law_giant (fun vs H Q E h => ?_) (fun cdv A outer s H vs Q E hr h => ?_), F.binds fun _ _ _ _ _ _ us hl => match us, hl with | [_], _ => rfl, m, F.kp⟩
  · obtain ⟨a, ns, rfl, _⟩ := h
    rfl
  obtain ⟨a, ns, rfl, hS, ⟨hlen, htop, hdig⟩, q⟩ := h
  refine ⟨_, (pss_cons
    (ps_if (pt_cmpR op_eq (pe_ix (r := rIxL K) ix_list (pv 0) pe_int (fun _ _ => rfl)) pe_int (nomark _)) (pss_one
    (ps_ret (pe_op op_pow pe_int pe_int))) pss_nil)
    (pss_cons
    (ps_set (i := 1) S__law_giant.nd rfl (Or.inl rfl) pe_int)
    (pss_cons
    (ps_for PassesOwn.never rfl (pi_range1 rfl T.z_range (pa_cons (pe_ix (r := rIxL K) ix_list (pv 0) pe_int (fun _ _ => rfl)) pa_nil)) (pg_name (i := 2) S__law_giant.nd rfl (Or.inl rfl)) (pss_one
    (ps_set (i := 1) S__law_giant.nd rfl (Or.inl rfl) (pe_op op_add (pe_op op_mul (pv 1) pe_int) (pe_ix (r := rIxL K) ix_list (pv 0) (pe_op op_add pe_int (pv 2)) (fun _ _ => rfl))))))
    (pss_one
    (ps_ret (pv 1)))))), ?_⟩
  have hP : CPow 10 30 := ⟨by decide, by decide, by decide⟩
  have e30 : (10 : Int) ^ (30 : Int).toNat = 1000000000000000000000000000000 := rfl
  refine q_when (et_eqI (ev_atI (i := 0) hS (by omega) rfl (ev_var rfl) ev_c) ev_c) (fun hb H1 e1 => ?_) (fun hb H1 e1 => ?_)
  · exact s_ret (ev_op ev_c ev_c (rv_I hP)) fun H2 e2 => q _ (by rw [e30]; decide) (by rw [e30]; decide) H2 (e1.trans e2)
  have h30 : at0 ns 0 ≤ 30 := by
    have := of_decide_eq_false hb
    omega
  refine q_asg (v := .int ((0 : Nat) : Int)) ev_c fun H2 e2 => ?_
  refine q_forR1 (n := at0 ns 0) (ea_cons (ev_atI (i := 0) (ex_l (e1.trans e2) hS) (by omega) rfl (ev_var rfl) ev_c) ea_nil) (by omega) (fun i σ' H' => (∃ (u : Option V) (x : Nat), σ' = [some (.ref a), some (.int (x : Int)), u] ∧ x < 10 ^ i) ∧ Ex H H') ?_ ?_ ?_
  · intro H3 e3
    exact ⟨⟨none, 0, rfl, by decide⟩, (e1.trans e2).trans e3⟩
  · intro i σ' H' hi z
    obtain ⟨⟨u, x, rfl, hx⟩, e3⟩ := z
    have hd := hdig (1 + i) (by omega) (by omega)
    obtain ⟨d, hd2⟩ : ∃ d : Nat, at0 ns (1 + i) = (d : Int) := ⟨(at0 ns (1 + i)).toNat, by omega⟩
    refine s_asg (v := .int ((x * 10 + d : Nat) : Int)) (ev_is (ev_add (ev_mulR (by decide) (by decide) (ev_var rfl) ev_c) (ev_atI (i := 1 + i) (ex_l e3 hS) (by omega) (by omega) (ev_var rfl) (ev_add ev_c (ev_var rfl)))) ?_) fun H4 e4 => ⟨⟨_, x * 10 + d, rfl, ?_⟩, e3.trans e4⟩
    · rw [hd2]
      congr 1
    · rw [Nat.pow_succ]
      omega
  · intro σ' H' z
    obtain ⟨⟨u, x, rfl, hx⟩, e3⟩ := z
    have : 10 ^ (at0 ns 0).toNat ≤ 10 ^ 30 := Nat.pow_le_pow_right (by decide) (by omega)
    have h2 : (10 : Nat) ^ 30 = 1000000000000000000000000000000 := by decide +kernel
    exact s_ret (ev_var rfl) fun H4 e4 => q _ (by omega) (by omega) H4 (e3.trans e4)
/-! ### _law_least_length -/
def spLl (K : PySem.W.Frag) : Sp := fun vs H Q _ => ∃ (a b : Addr) (ns bs : List Int) (s v t A : Nat), vs = [.ref a, .int (A : Int), .ref b] ∧ SqL K H a (ns.map V.int) ∧ SqL K H b (bs.map V.int) ∧ ns.length = 3 ∧ 1 + at0 ns 0 = (s : Int) ∧ 1 + at0 ns 1 = (v : Int) ∧ 1 + at0 ns 2 = (t : Int) ∧
  1 ≤ s ∧ s ≤ 6 ∧ 1 ≤ v ∧ v ≤ 400 ∧ 1 ≤ t ∧ t ≤ 4000 ∧ Lst s v t A ∧ A ≤ 100000000000 ∧ (∀ x ∈ bs, 0 ≤ x ∧ x ≤ 1000000000000000000000000000000) ∧ RetV (.bl true) H Q
theorem has_ll (F : At K mg "_law_least_length" s__law_least_length) (T : Top K mg) (h1 : Has P w K mg base "_law_whole" s__law_whole ["value"] 1 spWhole) (h2 : Has P w K mg base "_law_fill" s__law_fill ["kinds", "length"] 1 spLfl) (h3 : Has P w K mg base "_law_words_total" s__law_words_total ["kinds", "many"] 1 spWto)
    (h4 : Has P w K mg base "_law_overtaken" s__law_overtaken ["letters", "kinds", "places", "length"] 3 spLov) : Has P w K mg base "_law_least_length" s__law_least_length ["row", "told", "beyond"] 4 (spLl K) := by
  obtain ⟨f, fd, F, m⟩ := F.ex
  obtain ⟨f1, fd1, _, G__law_whole, b__law_whole, m__law_whole, k__law_whole⟩ := h1
  obtain ⟨f2, fd2, _, G__law_fill, b__law_fill, m__law_fill, k__law_fill⟩ := h2
  obtain ⟨f3, fd3, _, G__law_words_total, b__law_words_total, m__law_words_total, k__law_words_total⟩ := h3
  obtain ⟨f4, fd4, _, G__law_overtaken, b__law_overtaken, m__law_overtaken, k__law_overtaken⟩ := h4
  refine ⟨f, fd, F, F.ok S__law_least_length (fun vs H Q E h => ?_) (fun cdv A outer s H vs Q E hr h => ?_), F.binds fun _ _ _ _ _ _ us hl => match us, hl with | [_, _, _], _ => rfl, m, F.kp⟩
  · obtain ⟨a, b, ns, bs, s, v, t, A, rfl, _⟩ := h
    rfl
  obtain ⟨a, b, ns, bs, s, v, t, A, rfl, hS, hB, h3, es, ev, et, s1, s6, v1, v2, t1, t2, hL, hA, hbs, q⟩ := h
  have hml := ml_is
  have hpos := hL.pos
  refine ⟨_, (pss_cons
    (ps_set (i := 3) S__law_least_length.nd rfl (Or.inl rfl) (pe_op op_add pe_int (pe_ix (r := rIxL K) ix_list (pv 0) pe_int (fun _ _ => rfl))))
    (pss_cons
    (ps_set (i := 4) S__law_least_length.nd rfl (Or.inl rfl) (pe_op op_add pe_int (pe_ix (r := rIxL K) ix_list (pv 0) pe_int (fun _ _ => rfl))))
    (pss_cons
    (ps_set (i := 5) S__law_least_length.nd rfl (Or.inl rfl) (pe_op op_add pe_int (pe_ix (r := rIxL K) ix_list (pv 0) pe_int (fun _ _ => rfl))))
    (pss_cons
    (ps_if (PW.pt (pw_or (pt_not (pt_val (pe_call G__law_whole (hr.mono (by decide)) rfl m__law_whole k__law_whole b__law_whole .nil pass0 (pa_cons (pv 1) pa_nil)))) (pw_or1 (pt_cmpR op_lt (pv 1) pe_int (nomark _))))) (pss_one
    (ps_ret pe_bl)) pss_nil)
    (pss_cons
    (ps_if (PW.pt (pw_or (pt_not (pt_val (pe_call G__law_overtaken (hr.mono (by decide)) rfl m__law_overtaken k__law_overtaken b__law_overtaken .nil pass0 (pa_cons (pv 3) (pa_cons (pv 4) (pa_cons (pv 5) (pa_cons (pv 1) pa_nil))))))) (pw_or1 (pt_val (pe_call G__law_overtaken (hr.mono (by decide)) rfl m__law_overtaken k__law_overtaken b__law_overtaken .nil pass0 (pa_cons (pv 3) (pa_cons (pv 4) (pa_cons (pv 5) (pa_cons (pe_op op_sub (pv 1) pe_int) pa_nil))))))))) (pss_one
    (ps_ret pe_bl)) pss_nil)
    (pss_cons
    (ps_set (i := 6) S__law_least_length.nd rfl (Or.inl rfl) (pe_call G__law_fill (hr.mono (by decide)) rfl m__law_fill k__law_fill b__law_fill .nil pass0 (pa_cons (pv 4) (pa_cons (pv 1) pa_nil))))
    (pss_cons
    (ps_for PassesOwn.never rfl (pi_range1 rfl T.z_range (pa_cons pe_int pa_nil)) (pg_name (i := 7) S__law_least_length.nd rfl (Or.inl rfl)) (pss_cons
    (ps_set (i := 8) S__law_least_length.nd rfl (Or.inl rfl) (pe_call G__law_words_total (hr.mono (by decide)) rfl m__law_words_total k__law_words_total b__law_words_total .nil pass0 (pa_cons (pv 4) (pa_cons (pe_op op_add (pe_op op_add (pv 6) pe_int) (pv 7)) pa_nil))))
    (pss_one
    (ps_if (pt_not (pt_val (pe_call G__law_overtaken (hr.mono (by decide)) rfl m__law_overtaken k__law_overtaken b__law_overtaken .nil pass0 (pa_cons (pv 3) (pa_cons (pv 4) (pa_cons (pv 5) (pa_cons (pv 8) pa_nil))))))) (pss_one
    (ps_ret pe_bl)) pss_nil))))
    (pss_cons
    (ps_for PassesOwn.never rfl (pi_list (pv 2)) (pg_name (i := 9) S__law_least_length.nd rfl (Or.inl rfl)) (pss_cons
    (ps_if (pt_not (pt_val (pe_call G__law_overtaken (hr.mono (by decide)) rfl m__law_overtaken k__law_overtaken b__law_overtaken .nil pass0 (pa_cons (pv 3) (pa_cons (pv 4) (pa_cons (pv 5) (pa_cons (pe_op op_add (pv 1) (pv 9)) pa_nil))))))) (pss_one
    (ps_ret pe_bl)) pss_nil)
    (pss_one
    (ps_if (PW.pt (pw_and (pt_cmpR op_gt (pv 9) pe_int (nomark _)) (pw_and1 (pt_not (pt_val (pe_call G__law_overtaken (hr.mono (by decide)) rfl m__law_overtaken k__law_overtaken b__law_overtaken .nil pass0 (pa_cons (pv 3) (pa_cons (pv 4) (pa_cons (pv 5) (pa_cons (pe_op op_sub (pe_op op_add (pv 1) (pv 9)) pe_int) pa_nil)))))))))) (pss_one
    (ps_ret pe_bl)) pss_nil))))
    (pss_one
    (ps_ret pe_bl)))))))))), ?_⟩
  refine q_asg (v := .int (s : Int)) (ev_is (ev_add ev_c (ev_atI (i := 0) hS (by omega) rfl (ev_var rfl) ev_c)) (by rw [es])) fun H1 e1 => ?_
  refine q_asg (v := .int (v : Int)) (ev_is (ev_add ev_c (ev_atI (i := 1) (ex_l e1 hS) (by omega) rfl (ev_var rfl) ev_c)) (by rw [ev])) fun H2 e2 => ?_
  refine q_asg (v := .int (t : Int)) (ev_is (ev_add ev_c (ev_atI (i := 2) (ex_l (e1.trans e2) hS) (by omega) rfl (ev_var rfl) ev_c)) (by rw [et])) fun H3 e3 => ?_
  have e13 := (e1.trans e2).trans e3
  refine q_skip (et_is (et_or (et_not (et_B (ev_call (ea_cons (ev_var rfl) ea_nil) sv_whole))) (fun _ => et_lt (ev_var rfl) ev_c)) (by rw [decide_eq_false (show ¬ (A : Int) < 1 by omega)]; rfl)) fun H4 e4 => ?_
  have e14 := e13.trans e4
  have ov : ∀ {H' : Hp} {L : Nat} {z : Int}, A ≤ L → L < ML → z = (L : Int) → SpV spLov ([V.int (s : Int), V.int (v : Int), V.int (t : Int), V.int z] ++ []) H' (.bl true) := fun h h' e => by
    rw [e]
    exact sv_lov true s1 s6 v1 v2 t1 t2 h' ⟨fun _ => hL.all _ h, fun _ => rfl⟩
  have notov : ∀ {H' : Hp} {z : Int}, z = ((A - 1 : Nat) : Int) → SpV spLov ([V.int (s : Int), V.int (v : Int), V.int (t : Int), V.int z] ++ []) H' (.bl false) := fun e => by
    rw [e]
    exact sv_lov false s1 s6 v1 v2 t1 t2 (by omega) ⟨fun h => (nomatch h), fun h => absurd h hL.not⟩
  refine q_skip (et_is (et_or (et_not (et_B (ev_call (ea_cons (ev_var rfl) (ea_cons (ev_var rfl) (ea_cons (ev_var rfl) (ea_cons (ev_var rfl) ea_nil)))) (ov (L := A) (Nat.le_refl _) (by omega) rfl)))) (fun _ => et_B (ev_call (ea_cons (ev_var rfl) (ea_cons (ev_var rfl) (ea_cons (ev_var rfl) (ea_cons (ev_sub (ev_var rfl) ev_c) ea_nil)))) (notov (by omega))))) rfl) fun H5 e5 => ?_
  obtain ⟨M, hM⟩ := atm_ex v1 A
  have hMA : M ≤ A := by
    have := bg_ge v M
    have := hM.1
    omega
  refine q_asg (v := .int (M : Int)) (ev_call (ea_cons (ev_var rfl) (ea_cons (ev_var rfl) ea_nil)) (sv_lfl v1 v2 (by omega) hM)) fun H6 e6 => ?_
  have e16 := (e14.trans e5).trans e6
  refine q_forR1 (ea_cons ev_c ea_nil) (by decide) (fun i σ' H' => (∃ u7 u8, σ' = [some (.ref a), some (.int (A : Int)), some (.ref b), some (.int (s : Int)), some (.int (v : Int)), some (.int (t : Int)), some (.int (M : Int)), u7, u8, none]) ∧ Ex H H') ?_ ?_ ?_
  · intro H7 e7
    exact ⟨⟨none, none, rfl⟩, e16.trans e7⟩
  · intro i σ' H' hi z
    obtain ⟨⟨u7, u8, rfl⟩, e7⟩ := z
    have hbl := bg_le v (M + 1 + i)
    have hbm := bg_mono (v := v) (show M + 1 ≤ M + 1 + i by omega)
    have hM2 := hM.2
    have hcap : (M + 1 + i) * (M + 1 + i + 1) ≤ 100000000401 * 100000000402 := Nat.mul_le_mul (by omega) (by omega)
    refine q_asg (v := .int ((bg v (M + 1 + i) : Nat) : Int)) (ev_call (ea_cons (ev_var rfl) (ea_cons (ev_is (ev_add (ev_add (ev_var rfl) ev_c) (ev_var rfl)) (show V.int ((M : Int) + 1 + (i : Int)) = V.int ((M + 1 + i : Nat) : Int) from by congr 1)) ea_nil)) (sv_wto v1 v2 (by omega))) fun H8 e8 => ?_
    exact s_skip (et_is (et_not (et_B (ev_call (ea_cons (ev_var rfl) (ea_cons (ev_var rfl) (ea_cons (ev_var rfl) (ea_cons (ev_var rfl) ea_nil)))) (ov (L := bg v (M + 1 + i)) (by omega) (by omega) rfl)))) rfl) fun H9 e9 => ⟨⟨_, _, rfl⟩, (e7.trans e8).trans e9⟩
  intro σ' H7 z
  obtain ⟨⟨u7, u8, rfl⟩, e7⟩ := z
  refine q_forLn (xs := bs.map V.int) (ev_var rfl) (ex_l e7 hB) (fun i σ' H' => (∃ u9, σ' = [some (.ref a), some (.int (A : Int)), some (.ref b), some (.int (s : Int)), some (.int (v : Int)), some (.int (t : Int)), some (.int (M : Int)), u7, u8, u9]) ∧ Ex H H') ?_ ?_ ?_ ?_
  · intro H8 e8
    exact ⟨⟨none, rfl⟩, e7.trans e8⟩
  · intro i σ' H' _ z
    exact ex_l z.2 hB
  · intro i x σ' H' hx z
    obtain ⟨⟨u9, rfl⟩, e8⟩ := z
    obtain ⟨y, hy, rfl⟩ := List.mem_map.mp (List.mem_of_getElem? hx)
    obtain ⟨y0, y1⟩ := hbs y hy
    obtain ⟨n, rfl⟩ : ∃ n : Nat, y = (n : Int) := ⟨y.toNat, by omega⟩
    refine q_skip (et_is (et_not (et_B (ev_call (ea_cons (ev_var rfl) (ea_cons (ev_var rfl) (ea_cons (ev_var rfl) (ea_cons (ev_add (ev_var rfl) (ev_var rfl)) ea_nil)))) (ov (L := A + n) (by omega) (by omega) (by omega))))) rfl) fun H9 e9 => ?_
    refine s_skip (et_is (a := decide ((0 : Int) < (n : Int)) && !true) (et_and (et_gt (ev_var rfl) ev_c) (fun hb => et_not (et_B (ev_call (ea_cons (ev_var rfl) (ea_cons (ev_var rfl) (ea_cons (ev_var rfl) (ea_cons (ev_sub (ev_add (ev_var rfl) (ev_var rfl)) ev_c) ea_nil)))) (ov (L := A + n - 1) ?_ (by omega) ?_))))) (by simp)) fun H10 e10 => ⟨⟨_, rfl⟩, (e8.trans e9).trans e10⟩
    · have := of_decide_eq_true hb
      omega
    · omega
  · intro σ' H' z
    obtain ⟨⟨u9, rfl⟩, e8⟩ := z
    exact s_ret ev_c fun H9 e9 => q H9 (e8.trans e9)
theorem kb_ovt {f : Addr} {fd : FuncData} (F : Fun K "overtaken_from" "overtaken_from" s_overtaken_from f fd) : KBn K fd ["size", "variety", "standings"] 0 ["variety", "standings", "size"] (fun _ ws => ws.drop 2 ++ ws.take 2) (fun _ ws => ws.drop 2 ++ ws.take 2) := by
  obtain ⟨oc, od, kV, doc, pm, an, cdv, ct, osl, rfl, lk, hcd⟩ := F.ex
  refine ⟨fun s us ws X l1 l2 => ?_, fun r1 r2 => ?_⟩
  · match us, ws, l1, l2 with
    | [], [x, y, z], _, _ => exact .of_eq rfl
  · exact Vals.append (vals_drop 2 r2) (vals_take 2 r2)
where
  vals_drop (n : Nat) {xs : List V} {us : List Value} (r : Vals xs us) : Vals (xs.drop n) (us.drop n) := by
    induction r generalizing n with
    | nil =>
      rw [List.drop_nil, List.drop_nil]
      exact .nil
    | cons h r ih =>
      match n with
      | 0 => exact .cons h r
      | n + 1 => exact ih n
  vals_take (n : Nat) {xs : List V} {us : List Value} (r : Vals xs us) : Vals (xs.take n) (us.take n) := by
    induction r generalizing n with
    | nil =>
      rw [List.take_nil, List.take_nil]
      exact .nil
    | cons h r ih =>
      match n with
      | 0 => exact .nil
      | n + 1 => exact .cons h (ih n)
section
variable {σ : L2.St} {H : Hp} {te tl ta : TE} {D : Ends} {sp : Sp} {dvs xs : List V} {E : XK} {Q : VK}
theorem el_is {ys : List V} (h : EvL te σ H xs) (e : xs = ys) : EvL te σ H ys := by
  rw [← e]
  exact h
theorem run_call1L (hl : EvL tl σ H xs) (k : ∀ p H1, Ex H H1 → H1 p = some (.lst xs) → sp ([.ref p] ++ dvs) H1 Q E) : tCall sp dvs E (tCons tl tNil) σ H Q := hl H (Ex.refl H) _ fun p H1 _ e h1 => k p H1 e h1
theorem s_appX {l : Addr} {ys : List V} (hl : H l = some (.lst ys)) (ha : Ev ta σ H (.ref l)) (h : ∀ H1, Ex H H1 → te σ H1 fun v H2 => rAppend (.ref l) [v] H2 fun _ H3 => D.nx σ H3) : tDrop (tBM K "list" rAppend ta (tCons te tNil)) D σ H :=
  ha H (Ex.refl H) _ fun H1 e1 => ⟨Or.inl ⟨rfl, ys, sq_of (e1 l _ hl)⟩, h H1 e1⟩
end
def spLaw (K : PySem.W.Frag) : Sp := fun vs H Q _ => ∃ (a : Addr) (ns : List Int), vs = [.ref a] ∧ SqL K H a (ns.map V.int) ∧ ns.length ≤ 63 ∧ ∀ H', Q (.bl true) H'
theorem row3 {c : Int} {z : List Int} (i n : Nat) (hi : i < z.length) (hz : at0 z i = (n : Int)) (hn : 0 < n) : ∃ k : Nat, 1 + at0 (digits c z) i = (k : Int) ∧ 1 ≤ k ∧ k ≤ n := by
  have h := digits_at (c := c) (ss := z) (i := i) hi (by omega)
  exact ⟨(1 + at0 (digits c z) i).toNat, by omega, by omega, by omega⟩
theorem ok_law {f : Addr} {fd : FuncData} (F : Fun K "law" "law" s_law f fd) (T : Top K mg) (h1 : Has P w K mg base "_law_digits" s__law_digits ["cell", "sizes"] 1 (spDigits K)) (h2 : Has P w K mg base "_law_cell" s__law_cell ["script", "k"] 1 (spCell K)) (h3 : Has P w K mg base "_law_giant" s__law_giant ["row"] 1 (spGia K))
    (h4 : Has P w K mg base "overtaken_from" s_overtaken_from ["size", "variety", "standings"] 3 spOvt) (h5 : Has P w K mg base "_law_least_length" s__law_least_length ["row", "told", "beyond"] 4 (spLl K)) : FnOk P w K mg base CX0 5 f fd ["script"] (spLaw K) := by
  obtain ⟨f1, fd1, _, G__law_digits, b__law_digits, m__law_digits, k__law_digits⟩ := h1
  obtain ⟨f2, fd2, _, G__law_cell, b__law_cell, m__law_cell, k__law_cell⟩ := h2
  obtain ⟨f3, fd3, _, G__law_giant, b__law_giant, m__law_giant, k__law_giant⟩ := h3
  obtain ⟨f4, fd4, FO, G_overtaken_from, b_overtaken_from, m_overtaken_from, k_overtaken_from⟩ := h4
  obtain ⟨f5, fd5, _, G__law_least_length, b__law_least_length, m__law_least_length, k__law_least_length⟩ := h5
  have kb_overtaken_from := kb_ovt FO
  refine F.ok S_law (fun vs H Q E h => ?_) (fun cdv A outer s H vs Q E hr h => ?_)
  · obtain ⟨a, ns, rfl, _⟩ := h
    rfl
  obtain ⟨a, ns, rfl, hS, h63, q⟩ := h
  refine ⟨_, (pss_cons
    (ps_set (i := 1) S_law.nd rfl (Or.inl rfl) (pe_call G__law_digits (hr.mono (by decide)) rfl m__law_digits k__law_digits b__law_digits .nil pass0 (pa_cons (pe_call G__law_cell (hr.mono (by decide)) rfl m__law_cell k__law_cell b__law_cell .nil pass0 (pa_cons (pv 0) (pa_cons pe_int pa_nil))) (pa_cons (pe_lst (pa_cons pe_int (pa_cons pe_int (pa_cons pe_int pa_nil)))) pa_nil))))
    (pss_cons
    (ps_set (i := 2) S_law.nd rfl (Or.inl rfl) (pe_call G__law_digits (hr.mono (by decide)) rfl m__law_digits k__law_digits b__law_digits .nil pass0 (pa_cons (pe_call G__law_cell (hr.mono (by decide)) rfl m__law_cell k__law_cell b__law_cell .nil pass0 (pa_cons (pv 0) (pa_cons pe_int pa_nil))) (pa_cons (pe_lst (pa_cons pe_int (pa_cons pe_int (pa_cons pe_int pa_nil)))) pa_nil))))
    (pss_cons
    (ps_set (i := 3) S_law.nd rfl (Or.inl rfl) (pe_call G__law_digits (hr.mono (by decide)) rfl m__law_digits k__law_digits b__law_digits .nil pass0 (pa_cons (pe_call G__law_cell (hr.mono (by decide)) rfl m__law_cell k__law_cell b__law_cell .nil pass0 (pa_cons (pv 0) (pa_cons pe_int pa_nil))) (pa_cons (pe_lst (pa_cons pe_int (pa_cons pe_int pa_nil))) pa_nil))))
    (pss_cons
    (ps_for PassesOwn.never rfl (pi_range1 rfl T.z_range (pa_cons pe_int pa_nil)) (pg_name (i := 4) S_law.nd rfl (Or.inl rfl)) (pss_one
    (ps_expr (pe_bm PySem.F.plainAttrs_list PySem.F.slot_list_append PySem.F.type_list_append mt_append (pv 3) (pa_cons (pe_call G__law_giant (hr.mono (by decide)) rfl m__law_giant k__law_giant b__law_giant .nil pass0 (pa_cons (pe_call G__law_digits (hr.mono (by decide)) rfl m__law_digits k__law_digits b__law_digits .nil pass0 (pa_cons (pe_call G__law_cell (hr.mono (by decide)) rfl m__law_cell k__law_cell b__law_cell .nil pass0 (pa_cons (pv 0) (pa_cons (pe_op op_add pe_int (pv 4)) pa_nil))) (pa_cons (pe_op op_cat (pe_lst (pa_cons pe_int pa_nil)) (pe_op op_rep (pe_lst (pa_cons pe_int pa_nil)) pe_int)) pa_nil))) pa_nil)) pa_nil)))))
    (pss_cons
    (ps_set (i := 5) S_law.nd rfl (Or.inl rfl) (pe_call G_overtaken_from (hr.mono (by decide)) rfl m_overtaken_from k_overtaken_from b_overtaken_from .nil pass0 (pa_cons (pe_op op_add pe_int (pe_ix (r := rIxL K) ix_list (pv 1) pe_int (fun _ _ => rfl))) (pa_cons (pe_op op_add pe_int (pe_ix (r := rIxL K) ix_list (pv 1) pe_int (fun _ _ => rfl))) (pa_cons (pe_op op_add pe_int (pe_ix (r := rIxL K) ix_list (pv 1) pe_int (fun _ _ => rfl))) pa_nil)))))
    (pss_cons
    (ps_if (pt_not (pt_val (pe_call G__law_least_length (hr.mono (by decide)) rfl m__law_least_length k__law_least_length b__law_least_length .nil pass0 (pa_cons (pv 1) (pa_cons (pv 5) (pa_cons (pv 3) pa_nil)))))) (pss_one
    (ps_ret pe_bl)) pss_nil)
    (pss_cons
    (ps_if (pt_not (pt_val (pe_call G__law_least_length (hr.mono (by decide)) rfl m__law_least_length k__law_least_length b__law_least_length .nil pass0 (pa_cons (pv 2) (pa_cons (pe_call G_overtaken_from (hr.mono (by decide)) rfl m_overtaken_from k_overtaken_from b_overtaken_from .nil pass0 (pa_cons (pe_op op_add pe_int (pe_ix (r := rIxL K) ix_list (pv 2) pe_int (fun _ _ => rfl))) (pa_cons (pe_op op_add pe_int (pe_ix (r := rIxL K) ix_list (pv 2) pe_int (fun _ _ => rfl))) (pa_cons (pe_op op_add pe_int (pe_ix (r := rIxL K) ix_list (pv 2) pe_int (fun _ _ => rfl))) pa_nil)))) (pa_cons (pv 3) pa_nil)))))) (pss_one
    (ps_ret pe_bl)) pss_nil)
    (pss_one
    (ps_ret (pe_cmpR op_eq (pe_callN0 G_overtaken_from (hr.mono (by decide)) rfl m_overtaken_from k_overtaken_from kb_overtaken_from pass0 (pk_cons (pe_op op_add pe_int (pe_ix (r := rIxL K) ix_list (pv 1) pe_int (fun _ _ => rfl))) (pk_cons (pe_op op_add pe_int (pe_ix (r := rIxL K) ix_list (pv 1) pe_int (fun _ _ => rfl))) (pk_cons (pe_op op_add pe_int (pe_ix (r := rIxL K) ix_list (pv 1) pe_int (fun _ _ => rfl))) pk_nil)))) (pv 5) (nomark _))))))))))), ?_⟩
  have q3 : ∀ (z : List Int), z = [6, 20, 12] ∨ z = [6, 6, 5] → ∀ i, i < z.length → 0 < at0 z i ∧ at0 z i < 18446744073709551616 := by
    rintro z (rfl | rfl)
    · exact fun i hi => (by decide +kernel : ∀ i, i < 3 → 0 < at0 [6, 20, 12] i ∧ at0 [6, 20, 12] i < 18446744073709551616) i hi
    · exact fun i hi => (by decide +kernel : ∀ i, i < 3 → 0 < at0 [6, 6, 5] i ∧ at0 [6, 6, 5] i < 18446744073709551616) i hi
  refine q_asgL (el_digs (ss := [6, 20, 12]) (ev_call (ea_cons (ev_var rfl) (ea_cons ev_c ea_nil)) (sv_cell hS h63 (by decide))) (el_lst (ea_cons ev_c (ea_cons ev_c (ea_cons ev_c ea_nil))) (by show 3 ≤ 100000; decide)) (by decide) (q3 _ (.inl rfl))) fun p1 H1 hp1 e1 g1 => ?_
  refine q_asgL (el_digs (ss := [6, 6, 5]) (ev_call (ea_cons (ev_var rfl) (ea_cons ev_c ea_nil)) (sv_cell (ex_l e1 hS) h63 (by decide))) (el_lst (ea_cons ev_c (ea_cons ev_c (ea_cons ev_c ea_nil))) (by show 3 ≤ 100000; decide)) (by decide) (q3 _ (.inr rfl))) fun p2 H2 hp2 e2 g2 => ?_
  have e12 := e1.trans e2
  refine q_asgL (el_digs (ss := [401, 401]) (ev_call (ea_cons (ev_var rfl) (ea_cons ev_c ea_nil)) (sv_cell (ex_l e12 hS) h63 (by decide))) (el_lst (ea_cons ev_c (ea_cons ev_c ea_nil)) (by show 2 ≤ 100000; decide)) (by decide) (fun i hi => (by decide +kernel : ∀ i, i < 2 → 0 < at0 [401, 401] i ∧ at0 [401, 401] i < 18446744073709551616) i hi)) fun p3 H3 hp3 e3 g3 => ?_
  have hb0 : ∀ x ∈ digits (cell ns 2) [401, 401], 0 ≤ x ∧ x ≤ 1000000000000000000000000000000 := by
    intro x hx
    obtain ⟨i, hi, rfl⟩ := List.mem_iff_getElem.mp hx
    rw [digits_len] at hi
    have hi : i < 2 := hi
    have h4 : ∀ i, i < 2 → at0 [401, 401] i = 401 := by decide +kernel
    have g := digits_at (c := cell ns 2) (ss := [401, 401]) (i := i) hi (by rw [h4 i hi]; decide)
    rw [h4 i hi] at g
    unfold at0 at g
    rw [List.getD_eq_getElem?_getD, List.getElem?_eq_getElem (by rw [digits_len]; exact hi)] at g
    have g2 : 0 ≤ (digits (cell ns 2) [401, 401])[i] ∧ (digits (cell ns 2) [401, 401])[i] < 401 := g
    omega
  obtain ⟨s, es, s1, s6⟩ := row3 (c := cell ns 0) (z := [6, 20, 12]) 0 6 (by decide) rfl (by decide)
  obtain ⟨v, ev, v1, v20⟩ := row3 (c := cell ns 0) (z := [6, 20, 12]) 1 20 (by decide) rfl (by decide)
  obtain ⟨t, et, t1, t12⟩ := row3 (c := cell ns 0) (z := [6, 20, 12]) 2 12 (by decide) rfl (by decide)
  obtain ⟨s', es', s1', s6'⟩ := row3 (c := cell ns 1) (z := [6, 6, 5]) 0 6 (by decide) rfl (by decide)
  obtain ⟨v', ev', v1', v6'⟩ := row3 (c := cell ns 1) (z := [6, 6, 5]) 1 6 (by decide) rfl (by decide)
  obtain ⟨t', et', t1', t5'⟩ := row3 (c := cell ns 1) (z := [6, 6, 5]) 2 5 (by decide) rfl (by decide)
  have dl0 : (digits (cell ns 0) [6, 20, 12]).length = 3 := digits_len _ _
  have dl1 : (digits (cell ns 1) [6, 6, 5]).length = 3 := digits_len _ _
  have dl2 : (digits (cell ns 2) [401, 401]).length = 2 := digits_len _ _
  have n31 : p1 ≠ p3 := fun e => by
    rw [e] at g1
    have := e2 _ _ g1
    rw [hp3] at this
    cases this
  have n32 : p2 ≠ p3 := fun e => by
    rw [e, hp3] at g2
    cases g2
  generalize digits (cell ns 0) [6, 20, 12] = r0 at *
  generalize digits (cell ns 1) [6, 6, 5] = r1 at *
  generalize digits (cell ns 2) [401, 401] = r2 at *
  have f3 : H p3 = none := fresh_back e12 hp3
  have e13 := e12.trans e3
  refine q_forR1 (ea_cons ev_c ea_nil) (by decide) (fun i σ' H' => (∃ u4, σ' = [some (.ref a), some (.ref p1), some (.ref p2), some (.ref p3), u4, none]) ∧ Ex H H' ∧ H' p1 = some (.lst (r0.map V.int)) ∧ H' p2 = some (.lst (r1.map V.int)) ∧ ∃ bs : List Int, H' p3 = some (.lst (bs.map V.int)) ∧ bs.length = 2 + i ∧ ∀ x ∈ bs, 0 ≤ x ∧ x ≤ 1000000000000000000000000000000) ?_ ?_ ?_
  · intro H4 e4
    exact ⟨⟨none, rfl⟩, e13.trans e4, e4 _ _ (e3 _ _ (e2 _ _ g1)), e4 _ _ (e3 _ _ g2), r2, e4 _ _ g3, dl2, hb0⟩
  · intro i σ' H' hi z
    obtain ⟨⟨u4, rfl⟩, e4, k1, k2, bs, k3, hbl, hbs⟩ := z
    refine s_appX k3 (ev_var rfl) fun H5 e5 => run_call1L (el_digs (ss := GZ) (ev_call (ea_cons (ev_var rfl) (ea_cons (ev_add ev_c (ev_var rfl)) ea_nil)) (sv_cell (ex_l (e4.trans e5) hS) h63 (by omega))) (el_is (el_catL (el_lst (ea_cons ev_c ea_nil) (by show 1 ≤ 100000; decide)) (el_rep (n := 30) (el_lst (ea_cons ev_c ea_nil) (by show 1 ≤ 100000; decide)) (fun _ _ => ev_c) (by show 1 * 30 ≤ 100000; decide) (by decide)) (by decide)) rfl) (by rw [gz_len]; decide) (fun i hi => by rw [gz_len] at hi; have := gz_pos i hi; omega)) fun p H6 e6 g6 => ⟨p, _, rfl, sq_of g6, g_row _, fun x x0 x1 H7 e7 => ⟨p3, bs.map V.int, .int x, rfl, rfl, e7 _ _ (e6 _ _ (e5 _ _ k3)), sz_lt (by rw [List.length_map]; omega), ⟨_, rfl⟩, (((e4.trans e5).trans e6).trans e7).mut f3, ?_, ?_, bs ++ [x], ?_, ?_, ?_⟩⟩
    · rw [upd_ne n31]
      exact e7 _ _ (e6 _ _ (e5 _ _ k1))
    · rw [upd_ne n32]
      exact e7 _ _ (e6 _ _ (e5 _ _ k2))
    · rw [List.map_append]
      exact upd_same
    · rw [List.length_append, hbl]
      rfl
    · intro y hy
      rcases List.mem_append.mp hy with hy | hy
      · exact hbs y hy
      · rw [List.mem_singleton.mp hy]
        exact ⟨x0, x1⟩
  intro σ' H4 z
  obtain ⟨⟨u4, rfl⟩, e4, k1, k2, bs, k3, hbl, hbs⟩ := z
  obtain ⟨A1, hA, hA2⟩ := lst_ex s1 s6 v1 v20 t1 t12
  obtain ⟨A2, hB, hB2⟩ := lst_ex s1' s6' v1' (show v' ≤ 20 by omega) t1' (show t' ≤ 12 by omega)
  have arg : ∀ {σ : L2.St} {H' : Hp} (j : Nat) (p : Addr) (r : List Int) (i : Nat) (z k : Int), H' p = some (.lst (r.map V.int)) → i < r.length → z = (i : Int) → 1 + at0 r i = k → σ[j]? = some (some (.ref p)) → Ev (tOp (rI0 fun i j => .int (i + j)) (tC (.int 1)) (tOp (rIxL K) (tVar j) (tC (.int z)))) σ H' (.int k) := fun j p r i z k g hi hz hk hj =>
    ev_is (ev_add ev_c (ev_atI (i := i) (sq_of g) hi hz (ev_var hj) ev_c)) (by rw [hk])
  refine q_asg (v := .int (A1 : Int)) (ev_call (ea_cons (arg 1 p1 r0 0 0 s k1 (by omega) rfl es rfl) (ea_cons (arg 1 p1 r0 1 1 v k1 (by omega) rfl ev rfl) (ea_cons (arg 1 p1 r0 2 2 t k1 (by omega) rfl et rfl) ea_nil))) (sv_ovt s1 s6 v1 v20 t1 t12 hA)) fun H5 e5 => ?_
  have k15 := e5 _ _ k1
  have k25 := e5 _ _ k2
  have k35 := e5 _ _ k3
  refine q_skip (et_is (et_not (et_B (ev_call (z := .bl true) (ea_cons (ev_var rfl) (ea_cons (ev_var rfl) (ea_cons (ev_var rfl) ea_nil))) fun H6 e6 Q6 q6 _ => ⟨p1, p3, r0, bs, s, v, t, A1, rfl, sq_of (e6 _ _ k15), sq_of (e6 _ _ k35), dl0, es, ev, et, s1, s6, v1, by omega, t1, by omega, hA, hA2, hbs, q6⟩))) rfl) fun H6 e6 => ?_
  have k26 := e6 _ _ k25
  have k36 := e6 _ _ k35
  refine q_skip (et_is (et_not (et_B (ev_call (z := .bl true) (ea_cons (ev_var rfl) (ea_cons (ev_call (ea_cons (arg 2 p2 r1 0 0 s' k26 (by omega) rfl es' rfl) (ea_cons (arg 2 p2 r1 1 1 v' k26 (by omega) rfl ev' rfl) (ea_cons (arg 2 p2 r1 2 2 t' k26 (by omega) rfl et' rfl) ea_nil))) (sv_ovt s1' s6' v1' (by omega) t1' (by omega) hB)) (ea_cons (ev_var rfl) ea_nil))) fun H7 e7 Q7 q7 _ => ⟨p2, p3, r1, bs, s', v', t', A2, rfl, sq_of (e7 _ _ k26), sq_of (e7 _ _ k36), dl1, es', ev', et', s1', s6', v1', by omega, t1', by omega, hB, hB2, hbs, q7⟩))) rfl) fun H7 e7 => ?_
  have k17 := e7 _ _ (e6 _ _ k15)
  refine s_ret (ev_is (ev_op (ev_callN0 (zs := [.int (v : Int), .int (t : Int), .int (s : Int)]) (z := .int (A1 : Int)) (ea_cons (arg 1 p1 r0 1 1 v k17 (by omega) rfl ev rfl) (ea_cons (arg 1 p1 r0 2 2 t k17 (by omega) rfl et rfl) (ea_cons (arg 1 p1 r0 0 0 s k17 (by omega) rfl es rfl) ea_nil))) rfl (sv_ovt s1 s6 v1 v20 t1 t12 hA)) (ev_var rfl) (rv_eq rfl)) (by rw [decide_eq_true rfl])) fun H8 e8 => q H8
end
end Ver
namespace Ver
open PySem PySem.Spec PyProof.Rows L2 Evl
theorem at_mk {K : PySem.W.Frag} {h : Heap} {mg : Str → Option Value} {x : Str} {st : Stmt} {f : Addr} {oc : Value} {od an : Option Addr} {osl : Array (Option Value)} {kV doc pm cdv ct : Value} (X : K.In h) (G : h.Ns mainGlobals mg)
    (a : PySem.W.nsIn K mainGlobals x = some (some (.ref f))) (l : K.lookup f = some ⟨oc, od, .func (PySem.W.fnOf x x (defArgs st) (defBody st) (defScope st) .none kV doc pm an cdv ct), osl⟩) (c : PySem.W.codeIn K cdv x = true) (k : PySem.W.keepIn K (.ref f) = true) : At K mg x st :=
  ⟨⟨f, _, fun_mk l c k, PySem.W.mg_of X G a⟩⟩
theorem all_mk {l : PySem.W.OpenLaw} {w : World} {K : PySem.W.Frag} {h : Heap} {mg : Str → Option Value} {fa : Addr} (X : K.In h) (G : h.Ns mainGlobals mg) (hfa : mg "law" = some (.ref fa))
    {f0 : Addr} {od0 an0 : Option Addr} {sl0 : Array (Option Value)} {oc0 kV0 dc0 pm0 cd0 ct0 : Value}
    {f1 : Addr} {od1 an1 : Option Addr} {sl1 : Array (Option Value)} {oc1 kV1 dc1 pm1 cd1 ct1 : Value}
    {f2 : Addr} {od2 an2 : Option Addr} {sl2 : Array (Option Value)} {oc2 kV2 dc2 pm2 cd2 ct2 : Value}
    {f3 : Addr} {od3 an3 : Option Addr} {sl3 : Array (Option Value)} {oc3 kV3 dc3 pm3 cd3 ct3 : Value}
    {f4 : Addr} {od4 an4 : Option Addr} {sl4 : Array (Option Value)} {oc4 kV4 dc4 pm4 cd4 ct4 : Value}
    {f5 : Addr} {od5 an5 : Option Addr} {sl5 : Array (Option Value)} {oc5 kV5 dc5 pm5 cd5 ct5 : Value}
    {f6 : Addr} {od6 an6 : Option Addr} {sl6 : Array (Option Value)} {oc6 kV6 dc6 pm6 cd6 ct6 : Value}
    {f7 : Addr} {od7 an7 : Option Addr} {sl7 : Array (Option Value)} {oc7 kV7 dc7 pm7 cd7 ct7 : Value}
    {f8 : Addr} {od8 an8 : Option Addr} {sl8 : Array (Option Value)} {oc8 kV8 dc8 pm8 cd8 ct8 : Value}
    {f9 : Addr} {od9 an9 : Option Addr} {sl9 : Array (Option Value)} {oc9 kV9 dc9 pm9 cd9 ct9 : Value}
    {f10 : Addr} {od10 an10 : Option Addr} {sl10 : Array (Option Value)} {oc10 kV10 dc10 pm10 cd10 ct10 : Value}
    {f11 : Addr} {od11 an11 : Option Addr} {sl11 : Array (Option Value)} {oc11 kV11 dc11 pm11 cd11 ct11 : Value}
    {f12 : Addr} {od12 an12 : Option Addr} {sl12 : Array (Option Value)} {oc12 kV12 dc12 pm12 cd12 ct12 : Value}
    {f13 : Addr} {od13 an13 : Option Addr} {sl13 : Array (Option Value)} {oc13 kV13 dc13 pm13 cd13 ct13 : Value}
    {f14 : Addr} {od14 an14 : Option Addr} {sl14 : Array (Option Value)} {oc14 kV14 dc14 pm14 cd14 ct14 : Value}
    {f15 : Addr} {od15 an15 : Option Addr} {sl15 : Array (Option Value)} {oc15 kV15 dc15 pm15 cd15 ct15 : Value}
    {f16 : Addr} {od16 an16 : Option Addr} {sl16 : Array (Option Value)} {oc16 kV16 dc16 pm16 cd16 ct16 : Value}
    {f17 : Addr} {od17 an17 : Option Addr} {sl17 : Array (Option Value)} {oc17 kV17 dc17 pm17 cd17 ct17 : Value}
    (a0 : PySem.W.nsIn K mainGlobals "width" = some (some (.ref f0)))
    (l0 : K.lookup f0 = some ⟨oc0, od0, .func (PySem.W.fnOf "width" "width" (defArgs s_width) (defBody s_width) (defScope s_width) .none kV0 dc0 pm0 an0 cd0 ct0), sl0⟩)
    (c0 : PySem.W.codeIn K cd0 "width" = true) (k0 : PySem.W.keepIn K (.ref f0) = true)
    (a1 : PySem.W.nsIn K mainGlobals "free_places" = some (some (.ref f1)))
    (l1 : K.lookup f1 = some ⟨oc1, od1, .func (PySem.W.fnOf "free_places" "free_places" (defArgs s_free_places) (defBody s_free_places) (defScope s_free_places) .none kV1 dc1 pm1 an1 cd1 ct1), sl1⟩)
    (c1 : PySem.W.codeIn K cd1 "free_places" = true) (k1 : PySem.W.keepIn K (.ref f1) = true)
    (a2 : PySem.W.nsIn K mainGlobals "width_total" = some (some (.ref f2)))
    (l2 : K.lookup f2 = some ⟨oc2, od2, .func (PySem.W.fnOf "width_total" "width_total" (defArgs s_width_total) (defBody s_width_total) (defScope s_width_total) .none kV2 dc2 pm2 an2 cd2 ct2), sl2⟩)
    (c2 : PySem.W.codeIn K cd2 "width_total" = true) (k2 : PySem.W.keepIn K (.ref f2) = true)
    (a3 : PySem.W.nsIn K mainGlobals "pressed_length" = some (some (.ref f3)))
    (l3 : K.lookup f3 = some ⟨oc3, od3, .func (PySem.W.fnOf "pressed_length" "pressed_length" (defArgs s_pressed_length) (defBody s_pressed_length) (defScope s_pressed_length) .none kV3 dc3 pm3 an3 cd3 ct3), sl3⟩)
    (c3 : PySem.W.codeIn K cd3 "pressed_length" = true) (k3 : PySem.W.keepIn K (.ref f3) = true)
    (a4 : PySem.W.nsIn K mainGlobals "overtaken_from" = some (some (.ref f4)))
    (l4 : K.lookup f4 = some ⟨oc4, od4, .func (PySem.W.fnOf "overtaken_from" "overtaken_from" (defArgs s_overtaken_from) (defBody s_overtaken_from) (defScope s_overtaken_from) .none kV4 dc4 pm4 an4 cd4 ct4), sl4⟩)
    (c4 : PySem.W.codeIn K cd4 "overtaken_from" = true) (k4 : PySem.W.keepIn K (.ref f4) = true)
    (a5 : PySem.W.nsIn K mainGlobals "next_length" = some (some (.ref f5)))
    (l5 : K.lookup f5 = some ⟨oc5, od5, .func (PySem.W.fnOf "next_length" "next_length" (defArgs s_next_length) (defBody s_next_length) (defScope s_next_length) .none kV5 dc5 pm5 an5 cd5 ct5), sl5⟩)
    (c5 : PySem.W.codeIn K cd5 "next_length" = true) (k5 : PySem.W.keepIn K (.ref f5) = true)
    (a6 : PySem.W.nsIn K mainGlobals "stays_ahead" = some (some (.ref f6)))
    (l6 : K.lookup f6 = some ⟨oc6, od6, .func (PySem.W.fnOf "stays_ahead" "stays_ahead" (defArgs s_stays_ahead) (defBody s_stays_ahead) (defScope s_stays_ahead) .none kV6 dc6 pm6 an6 cd6 ct6), sl6⟩)
    (c6 : PySem.W.codeIn K cd6 "stays_ahead" = true) (k6 : PySem.W.keepIn K (.ref f6) = true)
    (a7 : PySem.W.nsIn K mainGlobals "_law_whole" = some (some (.ref f7)))
    (l7 : K.lookup f7 = some ⟨oc7, od7, .func (PySem.W.fnOf "_law_whole" "_law_whole" (defArgs s__law_whole) (defBody s__law_whole) (defScope s__law_whole) .none kV7 dc7 pm7 an7 cd7 ct7), sl7⟩)
    (c7 : PySem.W.codeIn K cd7 "_law_whole" = true) (k7 : PySem.W.keepIn K (.ref f7) = true)
    (a8 : PySem.W.nsIn K mainGlobals "_law_cell" = some (some (.ref f8)))
    (l8 : K.lookup f8 = some ⟨oc8, od8, .func (PySem.W.fnOf "_law_cell" "_law_cell" (defArgs s__law_cell) (defBody s__law_cell) (defScope s__law_cell) .none kV8 dc8 pm8 an8 cd8 ct8), sl8⟩)
    (c8 : PySem.W.codeIn K cd8 "_law_cell" = true) (k8 : PySem.W.keepIn K (.ref f8) = true)
    (a9 : PySem.W.nsIn K mainGlobals "_law_digits" = some (some (.ref f9)))
    (l9 : K.lookup f9 = some ⟨oc9, od9, .func (PySem.W.fnOf "_law_digits" "_law_digits" (defArgs s__law_digits) (defBody s__law_digits) (defScope s__law_digits) .none kV9 dc9 pm9 an9 cd9 ct9), sl9⟩)
    (c9 : PySem.W.codeIn K cd9 "_law_digits" = true) (k9 : PySem.W.keepIn K (.ref f9) = true)
    (a10 : PySem.W.nsIn K mainGlobals "_law_width" = some (some (.ref f10)))
    (l10 : K.lookup f10 = some ⟨oc10, od10, .func (PySem.W.fnOf "_law_width" "_law_width" (defArgs s__law_width) (defBody s__law_width) (defScope s__law_width) .none kV10 dc10 pm10 an10 cd10 ct10), sl10⟩)
    (c10 : PySem.W.codeIn K cd10 "_law_width" = true) (k10 : PySem.W.keepIn K (.ref f10) = true)
    (a11 : PySem.W.nsIn K mainGlobals "_law_giant" = some (some (.ref f11)))
    (l11 : K.lookup f11 = some ⟨oc11, od11, .func (PySem.W.fnOf "_law_giant" "_law_giant" (defArgs s__law_giant) (defBody s__law_giant) (defScope s__law_giant) .none kV11 dc11 pm11 an11 cd11 ct11), sl11⟩)
    (c11 : PySem.W.codeIn K cd11 "_law_giant" = true) (k11 : PySem.W.keepIn K (.ref f11) = true)
    (a12 : PySem.W.nsIn K mainGlobals "_law_fill" = some (some (.ref f12)))
    (l12 : K.lookup f12 = some ⟨oc12, od12, .func (PySem.W.fnOf "_law_fill" "_law_fill" (defArgs s__law_fill) (defBody s__law_fill) (defScope s__law_fill) .none kV12 dc12 pm12 an12 cd12 ct12), sl12⟩)
    (c12 : PySem.W.codeIn K cd12 "_law_fill" = true) (k12 : PySem.W.keepIn K (.ref f12) = true)
    (a13 : PySem.W.nsIn K mainGlobals "_law_pressed" = some (some (.ref f13)))
    (l13 : K.lookup f13 = some ⟨oc13, od13, .func (PySem.W.fnOf "_law_pressed" "_law_pressed" (defArgs s__law_pressed) (defBody s__law_pressed) (defScope s__law_pressed) .none kV13 dc13 pm13 an13 cd13 ct13), sl13⟩)
    (c13 : PySem.W.codeIn K cd13 "_law_pressed" = true) (k13 : PySem.W.keepIn K (.ref f13) = true)
    (a14 : PySem.W.nsIn K mainGlobals "_law_words_total" = some (some (.ref f14)))
    (l14 : K.lookup f14 = some ⟨oc14, od14, .func (PySem.W.fnOf "_law_words_total" "_law_words_total" (defArgs s__law_words_total) (defBody s__law_words_total) (defScope s__law_words_total) .none kV14 dc14 pm14 an14 cd14 ct14), sl14⟩)
    (c14 : PySem.W.codeIn K cd14 "_law_words_total" = true) (k14 : PySem.W.keepIn K (.ref f14) = true)
    (a15 : PySem.W.nsIn K mainGlobals "_law_overtaken" = some (some (.ref f15)))
    (l15 : K.lookup f15 = some ⟨oc15, od15, .func (PySem.W.fnOf "_law_overtaken" "_law_overtaken" (defArgs s__law_overtaken) (defBody s__law_overtaken) (defScope s__law_overtaken) .none kV15 dc15 pm15 an15 cd15 ct15), sl15⟩)
    (c15 : PySem.W.codeIn K cd15 "_law_overtaken" = true) (k15 : PySem.W.keepIn K (.ref f15) = true)
    (a16 : PySem.W.nsIn K mainGlobals "_law_least_length" = some (some (.ref f16)))
    (l16 : K.lookup f16 = some ⟨oc16, od16, .func (PySem.W.fnOf "_law_least_length" "_law_least_length" (defArgs s__law_least_length) (defBody s__law_least_length) (defScope s__law_least_length) .none kV16 dc16 pm16 an16 cd16 ct16), sl16⟩)
    (c16 : PySem.W.codeIn K cd16 "_law_least_length" = true) (k16 : PySem.W.keepIn K (.ref f16) = true)
    (a17 : PySem.W.nsIn K mainGlobals "law" = some (some (.ref f17)))
    (l17 : K.lookup f17 = some ⟨oc17, od17, .func (PySem.W.fnOf "law" "law" (defArgs s_law) (defBody s_law) (defScope s_law) .none kV17 dc17 pm17 an17 cd17 ct17), sl17⟩)
    (c17 : PySem.W.codeIn K cd17 "law" = true) (k17 : PySem.W.keepIn K (.ref f17) = true)
    (z_bool : PySem.W.nsIn K mainGlobals "bool" = some none)
    (z_int : PySem.W.nsIn K mainGlobals "int" = some none)
    (z_isinstance : PySem.W.nsIn K mainGlobals "isinstance" = some none)
    (z_len : PySem.W.nsIn K mainGlobals "len" = some none)
    (z_range : PySem.W.nsIn K mainGlobals "range" = some none)
    : ∃ fd : FuncData, (∀ (s : Shared) (v : Value), BindsTo s fd ⟨[v], []⟩ [("script", v)]) ∧ ∀ base : Heap, K.In base → base.Ns mainGlobals mg → FnOk l.prog w K mg base CX0 5 fa fd ["script"] (spLaw K) := by
  have e := hfa.symm.trans (PySem.W.mg_of X G a17)
  cases e
  have T : Top K mg := { z_bool := PySem.W.mg_none_of X G z_bool, z_int := PySem.W.mg_none_of X G z_int, z_isinstance := PySem.W.mg_none_of X G z_isinstance, z_len := PySem.W.mg_none_of X G z_len, z_range := PySem.W.mg_none_of X G z_range }
  have A_width := at_mk (st := s_width) X G a0 l0 c0 k0
  have A_free_places := at_mk (st := s_free_places) X G a1 l1 c1 k1
  have A_width_total := at_mk (st := s_width_total) X G a2 l2 c2 k2
  have A_pressed_length := at_mk (st := s_pressed_length) X G a3 l3 c3 k3
  have A_overtaken_from := at_mk (st := s_overtaken_from) X G a4 l4 c4 k4
  have A_next_length := at_mk (st := s_next_length) X G a5 l5 c5 k5
  have A_stays_ahead := at_mk (st := s_stays_ahead) X G a6 l6 c6 k6
  have A__law_whole := at_mk (st := s__law_whole) X G a7 l7 c7 k7
  have A__law_cell := at_mk (st := s__law_cell) X G a8 l8 c8 k8
  have A__law_digits := at_mk (st := s__law_digits) X G a9 l9 c9 k9
  have A__law_width := at_mk (st := s__law_width) X G a10 l10 c10 k10
  have A__law_giant := at_mk (st := s__law_giant) X G a11 l11 c11 k11
  have A__law_fill := at_mk (st := s__law_fill) X G a12 l12 c12 k12
  have A__law_pressed := at_mk (st := s__law_pressed) X G a13 l13 c13 k13
  have A__law_words_total := at_mk (st := s__law_words_total) X G a14 l14 c14 k14
  have A__law_overtaken := at_mk (st := s__law_overtaken) X G a15 l15 c15 k15
  have A__law_least_length := at_mk (st := s__law_least_length) X G a16 l16 c16 k16
  refine ⟨PySem.W.fnOf "law" "law" (defArgs s_law) (defBody s_law) (defScope s_law) .none kV17 dc17 pm17 an17 cd17 ct17, fun s v => .of_eq rfl, fun base _ _ => ?_⟩
  have h_width := has_width (P := l.prog) (w := w) (base := base) A_width
  have h_wt := has_wt (P := l.prog) (w := w) (base := base) A_width_total T
  have h_plen := has_plen A_pressed_length T h_wt h_width
  have h_fre := has_freO (P := l.prog) (w := w) (base := base) A_free_places
  have h_next := has_next (P := l.prog) (w := w) (base := base) A_next_length
  have h_stay := has_stay A_stays_ahead h_fre h_next h_width
  have h_ovt := has_ovt A_overtaken_from h_plen h_next h_stay
  have h_lwhole := has_lwhole (P := l.prog) (w := w) (base := base) A__law_whole T
  have h_cell := has_cell (P := l.prog) (w := w) (base := base) A__law_cell T
  have h_digits := has_digits (P := l.prog) (w := w) (base := base) A__law_digits T
  have h_lw := has_lw4 (P := l.prog) (w := w) (base := base) A__law_width T
  have h_gia := has_gia (P := l.prog) (w := w) (base := base) A__law_giant T
  have h_lfl := has_lfl (P := l.prog) (w := w) (base := base) A__law_fill T
  have h_lpr := has_lpr A__law_pressed T h_lw
  have h_wto := has_wto (P := l.prog) (w := w) (base := base) A__law_words_total
  have h_lov := has_lov A__law_overtaken h_lfl h_lpr
  have h_ll := has_ll A__law_least_length T h_lwhole h_lfl h_wto h_lov
  exact ok_law (fun_mk (st := s_law) l17 c17 k17) T h_digits h_cell h_gia h_ovt h_ll
theorem walk {l : PySem.W.OpenLaw} {q : Program} {loose : List Str} {XP : (Str → Option Value) → Heap → Prop} {YP : World → Heap → Prop} {d : DefRec} {K : Params → PySem.W.Frag} (hn : l.most = some 63) (hdf : d.params.defaults = [])
    (hY : ∀ (w : World) (h : Heap), YP w h → (K w.params).In h)
    (F : ∀ (w : World) (mg : Str → Option Value) (fa : Addr) (h : Heap), (K w.params).In h → h.Ns mainGlobals mg → mg d.name = some (.ref fa) →
      ∃ fd : FuncData, (∀ (s : Shared) (u : Value), BindsTo s fd ⟨[u], []⟩ [("script", u)]) ∧ ∀ base : Heap, (K w.params).In base → base.Ns mainGlobals mg → FnOk l.prog w (K w.params) mg base CX0 5 fa fd ["script"] (spLaw (K w.params))) :
    PySem.W.WalkO q loose XP YP l.row.toRowW d [] (fun f vs => PySem.call f vs) :=
  L2.walk_of (n := 63) (k := 5) (x := "script") (CX := fun _ => CX0) (sp := fun w => spLaw (K w.params)) hn (by decide) hdf ⟨rfl, by decide, by decide⟩ hY F (fun _ _ a ns hl _ hS => ⟨a, ns, rfl, hS, hl, fun _ => rfl⟩) fun _ _ _ _ _ z => z
end Ver
open PySem PySem.W PyProof.Rows
set_option maxRecDepth 100000 in
set_option maxHeartbeats 0 in
theorem PySem.Challenge.cw_outpressed_k31_overtaking_number_holds : PySem.Challenge.rw_outpressed_k31_overtaking_number.Holds := by
  w_on; o_law; k_head; (case hw => w_witness2)
  k_fill
  refine Ver.walk (l := PySem.Challenge.rw_outpressed_k31_overtaking_number) rfl rfl (fun w h Y => PySem.W.kIn_of Y) ?F
  case F =>
    intro w mg fa h KX G hmg
    refine' Ver.all_mk KX G hmg ?a0 ?l0 ?c0 ?k0 ?a1 ?l1 ?c1 ?k1 ?a2 ?l2 ?c2 ?k2 ?a3 ?l3 ?c3 ?k3 ?a4 ?l4 ?c4 ?k4 ?a5 ?l5 ?c5 ?k5 ?a6 ?l6 ?c6 ?k6 ?a7 ?l7 ?c7 ?k7 ?a8 ?l8 ?c8 ?k8 ?a9 ?l9 ?c9 ?k9 ?a10 ?l10 ?c10 ?k10 ?a11 ?l11 ?c11 ?k11 ?a12 ?l12 ?c12 ?k12 ?a13 ?l13 ?c13 ?k13 ?a14 ?l14 ?c14 ?k14 ?a15 ?l15 ?c15 ?k15 ?a16 ?l16 ?c16 ?k16 ?a17 ?l17 ?c17 ?k17 ?z_bool ?z_int ?z_isinstance ?z_len ?z_range
    (case a0 => k_is)
    (case l0 => k_is)
    (case c0 => k_is)
    (case k0 => k_is)
    (case a1 => k_is)
    (case l1 => k_is)
    (case c1 => k_is)
    (case k1 => k_is)
    (case a2 => k_is)
    (case l2 => k_is)
    (case c2 => k_is)
    (case k2 => k_is)
    (case a3 => k_is)
    (case l3 => k_is)
    (case c3 => k_is)
    (case k3 => k_is)
    (case a4 => k_is)
    (case l4 => k_is)
    (case c4 => k_is)
    (case k4 => k_is)
    (case a5 => k_is)
    (case l5 => k_is)
    (case c5 => k_is)
    (case k5 => k_is)
    (case a6 => k_is)
    (case l6 => k_is)
    (case c6 => k_is)
    (case k6 => k_is)
    (case a7 => k_is)
    (case l7 => k_is)
    (case c7 => k_is)
    (case k7 => k_is)
    (case a8 => k_is)
    (case l8 => k_is)
    (case c8 => k_is)
    (case k8 => k_is)
    (case a9 => k_is)
    (case l9 => k_is)
    (case c9 => k_is)
    (case k9 => k_is)
    (case a10 => k_is)
    (case l10 => k_is)
    (case c10 => k_is)
    (case k10 => k_is)
    (case a11 => k_is)
    (case l11 => k_is)
    (case c11 => k_is)
    (case k11 => k_is)
    (case a12 => k_is)
    (case l12 => k_is)
    (case c12 => k_is)
    (case k12 => k_is)
    (case a13 => k_is)
    (case l13 => k_is)
    (case c13 => k_is)
    (case k13 => k_is)
    (case a14 => k_is)
    (case l14 => k_is)
    (case c14 => k_is)
    (case k14 => k_is)
    (case a15 => k_is)
    (case l15 => k_is)
    (case c15 => k_is)
    (case k15 => k_is)
    (case a16 => k_is)
    (case l16 => k_is)
    (case c16 => k_is)
    (case k16 => k_is)
    (case a17 => k_is)
    (case l17 => k_is)
    (case c17 => k_is)
    (case k17 => k_is)
    (case z_bool => k_is)
    (case z_int => k_is)
    (case z_isinstance => k_is)
    (case z_len => k_is)
    (case z_range => k_is)

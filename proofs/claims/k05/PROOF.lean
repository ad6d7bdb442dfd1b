import PyProof.Rows.All
import Wide.All
import OpenK.AllK
import Wide.FinOn
import HandS.ForMost
import HandS.Evl
import HandS.WideBits
import HandS.IsInst
import HandS.Defaults
import HandS.StrMore
import HandS.Conv
import HandS.Walk
import HandS.FStr
import HandS.Style
import HandS.Replace
import HandS.Strs
import PyProof.FString3
import PyProof.SliceStr2
import KE.GoesEnumKw
import KE.GoesZip
import KE.LtData
import KE.GoesMore
import PyProof.EnumMake
import PyProof.Rows.StrIntSpec
import HandS.Codes
import PyProof.Rows.StrRev
import PyProof.StrLawsIn
import PyProof.StrBlock2
import HandS.DictTup
import HandS.TupLen
import PyProof.StrLawsFrom
import PyProof.Draws
import PyProof.DictMoreH
import HandS.Gcd
import Flt.RightSqrt
import PyProof.MaxThree
import HandS.More
import PySem.Challenge.RW_outpressed_k05_length_by_count_alone
set_option Elab.async false
set_option linter.all false
set_option maxRecDepth 100000
set_option maxHeartbeats 8000000
namespace Ver
open PySem PySem.Spec PyProof.Rows L2 Evl
/-! ### for over a list or a tuple -/
def iSeq (K : PySem.W.Frag) (te : TE) : TI := fun σ H R => te σ H fun x H1 => ∃ a : Addr, x = .ref a ∧ ((∃ xs, SqL K H1 a xs ∧ R (Itl K a) H1) ∨ (∃ xs, SqT K H1 a xs ∧ R (Itt K a) H1))
section
variable {X : Cx}
theorem pi_seq {tg e : Expr} {te : TE} (he : PE X e te) : PI X tg e (iSeq X.K te) := by
  refine ⟨fun pins s σ H R I h => ?_⟩
  refine thn (he.run pins s σ H _ I h) ?_
  intro v s1 got
  obtain ⟨x, H1, I1, r1, a, rfl, q⟩ := got
  cases (show v = Value.ref a from r1)
  have hd : PE X e te := he
  rcases q with ⟨xs, hs, q⟩ | ⟨xs, hs, q⟩
  · obtain ⟨its, _, p, _⟩ := I1.list hs
    refine wpAny_pyIter_list p.isList ?_
    exact pi_one (tk := s1.toks) I1 _ (turn_list a _) ⟨_, Heap.get?_push_size _ rfl, rfl, rfl⟩ q
  · obtain ⟨its, _, p, _⟩ := I1.tuple hs
    refine wpAny_pyIter_tuple (show s1.heap.IsTuple a its.toArray from p) ?_
    exact pi_one (tk := s1.toks) I1 _ (turn_tuple a _) ⟨_, Heap.get?_push_size _ rfl, rfl, rfl⟩ q
/-! ### a < b of data that are alike -/
def rLtD (K : PySem.W.Frag) : R2 := fun x y H Q => ∃ d e, Dp K H x d ∧ Dp K H y e ∧ PySem.W.alike d e = true ∧ d ≠ .none ∧ d.depth ≤ 32 ∧ Q (.bl (PySem.W.dataLt d e)) H
theorem op_ltD (hu : X.A.units + 64 < cLine) : OpR X (compareOp .Lt) (rLtD X.K) := by
  intro pins s σ H x y v u Q I rx ry h
  obtain ⟨d, e, hd, he, al, nn, dep, q⟩ := h
  obtain ⟨as, r1⟩ := Dp.reads I d x v hd rx
  obtain ⟨bs, r2⟩ := Dp.reads I e y u he ry
  have room : X.A.units + min d.depth e.depth < cLine := by
    have := Nat.min_le_left d.depth e.depth
    omega
  have k := PySem.W.rcLt_alike d e X.A s v u as bs r1 r2 al nn room
  exact k X.prog X.w X.xe _ ⟨.bl _, H, I, rfl, q⟩
/-! ### text[::-1]: some text of its signs, no longer -/
def tRevS (te : TE) : TE := fun σ H Q => te σ H fun x H1 => ∃ z : Str, x = .str z ∧ z.length ≤ sizeLine ∧ ∀ y : Str, (∀ c ∈ y.cps.toList, c ∈ z.cps.toList) → y.length ≤ z.length → Q (.str y) H1
end
end Ver
namespace Ver
def at0 (ps : List Int) (i : Nat) : Int := ps.getD i 0
/-! ### strings of bits as lists of codes -/
def bit1 (c : Nat) : Int := if c = 49 then 1 else 0
def val (l : List Nat) : Int := l.foldl (fun v c => v * 2 + bit1 c) 0
def Digs (l : List Nat) : Prop := ∀ c, c ∈ l → c = 48 ∨ c = 49
def p2 : Nat → Int
  | 0 => 1
  | n + 1 => p2 n * 2
theorem p2_pos : ∀ n, 0 < p2 n
  | 0 => by decide
  | n + 1 => by
    have h := p2_pos n
    show 0 < p2 n * 2
    omega
theorem p2_cast : ∀ n, p2 n = ((2 ^ n : Nat) : Int)
  | 0 => rfl
  | n + 1 => by
    show p2 n * 2 = _
    rw [p2_cast n, Nat.pow_succ, Int.natCast_mul]
    rfl
def valR : List Nat → Int
  | [] => 0
  | c :: r => bit1 c * p2 r.length + valR r
theorem fold_val : ∀ (l : List Nat) (a : Int), l.foldl (fun v c => v * 2 + bit1 c) a = a * p2 l.length + valR l
  | [], a => by
    show a = a * 1 + 0
    omega
  | c :: r, a => by
    show r.foldl (fun v c => v * 2 + bit1 c) (a * 2 + bit1 c) = a * (p2 r.length * 2) + (bit1 c * p2 r.length + valR r)
    rw [fold_val r, Int.add_mul]
    have e : a * 2 * p2 r.length = a * (p2 r.length * 2) := by rw [Int.mul_assoc, Int.mul_comm 2]
    rw [e]
    omega
theorem val_R (l : List Nat) : val l = valR l := by
  unfold val
  rw [fold_val l 0]
  omega
theorem valR_bound : ∀ l : List Nat, 0 ≤ valR l ∧ valR l < p2 l.length
  | [] => ⟨Int.le_refl 0, by decide⟩
  | c :: r => by
    obtain ⟨h1, h2⟩ := valR_bound r
    show 0 ≤ bit1 c * p2 r.length + valR r ∧ bit1 c * p2 r.length + valR r < p2 r.length * 2
    unfold bit1
    split
    · omega
    · omega
theorem lex_of_val : ∀ (a b : List Nat), a.length = b.length → Digs a → Digs b → valR a < valR b → a < b
  | [], [], _, _, _, h => absurd h (Int.lt_irrefl 0)
  | [], _ :: _, h, _, _, _ => nomatch h
  | _ :: _, [], h, _, _, _ => nomatch h
  | x :: r, y :: t, hl, ha, hb, hv => by
    have hl2 : r.length = t.length := Nat.succ.inj hl
    have b1 := valR_bound r
    have b2 := valR_bound t
    have hx := ha x (List.mem_cons_self ..)
    have hy := hb y (List.mem_cons_self ..)
    have hv2 : bit1 x * p2 r.length + valR r < bit1 y * p2 t.length + valR t := hv
    rw [← hl2] at hv2 b2
    rw [List.cons_lt_cons_iff]
    rcases hx with rfl | rfl
    · rcases hy with rfl | rfl
      · refine .inr ⟨rfl, lex_of_val r t hl2 (fun c h => ha c (List.mem_cons_of_mem _ h)) (fun c h => hb c (List.mem_cons_of_mem _ h)) ?_⟩
        simp only [bit1] at hv2
        omega
      · exact .inl (by decide)
    · rcases hy with rfl | rfl
      · simp only [bit1] at hv2
        simp at hv2
        omega
      · refine .inr ⟨rfl, lex_of_val r t hl2 (fun c h => ha c (List.mem_cons_of_mem _ h)) (fun c h => hb c (List.mem_cons_of_mem _ h)) ?_⟩
        simp only [bit1] at hv2
        omega
theorem valR_append : ∀ (a b : List Nat), valR (a ++ b) = valR a * p2 b.length + valR b
  | [], b => by
    show valR b = 0 * p2 b.length + valR b
    omega
  | c :: r, b => by
    have ih := valR_append r b
    show bit1 c * p2 (r ++ b).length + valR (r ++ b) = (bit1 c * p2 r.length + valR r) * p2 b.length + valR b
    have e : p2 (r ++ b).length = p2 r.length * p2 b.length := by
      rw [p2_cast, p2_cast, p2_cast, List.length_append, Nat.pow_add, Int.natCast_mul]
    rw [ih, e, Int.add_mul, Int.mul_assoc]
    omega
theorem valR_zeros : ∀ n : Nat, valR (List.replicate n 48) = 0
  | 0 => rfl
  | n + 1 => by
    show bit1 48 * p2 (List.replicate n 48).length + valR (List.replicate n 48) = 0
    rw [valR_zeros n]
    show (0 : Int) * _ + 0 = 0
    omega
def bins (n : Nat) : List Nat := (Nat.toDigits 2 n).map Char.toNat
theorem bins_ok (n : Nat) : Digs (bins n) ∧ valR (bins n) = (n : Int) := by
  induction n using Nat.strongRecOn with
  | ind n ih =>
    unfold bins
    rw [Nat.toDigits_eq_if (by decide)]
    by_cases h : n < 2
    · rw [if_pos h]
      have : n = 0 ∨ n = 1 := by omega
      rcases this with rfl | rfl
      · exact ⟨fun c hc => .inl (List.mem_singleton.mp (show c ∈ [48] from hc)), rfl⟩
      · exact ⟨fun c hc => .inr (List.mem_singleton.mp (show c ∈ [49] from hc)), rfl⟩
    · rw [if_neg h, List.map_append]
      obtain ⟨h1, h2⟩ := ih (n / 2) (by omega)
      have hm : n % 2 = 0 ∨ n % 2 = 1 := by omega
      refine ⟨fun c hc => ?_, ?_⟩
      · rcases List.mem_append.mp hc with hc | hc
        · exact h1 c hc
        · rcases hm with e | e
          · rw [e] at hc
            exact .inl (List.mem_singleton.mp (show c ∈ [48] from hc))
          · rw [e] at hc
            exact .inr (List.mem_singleton.mp (show c ∈ [49] from hc))
      · have e1 : valR (List.map Char.toNat (Nat.toDigits 2 (n / 2))) = ((n / 2 : Nat) : Int) := h2
        rw [valR_append, e1]
        rcases hm with e | e
        · rw [e]
          show ((n / 2 : Nat) : Int) * 2 + 0 = (n : Int)
          omega
        · rw [e]
          show ((n / 2 : Nat) : Int) * 2 + 1 = (n : Int)
          omega
theorem bins_len {n k : Nat} (hk : 0 < k) (h : n < 2 ^ k) : (bins n).length ≤ k := by
  unfold bins
  rw [List.length_map]
  exact (Nat.length_toDigits_le_iff (by decide) hk).mpr h
theorem bins_pos (n : Nat) : 0 < (bins n).length := by
  unfold bins
  rw [List.length_map]
  exact Nat.length_toDigits_pos
/-- n as exactly w bits -/
def nbL (n w : Nat) : List Nat := if w = 0 then [] else List.replicate (w - (bins n).length) 48 ++ bins n
structure Nb (l : List Nat) (n : Int) (w : Nat) : Prop where
  len : l.length = w
  digs : Digs l
  v : valR l = n
theorem nb_ok {n w : Nat} (h : n < 2 ^ w) : Nb (nbL n w) (n : Int) w := by
  unfold nbL
  by_cases c : w = 0
  · subst c
    have : n = 0 := by
      rw [Nat.pow_zero] at h
      omega
    subst this
    exact ⟨rfl, fun c hc => (nomatch hc), rfl⟩
  · rw [if_neg c]
    have hl := bins_len (by omega) h
    obtain ⟨h1, h2⟩ := bins_ok n
    refine ⟨?_, fun d hd => ?_, ?_⟩
    · rw [List.length_append, List.length_replicate]
      omega
    · rcases List.mem_append.mp hd with hd | hd
      · exact .inl (List.eq_of_mem_replicate hd)
      · exact h1 d hd
    · rw [valR_append, valR_zeros, h2]
      omega
end Ver
namespace Ver
open PySem PySem.Spec PyProof.Rows L2 Evl
/-! called with keywords alone -/
section
variable {X : Cx} {CX : CXT} {k : Nat} {f : Addr} {fd : FuncData} {ps ks : List Str} {sp : Sp} {E : XK} {x : Str} {p pos : Pos} {kws : List Keyword} {tk : TA} {g : List Value → List Value → List Value} {gV : List V → List V → List V}
theorem pe_callN0 (F : FnOk X.prog X.w X.K X.mg X.base CX k f fd ps sp) (room : Room k X.A) (gl : Gl X x) (at_ : X.mg x = some (.ref f)) (keep : PySem.W.keepIn X.K (.ref f) = true)
    (bd : KBn X.K fd ps 0 ks g gV) (pass : Passes CX X E) (kw : PK X kws tk)
    (named : (backToKw pos (keywordEach kws X.env)).all (·.1.isSome) = true := by rfl)
    (names : (backToKw pos (keywordEach kws X.env)).filterMap (·.1) = ks := by rfl)
    (nodebug : (x == ("__debug__" : Str)) = false := by decide)
    (plain : ((backTo pos (starEach [] X.env)).any (·.1) || (backToKw pos (keywordEach kws X.env)).any (·.1.isNone)) = false := by rfl) :
    PE X (.Call (.Name x p) [] kws pos) (tCallN 0 ks.length sp gV E tNil tk) := by
  refine ⟨fun pins s σ H Q I h => ?_⟩
  refine wpAny_Call_Name_kw (ld_glob I gl at_ ?_ nodebug)
  refine PySem.W.callWith_KW0 (h₀ := X.base) I.ok.mod.kin keep named ?_ plain
  refine thn (kw.run pos pins s σ H _ I h) ?_
  intro ws s2 got
  obtain ⟨zs, H2, I2, rz, l1, l2, q2⟩ := got
  refine ⟨I2.kIn, ?_⟩
  rw [names]
  exact run_fnN (us := []) (vs := []) F room bd pass I2 .nil rz rfl l2 q2
end
theorem E_of {H : Hp} {p : Addr} {o : HO} (h : H p = none) : Ex H (upd H p o) := Ex.new h
/-! ### calls of built-ins on values -/
section
variable {K : PySem.W.Frag} {H : Hp}
theorem rc_min {i j : Int} : RC (fun xs H Q => ∃ i j, xs = [V.int i, V.int j] ∧ Q (V.int (if j < i then j else i)) H) [.int i, .int j] H (.int (min i j)) := fun H1 _ Q q =>
  ⟨i, j, rfl, by
    have e : (if j < i then j else i) = min i j := by
      split <;> omega
    rw [e]
    exact q H1 (Ex.refl H1)⟩
theorem rc_max {i j : Int} : RC (fun xs H Q => ∃ i j, xs = [V.int i, V.int j] ∧ Q (V.int (if j > i then j else i)) H) [.int i, .int j] H (.int (max i j)) := fun H1 _ Q q =>
  ⟨i, j, rfl, by
    have e : (if j > i then j else i) = max i j := by
      split <;> omega
    rw [e]
    exact q H1 (Ex.refl H1)⟩
theorem rc_int {i : Int} : RC (fun xs H Q => (∃ i, xs = [V.int i] ∧ Q (V.int i) H) ∨ ∃ k, xs = [V.bl k] ∧ Q (V.int (if k = true then 1 else 0)) H) [.int i] H (.int i) := fun H1 _ _ q =>
  .inl ⟨i, rfl, q H1 (Ex.refl H1)⟩
theorem rc_intB {b : Bool} : RC (fun xs H Q => (∃ i, xs = [V.int i] ∧ Q (V.int i) H) ∨ ∃ k, xs = [V.bl k] ∧ Q (V.int (if k = true then 1 else 0)) H) [.bl b] H (.int (if b = true then 1 else 0)) := fun H1 _ _ q =>
  .inr ⟨b, rfl, q H1 (Ex.refl H1)⟩
theorem rc_lenL {p : Addr} {xs : List V} (h : SqL K H p xs) : RC (fun vs H Q => ∃ p ys, vs = [V.ref p] ∧ (SqL K H p ys ∨ SqT K H p ys) ∧ Q (V.int ys.length) H) [.ref p] H (.int xs.length) := fun H1 e _ q =>
  ⟨p, xs, rfl, .inl (ex_l e h), q H1 (Ex.refl H1)⟩
theorem rc_sum {p : Addr} {ns : List Int} (h : SqL K H p (ns.map V.int)) : RC (fun vs H Q => ∃ (a : Addr) (ns : List Int), vs = [V.ref a] ∧ SqL K H a (ns.map V.int) ∧ Q (V.int ns.sum) H) [.ref p] H (.int ns.sum) := fun H1 e _ q =>
  ⟨p, ns, rfl, ex_l e h, q H1 (Ex.refl H1)⟩
end
/-- the int at a place -/
theorem at_int {ns : List Int} {i : Nat} (h : i < ns.length) : atI (ns.map V.int) (i : Int) = some (.int (at0 ns i)) := by
  refine atI_nat ?_
  rw [List.getElem?_map, List.getElem?_eq_getElem h]
  unfold at0
  rw [List.getD_eq_getElem?_getD, List.getElem?_eq_getElem h]
  rfl
def bitsOf (n : Int) : Int := ((Builtin.Int.intBits (n - 1) : Nat) : Int)
/-! ### readings in short -/
section
variable {σ : L2.St} {H : Hp} {t : TT} {tu tz : TS} {D : Ends} {K : PySem.W.Frag} {ta tb : TE}
/-- an if that is not taken -/
theorem q_skip (h : EvT t σ H false) (k : ∀ H1, Ex H H1 → tz D σ H1) : tSeq (tIfS t tu tNext) tz D σ H := q_when h (fun hb => absurd hb Bool.false_ne_true) (fun _ => k)
theorem s_skip (h : EvT t σ H false) (k : ∀ H1, Ex H H1 → D.nx σ H1) : tIfS t tu tNext D σ H := s_when h (fun hb => absurd hb Bool.false_ne_true) (fun _ => k)
/-- an if that is taken -/
theorem q_take (h : EvT t σ H true) (k : ∀ H1, Ex H H1 → tu { D with nx := tz D } σ H1) : tSeq (tIfS t tu tNext) tz D σ H := q_when h (fun _ => k) (fun hb => nomatch hb)
theorem et_lt {i j : Int} (ha : Ev ta σ H (.int i)) (hb : Ev tb σ H (.int j)) : EvT (tTest (tOp (rI0 fun i j => .bl (decide (i < j))) ta tb)) σ H (decide (i < j)) := et_test (ev_op ha hb rv_I0)
theorem et_le {i j : Int} (ha : Ev ta σ H (.int i)) (hb : Ev tb σ H (.int j)) : EvT (tTest (tOp (rI0 fun i j => .bl (decide (i ≤ j))) ta tb)) σ H (decide (i ≤ j)) := et_test (ev_op ha hb rv_I0)
theorem et_gt {i j : Int} (ha : Ev ta σ H (.int i)) (hb : Ev tb σ H (.int j)) : EvT (tTest (tOp (rI0 fun i j => .bl (decide (j < i))) ta tb)) σ H (decide (j < i)) := et_test (ev_op ha hb rv_I0)
theorem et_ge {i j : Int} (ha : Ev ta σ H (.int i)) (hb : Ev tb σ H (.int j)) : EvT (tTest (tOp (rI0 fun i j => .bl (decide (j ≤ i))) ta tb)) σ H (decide (j ≤ i)) := et_test (ev_op ha hb rv_I0)
theorem et_neI {i j : Int} (ha : Ev ta σ H (.int i)) (hb : Ev tb σ H (.int j)) : EvT (tTest (tOp rNe ta tb)) σ H (!decide (i = j)) := et_test (ev_is (ev_op ha hb (rv_ne rfl)) (by simp))
theorem et_eqI {i j : Int} (ha : Ev ta σ H (.int i)) (hb : Ev tb σ H (.int j)) : EvT (tTest (tOp rEq ta tb)) σ H (decide (i = j)) := et_test (ev_is (ev_op ha hb (rv_eq rfl)) (by simp))
/-- x + y, x - y, x * y, x // y, x % y -/
theorem ev_add {i j : Int} (ha : Ev ta σ H (.int i)) (hb : Ev tb σ H (.int j)) : Ev (tOp (rI0 fun i j => .int (i + j)) ta tb) σ H (.int (i + j)) := ev_op ha hb rv_I0
theorem ev_sub {i j : Int} (ha : Ev ta σ H (.int i)) (hb : Ev tb σ H (.int j)) : Ev (tOp (rI0 fun i j => .int (i - j)) ta tb) σ H (.int (i - j)) := ev_op ha hb rv_I0
theorem ev_mulR {i j : Int} (h1 : -18446744073709551616 < j) (h2 : j < 18446744073709551616) (ha : Ev ta σ H (.int i)) (hb : Ev tb σ H (.int j)) : Ev (tOp (rI CMul fun i j => .int (i * j)) ta tb) σ H (.int (i * j)) := ev_op ha hb (rv_I (Or.inr ⟨by omega, by omega⟩))
theorem ev_mulL {i j : Int} (h1 : -18446744073709551616 < i) (h2 : i < 18446744073709551616) (ha : Ev ta σ H (.int i)) (hb : Ev tb σ H (.int j)) : Ev (tOp (rI CMul fun i j => .int (i * j)) ta tb) σ H (.int (i * j)) := ev_op ha hb (rv_I (Or.inl ⟨by omega, by omega⟩))
theorem ev_mod {i j : Int} (h : 0 < j) (ha : Ev ta σ H (.int i)) (hb : Ev tb σ H (.int j)) : Ev (tOp (rI (fun _ j => 0 < j) fun i j => .int (i % j)) ta tb) σ H (.int (i % j)) := ev_op ha hb (rv_I h)
theorem div_ok {i j : Int} (h : 0 < j) (h2 : j < 18446744073709551616) : CDivW i j := wide_div (b := 64) h (by omega) (by decide) (by decide)
theorem ev_div {i j : Int} (h : 0 < j) (h2 : j < 18446744073709551616) (ha : Ev ta σ H (.int i)) (hb : Ev tb σ H (.int j)) : Ev (tOp (rI CDivW fun i j => .int (i / j)) ta tb) σ H (.int (i / j)) := ev_op ha hb (rv_I (div_ok h h2))
theorem ev_int {i : Int} (ha : Ev ta σ H (.int i)) : Ev (tCB (fun xs H Q => (∃ i, xs = [V.int i] ∧ Q (V.int i) H) ∨ ∃ k, xs = [V.bl k] ∧ Q (V.int (if k = true then 1 else 0)) H) (tCons ta tNil)) σ H (.int i) := ev_cb (ea_cons ha ea_nil) rc_int
theorem ev_intB {b : Bool} (ha : Ev ta σ H (.bl b)) : Ev (tCB (fun xs H Q => (∃ i, xs = [V.int i] ∧ Q (V.int i) H) ∨ ∃ k, xs = [V.bl k] ∧ Q (V.int (if k = true then 1 else 0)) H) (tCons ta tNil)) σ H (.int (if b = true then 1 else 0)) := ev_cb (ea_cons ha ea_nil) rc_intB
/-- xs[i] of ints -/
theorem ev_at {a : Addr} {ns : List Int} {i : Nat} (hs : SqL K H a (ns.map V.int)) (hi : i < ns.length) (ha : Ev ta σ H (.ref a)) (hb : Ev tb σ H (.int (i : Int))) : Ev (tOp (rIxL K) ta tb) σ H (.int (at0 ns i)) := ev_op ha hb (rv_ixL hs (at_int hi))
end
theorem at0_get {ns : List Int} {i : Nat} {x : V} (h : (ns.map V.int)[i]? = some x) : i < ns.length ∧ x = .int (at0 ns i) := by
  rw [List.getElem?_map] at h
  cases e : ns[i]? with
  | none =>
    rw [e] at h
    cases h
  | some y =>
    rw [e] at h
    have hi : i < ns.length := (List.getElem?_eq_some_iff.mp e).1
    refine ⟨hi, ?_⟩
    unfold at0
    rw [List.getD_eq_getElem?_getD, e]
    exact (Option.some.inj h).symm
theorem at0_mem {ns : List Int} {i : Nat} (h : i < ns.length) : at0 ns i ∈ ns := by
  unfold at0
  rw [List.getD_eq_getElem?_getD, List.getElem?_eq_getElem h]
  exact List.getElem_mem h
section
variable {K : PySem.W.Frag}
theorem rc_isi {n : Int} {c : String} {b : Bool} {H : Hp} (h : kitB "int" c = some b) : RC (rIsi K) [.int n, .ty c] H (.bl b) := fun H1 _ _ q =>
  ⟨.int n, .ty c, _, _, b, rfl, .ty c, .base (.int n), kit_ty h, q H1 (Ex.refl H1)⟩
theorem rc_isiS {z : Str} {c : String} {b : Bool} {H : Hp} (h : kitB "str" c = some b) : RC (rIsi K) [.str z, .ty c] H (.bl b) := fun H1 _ _ q =>
  ⟨.str z, .ty c, _, _, b, rfl, .ty c, .base (.str z), kit_ty h, q H1 (Ex.refl H1)⟩
theorem pow_mono {b : Int} (hb : 1 ≤ b) {i j : Nat} (h : i ≤ j) : b ^ i ≤ b ^ j := by
  induction h with
  | refl => exact Int.le_refl _
  | @step k _ ih =>
    have hp : 0 ≤ b ^ k := Int.pow_nonneg (by omega)
    have h2 : b ^ k * 1 ≤ b ^ k * b := Int.mul_le_mul_of_nonneg_left hb hp
    rw [Int.mul_one] at h2
    rw [Int.pow_succ]
    omega
theorem pow_pos1 {b : Int} (hb : 1 ≤ b) (i : Nat) : 1 ≤ b ^ i := by
  have h := pow_mono hb (Nat.zero_le i)
  rw [Int.pow_zero] at h
  exact h
theorem log2_is {n i : Nat} (h1 : 2 ^ i ≤ n) (h2 : n < 2 ^ (i + 1)) : n.log2 = i := by
  have h0 : n ≠ 0 := by
    have := Nat.pow_pos (n := i) (show 0 < 2 by decide)
    omega
  have a := (Nat.log2_lt h0).mpr h2
  have b := (Nat.le_log2 h0).mpr h1
  omega
theorem bits_is {m : Int} {i : Nat} (h1 : 1 ≤ m) (h2 : m ≤ 2 ^ i) (h3 : i = 0 ∨ ∃ j, i = j + 1 ∧ (2 : Int) ^ j < m) : bitsOf m = (i : Int) := by
  unfold bitsOf Builtin.Int.intBits
  obtain ⟨n, hn⟩ := Int.eq_ofNat_of_zero_le (show 0 ≤ m - 1 by omega)
  rw [hn]
  have cast : ∀ k : Nat, ((2 : Int) ^ k) = ((2 ^ k : Nat) : Int) := fun k => by
    rw [Int.natCast_pow]
    rfl
  rw [cast] at h2
  have hlt : n < 2 ^ i := by omega
  rcases h3 with rfl | ⟨j, rfl, h3⟩
  · have hz : n = 0 := by
      rw [Nat.pow_zero] at hlt
      omega
    subst hz
    rfl
  · rw [cast] at h3
    have hge : 2 ^ j ≤ n := by omega
    have h0 : n ≠ 0 := by
      have := Nat.pow_pos (n := j) (show 0 < 2 by decide)
      omega
    rw [if_neg (by simpa using h0)]
    show (((n : Int).natAbs.log2 + 1 : Nat) : Int) = ((j + 1 : Nat) : Int)
    rw [Int.natAbs_natCast, log2_is hge hlt]
theorem bits_nn (m : Int) : 0 ≤ bitsOf m := Int.natCast_nonneg _
theorem ev_atI {ta tb : TE} {σ : L2.St} {H : Hp} {a : Addr} {ns : List Int} {i : Nat} {z : Int} (hs : SqL K H a (ns.map V.int)) (hi : i < ns.length) (hz : z = (i : Int)) (ha : Ev ta σ H (.ref a)) (hb : Ev tb σ H (.int z)) : Ev (tOp (rIxL K) ta tb) σ H (.int (at0 ns i)) := by
  subst hz
  exact ev_at hs hi ha hb
theorem ev_callN0 {tk : TA} {σ : L2.St} {H : Hp} {sp : Sp} {n : Nat} {gV : List V → List V → List V} {E : XK} {zs : List V} {z : V} (h : EvA tk σ H zs) (hn : zs.length = n) (hs : SpV sp (gV [] zs) H z) : Ev (tCallN 0 n sp gV E tNil tk) σ H z := fun H1 e Q q =>
  h H1 e _ fun H2 e2 => ⟨rfl, hn, hs H2 (e.trans e2) Q (fun H3 e3 => q H3 (e2.trans e3)) E⟩
end
end Ver
namespace Ver
open PySem PySem.Spec PyProof.Rows L2 Evl
/-! ### enumerate(xs, start=k), xs a list or a tuple -/
section
variable {M : Model} {A : Around} {E : Value → Shared → Prop} {s : Shared} {env : Env}
theorem type_with_kw {pos : Pos} {T : String} {args : List (Bool × Sem Value)} {kw : List (Option Str × Sem Value)} {Q : Value → Shared → Prop}
    (h1 : args.any (·.1) = false) (h2 : kw.any (·.1.isNone) = false)
    (h : wpAny M A (evalArgs (.type T) true args kw) (fun a s1 => wpAny M A (call (.type T) a.pos a.kw) Q E s1) E s) :
    wpAny M A (callWith pos (.type T) [] args kw) Q E s := by
  unfold callWith
  refine wpAny_bind (wpAny_holding ?_)
  refine wpAny_mono h (fun a s1 got => ?_) (fun _ _ x => x)
  refine wpAny_bind (wpAny_standAt ?_)
  simp only [h1, h2, Bool.or_false]
  refine wpAny_bind (wpAny_pure ?_)
  refine wpAny_bind (wpAny_mono got (fun r s2 hr => ?_) (fun _ _ x => x))
  exact wpAny_bind (wpAny_holding (wpAny_point (wpAny_pure hr)))
end
/-- the list at a, its items in new pairs, counted from k on -/
def IteL (K : PySem.W.Frag) (k : Int) (a : Addr) : It where
  go := fun i H => ∃ (xs : List V) (x : V), SqL K H a xs ∧ xs[i]? = some x
  yld := fun i H v H' => ∃ T x, v = .ref T ∧ H T = none ∧ H' = upd H T (.tup [.int (k + (i : Int)), x]) ∧ ∀ xs, SqL K H a xs → xs[i]? = some x
  stop := fun i H => ∃ xs : List V, SqL K H a xs ∧ xs.length = i
def IteT (K : PySem.W.Frag) (k : Int) (a : Addr) : It where
  go := fun i H => ∃ (xs : List V) (x : V), SqT K H a xs ∧ xs[i]? = some x
  yld := fun i H v H' => ∃ T x, v = .ref T ∧ H T = none ∧ H' = upd H T (.tup [.int (k + (i : Int)), x]) ∧ ∀ xs, SqT K H a xs → xs[i]? = some x
  stop := fun i H => ∃ xs : List V, SqT K H a xs ∧ xs.length = i
theorem two_mem {b e i : Addr} (h : b ∈ [e, i]) : b = e ∨ b = i := by simpa using h
section
variable {P : Program} {w : World} {K : PySem.W.Frag} {elts : List Expr} {kk : Nat} {tpos : Pos}
theorem turnL (k : Int) (a e it : Addr) : Turn P w K (.Tuple elts kk tpos) (IteL K k a) [e, it] e
    (fun i h => (∃ old, IsEnum h e it (k + (i : Int)) old) ∧ h.IsListIter it a i ∧ e ≠ it ∧ a ≠ it ∧ a ≠ e) where
  mem := List.mem_cons_self ..
  obj := fun i h st b hb => by
    obtain ⟨⟨old, he⟩, ⟨o, ho, _, hd⟩, _⟩ := st
    rcases two_mem hb with z | z
    · subst z
      exact ⟨_, he, fun v q => nomatch q⟩
    · subst z
      refine ⟨o, ho, fun v q => ?_⟩
      rw [hd] at q
      cases q
  keep := fun i h h' st kp => by
    obtain ⟨⟨old, he⟩, hi, r⟩ := st
    exact ⟨⟨old, kp e (by simp) _ he⟩, hi.at fun o q => kp it (by simp) o q, r⟩
  item := by
    intro X hP hw hK hc i pins s σ H E I hf st hg
    subst hP hw hK
    obtain ⟨⟨old, he⟩, hit, hei, hai, hae⟩ := st
    obtain ⟨xs, x, hq, hx⟩ := hg
    obtain ⟨its, rv, p, hz⟩ := I.list hq
    obtain ⟨u, hu, ru⟩ := rv.get hx
    have hil : i < its.toArray.size := by
      have := (List.getElem?_eq_some_iff.mp hu).1
      simpa using this
    have D := Draws.list (prog := X.prog) (w := X.w) (A := X.A.in1) (I.ok.hd hc) it a hai its.toArray
    have lte : e < s.heap.objs.size := Heap.lt_size he
    have lti : it < s.heap.objs.size := by
      obtain ⟨_, q, _⟩ := hit
      exact Heap.lt_size q
    refine wpAny_pyNext_enum_itemC D he ⟨hit, p.isList⟩ hil hei (by simp [hei, hae.symm]) ?_
    intro y h' tk hy ho hst hT hsz keep
    have eu : y = u := by
      have h2 : its.toArray[i]? = some u := by simpa using hu
      rw [h2] at hy
      exact (Option.some.inj hy).symm
    subst eu
    refine ⟨_, rfl, wpAny_letOwnedTupleGo_enum (s := { s with heap := h', toks := tk + 1 }) ho ?_⟩
    intro h2 he2 sb
    have t2 : h2.get? s.heap.objs.size = some { cls := .type "tuple", data := .seq #[.int (k + (i : Int)) tk, y] } := (sb.2 _ (Nat.ne_of_gt lte)).trans hT
    have new : ObjOk X.prog X.w (upd H s.heap.objs.size (.tup [.int (k + (i : Int)), x])) h2 s.heap.objs.size (.tup [.int (k + (i : Int)), x]) :=
      ⟨(by show 2 ≤ sizeLine; decide), [.int (k + (i : Int)) tk, y], .cons ⟨_, rfl⟩ (.cons ru .nil), ⟨_, t2, rfl, _, rfl⟩⟩
    have I1 : Inv X pins σ (upd H s.heap.objs.size (.tup [.int (k + (i : Int)), x])) { s with heap := h2, toks := tk + 1 } := by
      refine I.turnedNew (ch := [e, it]) (fun b ob nb q => ?_) hf (Nat.le_refl _) new
      have n1 : b ≠ e := fun z => nb (by simp [z])
      have n2 : b ≠ it := fun z => nb (by simp [z])
      exact (sb.2 b n1).trans (keep b ob n1 n2 q)
    refine ⟨.ref s.heap.objs.size, _, I1, rfl, ⟨_, x, rfl, I.hok.fresh (Nat.le_refl _), rfl, fun ys hy2 => ?_⟩, ⟨⟨y, ?_⟩, hst.1.at fun o q => (sb.2 it (Ne.symm hei)).trans q, hei, hai, hae⟩, fun b hb => ?_⟩
    · rw [I.list_inj hy2 hq]
      exact hx
    · have e1 : k + ((i + 1 : Nat) : Int) = k + (i : Int) + 1 := by omega
      rw [e1]
      exact he2
    · have lb : b < s.heap.objs.size := by
        rcases two_mem hb with z | z
        · rw [z]
          exact lte
        · rw [z]
          exact lti
      rw [upd_ne (Nat.ne_of_lt lb)]
      exact (hf b hb).1
  done := by
    intro X hP hw hK hc i pins s σ H E I hf st hg
    subst hP hw hK
    obtain ⟨⟨old, he⟩, hit, hei, hai, hae⟩ := st
    obtain ⟨xs, hq, hx⟩ := hg
    obtain ⟨its, rv, p, hz⟩ := I.list hq
    obtain ⟨f0, f1, f2, f3, f4, f5⟩ := hf it (by simp)
    have hl := rv.length
    have D := Draws.list (prog := X.prog) (w := X.w) (A := X.A.in1) (I.ok.hd hc) it a hai its.toArray
    have c : i = its.toArray.size := by
      simp
      omega
    subst c
    exact wpAny_pyNext_enum_endD D he ⟨hit, p.isList⟩ fun h' eb => ⟨rfl, I.turned (t' := s.toks) (fun b o hb q => eb b o hb q) f0 f1 f3 f4 f5⟩
  self := fun A i s Q E st h => by
    obtain ⟨⟨_, he⟩, _⟩ := st
    exact wpAny_pyIter_enum he h
theorem turnT (k : Int) (a e it : Addr) : Turn P w K (.Tuple elts kk tpos) (IteT K k a) [e, it] e
    (fun i h => (∃ old, IsEnum h e it (k + (i : Int)) old) ∧ h.IsTupleIter it a i ∧ e ≠ it ∧ a ≠ it ∧ a ≠ e) where
  mem := List.mem_cons_self ..
  obj := fun i h st b hb => by
    obtain ⟨⟨old, he⟩, ⟨o, ho, _, hd⟩, _⟩ := st
    rcases two_mem hb with z | z
    · subst z
      exact ⟨_, he, fun v q => nomatch q⟩
    · subst z
      refine ⟨o, ho, fun v q => ?_⟩
      rw [hd] at q
      cases q
  keep := fun i h h' st kp => by
    obtain ⟨⟨old, he⟩, hi, r⟩ := st
    exact ⟨⟨old, kp e (by simp) _ he⟩, hi.at fun o q => kp it (by simp) o q, r⟩
  item := by
    intro X hP hw hK hc i pins s σ H E I hf st hg
    subst hP hw hK
    obtain ⟨⟨old, he⟩, hit, hei, hai, hae⟩ := st
    obtain ⟨xs, x, hq, hx⟩ := hg
    obtain ⟨its, rv, p, hz⟩ := I.tuple hq
    obtain ⟨u, hu, ru⟩ := rv.get hx
    have hil : i < its.toArray.size := by
      have := (List.getElem?_eq_some_iff.mp hu).1
      simpa using this
    have D := Draws.tuple (prog := X.prog) (w := X.w) (A := X.A.in1) (I.ok.hd hc) it a hai its.toArray
    have lte : e < s.heap.objs.size := Heap.lt_size he
    have lti : it < s.heap.objs.size := by
      obtain ⟨_, q, _⟩ := hit
      exact Heap.lt_size q
    refine wpAny_pyNext_enum_itemC D he ⟨hit, (show s.heap.IsTuple a its.toArray from p)⟩ hil hei (by simp [hei, hae.symm]) ?_
    intro y h' tk hy ho hst hT hsz keep
    have eu : y = u := by
      have h2 : its.toArray[i]? = some u := by simpa using hu
      rw [h2] at hy
      exact (Option.some.inj hy).symm
    subst eu
    refine ⟨_, rfl, wpAny_letOwnedTupleGo_enum (s := { s with heap := h', toks := tk + 1 }) ho ?_⟩
    intro h2 he2 sb
    have t2 : h2.get? s.heap.objs.size = some { cls := .type "tuple", data := .seq #[.int (k + (i : Int)) tk, y] } := (sb.2 _ (Nat.ne_of_gt lte)).trans hT
    have new : ObjOk X.prog X.w (upd H s.heap.objs.size (.tup [.int (k + (i : Int)), x])) h2 s.heap.objs.size (.tup [.int (k + (i : Int)), x]) :=
      ⟨(by show 2 ≤ sizeLine; decide), [.int (k + (i : Int)) tk, y], .cons ⟨_, rfl⟩ (.cons ru .nil), ⟨_, t2, rfl, _, rfl⟩⟩
    have I1 : Inv X pins σ (upd H s.heap.objs.size (.tup [.int (k + (i : Int)), x])) { s with heap := h2, toks := tk + 1 } := by
      refine I.turnedNew (ch := [e, it]) (fun b ob nb q => ?_) hf (Nat.le_refl _) new
      have n1 : b ≠ e := fun z => nb (by simp [z])
      have n2 : b ≠ it := fun z => nb (by simp [z])
      exact (sb.2 b n1).trans (keep b ob n1 n2 q)
    refine ⟨.ref s.heap.objs.size, _, I1, rfl, ⟨_, x, rfl, I.hok.fresh (Nat.le_refl _), rfl, fun ys hy2 => ?_⟩, ⟨⟨y, ?_⟩, hst.1.at fun o q => (sb.2 it (Ne.symm hei)).trans q, hei, hai, hae⟩, fun b hb => ?_⟩
    · rw [I.tuple_inj hy2 hq]
      exact hx
    · have e1 : k + ((i + 1 : Nat) : Int) = k + (i : Int) + 1 := by omega
      rw [e1]
      exact he2
    · have lb : b < s.heap.objs.size := by
        rcases two_mem hb with z | z
        · rw [z]
          exact lte
        · rw [z]
          exact lti
      rw [upd_ne (Nat.ne_of_lt lb)]
      exact (hf b hb).1
  done := by
    intro X hP hw hK hc i pins s σ H E I hf st hg
    subst hP hw hK
    obtain ⟨⟨old, he⟩, hit, hei, hai, hae⟩ := st
    obtain ⟨xs, hq, hx⟩ := hg
    obtain ⟨its, rv, p, hz⟩ := I.tuple hq
    obtain ⟨f0, f1, f2, f3, f4, f5⟩ := hf it (by simp)
    have hl := rv.length
    have D := Draws.tuple (prog := X.prog) (w := X.w) (A := X.A.in1) (I.ok.hd hc) it a hai its.toArray
    have c : i = its.toArray.size := by
      simp
      omega
    subst c
    exact wpAny_pyNext_enum_endD D he ⟨hit, (show s.heap.IsTuple a its.toArray from p)⟩ fun h' eb => ⟨rfl, I.turned (t' := s.toks) (fun b o hb q => eb b o hb q) f0 f1 f3 f4 f5⟩
  self := fun A i s Q E st h => by
    obtain ⟨⟨_, he⟩, _⟩ := st
    exact wpAny_pyIter_enum he h
/-- what enumerate(xs, start=k) walks -/
def iEnumK (K : PySem.W.Frag) (ta tk : TA) : TI := fun σ H R => ta σ H fun vs H1 => tk σ H1 fun zs H2 => ∃ (a : Addr) (k : Int), vs = [.ref a] ∧ zs = [.int k] ∧ (0 ≤ k ∧ k ≤ 1000) ∧
  ((∃ xs, SqL K H2 a xs ∧ R (IteL K k a) H2) ∨ (∃ xs, SqT K H2 a xs ∧ R (IteT K k a) H2))
theorem pi_enumK {X : Cx} {e ke : Expr} {ta tk : TA} {p pos tpos kpos : Pos} {elts : List Expr} {kk : Nat} (gl : Gl X "enumerate") (no : X.mg "enumerate" = none) (ha : PA X [e] ta) (hk : PK X [⟨some (Str.ofString "start"), ke, kpos⟩] tk)
    (h1 : backTo pos (starEach [e] X.env) = (false, eval e X.env) :: backTo pos (starEach [] X.env) := by rfl) (h2 : (backTo pos (starEach [e] X.env)).any (·.1) = false := by rfl)
    (h3 : (backToKw pos (keywordEach [⟨some (Str.ofString "start"), ke, kpos⟩] X.env)).all (·.1.isSome) = true := by rfl)
    (h4 : (backToKw pos (keywordEach [⟨some (Str.ofString "start"), ke, kpos⟩] X.env)).any (·.1.isNone) = false := by rfl)
    (h5 : (backToKw pos (keywordEach [⟨some (Str.ofString "start"), ke, kpos⟩] X.env)).filterMap (·.1) = [Str.ofString "start"] := by rfl) :
    PI X (.Tuple elts kk tpos) (.Call (.Name "enumerate" p) [e] [⟨some (Str.ofString "start"), ke, kpos⟩] pos) (iEnumK X.K ta tk) := by
  refine ⟨fun pins s σ H R I h => ?_⟩
  refine wpAny_Call_Name_kw (ld_blt I gl no boot_enumerate ?_ (by decide) (by decide))
  refine type_with_kw h2 h4 ?_
  have run := ha.run pos pins s σ H _ I h
  rw [h1] at run ⊢
  refine evalArgs_kwB h3 (thn run ?_)
  intro us s1 got
  obtain ⟨vs, H1, I1, r1, q1⟩ := got
  refine thn (hk.run pos pins s1 σ H1 _ I1 q1) ?_
  intro ws s2 got2
  obtain ⟨zs, H2, I2, r2, a, k, rfl, rfl, hkb, q2⟩ := got2
  rw [h5]
  obtain ⟨u, rfl, ru⟩ := vals1 r1
  obtain ⟨v, rfl, rv⟩ := vals1 r2
  cases (show u = Value.ref a from ru)
  obtain ⟨t, rfl⟩ := rv
  have fin : ∀ (h' : Heap) (J : It) (tn : Nat → Heap → Prop), (∀ b o, s2.heap.get? b = some o → h'.get? b = some o) → Turn X.prog X.w X.K (.Tuple elts kk tpos) J [s2.heap.objs.size + 1, s2.heap.objs.size] (s2.heap.objs.size + 1) tn → tn 0 h' → R J H2 →
      PIE X pins σ (.Tuple elts kk tpos) R (.ref (s2.heap.objs.size + 1)) { s2 with heap := h' } := by
    intro h' J tn keep tr t0 q
    have I3 : Inv X pins σ H2 { s2 with heap := h' } := I2.kept (t' := s2.toks) keep
    refine ⟨s2.heap.objs.size + 1, [s2.heap.objs.size + 1, s2.heap.objs.size], tn, J, H2, rfl, I3, tr, t0, fun b hb => ?_, q⟩
    have le : s2.heap.objs.size ≤ b := by
      rcases two_mem hb with z | z
      · rw [z]
        exact Nat.le_add_right _ _
      · rw [z]
        exact Nat.le_refl _
    exact I2.fpOk le (I2.hok.fresh le)
  have k0 : k + ((0 : Nat) : Int) = k := by simp
  rcases q2 with ⟨xs, hs, q⟩ | ⟨xs, hs, q⟩
  · obtain ⟨its, _, p', _⟩ := I2.list hs
    have la : a < s2.heap.objs.size := p'.lt
    refine enum_begins_start (begins_list a its.toArray) p'.isList (by omega) (by omega) fun h' he hit hsz keep => wpAny_pyIter_enum he ?_
    exact fin h' _ _ keep (turnL k a _ _) ⟨⟨.none, by rw [k0]; exact he⟩, ⟨_, hit, rfl, rfl⟩, Nat.succ_ne_self _, Nat.ne_of_lt la, Nat.ne_of_lt (Nat.lt_succ_of_lt la)⟩ q
  · obtain ⟨its, _, p', _⟩ := I2.tuple hs
    have la : a < s2.heap.objs.size := p'.lt
    refine enum_begins_start (begins_tuple a its.toArray) (show s2.heap.IsTuple a its.toArray from p') (by omega) (by omega) fun h' he hit hsz keep => wpAny_pyIter_enum he ?_
    exact fin h' _ _ keep (turnT k a _ _) ⟨⟨.none, by rw [k0]; exact he⟩, ⟨_, hit, rfl, rfl⟩, Nat.succ_ne_self _, Nat.ne_of_lt la, Nat.ne_of_lt (Nat.lt_succ_of_lt la)⟩ q
end
end Ver
namespace Ver
open PySem PySem.Spec PyProof.Rows L2 Evl
/-! ### zip of two texts, in new pairs -/
def Izs (x y : Str) : It where
  go := fun i H => i < x.cps.size ∧ i < y.cps.size
  yld := fun i H v H' => ∃ T c d, v = .ref T ∧ H T = none ∧ H' = upd H T (.tup [.str ⟨#[c]⟩, .str ⟨#[d]⟩]) ∧ x.cps[i]? = some c ∧ y.cps[i]? = some d
  stop := fun i H => i ≤ x.cps.size ∧ i ≤ y.cps.size ∧ (i = x.cps.size ∨ i = y.cps.size)
section
variable {P : Program} {w : World} {K : PySem.W.Frag} {elts : List Expr} {kk : Nat} {tpos : Pos}
theorem five_mem {c z a b d e : Addr} (h : c ∈ [z, a, b, d, e]) : c = z ∨ c = a ∨ c = b ∨ c = d ∨ c = e := by simpa using h
theorem si_at {h h' : Heap} {i : Addr} {n : String} {x : Str} {t : Tok} {k : Nat} (s : h.IsStrIter i n x t k) (f : ∀ o, h.get? i = some o → h'.get? i = some o) : h'.IsStrIter i n x t k := by
  obtain ⟨o, e, r⟩ := s
  exact ⟨o, f o e, r⟩
theorem turnZs (x y : Str) (t u : Tok) (z TI TO i1 i2 : Addr) (S : ZipSep2 z TI TO i1 i2 [i1] [i2]) : Turn P w K (.Tuple elts kk tpos) (Izs x y) [z, TI, TO, i1, i2] z
    (fun i h => IsZip h z TI TO .none ∧ IsTupOf2 h TI (.ref i1) (.ref i2) ∧ (∃ a1 a2, IsTupOf2 h TO a1 a2) ∧ h.IsStrIter i1 (strIterType x) x t i ∧ h.IsStrIter i2 (strIterType y) y u i) where
  mem := List.mem_cons_self ..
  obj := fun i h st c hc => by
    obtain ⟨hz, hTI, ⟨a1, a2, hTO⟩, ⟨o1, e1, _, d1⟩, ⟨o2, e2, _, d2⟩⟩ := st
    rcases five_mem hc with q | q | q | q | q
    · rw [q]; exact ⟨_, hz, fun v q => nomatch q⟩
    · rw [q]; exact ⟨_, hTI, fun v q => nomatch q⟩
    · rw [q]; exact ⟨_, hTO, fun v q => nomatch q⟩
    · rw [q]; exact ⟨o1, e1, fun v q => by rw [d1] at q; cases q⟩
    · rw [q]; exact ⟨o2, e2, fun v q => by rw [d2] at q; cases q⟩
  keep := fun i h h' st k => by
    obtain ⟨hz, hTI, ⟨a1, a2, hTO⟩, h1, h2⟩ := st
    exact ⟨k z (by simp) _ hz, k TI (by simp) _ hTI, ⟨a1, a2, k TO (by simp) _ hTO⟩, si_at h1 fun o q => k i1 (by simp) o q, si_at h2 fun o q => k i2 (by simp) o q⟩
  item := by
    intro X hP hw hK hc i pins s σ H E I hf st hg
    subst hP hw hK
    obtain ⟨hz, hTI, ⟨a1, a2, hTO⟩, h1, h2⟩ := st
    have D1 := Draws.text (prog := X.prog) (w := X.w) (A := X.A.in1) (I.ok.hd hc) i1 x t
    have D2 := Draws.text (prog := X.prog) (w := X.w) (A := X.A.in1) (I.ok.hd hc) i2 y u
    have hzl : z < s.heap.objs.size := Heap.lt_size hz
    have l1 : i1 < s.heap.objs.size := by
      obtain ⟨o, e, _⟩ := h1
      exact Heap.lt_size e
    have l2 : i2 < s.heap.objs.size := by
      obtain ⟨o, e, _⟩ := h2
      exact Heap.lt_size e
    refine wpAny_pyNext_zipD2_item S D1 D2 hz hTI hTO h1 h2 hg.1 hg.2 fun y1 y2 h' tk ⟨c, u1, hc1, ev1⟩ ⟨d, u2, hd1, ev2⟩ b1 b2 s1 s2 hT hsz hk => ?_
    subst ev1
    subst ev2
    refine ⟨_, rfl, wpAny_letOwnedTupleGo_zip (s := { s with heap := h', toks := tk }) b1 fun h'' z'' sb => ?_⟩
    have hT2 : h''.get? s.heap.objs.size = some { cls := .type "tuple", data := .seq #[.str ⟨#[c]⟩ u1, .str ⟨#[d]⟩ u2] } := (sb.2 _ (Nat.ne_of_gt hzl)).trans hT
    have new : ObjOk X.prog X.w (upd H s.heap.objs.size (.tup [.str ⟨#[c]⟩, .str ⟨#[d]⟩])) h'' s.heap.objs.size (.tup [.str ⟨#[c]⟩, .str ⟨#[d]⟩]) :=
      ⟨(by show 2 ≤ sizeLine; decide), [.str ⟨#[c]⟩ u1, .str ⟨#[d]⟩ u2], .cons ⟨_, rfl⟩ (.cons ⟨_, rfl⟩ .nil), ⟨_, hT2, rfl, _, rfl⟩⟩
    have I1 : Inv X pins σ (upd H s.heap.objs.size (.tup [.str ⟨#[c]⟩, .str ⟨#[d]⟩])) { s with heap := h'', toks := tk } := by
      refine I.turnedNew (ch := [z, TI, TO, i1, i2]) (fun b ob nb q => ?_) hf (Nat.le_refl _) new
      exact (sb.2 b (fun q' => nb (by simp [q']))).trans (hk b ob (fun q' => nb (by simp [q'])) (fun q' => nb (by simp [q'])) (fun q' => nb (by simp [q'])) (fun q' => nb (by simp [q'])) q)
    refine ⟨.ref s.heap.objs.size, _, I1, rfl, ⟨_, c, d, rfl, I.hok.fresh (Nat.le_refl _), rfl, hc1, hd1⟩, ⟨z'', ?_, ⟨.str ⟨#[c]⟩ u1, .str ⟨#[d]⟩ u2, ?_⟩, ?_, ?_⟩, fun b hb => ?_⟩
    · exact (sb.2 _ S.TIz).trans (hk _ _ S.TIz S.TITO S.TIi1 S.TIi2 hTI)
    · exact (sb.2 _ S.TOz).trans b2
    · exact si_at s1 fun o q => (sb.2 _ S.zi1.symm).trans q
    · exact si_at s2 fun o q => (sb.2 _ S.zi2.symm).trans q
    · have hlt : b < s.heap.objs.size := by
        rcases five_mem hb with q | q | q | q | q
        · rw [q]; exact hzl
        · rw [q]; exact Heap.lt_size hTI
        · rw [q]; exact Heap.lt_size hTO
        · rw [q]; exact l1
        · rw [q]; exact l2
      rw [upd_ne (Nat.ne_of_lt hlt)]
      exact (hf b hb).1
  done := by
    intro X hP hw hK hc i pins s σ H E I hf st hg
    subst hP hw hK
    obtain ⟨hz, hTI, ⟨a1, a2, hTO⟩, h1, h2⟩ := st
    have D1 := Draws.text (prog := X.prog) (w := X.w) (A := X.A.in1) (I.ok.hd hc) i1 x t
    have D2 := Draws.text (prog := X.prog) (w := X.w) (A := X.A.in1) (I.ok.hd hc) i2 y u
    exact wpAny_pyNext_zipD2_end S D1 D2 hz hTI hTO h1 h2 hg.1 hg.2.1 hg.2.2 fun h' tk hk => ⟨rfl, I.turnedL (t' := tk) (ch := [z, TI, TO, i1, i2]) (fun c o hb q =>
      hk c o (fun q' => hb (by simp [q'])) (fun q' => hb (by simp [q'])) (fun q' => hb (by simp [q'])) (fun q' => hb (by simp [q'])) q) hf⟩
  self := fun A i s Q E st h => wpAny_pyIter_zip st.1 h
theorem ne_nat {a b : Nat} (h : a ≠ b) : (show Addr from a) ≠ (show Addr from b) := h
theorem sep_n (n : Nat) : ZipSep2 (n + 4) (n + 2) (n + 3) n (n + 1) [n] [n + 1] :=
  ⟨ne_nat (by omega), ne_nat (by omega), ne_nat (by omega), ne_nat (by omega), List.mem_singleton.mpr rfl, fun h => absurd (List.mem_singleton.mp h) (ne_nat (by omega)), fun h => absurd (List.mem_singleton.mp h) (ne_nat (by omega)),
    ne_nat (by omega), List.mem_singleton.mpr rfl, fun h => absurd (List.mem_singleton.mp h) (ne_nat (by omega)), fun h => absurd (List.mem_singleton.mp h) (ne_nat (by omega)), fun h => absurd (List.mem_singleton.mp h) (ne_nat (by omega)), fun h => absurd (List.mem_singleton.mp h) (ne_nat (by omega))⟩
def iZipS (ta : TA) : TI := fun σ H R => ta σ H fun vs H1 => ∃ x y, vs = [.str x, .str y] ∧ R (Izs x y) H1
theorem pi_zipS {X : Cx} {e e2 : Expr} {ta : TA} {p pos tpos : Pos} {elts : List Expr} {kk : Nat} (hg : Gl X "zip") (hm : X.mg "zip" = none) (ha : PA X [e, e2] ta)
    (hs : starEach [e, e2] X.env = (false, eval e X.env) :: starEach [e2] X.env := by rfl) (hpl : (backTo pos (starEach [e2] X.env)).any (·.1) = false := by rfl) :
    PI X (.Tuple elts kk tpos) (.Call (.Name "zip" p) [e, e2] [] pos) (iZipS ta) := by
  refine ⟨fun pins s σ H R I h => ?_⟩
  refine Call_ (ld_blt I hg hm PyProof.Rows.boot_zip (PyProof.Rows.callWith_type1 (thn (ha.run pos pins s σ H _ I h) fun us s1 ⟨vs, H1, I1, r1, q1⟩ => ?_) hs hpl))
  obtain ⟨x, y, ex, q⟩ := q1
  subst ex
  cases r1 with
  | cons r rr =>
    cases rr with
    | cons r' rr =>
      cases rr
      obtain ⟨t, rfl⟩ := r
      obtain ⟨u, rfl⟩ := r'
      refine zip_begins2 (begins_text x t) (begins_text y u) trivial trivial fun h' hz hTI hTO g1 g2 hsz hk => wpAny_pyIter_zip hz ?_
      have I2 : Inv X pins σ H1 { s1 with heap := h' } := I1.kept (t' := s1.toks) hk
      have S := sep_n s1.heap.objs.size
      refine ⟨s1.heap.objs.size + 4, [s1.heap.objs.size + 4, s1.heap.objs.size + 2, s1.heap.objs.size + 3, s1.heap.objs.size, s1.heap.objs.size + 1], _, _, H1, rfl, I2, turnZs x y t u _ _ _ _ _ S, ⟨hz, hTI, ⟨_, _, hTO⟩, ⟨_, g1, rfl, rfl⟩, ⟨_, g2, rfl, rfl⟩⟩, fun c hcm => ?_, q⟩
      have hle : s1.heap.objs.size ≤ c := by
        rcases five_mem hcm with z | z | z | z | z
        · rw [z]; exact Nat.le_add_right _ _
        · rw [z]; exact Nat.le_add_right _ _
        · rw [z]; exact Nat.le_add_right _ _
        · rw [z]; exact Nat.le_refl _
        · rw [z]; exact Nat.le_add_right _ _
      exact I1.fpOk hle (I1.hok.fresh hle)
end
end Ver
namespace Ver
open PySem PySem.Spec PyProof.Rows L2 Evl
section
open AutoSeq1 (wpAny_loadPart')
theorem meets_enumerate_newT (l : Addr) (items : Array Value) (n : Nat) (dct : Option Addr) (sl : Array (Option Value)) :
    Meets (Builtin.«enumerate.__new__» ⟨[.type "enumerate", .ref l], []⟩) (fun _ R s => s.heap.get? l = some { cls := .type "tuple", dict := dct, data := .seq items n, slots := sl } ∧
      R (.ok (.ret (.ref (s.heap.push { cls := .type "tuple_iterator", data := .fields #[.ref l, .int 0 0] }).objs.size)))
        { s with heap := (s.heap.push { cls := .type "tuple_iterator", data := .fields #[.ref l, .int 0 0] }).push { cls := .type "enumerate", data := .fields #[.none, .bool false, .ref s.heap.objs.size, rawInt 0, .none, .none] } }) :=
  .of_wp fun prog w A R s h => by
    obtain ⟨hp, g, d, tk, os⟩ := s; obtain ⟨hl, h⟩ := h
    have hsub := sub_enumerate
    have hL : Heap.IsTuple (Shared.heap ⟨hp, g, d, tk, os⟩) l items := ⟨_, hl, rfl, n, rfl⟩
    wp_walk using wpAny_loadPart' hl
    refine wpAny_stack_any fun st => wpAny_pure ?_
    split
    · rename_i c _ _ _ _ _
      cases (c == Value.type "enumerate")
      · wp_walk using wpAny_loadPart' hl, wpAny_pyIter_tuple hL
        exact ⟨_, rfl, h⟩
      · wp_walk using wpAny_loadPart' hl, wpAny_pyIter_tuple hL
        exact ⟨_, rfl, h⟩
    · wp_walk using wpAny_loadPart' hl, wpAny_pyIter_tuple hL
      exact ⟨_, rfl, h⟩
end
section
variable {prog : Program} {w : World} {A : Around} {E : Value → Shared → Prop} {s : Shared}
theorem call_enumerate_tuple {l : Addr} {items : Array Value} {Q : Value → Shared → Prop} (hL : s.heap.IsTuple l items)
    (h : ∀ h', IsEnum h' (s.heap.objs.size + 1) s.heap.objs.size 0 .none → h'.get? s.heap.objs.size = some { cls := .type "tuple_iterator", data := .fields #[.ref l, .int 0 0] } → h'.objs.size = s.heap.objs.size + 2 →
      (∀ b o, s.heap.get? b = some o → h'.get? b = some o) → Q (.ref (s.heap.objs.size + 1)) { s with heap := h' }) :
    wpAny (model prog w) A (call (.type "enumerate") [.ref l]) Q E s := by
  obtain ⟨⟨c, dct, dt, sl⟩, hl, hc, n, hd⟩ := hL
  replace hc : c = .type "tuple" := hc
  replace hd : dt = .seq items n := hd
  subst hc hd
  refine callType_new F.called_enumerate (by decide) (F.typeCall_enumerate_1 _) (F.newCall_enumerate_1 _) (fun obj => F.args_object_init_2 obj _) F.entry_enumerate_new
    (meets_enumerate_newT l items n dct sl) ⟨hl, ?_⟩
  have hz : (s.heap.push { cls := .type "tuple_iterator", data := .fields #[.ref l, .int 0 0] }).objs.size = s.heap.objs.size + 1 := Heap.size_push ..
  show _ ∧ _
  rw [hz]
  have he : IsEnum ((s.heap.push { cls := .type "tuple_iterator", data := .fields #[.ref l, .int 0 0] }).push
      { cls := .type "enumerate", data := .fields #[.none, .bool false, .ref s.heap.objs.size, rawInt 0, .none, .none] }) (s.heap.objs.size + 1) s.heap.objs.size 0 .none := by
    have := Heap.get?_push_size (s.heap.push { cls := .type "tuple_iterator", data := .fields #[.ref l, .int 0 0] })
      (o := { cls := .type "enumerate", data := .fields #[.none, .bool false, .ref s.heap.objs.size, rawInt 0, .none, .none] }) rfl
    rw [hz] at this; exact this
  refine ⟨⟨_, he, rfl⟩, h _ he (Heap.get?_push_of_some _ (Heap.get?_push_size _ rfl)) (by rw [Heap.size_push, hz]) fun b o x => Heap.get?_push_of_some _ (Heap.get?_push_of_some _ x)⟩
end
def iEnumT (K : PySem.W.Frag) (ta : TA) : TI := fun σ H R => ta σ H fun vs H1 => ∃ (a : Addr) (xs : List V), vs = [.ref a] ∧ SqT K H1 a xs ∧ R (IteT K 0 a) H1
theorem pi_enumT {X : Cx} {e : Expr} {ta : TA} {p pos tpos : Pos} {elts : List Expr} {kk : Nat} (hg : Gl X "enumerate") (hm : X.mg "enumerate" = none) (ha : PA X [e] ta) (hs : starEach [e] X.env = [(false, eval e X.env)] := by rfl) :
    PI X (.Tuple elts kk tpos) (.Call (.Name "enumerate" p) [e] [] pos) (iEnumT X.K ta) := by
  refine ⟨fun pins s σ H R I h => ?_⟩
  refine Call_ (ld_blt I hg hm boot_enumerate (PyProof.Rows.callWith_type1 (thn (ha.run pos pins s σ H _ I h) fun us s1 ⟨vs, H1, I1, r1, q1⟩ => ?_) hs rfl))
  obtain ⟨a, xs, ex, hq, q⟩ := q1
  subst ex
  cases r1 with
  | cons r rr =>
    cases rr
    cases r
    obtain ⟨its, rv, p', hz⟩ := I1.tuple hq
    have la : a < s1.heap.objs.size := p'.lt
    refine call_enumerate_tuple (show s1.heap.IsTuple a its.toArray from p') fun h' he hit hsz hk => wpAny_pyIter_enum he ?_
    have I2 : Inv X pins σ H1 { s1 with heap := h' } := I1.kept (t' := s1.toks) hk
    have k0 : (0 : Int) + ((0 : Nat) : Int) = 0 := by simp
    refine ⟨s1.heap.objs.size + 1, [s1.heap.objs.size + 1, s1.heap.objs.size], _, _, H1, rfl, I2, turnT 0 a (s1.heap.objs.size + 1) s1.heap.objs.size, ⟨⟨.none, by rw [k0]; exact he⟩, ⟨_, hit, rfl, rfl⟩, Nat.succ_ne_self _, Nat.ne_of_lt la, Nat.ne_of_lt (Nat.lt_succ_of_lt la)⟩, fun b hb => ?_, q⟩
    have hle : s1.heap.objs.size ≤ b := by
      rcases two_mem hb with z | z
      · rw [z]; exact Nat.le_add_right _ _
      · rw [z]; exact Nat.le_refl _
    exact I1.fpOk hle (I1.hok.fresh hle)
/-! ### what follows: readings of walks with pairs -/
section
variable {K : PySem.W.Frag}
theorem walk_zs {x y : Str} : Walk (Izs x y) (min x.cps.size y.cps.size) (fun _ => True) (YPair (fun i => (x.cps.toList[i]?).map fun c => V.str ⟨#[c]⟩) (fun i => (y.cps.toList[i]?).map fun c => V.str ⟨#[c]⟩)) := by
  refine ⟨fun i _ hi q => ?_, fun _ q => ?_, fun i H v H' hi q y' => ?_⟩
  · show i < x.cps.size ∧ i < y.cps.size
    omega
  · show _ ≤ x.cps.size ∧ _ ≤ y.cps.size ∧ _
    omega
  obtain ⟨T, c, d, h1, h2, h3, h4, h5⟩ := y'
  refine ⟨T, .str ⟨#[c]⟩, .str ⟨#[d]⟩, h1, h2, h3, ?_, ?_⟩
  · show Option.map _ (x.cps.toList[i]?) = _
    rw [Array.getElem?_toList, h4]
    rfl
  · show Option.map _ (y.cps.toList[i]?) = _
    rw [Array.getElem?_toList, h5]
    rfl
end
end Ver
namespace Ver
open PySem PySem.Spec PyProof.Rows L2 Evl
open PySem.Builtin PySem.Builtin.Float
/-! ### f"{n:b}" -/
def binS (n : Nat) : Str := ⟨((Nat.toDigits 2 n).map Char.toNat).toArray⟩
def fB : FormatSpec := { align := 62, type := some 98 }
theorem parse_b (name : String) : parseFormatSpec (Str.ofString "b").cps.toList name 62 = .ok fB := by rfl
section
variable {prog : Program} {w : World} {A : Around} {E : Value → Shared → Prop} {s : Shared}
theorem plain_field {D : List Nat} (h : D.isEmpty = false) : intField' { align := 62, type := some 98 } false [] D [] 4 = ⟨D.toArray⟩ := by
  unfold intField'
  simp [h]
theorem field_b {n : Nat} {t : Tok} {sp : Str} {f : FormatSpec} {Q : Value → Shared → Prop} (hz : (binS n).length ≤ sizeLine) (sz : sp.length ≤ sizeLine) (hne : (sp.length == 0) = false)
    (hasc : ((sp.cps.toList.drop 1).any (· ≥ 128) || (sp.cps.getD 0 0 ≥ 128 && !([60, 62, 61, 94] : List Nat).contains (sp.cps.getD 1 0))) = false)
    (hp : ∀ name, parseFormatSpec sp.cps.toList name 62 = .ok f) (hf : f = { align := 62, type := some 98 })
    (h : ∀ k1 k2, Q (.str (binS n) k1) { s with toks := k2 }) :
    wpAny (model prog w) A (formatField (.int (n : Int) t) sp) Q E s := by
  show wpAny _ _ (holding [.int (n : Int) t] (pyFormat (.int (n : Int) t) sp)) Q E s
  refine wpAny_holding ?_
  unfold pyFormat
  refine wpAny_bind (wpAny_mkStr ?_ sz)
  have isI : ∀ s' : Shared, s'.TypeIs (.int (n : Int) t) "int" := fun s' => typeIs_int s' (n : Int) t
  refine wpAny_bind (m := callSpecial? (.int (n : Int) t) (Str.ofString "__format__") [.str sp s.toks])
    (wpAny_callSpecial?_slot (name := Str.ofString "__format__") (isI _) slot_int_format ?_)
  refine wpAny_call (codeAny_call_builtin slot_int_format.plain entry_int_format
    (slot_int_format.check _ _ _ _ _ _ _ _ (isI _) (args_int_format _ _) ?_))
  unfold Builtin.«int.__format__»
  have hv : (Value.str sp s.toks == Value.none) = false := rfl
  simp only [selfAndOne, noKeywords, Int.intOfSelf, asInt?, asStr?, List.isEmpty_nil, if_true, pure_bind, bind_pure, bind_assoc, hne, hasc, Bool.false_eq_true, if_false, hv]
  refine wpAny_bind (wpAny_typeNameOf (T := "str") (typeIs_str _ _ _) (by decide) ?_)
  intro kind
  refine wpAny_bind (wpAny_typeNameOfCut_int ?_)
  have hty : f.type.getD (if sp.cps.back? == some 0 then 0 else 100) = 98 := by
    rw [hf]
    rfl
  have hpr : f.precision = none := by rw [hf]
  have hnz : f.noNeg0 = false := by rw [hf]
  have hw : f.width = none := by rw [hf]
  have hal : f.alt = false := by rw [hf]
  simp only [hp, hty]
  rw [if_pos (by decide)]
  show wpAny _ _ (if _ then _ else _) _ _ _
  rw [if_neg (by simp [hpr])]
  show wpAny _ _ (if _ then _ else _) _ _ _
  rw [if_neg (by simp [hnz])]
  show wpAny _ _ (if _ then _ else _) _ _ _
  rw [if_neg (by decide)]
  show wpAny _ _ (if _ then _ else _) _ _ _
  rw [if_neg (by decide)]
  show wpAny _ _ (if _ then _ else _) _ _ _
  rw [if_neg (by simp [hw])]
  show wpAny _ _ (retStr _) _ _ _
  unfold retStr
  have neg : decide ((n : Int) < 0) = false := by
    rw [decide_eq_false_iff_not]
    omega
  have ab : ((n : Int)).natAbs = n := Int.natAbs_natCast n
  have up : (fun c : Char => (if ((98 : Nat) == 88) = true then c.toUpper else c).toNat) = Char.toNat := by
    funext c
    rfl
  have b2 : ((2 : Nat) == 10) = false := rfl
  simp only [hal, neg, ab, up, b2, Bool.false_eq_true, if_false]
  subst hf
  have len1 := tDigits_len_ge 2 n
  unfold binS at hz h
  generalize hD : (Nat.toDigits 2 n).map Char.toNat = D at hz h ⊢
  have hD2 : D.isEmpty = false := by
    rw [← hD]
    cases hE : Nat.toDigits 2 n with
    | nil =>
      rw [hE] at len1
      exact absurd len1 (by decide)
    | cons x r => rfl
  refine wpAny_bind (wpAny_mkStr (wpAny_pure ?_) ?hs2)
  case hs2 =>
    show (intField' { align := 62, type := some 98 } false [] D [] 4).length ≤ sizeLine
    rw [plain_field hD2]
    exact hz
  have e : ∀ (k1 : Tok) (k2 : Nat), Q (.str (intField' { align := 62, type := some 98 } false [] D [] 4) k1) { s with toks := k2 } := by
    rw [plain_field hD2]
    exact h
  dsimp only
  refine wpAny_bind (wpAny_isInstance (typeIs_str _ _ _) isSubtype_str_str ?_)
  exact wpAny_pure (e _ _)
end
/-- f"{n:b}" of a number that is not below 0 -/
def tBin (te : TE) : TE := fun σ H Q => te σ H fun x H1 => ∃ n : Nat, x = .int (n : Int) ∧ n < 2 ^ 1000 ∧ Q (.str (binS n)) H1
theorem binS_len {n : Nat} (h : n < 2 ^ 1000) : (binS n).length ≤ sizeLine := by
  have e : (binS n).length = (bins n).length := by
    unfold binS bins Str.length
    simp
  rw [e]
  exact Nat.le_trans (bins_len (by decide) h) (by decide)
theorem spec_facts : (Str.ofString "b").length ≤ sizeLine ∧ ((Str.ofString "b").length == 0) = false ∧
    (((Str.ofString "b").cps.toList.drop 1).any (· ≥ 128) || ((Str.ofString "b").cps.getD 0 0 ≥ 128 && !([60, 62, 61, 94] : List Nat).contains ((Str.ofString "b").cps.getD 1 0))) = false := by decide +kernel
theorem pe_bin {X : Cx} {e se : Expr} {te : TE} {pos : Pos} (he : PE X e te) (hs : PE X se (tC (.str (Str.ofString "b")))) : PE X (.FormattedValue e (-1) (some se) pos) (tBin te) := by
  refine ⟨fun pins s σ H Q I h => ?_⟩
  refine wpAny_FormattedValue_spec (thn (he.run pins s σ H _ I h) ?_)
  intro v s1 got
  obtain ⟨x, H1, I1, r1, n, rfl, hn, q⟩ := got
  obtain ⟨t, rfl⟩ := r1
  refine thn (hs.run pins s1 σ H1 (fun y H2 => y = .str (Str.ofString "b") ∧ Q (.str (binS n)) H2) I1 ⟨rfl, q⟩) ?_
  intro r s2 got2
  obtain ⟨y, H2, I2, r2, rfl, q2⟩ := got2
  obtain ⟨t2, rfl⟩ := r2
  obtain ⟨z1, z2, z3⟩ := spec_facts
  exact ⟨_, t2, rfl, field_b (binS_len hn) z1 z2 z3 parse_b rfl fun k1 k2 => ⟨.str (binS n), H2, I2.tok k2, ⟨k1, rfl⟩, q2⟩⟩
theorem ev_bin {te : TE} {σ : L2.St} {H : Hp} {n : Nat} (h : Ev te σ H (.int (n : Int))) (hn : n < 2 ^ 1000) : Ev (tBin te) σ H (.str (binS n)) := fun H1 e Q q =>
  h H1 e _ fun H2 e2 => ⟨n, rfl, hn, q H2 e2⟩
end Ver
namespace Ver
open PySem PySem.Spec PyProof.Rows L2 Evl
section
variable {P : Program} {w : World} {K : PySem.W.Frag} {mg : Str → Option Value} {base : Heap}
theorem walk_eL {k : Int} {a : Addr} {xs : List V} : Walk (IteL K k a) xs.length (fun H => SqL K H a xs) (YPair (fun i => some (.int (k + (i : Int)))) (fun i => xs[i]?)) := by
  refine ⟨fun i _ hi q => ⟨xs, xs[i], q, by simp [hi]⟩, fun _ q => ⟨xs, q, rfl⟩, fun i H v H' _ q y => ?_⟩
  obtain ⟨T, x, h1, h2, h3, h4⟩ := y
  exact ⟨T, .int (k + (i : Int)), x, h1, h2, h3, rfl, h4 xs q⟩
theorem walk_eT {k : Int} {a : Addr} {xs : List V} : Walk (IteT K k a) xs.length (fun H => SqT K H a xs) (YPair (fun i => some (.int (k + (i : Int)))) (fun i => xs[i]?)) := by
  refine ⟨fun i _ hi q => ⟨xs, xs[i], q, by simp [hi]⟩, fun _ q => ⟨xs, q, rfl⟩, fun i H v H' _ q y => ?_⟩
  obtain ⟨T, x, h1, h2, h3, h4⟩ := y
  exact ⟨T, .int (k + (i : Int)), x, h1, h2, h3, rfl, h4 xs q⟩
theorem s_forE {tl tk : TA} {tb : TS} {D : Ends} {σ : L2.St} {H : Hp} {a : Addr} {k : Int} {xs : List V} {j1 j2 : Nat} (h : EvA tl σ H [.ref a]) (hk : EvA tk σ H [.int k]) (hb : 0 ≤ k ∧ k ≤ 1000) (hx : SqL K H a xs ∨ SqT K H a xs)
    (Pv : Nat → L2.St → Hp → Prop) (h0 : ∀ H1, Ex H H1 → Pv 0 σ H1) (hG : ∀ i σ' H', Pv i σ' H' → Ex H H')
    (hs : ∀ i x σ' H' H2, xs[i]? = some x → Pv i σ' H' → Ex H' H2 → tb { D with nx := Pv (i + 1), ct := Pv (i + 1), bk := D.nx } ((σ'.set j1 (some (.int (k + (i : Int))))).set j2 (some x)) H2)
    (hd : ∀ σ' H', Pv xs.length σ' H' → D.nx σ' H') : tFor (iEnumK K tl tk) (gTup K 2 (gCons (gName j1) (gCons (gName j2) gNil))) tb D σ H := by
  refine h H (Ex.refl H) _ fun H1 e1 => hk H1 e1 _ fun H2 e2 => ?_
  have e12 := e1.trans e2
  have step : ∀ (i : Nat) (x : V) (σ' : L2.St) (H3 H4 : Hp), i < xs.length → Pv i σ' H3 → YPair (fun i => some (.int (k + (i : Int)))) (fun i => xs[i]?) i H3 x H4 →
      gTup K 2 (gCons (gName j1) (gCons (gName j2) gNil)) x σ' H4 fun σ2 H5 => tb { D with nx := Pv (i + 1), ct := Pv (i + 1), bk := D.nx } σ2 H5 := by
    intro i v σ' H3 H4 _ p y
    obtain ⟨T, x, z, rfl, hT, rfl, e3, e4⟩ := y
    cases e3
    exact ⟨T, [.int (k + (i : Int)), z], rfl, st_of upd_same, rfl, _, _, rfl, _, _, rfl, rfl, hs i z σ' H3 _ e4 p (Ex.new hT)⟩
  refine ⟨a, k, rfl, rfl, hb, ?_⟩
  rcases hx with hx | hx
  · exact .inl ⟨xs, ex_l e12 hx, for_it (walk_eL (xs := xs)) Pv (h0 H2 e12) (fun i σ' H' _ p => ex_l (hG i σ' H' p) hx) step hd⟩
  · exact .inr ⟨xs, ex_t e12 hx, for_it (walk_eT (xs := xs)) Pv (h0 H2 e12) (fun i σ' H' _ p => ex_t (hG i σ' H' p) hx) step hd⟩
theorem ev_bm {r : V → List V → Hp → VK → Prop} {to : TE} {ta : TA} {σ : L2.St} {H : Hp} {ty : String} {x z : V} {vs : List V} (hx : Ev to σ H x) (ht : ∀ H1, Ex H H1 → tyV K ty x H1) (ha : EvA ta σ H vs)
    (hr : ∀ H1, Ex H H1 → ∀ Q : VK, (∀ H2, Ex H1 H2 → Q z H2) → r x vs H1 Q) : Ev (tBM K ty r to ta) σ H z := fun H1 e Q q =>
  hx H1 e _ fun H2 e2 => ⟨ht H2 (e.trans e2), ha H2 (e.trans e2) _ fun H3 e3 => hr H3 ((e.trans e2).trans e3) Q fun H4 e4 => q H4 ((e2.trans e3).trans e4)⟩
def nb (n m : Int) : Str := ⟨(nbL n.toNat (bitsOf m).toNat).toArray⟩
theorem bits_lt {n m : Int} (h0 : 0 ≤ n) (h : n < m) : n.toNat < 2 ^ (bitsOf m).toNat := by
  unfold bitsOf Builtin.Int.intBits
  obtain ⟨k, hk⟩ := Int.eq_ofNat_of_zero_le (show 0 ≤ m - 1 by omega)
  rw [hk]
  have hn : n.toNat ≤ k := by omega
  by_cases c : k = 0
  · subst c
    have : n.toNat = 0 := by omega
    rw [this]
    decide
  · rw [if_neg (by simpa using c)]
    rw [Int.toNat_natCast, Int.natAbs_natCast]
    exact Nat.lt_of_le_of_lt hn Nat.lt_log2_self
theorem bits_le {m : Int} {b : Nat} (h1 : 1 ≤ m) (h : m ≤ 2 ^ b) : bitsOf m ≤ (b : Int) := by
  unfold bitsOf Builtin.Int.intBits
  obtain ⟨k, hk⟩ := Int.eq_ofNat_of_zero_le (show 0 ≤ m - 1 by omega)
  rw [hk]
  by_cases c : k = 0
  · subst c
    exact Int.natCast_nonneg b
  · rw [if_neg (by simpa using c)]
    have cast : (2 : Int) ^ b = ((2 ^ b : Nat) : Int) := by
      rw [Int.natCast_pow]
      rfl
    rw [cast] at h
    have := (Nat.log2_lt c).mpr (show k < 2 ^ b by omega)
    rw [Int.natAbs_natCast]
    omega
theorem zfill_is {n w : Nat} (hw : w ≠ 0) (h : n < 2 ^ w) : Txt.zfill (binS n) (w : Int) = ⟨(nbL n w).toArray⟩ := by
  have hl : (binS n).length = (bins n).length := by
    unfold binS bins Str.length
    simp
  have hle := bins_len (by omega) h
  have hpos := bins_pos n
  have hd := (bins_ok n).1
  unfold Txt.zfill nbL
  rw [if_neg hw, hl]
  by_cases c : (w : Int) ≤ ((bins n).length : Nat)
  · rw [if_pos c]
    have e : w - (bins n).length = 0 := by omega
    rw [e]
    rfl
  · rw [if_neg c, Int.toNat_natCast]
    have hb : binS n = ⟨(bins n).toArray⟩ := rfl
    rw [hb]
    unfold zfilled
    cases hc : bins n with
    | nil =>
      rw [hc] at hpos
      exact absurd hpos (by decide)
    | cons x r =>
      have hx := hd x (by rw [hc]; exact List.mem_cons_self ..)
      rcases hx with rfl | rfl
      · show Builtin.Str.padded _ _ 0 48 = _
        unfold Builtin.Str.padded
        simp
      · show Builtin.Str.padded _ _ 0 48 = _
        unfold Builtin.Str.padded
        simp
theorem pad_ok {n : Nat} (h : n ≤ 1000) : PadOk (n : Int) = true := by
  have k : ∀ m : Nat, m ≤ 1000 → PadOk (m : Int) = true := by decide +kernel
  exact k n h
theorem q_forS {z : Str} {te : TE} {tb tz : TS} {D : Ends} {σ : L2.St} {H : Hp} {j : Nat} (h : Ev te σ H (.str z)) (Pv : Nat → L2.St → Hp → Prop) (h0 : ∀ H1, Ex H H1 → Pv 0 σ H1)
    (hs : ∀ i c σ' H', z.cps.toList[i]? = some c → Pv i σ' H' → tb { D with nx := Pv (i + 1), ct := Pv (i + 1), bk := tz D } (σ'.set j (some (.str ⟨#[c]⟩))) H') (hd : ∀ σ' H', Pv z.cps.size σ' H' → tz D σ' H') :
    tSeq (tFor (iStr te) (gName j) tb) tz D σ H := by
  refine h H (Ex.refl H) _ fun H1 e1 => ⟨z, rfl, ?_⟩
  refine for_it (D := { D with nx := tz D }) (walk_str (z := z)) Pv (h0 H1 e1) (fun _ _ _ _ _ => trivial) ?_ hd
  intro i x σ' H2 H3 _ p y
  obtain ⟨rfl, c, hc, rfl⟩ := y
  refine hs i c σ' _ ?_ p
  rw [Array.getElem?_toList]
  exact hc
theorem one_code {c d : Nat} : (V.str ⟨#[c]⟩ = V.str ⟨#[d]⟩) ↔ c = d := by
  constructor
  · intro h
    have h2 := V.str.inj h
    have h3 := congrArg (fun s : Str => s.cps.toList) h2
    simpa using h3
  · intro h
    rw [h]
theorem str0 : Str.ofString "0" = (⟨#[48]⟩ : Str) := by decide +kernel
theorem str1 : Str.ofString "1" = (⟨#[49]⟩ : Str) := by decide +kernel
/-! ### more words for readings -/
section
variable {σ : L2.St} {H : Hp} {ta tb : TE}
theorem rcl_list {p : Addr} {xs : List V} (h : SqL K H p xs) : RCL (fun vs H Q => ∃ p ys, vs = [V.ref p] ∧ (SqL K H p ys ∨ SqT K H p ys) ∧ ∀ l, H l = none → Q (V.ref l) (upd H l (.lst ys))) [.ref p] H xs := fun H1 e Q q =>
  ⟨p, xs, rfl, .inl (ex_l e h), fun l hl => q l _ hl (Ex.new hl) upd_same⟩
theorem el_rep {xs : List V} {n : Nat} (h : EvL ta σ H xs) (hk : ∀ H1, Ex H H1 → Ev tb σ H1 (.int (n : Int))) (hz : xs.length * n ≤ 100000) (hn : n ≤ 100000) : EvL (tOp rRep ta tb) σ H (List.replicate n xs).flatten := fun H1 e Q q =>
  h H1 e _ fun p H2 hp e2 h2 => hk H2 (e.trans e2) H2 (Ex.refl H2) _ fun H3 e3 =>
    ⟨p, (n : Int), xs, rfl, rfl, e3 _ _ h2, by omega, by omega, by rw [Int.toNat_natCast]; exact sz_of hz, fun l hl => by
      rw [Int.toNat_natCast]
      exact q l _ (fresh_back (e2.trans e3) hl) ((e2.trans e3).trans (Ex.new hl)) upd_same⟩
theorem flat_one {n : Nat} {v : V} : (List.replicate n [v]).flatten = List.replicate n v := by
  induction n with
  | zero => rfl
  | succ n ih =>
    rw [List.replicate_succ, List.flatten_cons, ih]
    rfl
theorem map_rep {n : Nat} {z : Int} : (List.replicate n z).map V.int = List.replicate n (V.int z) := List.map_replicate
theorem el_catV {xs ys : List V} {b : Addr} (h : EvL ta σ H xs) (hb : ∀ H1, Ex H H1 → Ev tb σ H1 (.ref b)) (hy : H b = some (.lst ys)) (hz : xs.length + ys.length ≤ 100000) : EvL (tOp rCat ta tb) σ H (xs ++ ys) := fun H1 e Q q =>
  h H1 e _ fun p H2 hp e2 h2 => hb H2 (e.trans e2) H2 (Ex.refl H2) _ fun H3 e3 =>
    ⟨p, b, xs, ys, rfl, rfl, e3 _ _ h2, (((e.trans e2).trans e3)) _ _ hy, sz_of hz, fun l hl => q l _ (fresh_back (e2.trans e3) hl) ((e2.trans e3).trans (Ex.new hl)) upd_same⟩
theorem el_catL {xs ys : List V} (h : EvL ta σ H xs) (hb : EvL tb σ H ys) (hz : xs.length + ys.length ≤ 100000) : EvL (tOp rCat ta tb) σ H (xs ++ ys) := fun H1 e Q q =>
  h H1 e _ fun p H2 hp e2 h2 => hb H2 (e.trans e2) _ fun p2 H3 hp2 e3 h3 =>
    ⟨p, p2, xs, ys, rfl, rfl, e3 _ _ h2, h3, sz_of hz, fun l hl => q l _ (fresh_back (e2.trans e3) hl) ((e2.trans e3).trans (Ex.new hl)) upd_same⟩
theorem et_yes : EvT tYes σ H true := fun H1 _ _ q => q H1 (Ex.refl H1)
theorem given_all (n : Nat) (v : Nat → V) : given n (fun _ => true) v = (List.range n).map v := by
  unfold given
  rw [List.filter_eq_self.mpr fun _ _ => rfl]
/-- the data of a list of ints -/
theorem dp_ints : ∀ ns : List Int, DpAll K H (ns.map V.int) (ns.map PyData.int)
  | [] => .nil
  | n :: ns => .cons (.int n) (dp_ints ns)
theorem lay_ints : ∀ ns : List Int, PyData.canLayAll0 (ns.map PyData.int) = true
  | [] => by simp [PyData.canLayAll0]
  | n :: ns => by simp [PyData.canLayAll0, PyData.canLay0, lay_ints ns]
theorem deep_ints : ∀ ns : List Int, PyData.depthAll (ns.map PyData.int) = 0
  | [] => by simp [PyData.depthAll]
  | n :: ns => by simp [PyData.depthAll, PyData.depth, deep_ints ns]
theorem shaped_list_of_ints (ns : List Int) : SeqAt.shaped (.list (ns.map PyData.int)) = true := by
  show (PyData.canLay0 _ && decide (PyData.depth _ ≤ 64)) = true
  simp [PyData.canLay0, PyData.depth, lay_ints ns, deep_ints ns]
theorem rv_neInts {p q : Addr} {ns : List Int} (h1 : SqL K H p (ns.map V.int)) (h2 : SqL K H q (ns.map V.int)) : RV (rNeD K) (.ref p) (.ref q) H (.bl false) := fun H1 e Q k => by
  refine ⟨.list (ns.map PyData.int), .list (ns.map PyData.int), .lst (ex_l e h1) (dp_ints ns), .lst (ex_l e h2) (dp_ints ns), shaped_list_of_ints ns, shaped_list_of_ints ns, ?_⟩
  have r : PyData.eqv (.list (ns.map PyData.int)) (.list (ns.map PyData.int)) = true := SeqAt.eqv_refl _ (SeqAt.canLay_of_shaped (shaped_list_of_ints ns))
  rw [r]
  exact k H1 (Ex.refl H1)
end
theorem cut_to (xs : List V) (n : Nat) : cutV xs none (some (n : Int)) = xs.take n := by
  unfold cutV
  rw [HT.sIx_none, HT.sIx_nat]
  simp only [Nat.sub_zero, List.drop_zero]
  by_cases h : n ≤ xs.length
  · rw [Nat.min_eq_left h]
  · rw [Nat.min_eq_right (by omega), List.take_length, List.take_of_length_le (by omega)]
theorem cut_of (xs : List V) (a b : Nat) : ∃ k m, cutV xs (some (a : Int)) (some (b : Int)) = (xs.drop k).take m := by
  unfold cutV
  rw [HT.sIx_nat, HT.sIx_nat]
  exact ⟨_, _, rfl⟩
theorem at0_rep {z : Int} {n i : Nat} (h : i < n) : at0 (List.replicate n z) i = z := by
  unfold at0
  rw [List.getD_eq_getElem?_getD, List.getElem?_replicate, if_pos h]
  rfl
theorem at0_of_mem {ps : List Int} {x : Int} (h : x ∈ ps) : ∃ i, i < ps.length ∧ at0 ps i = x := by
  obtain ⟨i, hi, e⟩ := List.mem_iff_getElem.mp h
  refine ⟨i, hi, ?_⟩
  unfold at0
  rw [List.getD_eq_getElem?_getD, List.getElem?_eq_getElem hi]
  exact e
def restF (c : Int) (ss : List Int) : Nat → Int
  | 0 => c - 10 ^ 18
  | i + 1 => restF c ss i / at0 ss i
def digA (c : Int) (ss : List Int) (i : Nat) : Int := restF c ss i % at0 ss i
def sdF (c : Int) : Nat → Int
  | 0 => c % 2147483629
  | i + 1 => (sdF c i * 48271 + 974711 * i + 12345) % 2147483647
def twF (c : Int) (i : Nat) : Int := (sdF c (i + 1) * (sdF c (i + 1) / 65537 + 3)) % 2147483629
def digB (c : Int) (ss : List Int) (i : Nat) : Int := twF c i / 19 % at0 ss i
def dig (c : Int) (ss : List Int) (i : Nat) : Int := if 10 ^ 18 ≤ c then digA c ss i else digB c ss i
def digits (c : Int) (ss : List Int) : List Int := (List.range ss.length).map (dig c ss)
theorem digits_len (c : Int) (ss : List Int) : (digits c ss).length = ss.length := by
  unfold digits
  rw [List.length_map, List.length_range]
theorem at0_map {n i : Nat} (f : Nat → Int) (h : i < n) : at0 ((List.range n).map f) i = f i := by
  unfold at0
  rw [List.getD_eq_getElem?_getD, List.getElem?_map, List.getElem?_range h]
  rfl
theorem dig_bound {c : Int} {ss : List Int} {i : Nat} (h : 0 < at0 ss i) : 0 ≤ dig c ss i ∧ dig c ss i < at0 ss i := by
  unfold dig digA digB
  split
  · exact ⟨Int.emod_nonneg _ (by omega), Int.emod_lt_of_pos _ h⟩
  · exact ⟨Int.emod_nonneg _ (by omega), Int.emod_lt_of_pos _ h⟩
theorem digits_at {c : Int} {ss : List Int} {i : Nat} (hi : i < ss.length) (h : 0 < at0 ss i) : 0 ≤ at0 (digits c ss) i ∧ at0 (digits c ss) i < at0 ss i := by
  unfold digits
  rw [at0_map _ hi]
  exact dig_bound h
theorem sd_bound (c : Int) : ∀ i, 0 ≤ sdF c i ∧ sdF c i < 2147483647
  | 0 => by
    show 0 ≤ c % 2147483629 ∧ c % 2147483629 < 2147483647
    omega
  | i + 1 => by
    show 0 ≤ (sdF c i * 48271 + 974711 * i + 12345) % 2147483647 ∧ (sdF c i * 48271 + 974711 * i + 12345) % 2147483647 < 2147483647
    omega
theorem map_range_succ (f : Nat → Int) (n : Nat) : ((List.range (n + 1)).map f).map V.int = ((List.range n).map f).map V.int ++ [V.int (f n)] := by
  rw [List.range_succ, List.map_append, List.map_append]
  rfl
def spDigits (K : PySem.W.Frag) : Sp := fun vs H Q _ => ∃ (c : Int) (a : Addr) (ss : List Int), vs = [.int c, .ref a] ∧ SqL K H a (ss.map V.int) ∧ ss.length ≤ 1000 ∧ (∀ i, i < ss.length → 0 < at0 ss i ∧ at0 ss i < 18446744073709551616) ∧ RetL ((digits c ss).map V.int) H Q
def spWhole : Sp := fun vs H Q _ => ∃ n : Int, vs = [.int n] ∧ RetV (.bl true) H Q
def seedF (ns : List Int) : Nat → Int
  | 0 => 17
  | i + 1 => (seedF ns i * 31 + at0 ns i % 1000003) % 1000003
def cell (ns : List Int) (k : Int) : Int := if k < (ns.length : Int) then at0 ns k.toNat else ((seedF ns ns.length + 7) * (k + 3) * 69621) % 2147483647
def spCell (K : PySem.W.Frag) : Sp := fun vs H Q _ => ∃ (a : Addr) (ns : List Int) (k : Int), vs = [.ref a, .int k] ∧ SqL K H a (ns.map V.int) ∧ ns.length ≤ 63 ∧ (0 ≤ k ∧ k ≤ 1000) ∧ RetV (.int (cell ns k)) H Q
theorem sv_whole {n : Int} {H : Hp} : SpV spWhole ([V.int n] ++ []) H (.bl true) := fun _ _ _ q _ => ⟨n, rfl, q⟩
theorem sv_cell {a : Addr} {ns : List Int} {k : Int} {H : Hp} (hS : SqL K H a (ns.map V.int)) (h : ns.length ≤ 63) (hk : 0 ≤ k ∧ k ≤ 1000) : SpV (spCell K) ([V.ref a, V.int k] ++ []) H (.int (cell ns k)) := fun _ e _ q _ => ⟨a, ns, k, rfl, ex_l e hS, h, hk, q⟩
theorem sl_digits {c : Int} {a : Addr} {ss : List Int} {H : Hp} (hS : SqL K H a (ss.map V.int)) (hz : ss.length ≤ 1000) (hss : ∀ i, i < ss.length → 0 < at0 ss i ∧ at0 ss i < 18446744073709551616) : SpL (spDigits K) ([V.int c, V.ref a] ++ []) H ((digits c ss).map V.int) := fun _ e _ q _ => ⟨c, a, ss, rfl, ex_l e hS, hz, hss, q⟩
section
variable {σ : L2.St} {H : Hp} {ta tl : TE} {sp : Sp} {E : XK} {tz : TS} {D : Ends}
theorem el_digs {c : Int} {ss : List Int} (h : Ev ta σ H (.int c)) (hl : EvL tl σ H (ss.map V.int)) (hz : ss.length ≤ 1000) (hss : ∀ i, i < ss.length → 0 < at0 ss i ∧ at0 ss i < 18446744073709551616) : EvL (tCall (spDigits K) [] E (tCons ta (tCons tl tNil))) σ H ((digits c ss).map V.int) := fun H1 e Q q =>
  h H1 e _ fun H2 e2 => hl H2 (e.trans e2) _ fun p H3 hp e3 h3 => ⟨c, p, ss, rfl, sq_of h3, hz, hss, fun l H4 hl4 e4 h4 => q l H4 (fresh_back (e2.trans e3) hl4) ((e2.trans e3).trans e4) h4⟩
theorem ev_call2L {x z : V} {xs dvs : List V} (h : Ev ta σ H x) (hl : EvL tl σ H xs) (hs : ∀ p H1, Ex H H1 → H1 p = some (.lst xs) → SpV sp ([x, .ref p] ++ dvs) H1 z) : Ev (tCall sp dvs E (tCons ta (tCons tl tNil))) σ H z := fun H1 e Q q =>
  h H1 e _ fun H2 e2 => hl H2 (e.trans e2) _ fun p H3 hp e3 h3 => hs p H3 ((e.trans e2).trans e3) h3 H3 (Ex.refl H3) Q (fun H4 e4 => q H4 ((e2.trans e3).trans e4)) E
theorem ev_call1L {y z : V} {xs dvs : List V} (hl : EvL tl σ H xs) (h : ∀ H1, Ex H H1 → Ev ta σ H1 y) (hs : ∀ p H1, Ex H H1 → H1 p = some (.lst xs) → SpV sp ([.ref p, y] ++ dvs) H1 z) : Ev (tCall sp dvs E (tCons tl (tCons ta tNil))) σ H z := fun H1 e Q q =>
  hl H1 e _ fun p H2 hp e2 h2 => h H2 (e.trans e2) H2 (Ex.refl H2) _ fun H3 e3 => hs p H3 ((e.trans e2).trans e3) (e3 _ _ h2) H3 (Ex.refl H3) Q (fun H4 e4 => q H4 ((e2.trans e3).trans e4)) E
theorem ev_callL {z : V} {xs dvs : List V} (hl : EvL tl σ H xs) (hs : ∀ p H1, Ex H H1 → H1 p = some (.lst xs) → SpV sp ([.ref p] ++ dvs) H1 z) : Ev (tCall sp dvs E (tCons tl tNil)) σ H z := fun H1 e Q q =>
  hl H1 e _ fun p H2 hp e2 h2 => hs p H2 (e.trans e2) h2 H2 (Ex.refl H2) Q (fun H4 e4 => q H4 (e2.trans e4)) E
theorem el_slN {xs : List V} {t1 t2 : TO} {lo hi : Option Int} (h : EvL tl σ H xs) (h1 : ∀ H1, Ex H H1 → EvO t1 σ H1 lo) (h2 : ∀ H1, Ex H H1 → EvO t2 σ H1 hi) : EvL (tSl (rSlL K) tl t1 t2) σ H (cutV xs lo hi) := fun H1 e Q q =>
  h H1 e _ fun p H2 hp e2 hx => h1 H2 (e.trans e2) H2 (Ex.refl H2) _ fun H3 e3 => h2 H3 ((e.trans e2).trans e3) H3 (Ex.refl H3) _ fun H4 e4 =>
    ⟨p, xs, rfl, sq_of (e4 _ _ (e3 _ _ hx)), fun l hl => q l _ (fresh_back ((e2.trans e3).trans e4) hl) (((e2.trans e3).trans e4).trans (Ex.new hl)) upd_same⟩
theorem q_callD {ta : TA} {vs dvs : List V} {i : Nat} (h : EvA ta σ H vs) (k : ∀ H1, Ex H H1 → sp (vs ++ dvs) H1 (fun x H2 => tz D (σ.set i (some x)) H2) E) : tSeq (tAsg (tCall sp dvs E ta) (gName i)) tz D σ H := h H (Ex.refl H) _ k
end
def spLw : Sp := fun vs H Q _ => ∃ n : Int, vs = [.int n] ∧ 1 ≤ n ∧ n ≤ 2 ^ 2100 ∧ RetV (.int (bitsOf n)) H Q
theorem sv_lw {n : Int} {H : Hp} (h1 : 1 ≤ n) (h2 : n ≤ 2 ^ 2100) : SpV spLw ([V.int n] ++ []) H (.int (bitsOf n)) := fun _ _ _ q _ => ⟨n, rfl, h1, h2, q⟩
def spNb : Sp := fun vs H Q _ => ∃ n m : Int, vs = [.int n, .int m] ∧ 0 ≤ n ∧ n < m ∧ m ≤ 2 ^ 1000 ∧ RetV (.str (nb n m)) H Q
theorem sv_nb {n m : Int} {H : Hp} (h0 : 0 ≤ n) (h1 : n < m) (h2 : m ≤ 2 ^ 1000) : SpV spNb ([V.int n, V.int m] ++ []) H (.str (nb n m)) := fun _ _ _ q _ => ⟨n, m, rfl, h0, h1, h2, q⟩
def spWidth : Sp := fun vs H Q _ => ∃ n : Int, vs = [.int n] ∧ RetV (.int (bitsOf n)) H Q
theorem sv_width {n : Int} {H : Hp} : SpV spWidth ([V.int n] ++ []) H (.int (bitsOf n)) := fun _ _ _ q _ => ⟨n, rfl, q⟩
end
end Ver
namespace Ver
open PySem PySem.Spec PyProof.Rows L2 Evl
open PySem.Builtin PySem.Builtin.Str
/-! ### texts as lists of codes -/
abbrev tx (l : List Nat) : V := .str (SX.S l)
theorem tx_inj {a b : List Nat} (h : tx a = tx b) : a = b := SX.S_inj (V.str.inj h)
theorem tx_dec {a b : List Nat} : decide (tx a = tx b) = decide (a = b) := decide_eq_decide.mpr ⟨tx_inj, fun h => by rw [h]⟩
theorem stripLo_all {goes : Nat → Bool} {l : List Nat} (h : ∀ c ∈ l, goes c = true) : stripLo goes true (SX.S l) = l.length := by
  unfold stripLo
  rw [if_pos rfl]
  show (l.takeWhile goes).length = _
  rw [List.takeWhile_eq_filter_of_all h]
where
  List.takeWhile_eq_filter_of_all {goes : Nat → Bool} {l : List Nat} (h : ∀ c ∈ l, goes c = true) : l.takeWhile goes = l := by
    induction l with
    | nil => rfl
    | cons a r ih =>
      rw [List.takeWhile_cons, if_pos (h a (List.mem_cons_self ..)), ih fun c hc => h c (List.mem_cons_of_mem _ hc)]
theorem strip_to {goes : Nat → Bool} {r : Bool} {l : List Nat} (h : ∀ c ∈ l, goes c = true) : Txt.stripBy goes true r (SX.S l) = SX.S [] := by
  have hlo := stripLo_all h
  unfold Txt.stripBy stripSame stripped
  rw [hlo]
  have hhi : stripHi goes r (SX.S l) l.length = l.length := by
    unfold stripHi
    rw [SX.S_len]
    have e : (SX.S l).cps.toList.drop l.length = [] := List.drop_length
    rw [e]
    cases r <;> rfl
  rw [hhi, SX.S_len]
  cases l with
  | nil => rfl
  | cons a t =>
    rw [if_neg (by simp)]
    unfold strSub
    rw [← SX.S_tl ((⟨(SX.S (a :: t)).cps.extract (a :: t).length (a :: t).length⟩ : Str))]
    congr 1
    simp
theorem has_contains {l m : List Nat} (h : ∀ c ∈ l, c ∈ m) : ∀ c ∈ l, (SX.S m).cps.contains c = true := fun c hc => by
  have := h c hc
  simpa using this
theorem strip_chars {l m : List Nat} (h : ∀ c ∈ l, c ∈ m) : Txt.stripChars (SX.S l) (SX.S m) = SX.S [] := strip_to (has_contains h)
theorem lstrip_chars {l m : List Nat} (h : ∀ c ∈ l, c ∈ m) : Txt.lstripChars (SX.S l) (SX.S m) = SX.S [] := strip_to (has_contains h)
theorem occ_mem (s sub : Str) (hi lim : Nat) : ∀ (l : List Nat) (st : Array Nat × Nat) (k : Nat), k ∈ (forIn l st (StrLaws.occBody s sub hi lim)).run.fst.toList → k ∈ st.fst.toList ∨ (k + sub.length ≤ hi ∧ subAt s sub k = true)
  | [], st, k, h => .inl h
  | a :: l, st, k, h => by
    rw [List.forIn_cons] at h
    unfold StrLaws.occBody at h
    split at h
    · rename_i c
      rcases occ_mem s sub hi lim l _ k h with q | q
      · have q2 : k ∈ st.fst.toList ++ [a] := by simpa using q
        rcases List.mem_append.mp q2 with z | z
        · exact .inl z
        · rw [List.mem_singleton.mp z]
          exact .inr ⟨c.1.2, c.2⟩
      · exact .inr q
    · exact occ_mem s sub hi lim l _ k h
/-- the one place of a sign in a text without repeats -/
theorem index_one {l : List Nat} {c i : Nat} (nd : l.Nodup) (h : l[i]? = some c) : ∃ rest, occurrences (SX.S l) (SX.S [c]) 0 (SX.S l).length 1 = i :: rest := by
  have f := StrLaws.found_one (SX.S l) c
  have hm : c ∈ l := List.mem_of_getElem? h
  have e : (⟨#[c]⟩ : Str) = SX.S [c] := rfl
  rw [e] at f
  rw [show decide (c ∈ (SX.S l).cps.toList) = true from decide_eq_true hm] at f
  cases ho : occurrences (SX.S l) (SX.S [c]) 0 (SX.S l).length 1 with
  | nil =>
    rw [ho] at f
    cases f
  | cons j rest =>
    have hj : j ∈ occurrences (SX.S l) (SX.S [c]) 0 (SX.S l).length 1 := by
      rw [ho]
      exact List.mem_cons_self ..
    rw [StrLaws.occ_eq] at hj
    rcases occ_mem _ _ _ _ _ _ _ hj with z | z
    · cases z
    · have g := (StrLaws.subAt_one (SX.S l) c j).mp z
      have g2 : l[j]? = some c := g
      obtain ⟨h1, e1⟩ := List.getElem?_eq_some_iff.mp h
      obtain ⟨h2, e2⟩ := List.getElem?_eq_some_iff.mp g2
      have : i = j := (List.getElem_inj nd).mp (e1.trans e2.symm)
      subst this
      exact ⟨rest, rfl⟩
theorem starts_S {a b : List Nat} : Txt.startswith (SX.S a) (SX.S b) = decide (b <+: a) := by
  unfold Txt.startswith
  rw [StrLaws.subAt_eq, SX.S_len, SX.S_len]
  show (decide (0 + b.length ≤ a.length) && ((a.drop 0).take b.length == b)) = _
  rw [List.drop_zero, Nat.zero_add, Bool.eq_iff_iff, Bool.and_eq_true, decide_eq_true_eq, beq_iff_eq, decide_eq_true_eq]
  constructor
  · intro h
    rw [← h.2]
    exact List.take_prefix _ _
  · intro h
    exact ⟨h.length_le, (List.prefix_iff_eq_take.mp h).symm⟩
/-! ### text * n -/
theorem foldl_reps (l : List Nat) : ∀ (n : Nat) (acc : Array Nat), ((List.replicate n l.toArray).foldl (· ++ ·) acc).toList = acc.toList ++ (List.replicate n l).flatten
  | 0, acc => by simp
  | n + 1, acc => by
    rw [List.replicate_succ, List.foldl_cons, foldl_reps l n, List.replicate_succ, List.flatten_cons]
    simp
theorem mul_S {l : List Nat} {n : Nat} : Txt.mul (SX.S l) (n : Int) = SX.S (List.replicate n l).flatten := by
  unfold Txt.mul
  by_cases h : (n : Int) < 1
  · rw [if_pos h]
    have : n = 0 := by omega
    subst this
    rfl
  · rw [if_neg h]
    by_cases c : ((n : Int) == 1 || (SX.S l).length == 0) = true
    · rw [if_pos c]
      rw [SX.S_len, Bool.or_eq_true, beq_iff_eq, beq_iff_eq] at c
      rcases c with c | c
      · have : n = 1 := by omega
        subst this
        simp
      · have : l = [] := List.eq_nil_of_length_eq_zero c
        subst this
        have e : (List.replicate n ([] : List Nat)).flatten = [] := by simp
        rw [e]
    · rw [if_neg c, Int.toNat_natCast]
      have e := foldl_reps l n #[]
      rw [← SX.S_tl ((⟨(List.replicate n (SX.S l).cps).foldl (· ++ ·) #[]⟩ : Str))]
      congr 1
def rMulS : R2 := fun x y H Q => ∃ (l : List Nat) (n : Nat), x = tx l ∧ y = .int (n : Int) ∧ n ≤ 100000 ∧ l.length * n ≤ 100000 ∧ Q (tx (List.replicate n l).flatten) H
theorem mul_ok {l : List Nat} {n : Nat} (h1 : n ≤ 100000) (h2 : l.length * n ≤ 100000) : MulOk (SX.S l) (n : Int) := by
  refine ⟨?_, fun h c => ?_, fun h c => ?_⟩
  · have a : ¬ (n : Int) < -(2 ^ 63 : Int) := by omega
    have b : ¬ (n : Int) ≥ 2 ^ 63 := by omega
    rw [decide_eq_false a, decide_eq_false b]
    rfl
  · rw [SX.S_len]
    have hn : 0 < (n : Int) := by omega
    have e : ((l.length : Int) * n) ≤ 100000 := by
      rw [← Int.natCast_mul]
      omega
    have k : (l.length : Int) ≤ (2 ^ 63 - 1) / n := (Int.le_ediv_iff_mul_le hn).mpr (by omega)
    omega
  · rw [SX.S_len, Int.toNat_natCast]
    unfold tooLong
    have := sz_of h2
    exact decide_eq_false (by omega)
theorem op_mulS {X : Cx} : OpR X (binaryOp .Mult) rMulS := by
  intro pins s σ H x y v u Q I rx ry h
  obtain ⟨l, n, rfl, rfl, h1, h2, q⟩ := h
  obtain ⟨t, rfl⟩ := rx
  obtain ⟨t', rfl⟩ := ry
  refine SB.mul (mul_ok h1 h2) fun t2 k => ?_
  rw [mul_S]
  exact ⟨tx _, H, I.tok _, ⟨_, rfl⟩, q⟩
/-! ### text[::-1] -/
theorem pe_revS {X : Cx} {e : Expr} {te : TE} {k : Nat} {p1 p2 p3 pos : Pos} (he : PE X e te) : PE X (.Subscript e (.Slice none none (some (.UnaryOp .USub (.Constant (.int 1) k p1) p2)) p3) pos) (tRevS te) := by
  refine ⟨fun pins s σ H Q I h => ?_⟩
  refine Subscript_ (thn (he.run pins s σ H _ I h) fun v s1 ⟨x, H1, I1, r1, q1⟩ => ?_)
  obtain ⟨z, ex, hz, q⟩ := q1
  subst ex
  obtain ⟨t, rfl⟩ := r1
  have hst : PO X (some (.UnaryOp .USub (.Constant (.int 1) k p1) p2)) (tPart (tUn (rU fun i => .int (-i)) (tC (.int 1)))) := po_some (pe_un un_neg pe_int)
  refine wpAny_Slice (thn (po_none.run pins s1 σ H1 (fun o H2 => o = none ∧ H2 = H1) I1 ⟨rfl, rfl⟩) fun vl s2 ⟨l, H2, I2, pl, el, e2⟩ => ?_)
  subst el e2
  refine thn (po_none.run pins s2 σ H2 (fun o H3 => o = none ∧ H3 = H2) I2 ⟨rfl, rfl⟩) fun vu s3 ⟨u, H3, I3, pu, eu, e3⟩ => ?_
  subst eu e3
  refine thn (hst.run pins s3 σ H3 (fun o H4 => o = some (-1) ∧ H4 = H3) I3 ⟨1, rfl, -1, rfl, rfl, rfl⟩) fun vs s4 ⟨o, H4, I4, ps, eo, e4⟩ => ?_
  subst eo e4
  have I5 : Inv X pins σ H4 { s4 with heap := s4.heap.push { cls := .type "slice", data := .fields #[vl, vu, vs] } } := I4.kept (t' := s4.toks) fun b ob q => Heap.get?_push_of_some _ q
  obtain ⟨l, rfl, hl⟩ := IsPart.raw pl
  obtain ⟨u, rfl, hu⟩ := IsPart.raw pu
  obtain ⟨w, rfl, hw⟩ := IsPart.raw ps
  cases l with
  | some l => cases hl
  | none =>
  cases u with
  | some u => cases hu
  | none =>
  cases w with
  | none => cases hw
  | some w =>
  obtain ⟨w1, w2⟩ := w
  have ew : w1 = -1 := by
    have : some w1 = some (-1 : Int) := hw
    exact Option.some.inj this
  subst ew
  refine tail_any (ops := [.ref s4.heap.objs.size, .str z t]) (typeIs_str _ _ _) F.slot_str_getitem.lookup ?_ (by with_unfolding_all rfl)
  refine wpAny_getItem_str_slice (l := none) (u := none) (st := some (-1, w2)) ⟨_, Heap.get?_push_size _ rfl, rfl, rfl⟩ rfl ?_
  have hc : ¬ ((((some ((-1 : Int), w2)).map (·.1)).getD 1 == 1 && (slicePicked z none none (some (-1, w2))).length == z.length) = true) := by
    have : (((some ((-1 : Int), w2)).map (·.1)).getD 1 == 1) = false := rfl
    rw [this]
    simp
  have hl := step_rev_list z w2
  have hn := step_rev_len z w2
  unfold Txt.sliceBy at hl hn
  rw [if_neg hc] at hl hn
  unfold sliceMade
  rw [if_neg hc]
  refine ⟨?_, .str _, H4, I5.tok _, ⟨_, rfl⟩, q _ ?_ (Nat.le_of_eq hn)⟩
  · show (⟨((slicePicked z none none (some (-1, w2))).filterMap (z.cps[·]?)).toArray⟩ : Str).length ≤ sizeLine
    rw [hn]
    exact hz
  · intro c hcm
    rw [hl] at hcm
    obtain ⟨k, hk, rfl⟩ := List.mem_map.mp hcm
    have hk' := List.mem_range.mp hk
    have hlt : z.length - 1 - k < z.cps.size := by
      have : z.length = z.cps.size := rfl
      omega
    have e : z.cps.getD (z.length - 1 - k) 0 = z.cps[z.length - 1 - k] := by simp [Array.getD, hlt]
    rw [e]
    simp
end Ver
namespace Ver
/-! ### numbers of a list in a stretch -/
theorem card_le : ∀ (n a : Nat) (T : List Nat), T.Nodup → (∀ x ∈ T, a ≤ x ∧ x < a + n) → T.length ≤ n
  | 0, a, T, _, h => by
    cases T with
    | nil => exact Nat.le_refl 0
    | cons x r =>
      have := h x (List.mem_cons_self ..)
      omega
  | n + 1, a, T, nd, h => by
    by_cases hm : a + n ∈ T
    · have e := List.length_erase_of_mem hm
      have ih := card_le n a (T.erase (a + n)) (nd.erase _) fun x hx => by
        have h1 := h x (List.mem_of_mem_erase hx)
        have h2 : x ≠ a + n := fun q => by
          rw [q] at hx
          exact nd.not_mem_erase hx
        omega
      omega
    · have ih := card_le n a T nd fun x hx => by
        have h1 := h x hx
        have h2 : x ≠ a + n := fun q => hm (q ▸ hx)
        omega
      omega
/-- how many of T are below v -/
def bel (T : List Nat) (v : Nat) : Nat := T.countP (fun x => decide (x < v))
theorem bel_le {T : List Nat} (nd : T.Nodup) (v : Nat) : bel T v ≤ v := by
  unfold bel
  rw [List.countP_eq_length_filter]
  have := card_le v 0 (T.filter fun x => decide (x < v)) (nd.filter _) fun x hx => by
    have := of_decide_eq_true (List.mem_filter.mp hx).2
    omega
  exact this
theorem bel_step {T : List Nat} (nd : T.Nodup) {x y : Nat} (h : x < y) (hx : x ∉ T) : bel T y ≤ bel T x + (y - x - 1) := by
  have e : bel T y = bel T x + (T.filter fun z => decide (x < z ∧ z < y)).length := by
    unfold bel
    rw [← List.countP_eq_length_filter]
    clear nd
    induction T with
    | nil => rfl
    | cons a r ih =>
      have ih := ih fun q => hx (List.mem_cons_of_mem _ q)
      have ha : a ≠ x := fun q => hx (q ▸ List.mem_cons_self ..)
      rw [List.countP_cons, List.countP_cons, List.countP_cons, ih]
      by_cases c1 : a < x
      · rw [if_pos (decide_eq_true (show a < y by omega)), if_pos (decide_eq_true c1), if_neg (by simp; omega)]
        omega
      · by_cases c2 : a < y
        · rw [if_pos (decide_eq_true c2), if_neg (by simpa using c1), if_pos (decide_eq_true (show x < a ∧ a < y by omega))]
          omega
        · rw [if_neg (by simpa using c2), if_neg (by simpa using c1), if_neg (by simp; omega)]
          omega
  have := card_le (y - x - 1) (x + 1) (T.filter fun z => decide (x < z ∧ z < y)) (nd.filter _) fun z hz => by
    have := of_decide_eq_true (List.mem_filter.mp hz).2
    omega
  omega
/-- the free number of x among those that T leaves is below that of y -/
theorem bel_lt {T : List Nat} (nd : T.Nodup) {x y : Nat} (h : x < y) (hx : x ∉ T) : x - bel T x < y - bel T y := by
  have h1 := bel_step nd h hx
  have h2 := bel_le nd x
  omega
theorem bel_all {T : List Nat} {v : Nat} (h : ∀ x ∈ T, x < v) : bel T v = T.length := by
  unfold bel
  exact List.countP_eq_length.mpr fun x hx => decide_eq_true (h x hx)
/-- x is among the free ones below v -/
theorem bel_room {T : List Nat} (nd : T.Nodup) {x v : Nat} (h : x < v) (hx : x ∉ T) (hT : ∀ z ∈ T, z < v) : x - bel T x < v - T.length := by
  have := bel_lt nd h hx
  rw [bel_all hT] at this
  exact this
/-! ### rows, pieces -/
abbrev Rw := List (Nat × Nat)
def pcs (rs : Rw) : List (List Nat) := rs.foldl (fun ps r => ps ++ [ps.getD r.1 [] ++ [r.2]]) [[]]
theorem pcs_snoc (rs : Rw) (r : Nat × Nat) : pcs (rs ++ [r]) = pcs rs ++ [(pcs rs).getD r.1 [] ++ [r.2]] := by
  unfold pcs
  rw [List.foldl_append]
  rfl
theorem snoc_ind {α : Type} {M : List α → Prop} (h0 : M []) (hs : ∀ l a, M l → M (l ++ [a])) (l : List α) : M l := by
  have h : ∀ n (l : List α), l.length = n → M l := by
    intro n
    induction n with
    | zero =>
      intro l hl
      rw [List.eq_nil_of_length_eq_zero hl]
      exact h0
    | succ n ih =>
      intro l hl
      have hne : l ≠ [] := fun q => by rw [q] at hl; cases hl
      have e := (List.dropLast_concat_getLast hne).symm
      rw [e]
      refine hs _ _ (ih _ ?_)
      rw [List.length_dropLast, hl]
      rfl
  exact h _ l rfl
theorem pcs_len (rs : Rw) : (pcs rs).length = rs.length + 1 := by
  induction rs using snoc_ind with
  | h0 => rfl
  | hs l a ih => rw [pcs_snoc, List.length_append, ih, List.length_append]; rfl
structure RowsOk (al : List Nat) (rs : Rw) : Prop where
  low : ∀ (i p c : Nat), rs[i]? = some (p, c) → p ≤ i ∧ c ∈ al
  nd : rs.Nodup
theorem RowsOk.init {al : List Nat} {rs : Rw} {r : Nat × Nat} (h : RowsOk al (rs ++ [r])) : RowsOk al rs := by
  refine ⟨fun i p c e => h.low i p c ?_, (List.nodup_append.mp h.nd).1⟩
  rw [List.getElem?_append_left (List.getElem?_eq_some_iff.mp e).1]
  exact e
theorem RowsOk.last {al : List Nat} {rs : Rw} {p c : Nat} (h : RowsOk al (rs ++ [(p, c)])) : p ≤ rs.length ∧ c ∈ al ∧ (p, c) ∉ rs := by
  have h1 := h.low rs.length p c (by simp)
  refine ⟨h1.1, h1.2, fun hm => ?_⟩
  have := (List.nodup_append.mp h.nd).2.2 (p, c) hm (p, c) (List.mem_singleton.mpr rfl)
  exact this rfl
theorem RowsOk.snoc {al : List Nat} {rs : Rw} {p c : Nat} (h : RowsOk al rs) (h1 : p ≤ rs.length) (h2 : c ∈ al) (h3 : (p, c) ∉ rs) : RowsOk al (rs ++ [(p, c)]) := by
  refine ⟨fun i q d e => ?_, List.nodup_append.mpr ⟨h.nd, by simp, ?_⟩⟩
  · by_cases hi : i < rs.length
    · rw [List.getElem?_append_left hi] at e
      exact h.low i q d e
    · rw [List.getElem?_append_right (by omega)] at e
      have hz : i - rs.length = 0 := by
        have := (List.getElem?_eq_some_iff.mp e).1
        simp at this
        omega
      rw [hz] at e
      cases e
      exact ⟨by omega, h2⟩
  · intro a ha b hb
    rw [List.mem_singleton.mp hb]
    intro q
    exact h3 (q ▸ ha)
theorem getD_mem {l : List (List Nat)} {i : Nat} (h : i < l.length) : l.getD i [] ∈ l := by
  rw [List.getD_eq_getElem?_getD, List.getElem?_eq_getElem h]
  exact List.getElem_mem h
theorem getD_inj {l : List (List Nat)} (nd : l.Nodup) {i j : Nat} (hi : i < l.length) (hj : j < l.length) (h : l.getD i [] = l.getD j []) : i = j := by
  rw [List.getD_eq_getElem?_getD, List.getD_eq_getElem?_getD, List.getElem?_eq_getElem hi, List.getElem?_eq_getElem hj] at h
  exact (List.getElem_inj nd).mp h
theorem idx_getD {l : List (List Nat)} (nd : l.Nodup) {i : Nat} (h : i < l.length) : l.idxOf (l.getD i []) = i := by
  have hm := getD_mem h
  have h1 := List.idxOf_lt_length_of_mem hm
  refine getD_inj nd h1 h ?_
  rw [List.getD_eq_getElem?_getD, List.getElem?_eq_getElem h1]
  show l[l.idxOf (l.getD i [])] = _
  exact List.getElem_idxOf h1
theorem pcs_zero (rs : Rw) : (pcs rs).getD 0 [] = [] := by
  induction rs using snoc_ind with
  | h0 => rfl
  | hs l a ih =>
    rw [pcs_snoc, List.getD_eq_getElem?_getD, List.getElem?_append_left (by rw [pcs_len]; omega), ← List.getD_eq_getElem?_getD]
    exact ih
/-- the piece of parent p with sign c is there just where the row is, and one place further on -/
theorem pcs_facts {al : List Nat} : ∀ rs : Rw, RowsOk al rs → (pcs rs).Nodup ∧ (∀ (i p c : Nat), rs[i]? = some (p, c) → (pcs rs).getD (i + 1) [] = (pcs rs).getD p [] ++ [c]) ∧
    ∀ (p c : Nat), p ≤ rs.length → ((pcs rs).getD p [] ++ [c] ∈ pcs rs ↔ (p, c) ∈ rs) := by
  intro rs
  induction rs using snoc_ind with
  | h0 =>
    intro _
    refine ⟨by simp [pcs], fun i p c h => by simp at h, fun p c hp => ?_⟩
    simp [pcs]
  | hs rs a ih =>
    intro ok
    obtain ⟨q, d⟩ := a
    obtain ⟨nd, rows, ex⟩ := ih ok.init
    obtain ⟨hq, _, hn⟩ := ok.last
    have hnew : (pcs rs).getD q [] ++ [d] ∉ pcs rs := fun h => hn ((ex q d hq).mp h)
    have hl := pcs_len rs
    have nd2 : (pcs (rs ++ [(q, d)])).Nodup := by
      rw [pcs_snoc]
      exact List.nodup_append.mpr ⟨nd, by simp, fun x hx y hy e => hnew (by rw [List.mem_singleton.mp hy] at e; exact e ▸ hx)⟩
    have old : ∀ k, k ≤ rs.length → (pcs (rs ++ [(q, d)])).getD k [] = (pcs rs).getD k [] := fun k hk => by
      rw [pcs_snoc, List.getD_eq_getElem?_getD, List.getElem?_append_left (by omega), ← List.getD_eq_getElem?_getD]
    have new : (pcs (rs ++ [(q, d)])).getD (rs.length + 1) [] = (pcs rs).getD q [] ++ [d] := by
      rw [pcs_snoc, List.getD_eq_getElem?_getD, List.getElem?_append_right (by omega), hl]
      simp
    refine ⟨nd2, fun i p c h => ?_, fun p c hp => ?_⟩
    · by_cases hi : i < rs.length
      · rw [List.getElem?_append_left hi] at h
        have hp := (ok.init.low i p c h).1
        rw [old _ (by omega), old _ (by omega)]
        exact rows i p c h
      · have hi2 : i = rs.length := by
          have := (List.getElem?_eq_some_iff.mp h).1
          simp at this
          omega
        subst hi2
        have e : (q, d) = (p, c) := by simpa using h
        cases e
        rw [new, old _ hq]
    · by_cases hp2 : p ≤ rs.length
      · rw [old _ hp2, pcs_snoc, List.mem_append, List.mem_append, ex p c hp2, List.mem_singleton, List.mem_singleton]
        refine or_congr Iff.rfl ⟨fun h => ?_, fun h => ?_⟩
        · obtain ⟨e1, e2⟩ := List.append_inj' h rfl
          have := getD_inj nd (by omega) (by omega) e1
          cases e2
          rw [this]
        · cases h
          rfl
      · have e : p = rs.length + 1 := by
          rw [List.length_append] at hp
          simp at hp
          omega
        subst e
        rw [new]
        constructor
        · intro h
          -- a piece one longer than the last one
          exfalso
          rw [pcs_snoc, List.mem_append, List.mem_singleton] at h
          rcases h with h | h
          · -- its beginning would be a piece of the old ones
            obtain ⟨j, hj, ej⟩ := List.mem_iff_getElem.mp h
            cases j with
            | zero =>
              have e0 : (pcs rs)[0] = [] := by
                have h0 : (pcs rs).getD 0 [] = [] := pcs_zero rs
                rw [List.getD_eq_getElem?_getD, List.getElem?_eq_getElem hj] at h0
                exact h0
              rw [e0] at ej
              simp at ej
            | succ j =>
              have hj2 : j < rs.length := by omega
              have hg : rs[j]? = some ((rs[j]).1, (rs[j]).2) := List.getElem?_eq_getElem hj2
              have hrow := rows j _ _ hg
              rw [List.getD_eq_getElem?_getD, List.getElem?_eq_getElem hj] at hrow
              have e3 : (pcs rs)[j + 1] = (pcs rs).getD (rs[j]).1 [] ++ [(rs[j]).2] := hrow
              rw [e3] at ej
              obtain ⟨e1, _⟩ := List.append_inj' ej rfl
              have hp' := (ok.init.low j _ _ hg).1
              refine hnew ?_
              rw [← e1]
              exact getD_mem (by omega)
          · have := congrArg List.length h
            simp at this
        · intro h
          exfalso
          rcases List.mem_append.mp h with h | h
          · obtain ⟨j, hj⟩ := List.mem_iff_getElem?.mp h
            have := (ok.init.low j _ _ hj).1
            have := (List.getElem?_eq_some_iff.mp hj).1
            omega
          · have h2 := List.mem_singleton.mp h
            have : rs.length + 1 = q := congrArg Prod.fst h2
            omega
end Ver
namespace Ver
/-! ### the cut -/
def cutStep (s : Rw × Nat) (c : Nat) : Rw × Nat := if (s.2, c) ∈ s.1 then (s.1, s.1.idxOf (s.2, c) + 1) else (s.1 ++ [(s.2, c)], 0)
def cutW (w : List Nat) : Rw × Nat := w.foldl cutStep ([], 0)
theorem cut_snoc (w : List Nat) (c : Nat) : cutW (w ++ [c]) = cutStep (cutW w) c := by
  unfold cutW
  rw [List.foldl_append]
  rfl
structure CutOk (al w : List Nat) (s : Rw × Nat) : Prop where
  ok : RowsOk al s.1
  low : s.2 ≤ s.1.length
  word : w = (pcs s.1).flatten ++ (pcs s.1).getD s.2 []
  few : s.1.length ≤ w.length
theorem idx_row {rs : Rw} {r : Nat × Nat} (h : r ∈ rs) : rs.idxOf r < rs.length ∧ rs[rs.idxOf r]? = some r := by
  have h1 := List.idxOf_lt_length_of_mem h
  refine ⟨h1, ?_⟩
  rw [List.getElem?_eq_getElem h1, List.getElem_idxOf h1]
theorem cut_ok {al : List Nat} (w : List Nat) (h : ∀ c ∈ w, c ∈ al) : CutOk al w (cutW w) := by
  induction w using snoc_ind with
  | h0 => exact ⟨⟨fun i p c h => by simp [cutW] at h, List.nodup_nil⟩, Nat.le_refl 0, by simp [cutW, pcs], Nat.le_refl 0⟩
  | hs w c ih0 =>
    have ih := ih0 fun d hd => h d (List.mem_append_left _ hd)
    have hc : c ∈ al := h c (List.mem_append_right _ (List.mem_singleton.mpr rfl))
    rw [cut_snoc]
    generalize cutW w = s at ih ⊢
    obtain ⟨rs, p⟩ := s
    obtain ⟨ok, low, word, few⟩ := ih
    have low : p ≤ rs.length := low
    obtain ⟨nd, rows, ex⟩ := pcs_facts rs ok
    have word : w = (pcs rs).flatten ++ (pcs rs).getD p [] := word
    have few : rs.length ≤ w.length := few
    unfold cutStep
    by_cases hm : (p, c) ∈ rs
    · rw [if_pos hm]
      obtain ⟨h1, h2⟩ := idx_row hm
      refine ⟨ok, h1, ?_, ?_⟩
      · show w ++ [c] = (pcs rs).flatten ++ (pcs rs).getD (rs.idxOf (p, c) + 1) []
        rw [rows _ p c h2, word, List.append_assoc]
      · show rs.length ≤ (w ++ [c]).length
        rw [List.length_append]
        omega
    · rw [if_neg hm]
      refine ⟨ok.snoc low hc hm, Nat.zero_le _, ?_, ?_⟩
      · show w ++ [c] = (pcs (rs ++ [(p, c)])).flatten ++ (pcs (rs ++ [(p, c)])).getD 0 []
        rw [pcs_zero, pcs_snoc, List.flatten_append, word]
        simp
      · show (rs ++ [(p, c)]).length ≤ (w ++ [c]).length
        rw [List.length_append, List.length_append]
        show rs.length + 1 ≤ w.length + 1
        omega
theorem cut_inj {al w v : List Nat} (hw : ∀ c ∈ w, c ∈ al) (hv : ∀ c ∈ v, c ∈ al) (h : cutW w = cutW v) : w = v := by
  rw [(cut_ok w hw).word, (cut_ok v hv).word, h]
/-! ### places -/
/-- an alphabet: its signs ascend -/
structure Alf (al : List Nat) : Prop where
  asc : al.Pairwise (· < ·)
  pos : 1 ≤ al.length
  six : al.length ≤ 6
  let' : ∀ c ∈ al, (48 ≤ c ∧ c ≤ 57) ∨ (97 ≤ c ∧ c ≤ 122)
theorem Alf.nd {al : List Nat} (h : Alf al) : al.Nodup := h.asc.imp fun h => Nat.ne_of_lt h
theorem idx_lt {al : List Nat} (h : al.Pairwise (· < ·)) {c d : Nat} (hc : c ∈ al) (hd : d ∈ al) : c < d ↔ al.idxOf c < al.idxOf d := by
  have h1 := List.idxOf_lt_length_of_mem hc
  have h2 := List.idxOf_lt_length_of_mem hd
  have e1 := List.getElem_idxOf h1
  have e2 := List.getElem_idxOf h2
  have key : ∀ i j (hi : i < al.length) (hj : j < al.length), i < j → al[i] < al[j] := fun i j hi hj hij => List.pairwise_iff_getElem.mp h i j hi hj hij
  constructor
  · intro hcd
    rcases Nat.lt_trichotomy (al.idxOf c) (al.idxOf d) with q | q | q
    · exact q
    · have : c = d := by rw [← e1, ← e2]; simp only [q]
      omega
    · have := key _ _ h2 h1 q
      rw [e1, e2] at this
      omega
  · intro q
    have := key _ _ h1 h2 q
    rw [e1, e2] at this
    exact this
def plc (al : List Nat) (r : Nat × Nat) : Nat := r.1 * al.length + al.idxOf r.2
theorem plc_lt {al : List Nat} {p c k : Nat} (hc : c ∈ al) (hp : p ≤ k) : plc al (p, c) < (k + 1) * al.length := by
  have h1 := List.idxOf_lt_length_of_mem hc
  have h2 : p * al.length ≤ k * al.length := Nat.mul_le_mul_right _ hp
  unfold plc
  rw [Nat.add_mul, Nat.one_mul]
  show p * al.length + al.idxOf c < _
  omega
def rlt (a b : Nat × Nat) : Prop := a.1 < b.1 ∨ a.1 = b.1 ∧ a.2 < b.2
theorem plc_mono {al : List Nat} (h : al.Pairwise (· < ·)) {a b : Nat × Nat} (ha : a.2 ∈ al) (hb : b.2 ∈ al) (hl : rlt a b) : plc al a < plc al b := by
  rcases hl with hl | ⟨h1, h2⟩
  · have h1 := plc_lt (p := a.1) ha (Nat.le_refl a.1)
    have h2 : (a.1 + 1) * al.length ≤ b.1 * al.length := Nat.mul_le_mul_right _ hl
    unfold plc at h1 ⊢
    show a.1 * al.length + al.idxOf a.2 < b.1 * al.length + al.idxOf b.2
    have h1 : a.1 * al.length + al.idxOf a.2 < (a.1 + 1) * al.length := h1
    omega
  · have := (idx_lt h ha hb).mp h2
    unfold plc
    rw [h1]
    omega
theorem rlt_tri {a b : Nat × Nat} (h : a ≠ b) : rlt a b ∨ rlt b a := by
  obtain ⟨a1, a2⟩ := a
  obtain ⟨b1, b2⟩ := b
  unfold rlt
  rcases Nat.lt_trichotomy a1 b1 with q | q | q
  · exact .inl (.inl q)
  · subst q
    rcases Nat.lt_trichotomy a2 b2 with q | q | q
    · exact .inl (.inr ⟨rfl, q⟩)
    · subst q
      exact absurd rfl h
    · exact .inr (.inr ⟨rfl, q⟩)
  · exact .inr (.inl q)
theorem plc_inj {al : List Nat} (h : al.Pairwise (· < ·)) {a b : Nat × Nat} (ha : a.2 ∈ al) (hb : b.2 ∈ al) (e : plc al a = plc al b) : a = b := by
  refine Classical.byContradiction fun hn => ?_
  rcases rlt_tri hn with q | q
  · have := plc_mono h ha hb q
    omega
  · have := plc_mono h hb ha q
    omega
def rowAt (rs : Rw) (k : Nat) : Nat × Nat := rs.getD k (0, 0)
theorem rowAt_get {rs : Rw} {k : Nat} (h : k < rs.length) : rs[k]? = some (rowAt rs k) := by
  unfold rowAt
  rw [List.getD_eq_getElem?_getD, List.getElem?_eq_getElem h]
  rfl
def pls (al : List Nat) (rs : Rw) : List Nat := rs.map (plc al)
def pnum (al : List Nat) (rs : Rw) (k : Nat) : Nat := plc al (rowAt rs k) - bel (pls al (rs.take k)) (plc al (rowAt rs k))
theorem row_ok {al : List Nat} {rs : Rw} (h : RowsOk al rs) {k : Nat} (hk : k < rs.length) : (rowAt rs k).1 ≤ k ∧ (rowAt rs k).2 ∈ al := h.low k _ _ (rowAt_get hk)
theorem RowsOk.take {al : List Nat} {rs : Rw} (h : RowsOk al rs) (k : Nat) : RowsOk al (rs.take k) := by
  refine ⟨fun i p c e => h.low i p c ?_, h.nd.sublist (List.take_sublist k rs)⟩
  rw [List.getElem?_take] at e
  split at e
  · exact e
  · cases e
theorem mem_row {al : List Nat} {rs : Rw} (h : RowsOk al rs) {r : Nat × Nat} (hr : r ∈ rs) : r.1 + 1 ≤ rs.length ∧ r.2 ∈ al := by
  obtain ⟨j, hj⟩ := List.mem_iff_getElem?.mp hr
  have h1 := h.low j r.1 r.2 hj
  have h2 := (List.getElem?_eq_some_iff.mp hj).1
  exact ⟨by omega, h1.2⟩
theorem pls_nd {al : List Nat} (ha : al.Pairwise (· < ·)) {rs : Rw} (h : RowsOk al rs) : (pls al rs).Nodup := by
  unfold pls
  refine List.pairwise_map.mpr ?_
  have h2 := h.nd
  refine List.Pairwise.imp_of_mem (fun {a b} ma mb hne e => hne ?_) h2
  exact plc_inj ha (mem_row h ma).2 (mem_row h mb).2 e
theorem pls_room {al : List Nat} {rs : Rw} (h : RowsOk al rs) : ∀ z ∈ pls al rs, z < rs.length * al.length := fun z hz => by
  obtain ⟨r, hr, rfl⟩ := List.mem_map.mp hz
  obtain ⟨h1, h2⟩ := mem_row h hr
  have := plc_lt (p := r.1) (k := r.1) h2 (Nat.le_refl _)
  exact Nat.lt_of_lt_of_le this (Nat.mul_le_mul_right _ h1)
theorem free_row {al : List Nat} (ha : al.Pairwise (· < ·)) {rs : Rw} (h : RowsOk al rs) {k : Nat} (hk : k < rs.length) : plc al (rowAt rs k) ∉ pls al (rs.take k) := fun hm => by
  obtain ⟨r, hr, e⟩ := List.mem_map.mp hm
  have h1 := (mem_row (h.take k) hr).2
  have e2 := plc_inj ha h1 (row_ok h hk).2 e
  obtain ⟨j, hj⟩ := List.mem_iff_getElem?.mp hr
  have hjk : j < k := by
    have := (List.getElem?_eq_some_iff.mp hj).1
    rw [List.length_take] at this
    omega
  rw [List.getElem?_take, if_pos hjk] at hj
  have hg := rowAt_get hk
  rw [e2] at hj
  obtain ⟨a1, b1⟩ := List.getElem?_eq_some_iff.mp hj
  obtain ⟨a2, b2⟩ := List.getElem?_eq_some_iff.mp hg
  have := (List.getElem_inj h.nd).mp (b1.trans b2.symm)
  omega
def opt (al : List Nat) (k : Nat) : Nat := (k + 1) * al.length - k + 1
theorem pnum_lt {al : List Nat} (ha : al.Pairwise (· < ·)) (hp : 1 ≤ al.length) {rs : Rw} (h : RowsOk al rs) {k : Nat} (hk : k < rs.length) : 1 + pnum al rs k < opt al k := by
  have hr := row_ok h hk
  have hl := plc_lt (p := (rowAt rs k).1) hr.2 hr.1
  have hn := pls_nd ha (h.take k)
  have hf := free_row ha h hk
  have hT : ∀ z ∈ pls al (rs.take k), z < (k + 1) * al.length := fun z hz => by
    have h1 := pls_room (h.take k) z hz
    rw [List.length_take, Nat.min_eq_left (by omega)] at h1
    exact Nat.lt_of_lt_of_le h1 (Nat.mul_le_mul_right _ (by omega))
  have key := bel_room hn (x := plc al (rowAt rs k)) hl hf hT
  have e : (pls al (rs.take k)).length = k := by
    unfold pls
    rw [List.length_map, List.length_take]
    omega
  rw [e] at key
  unfold pnum opt
  omega
/-! ### the numbers of the block -/
def num (al : List Nat) (rs : Rw) (k : Nat) : Nat := if k < rs.length then 1 + pnum al rs k else 0
theorem opt_two {al : List Nat} (hp : 1 ≤ al.length) (k : Nat) : 2 ≤ opt al k := by
  unfold opt
  have : (k + 1) * 1 ≤ (k + 1) * al.length := Nat.mul_le_mul_left _ hp
  omega
theorem num_lt {al : List Nat} (ha : al.Pairwise (· < ·)) (hp : 1 ≤ al.length) {rs : Rw} (h : RowsOk al rs) {k : Nat} : num al rs k < opt al k := by
  unfold num
  split
  · exact pnum_lt ha hp h (by assumption)
  · have := opt_two hp k
    omega
theorem num_same {al : List Nat} {rs rt : Rw} {s : Nat} (e : rs.take s = rt.take s) (h1 : s ≤ rs.length) (h2 : s ≤ rt.length) {k : Nat} (hk : k < s) : num al rs k = num al rt k := by
  unfold num pnum
  have er : rowAt rs k = rowAt rt k := by
    unfold rowAt
    rw [List.getD_eq_getElem?_getD, List.getD_eq_getElem?_getD]
    have a : (rs.take s)[k]? = rs[k]? := by rw [List.getElem?_take, if_pos hk]
    have b : (rt.take s)[k]? = rt[k]? := by rw [List.getElem?_take, if_pos hk]
    rw [← a, ← b, e]
  have et : rs.take k = rt.take k := by
    have a : (rs.take s).take k = rs.take k := by rw [List.take_take, Nat.min_eq_left (by omega)]
    have b : (rt.take s).take k = rt.take k := by rw [List.take_take, Nat.min_eq_left (by omega)]
    rw [← a, ← b, e]
  rw [if_pos (by omega), if_pos (by omega), er, et]
def wid (n : Nat) : Nat := (bitsOf (n : Int)).toNat
def nbl (n m : Nat) : List Nat := nbL n (wid m)
theorem nbl_ok {n m : Nat} (h : n < m) : Nb (nbl n m) (n : Int) (wid m) := by
  have := bits_lt (n := (n : Int)) (m := (m : Int)) (by omega) (by omega)
  rw [Int.toNat_natCast] at this
  exact nb_ok this
def prt (al : List Nat) (rs : Rw) (k : Nat) : List Nat := nbl (num al rs k) (opt al k)
def pre (al : List Nat) (rs : Rw) : Nat → List Nat
  | 0 => []
  | k + 1 => pre al rs k ++ prt al rs k
def rch (al : List Nat) : Nat → Nat
  | 0 => 0
  | k + 1 => rch al k + wid (opt al k)
def blk (al : List Nat) (s : Rw × Nat) : List Nat := pre al s.1 (s.1.length + 1) ++ nbl s.2 (s.1.length + 1)
theorem pre_len {al : List Nat} (ha : al.Pairwise (· < ·)) (hp : 1 ≤ al.length) {rs : Rw} (h : RowsOk al rs) : ∀ k, (pre al rs k).length = rch al k
  | 0 => rfl
  | k + 1 => by
    show (pre al rs k ++ nbl (num al rs k) (opt al k)).length = rch al k + wid (opt al k)
    rw [List.length_append, pre_len ha hp h k, (nbl_ok (num_lt ha hp h)).len]
theorem pre_same {al : List Nat} {rs rt : Rw} {s : Nat} (e : rs.take s = rt.take s) (h1 : s ≤ rs.length) (h2 : s ≤ rt.length) : ∀ k, k ≤ s → pre al rs k = pre al rt k
  | 0, _ => rfl
  | k + 1, hk => by
    show pre al rs k ++ prt al rs k = pre al rt k ++ prt al rt k
    rw [pre_same e h1 h2 k (by omega)]
    unfold prt
    rw [num_same e h1 h2 (by omega)]
theorem pre_split {al : List Nat} {rs : Rw} {s : Nat} : ∀ n, s < n → ∃ U, pre al rs n = pre al rs s ++ (prt al rs s ++ U)
  | 0, h => absurd h (Nat.not_lt_zero _)
  | n + 1, h => by
    by_cases c : s = n
    · subst c
      exact ⟨[], by show pre al rs s ++ prt al rs s = _; simp⟩
    · obtain ⟨U, e⟩ := pre_split (al := al) (rs := rs) (s := s) n (by omega)
      refine ⟨U ++ prt al rs n, ?_⟩
      show pre al rs n ++ prt al rs n = _
      rw [e]
      simp
theorem blk_len {al : List Nat} (ha : al.Pairwise (· < ·)) (hp : 1 ≤ al.length) {rs : Rw} (h : RowsOk al rs) {t : Nat} (ht : t ≤ rs.length) : (blk al (rs, t)).length = rch al (rs.length + 1) + wid (rs.length + 1) := by
  show (pre al rs (rs.length + 1) ++ nbl t (rs.length + 1)).length = _
  rw [List.length_append, pre_len ha hp h, (nbl_ok (show t < rs.length + 1 by omega)).len]
/-- A and B agree on R signs, and differ within the next W: there A is before B just where less -/
structure Parted (A B : List Nat) (R W : Nat) (less : Bool) : Prop where
  ex : ∃ P X Y U V, A = P ++ (X ++ U) ∧ B = P ++ (Y ++ V) ∧ P.length = R ∧ X.length = W ∧ Y.length = W ∧ if less = true then X < Y else Y < X
theorem nbl_lex {n k m : Nat} (hn : n < m) (hk : k < m) (h : n < k) : nbl n m < nbl k m := by
  have a := nbl_ok hn
  have b := nbl_ok hk
  exact lex_of_val _ _ (a.len.trans b.len.symm) a.digs b.digs (by rw [a.v, b.v]; omega)
theorem parted_of {al : List Nat} {P U V : List Nat} {n k m R : Nat} {less : Bool} (hn : n < m) (hk : k < m) (hP : P.length = R) (h : if less = true then n < k else k < n) : Parted (P ++ (nbl n m ++ U)) (P ++ (nbl k m ++ V)) R (wid m) less := by
  refine ⟨P, nbl n m, nbl k m, U, V, rfl, rfl, hP, (nbl_ok hn).len, (nbl_ok hk).len, ?_⟩
  cases less with
  | true => exact nbl_lex hn hk h
  | false => exact nbl_lex hk hn h
/-- the rows agree up to s, and there one ends or they differ -/
theorem parted_rows {al : List Nat} (A : Alf al) {rs rt : Rw} {t u s : Nat} (h1 : RowsOk al rs) (h2 : RowsOk al rt) (e : rs.take s = rt.take s) (l1 : s ≤ rs.length) (l2 : s ≤ rt.length) {less : Bool}
    (h : if less = true then num al rs s < num al rt s else num al rt s < num al rs s) : Parted (blk al (rs, t)) (blk al (rt, u)) (rch al s) (wid (opt al s)) less := by
  obtain ⟨U, e1⟩ := pre_split (al := al) (rs := rs) (s := s) (rs.length + 1) (by omega)
  obtain ⟨V, e2⟩ := pre_split (al := al) (rs := rt) (s := s) (rt.length + 1) (by omega)
  have p1 := pre_same (al := al) e l1 l2 s (Nat.le_refl _)
  show Parted (pre al rs (rs.length + 1) ++ nbl t (rs.length + 1)) (pre al rt (rt.length + 1) ++ nbl u (rt.length + 1)) _ _ _
  rw [e1, e2, List.append_assoc, List.append_assoc, List.append_assoc, List.append_assoc, ← p1]
  exact parted_of (al := al) (num_lt A.asc A.pos h1) (num_lt A.asc A.pos h2) (pre_len A.asc A.pos h1 s) h
theorem num_end {al : List Nat} {rs : Rw} : num al rs rs.length = 0 := if_neg (Nat.lt_irrefl _)
theorem num_pos {al : List Nat} {rs : Rw} {k : Nat} (h : k < rs.length) : num al rs k = 1 + pnum al rs k := if_pos h
theorem num_row {al : List Nat} (A : Alf al) {rs rt : Rw} {s : Nat} (h1 : RowsOk al rs) (h2 : RowsOk al rt) (e : rs.take s = rt.take s) (l1 : s < rs.length) (l2 : s < rt.length) (h : rlt (rowAt rs s) (rowAt rt s)) : num al rs s < num al rt s := by
  rw [num_pos l1, num_pos l2]
  unfold pnum
  have k1 := plc_mono A.asc (row_ok h1 l1).2 (row_ok h2 l2).2 h
  have k2 := bel_lt (pls_nd A.asc (h1.take s)) k1 (free_row A.asc h1 l1)
  rw [← e]
  omega
/-- both have the same rows: the tails tell -/
theorem parted_tails {al : List Nat} (A : Alf al) {rs : Rw} {t u : Nat} (h1 : RowsOk al rs) (ht : t ≤ rs.length) (hu : u ≤ rs.length) {less : Bool} (h : if less = true then t < u else u < t) :
    Parted (blk al (rs, t)) (blk al (rs, u)) (rch al (rs.length + 1)) (wid (rs.length + 1)) less := by
  have p := parted_of (al := al) (P := pre al rs (rs.length + 1)) (U := []) (V := []) (n := t) (k := u) (m := rs.length + 1) (R := rch al (rs.length + 1)) (less := less) (by omega) (by omega) (pre_len A.asc A.pos h1 _) h
  rw [List.append_nil, List.append_nil] at p
  exact p
theorem Parted.not_pre {A B : List Nat} {R W : Nat} {less : Bool} (h : Parted A B R W less) : ¬ A <+: B ∧ ¬ B <+: A := by
  obtain ⟨P, X, Y, U, V, rfl, rfl, hP, hX, hY, hl⟩ := h.ex
  have ne : X ≠ Y := fun e => by
    subst e
    cases less with
    | true => exact List.lt_irrefl _ hl
    | false => exact List.lt_irrefl _ hl
  have key : ∀ {X Y U V : List Nat}, X.length = Y.length → P ++ (X ++ U) <+: P ++ (Y ++ V) → X = Y := fun hxy hp => by
    obtain ⟨Z, hz⟩ := hp
    rw [List.append_assoc, List.append_assoc] at hz
    have h2 := List.append_cancel_left hz
    exact (List.append_inj h2 hxy).1
  exact ⟨fun hp => ne (key (hX.trans hY.symm) hp), fun hp => ne (key (hY.trans hX.symm) hp).symm⟩
theorem Parted.cut {A B : List Nat} {R W : Nat} {less : Bool} (h : Parted A B R W less) : R + W ≤ A.length ∧ R + W ≤ B.length ∧ A.take R = B.take R ∧
    (if less = true then (A.drop R).take W < (B.drop R).take W else (B.drop R).take W < (A.drop R).take W) := by
  obtain ⟨P, X, Y, U, V, rfl, rfl, hP, hX, hY, hl⟩ := h.ex
  subst hP
  have t1 : ∀ {Z : List Nat}, (P ++ Z).take P.length = P := fun {Z} => by simp
  have t2 : ∀ {Z : List Nat}, (P ++ Z).drop P.length = Z := fun {Z} => by simp
  have t3 : (X ++ U).take W = X := by rw [← hX]; simp
  have t4 : (Y ++ V).take W = Y := by rw [← hY]; simp
  refine ⟨?_, ?_, ?_, ?_⟩
  · simp only [List.length_append]
    omega
  · simp only [List.length_append]
    omega
  · rw [t1, t1]
  · rw [t2, t2, t3, t4]
    exact hl
theorem rch_mono {al : List Nat} : ∀ {i j : Nat}, i ≤ j → rch al i ≤ rch al j := by
  intro i j h
  induction h with
  | refl => exact Nat.le_refl _
  | @step k _ ih =>
    show rch al i ≤ rch al k + _
    omega
theorem wid_pow {n : Nat} (h : 1 ≤ n) : n ≤ 2 ^ wid n := by
  have := bits_lt (n := ((n - 1 : Nat) : Int)) (m := (n : Int)) (by omega) (by omega)
  rw [Int.toNat_natCast] at this
  unfold wid
  omega
theorem wid_mono {n m : Nat} (h1 : 1 ≤ n) (h : n ≤ m) : wid n ≤ wid m := by
  have hp := wid_pow (show 1 ≤ m by omega)
  have := bits_le (m := (n : Int)) (b := wid m) (by omega) (by
    have e : (2 : Int) ^ wid m = ((2 ^ wid m : Nat) : Int) := by
      rw [Int.natCast_pow]
      rfl
    rw [e]
    omega)
  unfold wid at this ⊢
  omega
theorem wid_two {n : Nat} (h : 2 ≤ n) : 1 ≤ wid n := by
  have hp := wid_pow (show 1 ≤ n by omega)
  cases e : wid n with
  | zero =>
    rw [e] at hp
    simp at hp
    omega
  | succ k => omega
def bln (al : List Nat) (m : Nat) : Nat := rch al (m + 1) + wid (m + 1)
theorem bln_lt {al : List Nat} (hp : 1 ≤ al.length) {m k : Nat} (h : m < k) : bln al m < bln al k := by
  have h1 := rch_mono (al := al) (show m + 2 ≤ k + 1 by omega)
  have h2 := wid_two (opt_two hp (m + 1))
  have h3 := wid_mono (n := m + 1) (m := k + 1) (by omega) (by omega)
  have h4 : rch al (m + 2) = rch al (m + 1) + wid (opt al (m + 1)) := rfl
  unfold bln
  omega
theorem bln_iff {al : List Nat} (hp : 1 ≤ al.length) {m k : Nat} : (bln al m < bln al k ↔ m < k) ∧ (bln al m = bln al k ↔ m = k) := by
  rcases Nat.lt_trichotomy m k with h | h | h
  · have := bln_lt hp h
    omega
  · subst h
    omega
  · have := bln_lt hp h
    omega
/-- what the law computes of two cuts whose rows agree up to s -/
def lR (al : List Nat) (a b : Rw × Nat) (s : Nat) : Nat := if s = a.1.length ∧ s = b.1.length then rch al (s + 1) else rch al s
def lW (al : List Nat) (a b : Rw × Nat) (s : Nat) : Nat := if s = a.1.length ∧ s = b.1.length then wid (s + 1) else wid (opt al s)
def rltb (a b : Nat × Nat) : Bool := decide (a.1 < b.1 ∨ a.1 = b.1 ∧ a.2 < b.2)
def lL (a b : Rw × Nat) (s : Nat) : Bool := if s = a.1.length ∧ s = b.1.length then decide (a.2 < b.2) else if s = a.1.length ∨ s = b.1.length then decide (a.1.length < b.1.length) else rltb (rowAt a.1 s) (rowAt b.1 s)
structure Agree (a b : Rw) (s : Nat) : Prop where
  same : a.take s = b.take s
  l1 : s ≤ a.length
  l2 : s ≤ b.length
  last : s = a.length ∨ s = b.length ∨ rowAt a s ≠ rowAt b s
theorem law_pair {al w v : List Nat} (A : Alf al) (hw : ∀ c ∈ w, c ∈ al) (hv : ∀ c ∈ v, c ∈ al) (ne : w ≠ v) {s : Nat} (g : Agree (cutW w).1 (cutW v).1 s) :
    Parted (blk al (cutW w)) (blk al (cutW v)) (lR al (cutW w) (cutW v) s) (lW al (cutW w) (cutW v) s) (lL (cutW w) (cutW v) s) := by
  have k1 := cut_ok w hw
  have k2 := cut_ok v hv
  have hne : cutW w ≠ cutW v := fun e => ne (cut_inj hw hv e)
  generalize cutW w = a at *
  generalize cutW v = b at *
  obtain ⟨rs, t⟩ := a
  obtain ⟨rt, u⟩ := b
  have o1 : RowsOk al rs := k1.ok
  have o2 : RowsOk al rt := k2.ok
  have t1 : t ≤ rs.length := k1.low
  have t2 : u ≤ rt.length := k2.low
  obtain ⟨same, l1, l2, last⟩ := g
  have l1 : s ≤ rs.length := l1
  have l2 : s ≤ rt.length := l2
  have same : rs.take s = rt.take s := same
  have last : s = rs.length ∨ s = rt.length ∨ rowAt rs s ≠ rowAt rt s := last
  unfold lR lW lL
  show Parted _ _ (if s = rs.length ∧ s = rt.length then rch al (s + 1) else rch al s) (if s = rs.length ∧ s = rt.length then wid (s + 1) else wid (opt al s)) (if s = rs.length ∧ s = rt.length then decide (t < u) else if s = rs.length ∨ s = rt.length then decide (rs.length < rt.length) else rltb (rowAt rs s) (rowAt rt s))
  by_cases c : s = rs.length ∧ s = rt.length
  · rw [if_pos c, if_pos c, if_pos c]
    have er : rs = rt := by
      rw [List.take_of_length_le (by omega), List.take_of_length_le (by omega)] at same
      exact same
    subst er
    have htu : t ≠ u := fun e => hne (by rw [e])
    rw [c.1]
    refine parted_tails A o1 t1 t2 ?_
    by_cases q : t < u
    · rw [if_pos (decide_eq_true q)]
      exact q
    · rw [if_neg (by simpa using q)]
      omega
  · rw [if_neg c, if_neg c, if_neg c]
    refine parted_rows A o1 o2 same l1 l2 ?_
    by_cases d : s = rs.length ∨ s = rt.length
    · rw [if_pos d]
      rcases d with d | d
      · have hlt : rs.length < rt.length := by omega
        rw [if_pos (decide_eq_true hlt)]
        have h0 : num al rs s = 0 := by
          rw [d]
          exact num_end
        rw [h0, num_pos (by omega)]
        omega
      · have hlt : ¬ rs.length < rt.length := by omega
        rw [if_neg (by simpa using hlt)]
        have h0 : num al rt s = 0 := by
          rw [d]
          exact num_end
        rw [h0, num_pos (by omega)]
        omega
    · rw [if_neg d]
      have d1 : s < rs.length := by omega
      have d2 : s < rt.length := by omega
      have hn : rowAt rs s ≠ rowAt rt s := by
        rcases last with z | z | z
        · exact absurd (.inl z) d
        · exact absurd (.inr z) d
        · exact z
      by_cases q : rlt (rowAt rs s) (rowAt rt s)
      · rw [if_pos (show rltb (rowAt rs s) (rowAt rt s) = true from decide_eq_true q)]
        exact num_row A o1 o2 same d1 d2 q
      · rw [if_neg (show ¬ rltb (rowAt rs s) (rowAt rt s) = true from fun h => q (by unfold rltb at h; unfold rlt; exact of_decide_eq_true h))]
        have q2 := (rlt_tri hn).resolve_left q
        exact num_row A o2 o1 same.symm d2 d1 q2
theorem blk_cut_len {al w : List Nat} (A : Alf al) (hw : ∀ c ∈ w, c ∈ al) : (blk al (cutW w)).length = bln al (cutW w).1.length := by
  have k := cut_ok w hw
  exact blk_len A.asc A.pos k.ok k.low
/-- one there is: the rows agree up to some place -/
theorem agree_ex : ∀ (a b : Rw), ∃ s, Agree a b s := by
  intro a b
  have h : ∀ n, n ≤ a.length → n ≤ b.length → a.take n = b.take n → ∃ s, Agree a b s := by
    intro n
    generalize hd : a.length - n = d
    induction d generalizing n with
    | zero => exact fun h1 h2 e => ⟨n, e, h1, h2, .inl (by omega)⟩
    | succ d ih =>
      intro h1 h2 e
      by_cases c : n = b.length
      · exact ⟨n, e, h1, h2, .inr (.inl c)⟩
      · by_cases q : rowAt a n = rowAt b n
        · refine ih (n + 1) (by omega) (by omega) (by omega) ?_
          rw [List.take_add_one, List.take_add_one, e, rowAt_get (by omega), rowAt_get (by omega), q]
        · exact ⟨n, e, h1, h2, .inr (.inr q)⟩
  exact h 0 (Nat.zero_le _) (Nat.zero_le _) rfl
theorem blk_not_pre {al w v : List Nat} (A : Alf al) (hw : ∀ c ∈ w, c ∈ al) (hv : ∀ c ∈ v, c ∈ al) (ne : w ≠ v) : ¬ blk al (cutW w) <+: blk al (cutW v) := by
  obtain ⟨s, g⟩ := agree_ex (cutW w).1 (cutW v).1
  exact (law_pair A hw hv ne g).not_pre.1
end Ver
namespace Ver
open PySem PySem.Spec PyProof.Rows L2 Evl
structure At (K : PySem.W.Frag) (mg : Str → Option Value) (x : Str) (st : Stmt) : Prop where
  ex : ∃ f fd, Fun K x x st f fd ∧ mg x = some (.ref f)
def Has (P : Program) (w : World) (K : PySem.W.Frag) (mg : Str → Option Value) (base : Heap) (x : Str) (st : Stmt) (ps : List Str) (k : Nat) (sp : Sp) : Prop :=
  ∃ f fd, Fun K x x st f fd ∧ FnOk P w K mg base CX0 k f fd ps sp ∧ Binds K fd ps [] ∧ mg x = some (.ref f) ∧ PySem.W.keepIn K (.ref f) = true
/-- an __init__, and the class that it makes -/
structure AtI (K : PySem.W.Frag) (C : Addr) (q : Str) (st : Stmt) : Prop where
  ex : ∃ f fd, Fun K "__init__" q st f fd ∧ Mk K C f
def HasI (P : Program) (w : World) (K : PySem.W.Frag) (mg : Str → Option Value) (base : Heap) (C : Addr) (ps : List Str) (k : Nat) (sp : Sp) : Prop :=
  ∃ f fd, FnOk P w K mg base CX0 k f fd ps sp ∧ Binds K fd ps [] ∧ Mk K C f
/-! ### data of the heap -/
structure RowsAt (H : Hp) (xs : List V) (rs : Rw) : Prop where
  len : xs.length = rs.length
  row : ∀ (i p c : Nat), rs[i]? = some (p, c) → ∃ r, xs[i]? = some (V.ref r) ∧ H r = some (.tup [.int (p : Int), tx [c]])
theorem RowsAt.mono {H H' : Hp} {xs : List V} {rs : Rw} (h : RowsAt H xs rs) (e : Ex H H') : RowsAt H' xs rs := ⟨h.len, fun i p c q => by
  obtain ⟨r, a, b⟩ := h.row i p c q
  exact ⟨r, a, e _ _ b⟩⟩
/-- what is no tuple may change -/
theorem RowsAt.upd {H : Hp} {xs : List V} {rs : Rw} {l : Addr} {o u : HO} (h : RowsAt H xs rs) (hl : H l = some u) (hu : ∀ ys, u ≠ .tup ys) : RowsAt (upd H l o) xs rs := ⟨h.len, fun i p c q => by
  obtain ⟨r, a, b⟩ := h.row i p c q
  refine ⟨r, a, ?_⟩
  rw [upd_ne]
  · exact b
  · intro z
    rw [z, hl] at b
    exact hu _ (Option.some.inj b)⟩
theorem RowsAt.nil {H : Hp} : RowsAt H [] [] := ⟨rfl, fun i p c q => by simp at q⟩
theorem RowsAt.snoc {H : Hp} {xs : List V} {rs : Rw} {r : Addr} {p c : Nat} (h : RowsAt H xs rs) (hr : H r = some (.tup [.int (p : Int), tx [c]])) : RowsAt H (xs ++ [.ref r]) (rs ++ [(p, c)]) := by
  refine ⟨by rw [List.length_append, List.length_append, h.len]; rfl, fun i q d e => ?_⟩
  by_cases hi : i < rs.length
  · rw [List.getElem?_append_left hi] at e
    obtain ⟨r', a, b⟩ := h.row i q d e
    exact ⟨r', by rw [List.getElem?_append_left (by rw [h.len]; exact hi)]; exact a, b⟩
  · have h1 := (List.getElem?_eq_some_iff.mp e).1
    rw [List.length_append] at h1
    have e2 : i = rs.length := by
      simp at h1
      omega
    subst e2
    have e3 : (p, c) = (q, d) := by simpa using e
    cases e3
    refine ⟨r, ?_, hr⟩
    rw [← h.len]
    simp
theorem RowsAt.get {H : Hp} {xs : List V} {rs : Rw} (h : RowsAt H xs rs) {i : Nat} {x : V} (hx : xs[i]? = some x) : i < rs.length ∧ ∃ r, x = .ref r ∧ H r = some (.tup [.int ((rowAt rs i).1 : Int), tx [(rowAt rs i).2]]) := by
  have hi : i < rs.length := by
    rw [← h.len]
    exact (List.getElem?_eq_some_iff.mp hx).1
  refine ⟨hi, ?_⟩
  obtain ⟨r, a, b⟩ := h.row i _ _ (rowAt_get hi)
  rw [a] at hx
  exact ⟨r, (Option.some.inj hx).symm, b⟩
/-! ### promises' shapes -/
def RetU (xs : List V) (H : Hp) (Q : VK) : Prop := ∀ p H2, H p = none → Ex H H2 → H2 p = some (.tup xs) → Q (.ref p) H2
section
variable {K : PySem.W.Frag} {σ : L2.St} {H : Hp} {ta tb te : TE} {t : TT} {tu tz : TS} {D : Ends}
/-! ### texts -/
theorem rc_lenS {l : List Nat} (h : l.length ≤ 100000) : RC (fun vs H Q => ∃ z : Str, vs = [.str z] ∧ z.length ≤ sizeLine ∧ Q (.int (z.length : Int)) H) [tx l] H (.int (l.length : Int)) := fun H1 _ Q q =>
  ⟨SX.S l, rfl, by rw [SX.S_len]; exact sz_of h, by rw [SX.S_len]; exact q H1 (Ex.refl H1)⟩
theorem ev_lenS {l : List Nat} (h : l.length ≤ 100000) (ha : Ev ta σ H (tx l)) : Ev (tCB (fun vs H Q => ∃ z : Str, vs = [.str z] ∧ z.length ≤ sizeLine ∧ Q (.int (z.length : Int)) H) (tCons ta tNil)) σ H (.int (l.length : Int)) := ev_cb (ea_cons ha ea_nil) (rc_lenS h)
theorem rv_ltS {a b : List Nat} : RV (fun x y H Q => ∃ i j : Str, x = .str i ∧ y = .str j ∧ Q (.bl (decide (i.cps.toList < j.cps.toList))) H) (tx a) (tx b) H (.bl (decide (a < b))) := fun H1 _ _ q => ⟨_, _, rfl, rfl, q H1 (Ex.refl H1)⟩
theorem ev_catS {a b : List Nat} (h : a.length + b.length ≤ 100000) (ha : Ev ta σ H (tx a)) (hb : Ev tb σ H (tx b)) : Ev (tOp (fun x y H Q => ∃ i j : Str, x = .str i ∧ y = .str j ∧ i.length + j.length ≤ sizeLine ∧ Q (.str (i ++ j)) H) ta tb) σ H (tx (a ++ b)) :=
  ev_op ha hb fun H1 _ Q q => ⟨_, _, rfl, rfl, by rw [SX.S_len, SX.S_len]; exact sz_of h, by rw [SX.S_cat]; exact q H1 (Ex.refl H1)⟩
theorem et_neS {a b : List Nat} (ha : Ev ta σ H (tx a)) (hb : Ev tb σ H (tx b)) : EvT (tTest (tOp rNe ta tb)) σ H (!decide (a = b)) := et_test (ev_is (ev_op ha hb (rv_ne rfl)) (by rw [tx_dec]))
theorem et_eqS {a b : List Nat} (ha : Ev ta σ H (tx a)) (hb : Ev tb σ H (tx b)) : EvT (tTest (tOp rEq ta tb)) σ H (decide (a = b)) := et_test (ev_is (ev_op ha hb (rv_eq rfl)) (by rw [tx_dec]))
theorem rv_inSign {c : Nat} {l : List Nat} : RV (fun x y H Q => ∃ (c : Nat) (z : Str), x = .str ⟨#[c]⟩ ∧ y = .str z ∧ Q (.bl (decide (c ∈ z.cps.toList))) H) (tx [c]) (tx l) H (.bl (decide (c ∈ l))) := fun H1 _ _ q => ⟨c, SX.S l, rfl, rfl, q H1 (Ex.refl H1)⟩
theorem cutS_all {l : List Nat} {lo hi : Option Int} : cutS (SX.S l) lo hi = SX.S ((l.drop (HT.sIx l.length 0 lo)).take (HT.sIx l.length l.length hi - HT.sIx l.length 0 lo)) := by
  unfold cutS
  rw [SX.S_len]
def cutL (l : List Nat) (lo hi : Option Int) : List Nat := (l.drop (HT.sIx l.length 0 lo)).take (HT.sIx l.length l.length hi - HT.sIx l.length 0 lo)
theorem cutL_from {l : List Nat} (n : Nat) : cutL l (some (n : Int)) none = l.drop n := by
  unfold cutL
  rw [HT.sIx_none, HT.sIx_nat]
  by_cases h : n ≤ l.length
  · rw [Nat.min_eq_left h]
    exact List.take_of_length_le (by rw [List.length_drop]; omega)
  · rw [Nat.min_eq_right (by omega), Nat.sub_self, List.take_zero, List.drop_eq_nil_of_le (by omega)]
theorem cutL_to {l : List Nat} (n : Nat) : cutL l none (some (n : Int)) = l.take n := by
  unfold cutL
  rw [HT.sIx_none, HT.sIx_nat]
  simp only [Nat.sub_zero, List.drop_zero]
  by_cases h : n ≤ l.length
  · rw [Nat.min_eq_left h]
  · rw [Nat.min_eq_right (by omega), List.take_length, List.take_of_length_le (by omega)]
theorem cutL_both {l : List Nat} (a b : Nat) : cutL l (some (a : Int)) (some ((a + b : Nat) : Int)) = (l.drop a).take b := by
  unfold cutL
  rw [HT.sIx_nat, HT.sIx_nat]
  by_cases h : a ≤ l.length
  · rw [Nat.min_eq_left h]
    by_cases h2 : a + b ≤ l.length
    · rw [Nat.min_eq_left h2]
      congr 1
      omega
    · rw [Nat.min_eq_right (by omega), List.take_of_length_le (by rw [List.length_drop]; omega), List.take_of_length_le (by rw [List.length_drop]; omega)]
  · rw [Nat.min_eq_right (by omega), Nat.min_eq_right (by omega), Nat.sub_self, List.take_zero, List.drop_eq_nil_of_le (by omega)]
    simp
theorem cutL_sub {l : List Nat} {lo hi : Option Int} : ∀ c ∈ cutL l lo hi, c ∈ l := fun c h => List.mem_of_mem_drop (List.mem_of_mem_take h)
theorem cutL_len {l : List Nat} {lo hi : Option Int} : (cutL l lo hi).length ≤ l.length := by
  unfold cutL
  rw [List.length_take, List.length_drop]
  omega
theorem ev_slS {l : List Nat} {tl th : TO} {lo hi : Option Int} (hz : l.length ≤ 100000) (h : Ev te σ H (tx l)) (h1 : EvO tl σ H lo) (h2 : EvO th σ H hi) : Ev (tSl rSlS te tl th) σ H (tx (cutL l lo hi)) := fun H1 e Q q =>
  h H1 e _ fun H2 e2 => h1 H2 (e.trans e2) _ fun H3 e3 => h2 H3 ((e.trans e2).trans e3) _ fun H4 e4 =>
    ⟨SX.S l, rfl, by rw [SX.S_len]; exact sz_of hz, by rw [cutS_all]; exact q H4 ((e2.trans e3).trans e4)⟩
theorem ev_ixS {l : List Nat} {i c : Nat} (hz : l.length ≤ 100000) (hi : l[i]? = some c) (ha : Ev ta σ H (tx l)) (hb : Ev tb σ H (.int (i : Int))) : Ev (tOp rIxS ta tb) σ H (tx [c]) :=
  ev_op ha hb (rv_ixS (w := SX.S l) (by rw [SX.S_len]; exact hz) (atI_nat hi))
theorem ev_mulS {l : List Nat} {n : Nat} (h1 : n ≤ 100000) (h2 : l.length * n ≤ 100000) (ha : Ev ta σ H (tx l)) (hb : Ev tb σ H (.int (n : Int))) : Ev (tOp rMulS ta tb) σ H (tx (List.replicate n l).flatten) :=
  ev_op ha hb fun H1 _ Q q => ⟨l, n, rfl, rfl, h1, h2, q H1 (Ex.refl H1)⟩
/-! ### lists made on the way -/
theorem ev_allN {bs : List Bool} (ha : EvL ta σ H (bs.map V.bl)) : Ev (tCB (rAll K) (tCons ta tNil)) σ H (.bl (bs.all id)) := fun H1 e Q q =>
  ha H1 e _ fun p H2 _ e2 h2 => ⟨p, bs, rfl, sq_of h2, q H2 e2⟩
theorem eu_tupOfL {xs : List V} (ha : EvL ta σ H xs) : EvU (tCB (fun xs H Q => ∃ p ys, xs = [.ref p] ∧ ((SqL K H p ys ∧ ∀ l, H l = none → Q (.ref l) (upd H l (.tup ys))) ∨ (SqT K H p ys ∧ Q (.ref p) H))) (tCons ta tNil)) σ H xs := fun H1 e Q q =>
  ha H1 e _ fun p H2 _ e2 h2 => ⟨p, xs, rfl, .inl ⟨sq_of h2, fun l hl => q l _ (fresh_back e2 hl) (e2.trans (Ex.new hl)) upd_same⟩⟩
theorem eu_tupOf {p : Addr} {xs : List V} (ha : Ev ta σ H (.ref p)) (hp : SqL K H p xs) : EvU (tCB (fun xs H Q => ∃ p ys, xs = [.ref p] ∧ ((SqL K H p ys ∧ ∀ l, H l = none → Q (.ref l) (upd H l (.tup ys))) ∨ (SqT K H p ys ∧ Q (.ref p) H))) (tCons ta tNil)) σ H xs := fun H1 e Q q =>
  ha H1 e _ fun H2 e2 => ⟨p, xs, rfl, .inl ⟨ex_l (e.trans e2) hp, fun l hl => q l _ (fresh_back e2 hl) (e2.trans (Ex.new hl)) upd_same⟩⟩
theorem rc_lenT {p : Addr} {xs : List V} (h : SqT K H p xs) : RC (fun vs H Q => ∃ p ys, vs = [V.ref p] ∧ (SqL K H p ys ∨ SqT K H p ys) ∧ Q (V.int ys.length) H) [.ref p] H (.int xs.length) := fun H1 e _ q =>
  ⟨p, xs, rfl, .inr (ex_t e h), q H1 (Ex.refl H1)⟩
/-- a list made over zip(text, text) -/
theorem el_lcZ {x y : List Nat} {tp : TA} {j1 j2 : Nat} {vs : List Nat} (v : Nat → V) (h : EvA tp σ H [tx x, tx y]) (hz : x.length ≤ 40000)
    (hw : ∀ a b, wipe (((wipe σ vs).set j1 (some a)).set j2 (some b)) vs = wipe σ vs)
    (he : ∀ (i c d : Nat) H1, Ex H H1 → x[i]? = some c → y[i]? = some d → Ev te (((wipe σ vs).set j1 (some (tx [c]))).set j2 (some (tx [d]))) H1 (v i)) :
    EvL (tLc (iZipS tp) (gTup K 2 (gCons (gName j1) (gCons (gName j2) gNil))) tYes te vs) σ H ((List.range (min x.length y.length)).map v) := fun H0 e Q q => h H0 e _ fun H1 e1 => ⟨SX.S x, SX.S y, rfl, fun Dl hD => by
  have hn : min (SX.S x).cps.size (SX.S y).cps.size = min x.length y.length := by
    show min x.toArray.size y.toArray.size = _
    simp
  refine lc_it walk_zs (Cw H1 (fun _ => true) v Dl) ⟨hD, Ex.new hD, upd_same⟩ (fun _ _ _ _ => trivial) (fun i z H' H2 hi p yp => ?_) (fun H' p => ?_)
  · obtain ⟨T, a, b, rfl, hT, rfl, ha, hb⟩ := yp
    have ha2 : (x[i]?).map (fun c => tx [c]) = some a := ha
    have hb2 : (y[i]?).map (fun c => tx [c]) = some b := hb
    cases hx : x[i]? with
    | none =>
      rw [hx] at ha2
      cases ha2
    | some c =>
    cases hy : y[i]? with
    | none =>
      rw [hy] at hb2
      cases hb2
    | some d =>
    rw [hx] at ha2
    rw [hy] at hb2
    cases ha2
    cases hb2
    have hxl := (List.getElem?_eq_some_iff.mp hx).1
    have p2 : Cw H1 (fun _ => true) v Dl i (L2.upd H' T (.tup [tx [c], tx [d]])) := ⟨p.1, p.2.1.trans (Ex.new hT), Ex.new hT _ _ p.2.2⟩
    exact ⟨T, _, rfl, st_of upd_same, rfl, _, _, rfl, _, _, rfl, rfl, hw _ _, cw_turn p2 (by omega) et_yes fun _ => he i c d H1 (e.trans e1) hx hy⟩
  · rw [hn] at p
    have e9 := given_all (min x.length y.length) v
    have p3 := p.2.2
    rw [e9] at p3
    exact q Dl H' (fresh_back e1 p.1) (e1.trans p.2.1) p3⟩
end
end Ver
namespace Ver
open PySem PySem.Spec PyProof.Rows L2 Evl
section
variable {K : PySem.W.Frag} {σ : L2.St} {H : Hp} {ta tb tc te tl ty td : TE} {t : TT} {tu tz : TS} {D : Ends}
abbrev gPair (K : PySem.W.Frag) (j1 j2 : Nat) : TG := gTup K 2 (gCons (gName j1) (gCons (gName j2) gNil))
theorem q_drop {v : V} (h : Ev te σ H v) (k : ∀ H1, Ex H H1 → tz D σ H1) : tSeq (tDrop te) tz D σ H := s_drop (D := { D with nx := tz D }) h k
/-- a, b = a pair that stands -/
theorem q_unp {r : Addr} {a b : V} {j1 j2 : Nat} (h : Ev te σ H (.ref r)) (hr : H r = some (.tup [a, b])) (k : ∀ H1, Ex H H1 → tz D ((σ.set j1 (some a)).set j2 (some b)) H1) : tSeq (tAsg te (gPair K j1 j2)) tz D σ H :=
  h H (Ex.refl H) _ fun H1 e => ⟨r, [a, b], rfl, st_of (e _ _ hr), rfl, a, [b], rfl, b, [], rfl, rfl, k H1 e⟩
/-- for i, x in enumerate(a tuple) -/
theorem s_forET {tp : TA} {a : Addr} {xs : List V} {j1 j2 : Nat} (h : EvA tp σ H [.ref a]) (hx : SqT K H a xs)
    (Pv : Nat → L2.St → Hp → Prop) (h0 : ∀ H1, Ex H H1 → Pv 0 σ H1) (hG : ∀ i σ' H', Pv i σ' H' → SqT K H' a xs)
    (hs : ∀ i x σ' H' H2, xs[i]? = some x → Pv i σ' H' → Ex H' H2 → tu { D with nx := Pv (i + 1), ct := Pv (i + 1), bk := D.nx } ((σ'.set j1 (some (.int (i : Int)))).set j2 (some x)) H2)
    (hd : ∀ σ' H', Pv xs.length σ' H' → D.nx σ' H') : tFor (iEnumT K tp) (gPair K j1 j2) tu D σ H := by
  refine h H (Ex.refl H) _ fun H1 e1 => ⟨a, xs, rfl, ex_t e1 hx, for_it (walk_eT (k := 0) (xs := xs)) Pv (h0 H1 e1) (fun i σ' H' _ p => hG i σ' H' p) ?_ hd⟩
  intro i v σ' H3 H4 _ p y
  obtain ⟨T, x, z, rfl, hT, rfl, e3, e4⟩ := y
  cases e3
  have g := hs i z σ' H3 (L2.upd H3 T (.tup [.int (0 + (i : Int)), z])) e4 p (Ex.new hT)
  have e0 : (0 : Int) + (i : Int) = (i : Int) := Int.zero_add _
  refine ⟨T, [.int (0 + (i : Int)), z], rfl, st_of upd_same, rfl, _, _, rfl, _, _, rfl, rfl, ?_⟩
  generalize L2.upd H3 T (.tup [.int (0 + (i : Int)), z]) = HX at g ⊢
  show tu _ ((σ'.set j1 (some (.int (0 + (i : Int))))).set j2 (some z)) HX
  rw [e0]
  exact g
/-- for p, c in rows (a tuple of pairs) -/
theorem q_forRows {a : Addr} {xs : List V} {rs : Rw} {j1 j2 : Nat} (h : Ev tl σ H (.ref a)) (hx : SqT K H a xs) (R : RowsAt H xs rs)
    (Pv : Nat → L2.St → Hp → Prop) (h0 : ∀ H1, Ex H H1 → Pv 0 σ H1) (hG : ∀ i σ' H', Pv i σ' H' → SqT K H' a xs ∧ RowsAt H' xs rs)
    (hs : ∀ i σ' H', i < rs.length → Pv i σ' H' → tu { D with nx := Pv (i + 1), ct := Pv (i + 1), bk := tz D } ((σ'.set j1 (some (.int ((rowAt rs i).1 : Int)))).set j2 (some (tx [(rowAt rs i).2]))) H')
    (hd : ∀ σ' H', Pv rs.length σ' H' → tz D σ' H') : tSeq (tFor (iTup K tl) (gPair K j1 j2) tu) tz D σ H := by
  refine q_forT h hx Pv h0 (fun i σ' H' _ p => (hG i σ' H' p).1) ?_ (by rw [R.len]; exact hd)
  intro i x σ' H' hi p
  obtain ⟨hlt, r, rfl, hr⟩ := (hG i σ' H' p).2.get hi
  exact ⟨r, _, rfl, st_of hr, rfl, _, _, rfl, _, _, rfl, rfl, hs i σ' H' hlt p⟩
/-! ### dicts -/
theorem et_din {a : Addr} {y : V} {o : Option V} (hy : Ev ty σ H y) (hd : Ev td σ H (.ref a)) (hg : ∀ H1, Ex H H1 → DGet H1 a y o) : EvT (tB (tDIn ty td)) σ H o.isSome := fun H1 e Q q =>
  hy H1 e _ fun H2 e2 => hd H2 (e.trans e2) _ fun H3 e3 => ⟨a, o, rfl, hg H3 ((e.trans e2).trans e3), o.isSome, rfl, q H3 (e2.trans e3)⟩
theorem ev_dget {a : Addr} {y v : V} (hd : Ev td σ H (.ref a)) (hy : Ev ty σ H y) (hg : ∀ H1, Ex H H1 → DGet H1 a y (some v)) : Ev (tDGet td ty) σ H v := fun H1 e Q q =>
  hd H1 e _ fun H2 e2 => hy H2 (e.trans e2) _ fun H3 e3 => ⟨a, v, rfl, hg H3 ((e.trans e2).trans e3), q H3 (e2.trans e3)⟩
theorem s_dput {a : Addr} {y v : V} {g : Hp → Hp} (hv : Ev te σ H v) (hd : Ev td σ H (.ref a)) (hy : Ev ty σ H y) (hp : ∀ H1, Ex H H1 → DPut H1 a y v (g H1)) (k : ∀ H1, Ex H H1 → D.nx σ (g H1)) : sDPut td ty te D σ H :=
  hv H (Ex.refl H) _ fun H1 e1 => hd H1 e1 _ fun H2 e2 => hy H2 (e1.trans e2) _ fun H3 e3 => ⟨a, g H3, rfl, hp H3 ((e1.trans e2).trans e3), k H3 ((e1.trans e2).trans e3)⟩
theorem q_dput {a : Addr} {y v : V} {g : Hp → Hp} (hv : Ev te σ H v) (hd : Ev td σ H (.ref a)) (hy : Ev ty σ H y) (hp : ∀ H1, Ex H H1 → DPut H1 a y v (g H1)) (k : ∀ H1, Ex H H1 → tz D σ (g H1)) : tSeq (sDPut td ty te) tz D σ H :=
  s_dput (D := { D with nx := tz D }) hv hd hy hp k
theorem q_newT {i : Nat} (k : ∀ p H1, H p = none → Ex H H1 → H1 p = some (.dT []) → tz D (σ.set i (some (.ref p))) H1) : tSeq (tAsg tDNewT (gName i)) tz D σ H := fun p hp => k p _ hp (Ex.new hp) upd_same
/-! ### list.insert, text.index, join -/
theorem q_ins {l : Addr} {xs : List V} {i : Nat} {v : V} (hl : H l = some (.lst xs)) (ha : Ev ta σ H (.ref l)) (hb : Ev tb σ H (.int (i : Int))) (hc : Ev tc σ H v) (hz : xs.length < 100000) (hi : i ≤ 100000)
    (k : ∀ H1, Ex H H1 → tz D σ (upd H1 l (.lst (xs.take i ++ [v] ++ xs.drop i)))) :
    tSeq (tDrop (tBM K "list" (fun x vs H Q => ∃ (l : Addr) (xs : List V) (i : Int) (y : V), x = .ref l ∧ vs = [.int i, y] ∧ H l = some (.lst xs) ∧ xs.length < sizeLine ∧ 0 ≤ i ∧ i < 2 ^ 63 ∧
      Q .non (upd H l (.lst (xs.take i.toNat ++ [y] ++ xs.drop i.toNat)))) ta (tCons tb (tCons tc tNil)))) tz D σ H :=
  ha H (Ex.refl H) _ fun H1 e1 => ⟨Or.inl ⟨rfl, xs, sq_of (e1 l _ hl)⟩, hb H1 e1 _ fun H2 e2 => hc H2 (e1.trans e2) _ fun H3 e3 =>
    ⟨l, xs, (i : Int), v, rfl, rfl, ((e1.trans e2).trans e3) l _ hl, sz_lt hz, by omega, by omega, by rw [Int.toNat_natCast]; exact k H3 ((e1.trans e2).trans e3)⟩⟩
theorem ev_sidx {l : List Nat} {c i : Nat} (nd : l.Nodup) (hi : l[i]? = some c) (ha : Ev ta σ H (tx l)) (hb : Ev tb σ H (tx [c])) : Ev (tBM K "str" (fun x xs H Q => ∃ a b i rest, x = .str a ∧ xs = [.str b] ∧ Builtin.Str.occurrences a b 0 a.length 1 = i :: rest ∧ Q (.int (i : Nat)) H) ta (tCons tb tNil)) σ H (.int (i : Int)) :=
  ev_bm ha (fun _ _ => rfl) (ea_cons hb ea_nil) fun H1 _ Q q => by
    obtain ⟨rest, e⟩ := index_one nd hi
    exact ⟨_, _, i, rest, rfl, rfl, e, q H1 (Ex.refl H1)⟩
theorem joinL_nil : ∀ ps : List (List Nat), TL.joinL [] ps = ps.flatten
  | [] => rfl
  | [p] => by
    show p = [p].flatten
    simp
  | p :: q :: r => by
    show p ++ ([] ++ TL.joinL [] (q :: r)) = (p :: q :: r).flatten
    rw [joinL_nil (q :: r)]
    simp
theorem join_flat (ps : List (List Nat)) : Txt.join (SX.S []) (ps.map SX.S) = SX.S ps.flatten := by
  rw [SX.join_S, joinL_nil]
theorem map_tx (ps : List (List Nat)) : ps.map tx = (ps.map SX.S).map V.str := by
  rw [List.map_map]
  rfl
theorem sum_lens : ∀ ps : List (List Nat), ((ps.map SX.S).map (·.length)).sum = ps.flatten.length
  | [] => rfl
  | p :: r => by
    rw [List.map_cons, List.map_cons, List.sum_cons, sum_lens r, SX.S_len, List.flatten_cons, List.length_append]
abbrev rJoin (K : PySem.W.Frag) : V → List V → Hp → VK → Prop := fun x xs H Q => ∃ a p, ∃ ys : List Str, x = .str a ∧ xs = [.ref p] ∧ (SqL K H p (ys.map V.str) ∨ SqT K H p (ys.map V.str)) ∧
  (ys.map (·.length)).sum + ys.length * a.length ≤ 16777216 ∧ Q (.str (Txt.join a ys)) H
theorem join_ok {p : Addr} {ps : List (List Nat)} (hp : SqL K H p (ps.map tx) ∨ SqT K H p (ps.map tx)) (hz : ps.flatten.length ≤ 100000) {Q : VK} (q : Q (tx ps.flatten) H) : rJoin K (tx []) [.ref p] H Q := by
  refine ⟨SX.S [], p, ps.map SX.S, rfl, rfl, by rw [← map_tx]; exact hp, ?_, ?_⟩
  · rw [sum_lens, SX.S_len]
    show _ + _ * 0 ≤ _
    omega
  · rw [join_flat]
    exact q
theorem ev_join {p : Addr} {ps : List (List Nat)} (ha : Ev ta σ H (tx [])) (hb : Ev tb σ H (.ref p)) (hp : SqL K H p (ps.map tx) ∨ SqT K H p (ps.map tx)) (hz : ps.flatten.length ≤ 100000) : Ev (tM1 (rJoin K) ta tb) σ H (tx ps.flatten) := fun H1 e Q q =>
  ha H1 e _ fun H2 e2 => ⟨⟨_, rfl⟩, hb H2 (e.trans e2) _ fun H3 e3 => join_ok (hp.elim (fun h => .inl (ex_l ((e.trans e2).trans e3) h)) (fun h => .inr (ex_t ((e.trans e2).trans e3) h))) hz (q H3 (e2.trans e3))⟩
theorem ev_joinL {ps : List (List Nat)} (ha : Ev ta σ H (tx [])) (hb : EvL tb σ H (ps.map tx)) (hz : ps.flatten.length ≤ 100000) : Ev (tM1 (rJoin K) ta tb) σ H (tx ps.flatten) := fun H1 e Q q =>
  ha H1 e _ fun H2 e2 => ⟨⟨_, rfl⟩, hb H2 (e.trans e2) _ fun p H3 _ e3 h3 => join_ok (.inl (sq_of h3)) hz (q H3 (e2.trans e3))⟩
/-! ### fields -/
theorem ev_fld {p C dx : Addr} {fs : List (Str × V)} {f : Str} {v : V} (h : Ev te σ H (.ref p)) (hp : H p = some (.ins C dx fs)) (c : Cls K C) (n : NoAttr K C f) (hl : fs.lookup f = some v) : Ev (tFld K te f) σ H v := fun H1 e Q q =>
  h H1 e _ fun H2 e2 => ⟨p, C, dx, fs, v, rfl, (e.trans e2) _ _ hp, c, n, hl, q H2 e2⟩
theorem q_fld {p C dx : Addr} {fs : List (Str × V)} {f : Str} {v : V} (hv : Ev te σ H v) (ho : Ev ta σ H (.ref p)) (hp : H p = some (.ins C dx fs)) (c : Cls K C) (n : NoAttr K C f) (hz : fs.length < 1000)
    (k : ∀ H1, Ex H H1 → tz D σ (upd H1 p (.ins C dx (putF f v fs)))) : tSeq (sFld K ta te f) tz D σ H :=
  hv H (Ex.refl H) _ fun H1 e1 => ho H1 e1 _ fun H2 e2 => ⟨p, C, dx, fs, rfl, (e1.trans e2) _ _ hp, c, n, hz, k H2 (e1.trans e2)⟩
theorem q_fldU {p C dx : Addr} {fs : List (Str × V)} {f : Str} {xs : List V} (hv : EvU te σ H xs) (ho : ∀ H1, Ex H H1 → Ev ta σ H1 (.ref p)) (hp : H p = some (.ins C dx fs)) (c : Cls K C) (n : NoAttr K C f) (hz : fs.length < 1000)
    (k : ∀ r H1, H r = none → Ex H H1 → H1 r = some (.tup xs) → tz D σ (upd H1 p (.ins C dx (putF f (.ref r) fs)))) : tSeq (sFld K ta te f) tz D σ H :=
  hv H (Ex.refl H) _ fun r H1 hr e1 h1 => ho H1 e1 H1 (Ex.refl H1) _ fun H2 e2 => ⟨p, C, dx, fs, rfl, (e1.trans e2) _ _ hp, c, n, hz, k r H2 hr (e1.trans e2) (e2 _ _ h1)⟩
theorem s_fldU {p C dx : Addr} {fs : List (Str × V)} {f : Str} {xs : List V} (hv : EvU te σ H xs) (ho : ∀ H1, Ex H H1 → Ev ta σ H1 (.ref p)) (hp : H p = some (.ins C dx fs)) (c : Cls K C) (n : NoAttr K C f) (hz : fs.length < 1000)
    (k : ∀ r H1, H r = none → Ex H H1 → H1 r = some (.tup xs) → D.nx σ (upd H1 p (.ins C dx (putF f (.ref r) fs)))) : sFld K ta te f D σ H :=
  hv H (Ex.refl H) _ fun r H1 hr e1 h1 => ho H1 e1 H1 (Ex.refl H1) _ fun H2 e2 => ⟨p, C, dx, fs, rfl, (e1.trans e2) _ _ hp, c, n, hz, k r H2 hr (e1.trans e2) (e2 _ _ h1)⟩
/-- a call that gives a new tuple -/
def SpU (sp : Sp) (vs : List V) (H : Hp) (xs : List V) : Prop := ∀ H1, Ex H H1 → ∀ Q : VK, (∀ p H2, H1 p = none → Ex H1 H2 → H2 p = some (.tup xs) → Q (.ref p) H2) → ∀ E : XK, sp vs H1 Q E
theorem eu_call {sp : Sp} {dvs vs xs : List V} {E : XK} {tp : TA} (h : EvA tp σ H vs) (hs : SpU sp (vs ++ dvs) H xs) : EvU (tCall sp dvs E tp) σ H xs := fun H1 e Q q =>
  h H1 e _ fun H2 e2 => hs H2 (e.trans e2) Q (fun p H3 hp e3 h3 => q p H3 (fresh_back e2 hp) (e2.trans e3) h3) E
end
end Ver
namespace Ver
open PySem PySem.Spec PyProof.Rows L2 Evl
/-! ### d.setdefault(k, x), tuple keys -/
section
variable {X : Cx}
def rSetT : V → List V → Hp → VK → Prop := fun x xs H Q => ∃ (a : Addr) (kvs : List (List L2.Key × V)) (k : List L2.Key) (b : Addr) (d : V), x = .ref a ∧ xs = [.ref b, d] ∧ H a = some (.dT kvs) ∧ H b = some (.tup (k.map kV)) ∧ kvs.length < sizeLine ∧
  (∀ v, valV kvs k = some v → Q v H) ∧ (valV kvs k = none → Q d (upd H a (.dT (putK kvs k d))))
theorem mt_setT (hu : X.A.units + 1 < cLine) : MtR X "dict.setdefault" rSetT := by
  intro pins s σ H x xs v us Q I rx rxs h
  obtain ⟨a, kvs, k, b, d, rfl, rfl, ha, hb, hl, q1, q2⟩ := h
  cases rx
  obtain ⟨u1, u2, rfl, r1, r2⟩ := vals2 rxs
  cases r1
  obtain ⟨z, hd, xs', rel, dd⟩ := dt_of I.hok ha
  have hz : xs'.length ≤ sizeLine := by rw [← Paired.length rel]; exact z
  refine call_setdefault_heap (hsz := hz) (k := k) (tupleKind_room_in1 hu) (key_of I.hok hb) hd dd (fun p hp => ?_) (fun hn h' dd' hs => ?_)
  · have r := rel.val k
    rw [hp] at r
    obtain ⟨v0, ev, rv⟩ : ∃ v0, valV kvs k = some v0 ∧ RelV v0 p.2 := by
      cases ev : valV kvs k with
      | none =>
        rw [ev] at r
        exact (show False from r).elim
      | some v0 =>
        rw [ev] at r
        exact ⟨v0, rfl, r⟩
    exact ⟨v0, H, I.tok _, rv, q1 v0 ev⟩
  · have r := rel.val k
    rw [hn] at r
    have e : valV kvs k = none := by
      cases ev : valV kvs k with
      | none => rfl
      | some v0 =>
        rw [ev] at r
        exact (show False from r).elim
    obtain ⟨q, es, ep, hq, h2, h3, h4, _, h5⟩ := dd'
    have hl2 : (putK kvs k d).length ≤ sizeLine := by
      have := length_putK kvs k d
      omega
    refine ⟨d, _, d_write (t' := s.toks + (tupleKind (mixKind X.prog X.w)).draws k) (ob := .dT (putK kvs k d)) I (by rw [ha]; exact True.intro) hs ⟨q, hq⟩ ⟨hl2, hd, _, (rel.put k hb r2).keeps fun c ys ec => ?_, q, es, ep, hq, h2, h3, h4, h5⟩, r2, q2 e⟩
    rw [upd_ne (ne_of ec ha (fun z => nomatch z))]
    exact ec
end
def rLenK : List V → Hp → VK → Prop := fun xs H Q => ∃ (p : Addr) (kvs : List (Key × V)), xs = [.ref p] ∧ H p = some (.dK kvs) ∧ Q (.int ((kvs.length : Nat) : Int)) H
theorem call_len_dK {X : Cx} : CallR X (.builtin "len") rLenK := by
  intro pins s σ H xs us Q I r h
  obtain ⟨p, kvs, rfl, hp, q⟩ := h
  obtain ⟨u, rfl, rx⟩ := vals1 r
  obtain rfl : u = .ref p := rx
  exact d_len I (.inl hp) fun t s' I' => ⟨.int ((kvs.length : Nat) : Int), H, I', ⟨_, rfl⟩, q⟩
theorem q_newK {σ : L2.St} {H : Hp} {D : Ends} {tz : TS} {i : Nat} (k : ∀ p H1, H p = none → Ex H H1 → H1 p = some (.dK []) → tz D (σ.set i (some (.ref p))) H1) : tSeq (tAsg tDNewK (gName i)) tz D σ H := fun p hp => k p _ hp (Ex.new hp) upd_same
/-! ### zip of a text and a list -/
def Izsl (K : PySem.W.Frag) (x : Str) (b : Addr) (ys : List V) : It where
  go := fun i H => i < x.cps.size ∧ i < ys.length ∧ SqL K H b ys
  yld := fun i H v H' => ∃ T c y, v = .ref T ∧ H T = none ∧ H' = upd H T (.tup [.str ⟨#[c]⟩, y]) ∧ x.cps[i]? = some c ∧ ys[i]? = some y
  stop := fun i H => i ≤ x.cps.size ∧ i ≤ ys.length ∧ (i = x.cps.size ∨ i = ys.length) ∧ SqL K H b ys
section
variable {P : Program} {w : World} {K : PySem.W.Frag} {elts : List Expr} {kk : Nat} {tpos : Pos}
theorem turnZsl (x : Str) (ys : List V) (t : Tok) (z TI TO i1 i2 b : Addr) (S : ZipSep2 z TI TO i1 i2 [i1] [i2, b]) (hne : b ≠ i2) : Turn P w K (.Tuple elts kk tpos) (Izsl K x b ys) [z, TI, TO, i1, i2] z
    (fun i h => IsZip h z TI TO .none ∧ IsTupOf2 h TI (.ref i1) (.ref i2) ∧ (∃ a1 a2, IsTupOf2 h TO a1 a2) ∧ h.IsStrIter i1 (strIterType x) x t i ∧ h.IsListIter i2 b i) where
  mem := List.mem_cons_self ..
  obj := fun i h st c hc => by
    obtain ⟨hz, hTI, ⟨a1, a2, hTO⟩, ⟨o1, e1, _, d1⟩, ⟨o2, e2, _, d2⟩⟩ := st
    rcases five_mem hc with q | q | q | q | q
    · rw [q]; exact ⟨_, hz, fun v q => nomatch q⟩
    · rw [q]; exact ⟨_, hTI, fun v q => nomatch q⟩
    · rw [q]; exact ⟨_, hTO, fun v q => nomatch q⟩
    · rw [q]; exact ⟨o1, e1, fun v q => by rw [d1] at q; cases q⟩
    · rw [q]; exact ⟨o2, e2, fun v q => by rw [d2] at q; cases q⟩
  keep := fun i h h' st k => by
    obtain ⟨hz, hTI, ⟨a1, a2, hTO⟩, h1, h2⟩ := st
    exact ⟨k z (by simp) _ hz, k TI (by simp) _ hTI, ⟨a1, a2, k TO (by simp) _ hTO⟩, si_at h1 fun o q => k i1 (by simp) o q, h2.at fun o q => k i2 (by simp) o q⟩
  item := by
    intro X hP hw hK hc i pins s σ H E I hf st hg
    subst hP hw hK
    obtain ⟨hz, hTI, ⟨a1, a2, hTO⟩, h1, h2⟩ := st
    obtain ⟨its, rv, p, _⟩ := I.list hg.2.2
    have D1 := Draws.text (prog := X.prog) (w := X.w) (A := X.A.in1) (I.ok.hd hc) i1 x t
    have D2 := Draws.list (prog := X.prog) (w := X.w) (A := X.A.in1) (I.ok.hd hc) i2 b hne its.toArray
    have hzl : z < s.heap.objs.size := Heap.lt_size hz
    have l1 : i1 < s.heap.objs.size := by
      obtain ⟨o, e, _⟩ := h1
      exact Heap.lt_size e
    have l2 : i2 < s.heap.objs.size := by
      obtain ⟨o, e, _⟩ := h2
      exact Heap.lt_size e
    have hlen := rv.length
    refine wpAny_pyNext_zipD2_item S D1 D2 hz hTI hTO h1 ⟨h2, p.isList⟩ hg.1 (by rw [List.size_toArray, ← hlen]; exact hg.2.1) fun y1 y2 h' tk ⟨c, u1, hc1, ev1⟩ hy2 b1 b2 s1 s2 hT hsz hk => ?_
    subst ev1
    have hy3 : its[i]? = some y2 := by simpa using hy2
    have hyi : ys[i]? = some (ys[i]'hg.2.1) := List.getElem?_eq_getElem hg.2.1
    obtain ⟨u2, hu2, ru2⟩ := rv.get hyi
    obtain rfl : u2 = y2 := Option.some.inj (hu2.symm.trans hy3)
    refine ⟨_, rfl, wpAny_letOwnedTupleGo_zip (s := { s with heap := h', toks := tk }) b1 fun h'' z'' sb => ?_⟩
    have hT2 : h''.get? s.heap.objs.size = some { cls := .type "tuple", data := .seq #[.str ⟨#[c]⟩ u1, u2] } := (sb.2 _ (Nat.ne_of_gt hzl)).trans hT
    have new : ObjOk X.prog X.w (upd H s.heap.objs.size (.tup [.str ⟨#[c]⟩, ys[i]'hg.2.1])) h'' s.heap.objs.size (.tup [.str ⟨#[c]⟩, ys[i]'hg.2.1]) :=
      ⟨(by show 2 ≤ sizeLine; decide), [.str ⟨#[c]⟩ u1, u2], .cons ⟨_, rfl⟩ (.cons ru2 .nil), ⟨_, hT2, rfl, _, rfl⟩⟩
    have I1 : Inv X pins σ (upd H s.heap.objs.size (.tup [.str ⟨#[c]⟩, ys[i]'hg.2.1])) { s with heap := h'', toks := tk } := by
      refine I.turnedNew (ch := [z, TI, TO, i1, i2]) (fun b ob nb q => ?_) hf (Nat.le_refl _) new
      exact (sb.2 b (fun q' => nb (by simp [q']))).trans (hk b ob (fun q' => nb (by simp [q'])) (fun q' => nb (by simp [q'])) (fun q' => nb (by simp [q'])) (fun q' => nb (by simp [q'])) q)
    refine ⟨.ref s.heap.objs.size, _, I1, rfl, ⟨_, c, _, rfl, I.hok.fresh (Nat.le_refl _), rfl, hc1, hyi⟩, ⟨z'', ?_, ⟨.str ⟨#[c]⟩ u1, u2, ?_⟩, ?_, ?_⟩, fun b hb => ?_⟩
    · exact (sb.2 _ S.TIz).trans (hk _ _ S.TIz S.TITO S.TIi1 S.TIi2 hTI)
    · exact (sb.2 _ S.TOz).trans b2
    · exact si_at s1 fun o q => (sb.2 _ S.zi1.symm).trans q
    · exact s2.1.at fun o q => (sb.2 _ S.zi2.symm).trans q
    · have hlt : b < s.heap.objs.size := by
        rcases five_mem hb with q | q | q | q | q
        · rw [q]; exact hzl
        · rw [q]; exact Heap.lt_size hTI
        · rw [q]; exact Heap.lt_size hTO
        · rw [q]; exact l1
        · rw [q]; exact l2
      rw [upd_ne (Nat.ne_of_lt hlt)]
      exact (hf b hb).1
  done := by
    intro X hP hw hK hc i pins s σ H E I hf st hg
    subst hP hw hK
    obtain ⟨hz, hTI, ⟨a1, a2, hTO⟩, h1, h2⟩ := st
    obtain ⟨its, rv, p, _⟩ := I.list hg.2.2.2
    have hlen := rv.length
    have D1 := Draws.text (prog := X.prog) (w := X.w) (A := X.A.in1) (I.ok.hd hc) i1 x t
    have D2 := Draws.list (prog := X.prog) (w := X.w) (A := X.A.in1) (I.ok.hd hc) i2 b hne its.toArray
    exact wpAny_pyNext_zipD2_end S D1 D2 hz hTI hTO h1 ⟨h2, p.isList⟩ hg.1 (by rw [List.size_toArray, ← hlen]; exact hg.2.1) (by have h9 := hg.2.2.1; rw [hlen] at h9; exact h9) fun h' tk hk => ⟨rfl, I.turnedL (t' := tk) (ch := [z, TI, TO, i1, i2]) (fun c o hb q =>
      hk c o (fun q' => hb (by simp [q'])) (fun q' => hb (by simp [q'])) (fun q' => hb (by simp [q'])) (fun q' => hb (by simp [q'])) q) hf⟩
  self := fun A i s Q E st h => wpAny_pyIter_zip st.1 h
theorem sep_nl (n b : Nat) (h : b < n) : ZipSep2 (n + 4) (n + 2) (n + 3) n (n + 1) [n] [n + 1, b] := by
  have two : ∀ c : Addr, c ∈ [(show Addr from n + 1), (show Addr from b)] → c = (show Addr from n + 1) ∨ c = (show Addr from b) := fun c h => by simpa using h
  have no : ∀ m : Nat, m ≠ n + 1 → m ≠ b → (show Addr from m) ∉ [(show Addr from n + 1), (show Addr from b)] := fun m h1 h2 h => (two _ h).elim h1 h2
  exact ⟨ne_nat (by omega), ne_nat (by omega), ne_nat (by omega), ne_nat (by omega), List.mem_singleton.mpr rfl, fun h => absurd (List.mem_singleton.mp h) (ne_nat (by omega)), fun h => absurd (List.mem_singleton.mp h) (ne_nat (by omega)),
    ne_nat (by omega), List.mem_cons_self .., no _ (by omega) (by omega), no _ (by omega) (by omega), no _ (by omega) (by omega), fun h => absurd (List.mem_singleton.mp h) (ne_nat (by omega))⟩
def iZipSL (K : PySem.W.Frag) (ta : TA) : TI := fun σ H R => ta σ H fun vs H1 => ∃ x b ys, vs = [.str x, .ref b] ∧ SqL K H1 b ys ∧ R (Izsl K x b ys) H1
theorem pi_zipSL {X : Cx} {e e2 : Expr} {ta : TA} {p pos tpos : Pos} {elts : List Expr} {kk : Nat} (hg : Gl X "zip") (hm : X.mg "zip" = none) (ha : PA X [e, e2] ta)
    (hs : starEach [e, e2] X.env = (false, eval e X.env) :: starEach [e2] X.env := by rfl) (hpl : (backTo pos (starEach [e2] X.env)).any (·.1) = false := by rfl) :
    PI X (.Tuple elts kk tpos) (.Call (.Name "zip" p) [e, e2] [] pos) (iZipSL X.K ta) := by
  refine ⟨fun pins s σ H R I h => ?_⟩
  refine Call_ (ld_blt I hg hm PyProof.Rows.boot_zip (PyProof.Rows.callWith_type1 (thn (ha.run pos pins s σ H _ I h) fun us s1 ⟨vs, H1, I1, r1, q1⟩ => ?_) hs hpl))
  obtain ⟨x, b, ys, ex, hb, q⟩ := q1
  subst ex
  cases r1 with
  | cons r rr =>
    cases rr with
    | cons r' rr =>
      cases rr
      obtain ⟨t, rfl⟩ := r
      cases r'
      obtain ⟨its, rv, p1, _⟩ := I1.list hb
      refine zip_begins2 (begins_text x t) (begins_list b its.toArray) trivial p1.isList fun h' hz hTI hTO g1 g2 hsz hk => wpAny_pyIter_zip hz ?_
      have I2 : Inv X pins σ H1 { s1 with heap := h' } := I1.kept (t' := s1.toks) hk
      have S := sep_nl s1.heap.objs.size b p1.lt
      refine ⟨s1.heap.objs.size + 4, [s1.heap.objs.size + 4, s1.heap.objs.size + 2, s1.heap.objs.size + 3, s1.heap.objs.size, s1.heap.objs.size + 1], _, _, H1, rfl, I2, turnZsl x ys t _ _ _ _ _ b S (fun e => absurd (show (show Nat from b) = s1.heap.objs.size + 1 from e) (by have h9 : (show Nat from b) < s1.heap.objs.size := p1.lt; omega)), ⟨hz, hTI, ⟨_, _, hTO⟩, ⟨_, g1, rfl, rfl⟩, ⟨_, g2, rfl, rfl⟩⟩, fun c hcm => ?_, q⟩
      have hle : s1.heap.objs.size ≤ c := by
        rcases five_mem hcm with z | z | z | z | z
        · rw [z]; exact Nat.le_add_right _ _
        · rw [z]; exact Nat.le_add_right _ _
        · rw [z]; exact Nat.le_add_right _ _
        · rw [z]; exact Nat.le_refl _
        · rw [z]; exact Nat.le_add_right _ _
      exact I1.fpOk hle (I1.hok.fresh hle)
theorem walk_zsl {x : Str} {b : Addr} {ys : List V} : Walk (Izsl K x b ys) (min x.cps.size ys.length) (fun H => SqL K H b ys) (YPair (fun i => (x.cps.toList[i]?).map fun c => V.str ⟨#[c]⟩) (fun i => ys[i]?)) := by
  refine ⟨fun i _ hi q => ?_, fun _ q => ?_, fun i H v H' hi q y' => ?_⟩
  · exact ⟨by omega, by omega, q⟩
  · exact ⟨by omega, by omega, by omega, q⟩
  obtain ⟨T, c, d, h1, h2, h3, h4, h5⟩ := y'
  refine ⟨T, .str ⟨#[c]⟩, d, h1, h2, h3, ?_, h5⟩
  show Option.map _ (x.cps.toList[i]?) = _
  rw [Array.getElem?_toList, h4]
  rfl
/-! ### lists of tuples -/
structure TpAt (H : Hp) (xs : List V) (ps : List (List V)) : Prop where
  len : xs.length = ps.length
  row : ∀ (i : Nat) (p : List V), ps[i]? = some p → ∃ r, xs[i]? = some (V.ref r) ∧ H r = some (.tup p)
theorem TpAt.mono {H H' : Hp} {xs : List V} {ps : List (List V)} (h : TpAt H xs ps) (e : Ex H H') : TpAt H' xs ps := ⟨h.len, fun i p q => by
  obtain ⟨r, a, b⟩ := h.row i p q
  exact ⟨r, a, e _ _ b⟩⟩
theorem TpAt.upd {H : Hp} {xs : List V} {ps : List (List V)} {l : Addr} {o u : HO} (h : TpAt H xs ps) (hl : H l = some u) (hu : ∀ ys, u ≠ .tup ys) : TpAt (upd H l o) xs ps := ⟨h.len, fun i p q => by
  obtain ⟨r, a, b⟩ := h.row i p q
  refine ⟨r, a, ?_⟩
  rw [upd_ne]
  · exact b
  · intro z
    rw [z, hl] at b
    exact hu _ (Option.some.inj b)⟩
theorem TpAt.nil {H : Hp} : TpAt H [] [] := ⟨rfl, fun i p q => by simp at q⟩
theorem TpAt.snoc {H : Hp} {xs : List V} {ps : List (List V)} {r : Addr} {p : List V} (h : TpAt H xs ps) (hr : H r = some (.tup p)) : TpAt H (xs ++ [.ref r]) (ps ++ [p]) := by
  refine ⟨by rw [List.length_append, List.length_append, h.len]; rfl, fun i q e => ?_⟩
  by_cases hi : i < ps.length
  · rw [List.getElem?_append_left hi] at e
    obtain ⟨r', a, b⟩ := h.row i q e
    exact ⟨r', by rw [List.getElem?_append_left (by rw [h.len]; exact hi)]; exact a, b⟩
  · have h1 := (List.getElem?_eq_some_iff.mp e).1
    rw [List.length_append] at h1
    have e2 : i = ps.length := by
      simp at h1
      omega
    subst e2
    have e3 : p = q := by simpa using e
    subst e3
    refine ⟨r, ?_, hr⟩
    rw [← h.len]
    simp
/-- a new list of new tuples over zip(a text, a list) -/
theorem run_lcZ {σ : L2.St} {H : Hp} {te : TE} {x : List Nat} {b : Addr} {ys : List V} {tp : TA} {j1 j2 : Nat} {vs : List Nat} {Q : VK} (v : Nat → List V) (h : EvA tp σ H [tx x, .ref b]) (hy : SqL K H b ys) (hl : ys.length = x.length) (hz : x.length ≤ 40000)
    (hw : ∀ a b, wipe (((wipe σ vs).set j1 (some a)).set j2 (some b)) vs = wipe σ vs)
    (he : ∀ (i c : Nat) (y : V) H1, Ex H H1 → x[i]? = some c → ys[i]? = some y → EvU te (((wipe σ vs).set j1 (some (tx [c]))).set j2 (some y)) H1 (v i))
    (k : ∀ l xs H1, H l = none → Ex H H1 → H1 l = some (.lst xs) → TpAt H1 xs ((List.range x.length).map v) → Q (.ref l) H1) :
    tLc (iZipSL K tp) (gTup K 2 (gCons (gName j1) (gCons (gName j2) gNil))) tYes te vs σ H Q := h H (Ex.refl H) _ fun H1 e1 => ⟨SX.S x, b, ys, rfl, ex_l e1 hy, fun Dl hD => by
  have hn : min (SX.S x).cps.size ys.length = x.length := by
    show min x.toArray.size ys.length = _
    rw [List.size_toArray, hl, Nat.min_self]
  have hD0 : H Dl = none := fresh_back e1 hD
  refine lc_it walk_zsl (fun i H' => Ex H H' ∧ ∃ xs, H' Dl = some (.lst xs) ∧ TpAt H' xs ((List.range i).map v)) ⟨e1.trans (Ex.new hD), [], upd_same, .nil⟩ (fun i H' _ p => ex_l p.1 hy) (fun i z H' H2 hi p yp => ?_) (fun H' p => ?_)
  · obtain ⟨T, a, d, rfl, hT, rfl, ha, hd⟩ := yp
    obtain ⟨p1, xs, p2, p3⟩ := p
    have ha2 : (x[i]?).map (fun c => tx [c]) = some a := ha
    have hd2 : ys[i]? = some d := hd
    cases hx : x[i]? with
    | none =>
      rw [hx] at ha2
      cases ha2
    | some c =>
    rw [hx] at ha2
    cases ha2
    have hxl := (List.getElem?_eq_some_iff.mp hx).1
    have e2 : Ex H (L2.upd H' T (.tup [tx [c], d])) := p1.trans (Ex.new hT)
    refine ⟨T, _, rfl, st_of upd_same, rfl, _, _, rfl, _, _, rfl, rfl, hw _ _, ?_⟩
    refine et_yes _ (Ex.refl _) _ fun H3 e3 => ?_
    rw [if_pos rfl]
    have e3' : Ex H H3 := e2.trans e3
    refine he i c d H3 e3' hx hd2 H3 (Ex.refl _) _ fun r H4 hr e4 h4 => ?_
    have g4 := e4 _ _ (e3 _ _ (Ex.new hT _ _ p2))
    have hlen := p3.len
    rw [List.length_map, List.length_range] at hlen
    refine ⟨xs, g4, sz_lt (by omega), (e3'.trans e4).mut hD0, xs ++ [.ref r], upd_same, ?_⟩
    rw [List.range_succ, List.map_append]
    have hTp := ((p3.mono ((Ex.new hT).trans (e3.trans e4))).snoc h4)
    exact hTp.upd g4 (fun ys => by intro z; cases z)
  · rw [hn] at p
    obtain ⟨p1, xs, p2, p3⟩ := p
    exact k Dl xs H' hD0 p1 p2 p3⟩
end
/-! ### text.find(text, start) -/
section
theorem take_getD {l : List Nat} {i : Nat} (h : i < l.length) : l[i]? = some (l.getD i 0) := by
  rw [List.getD_eq_getElem?_getD, List.getElem?_eq_getElem h]
  rfl
end
end Ver
namespace Ver
open PySem PySem.Spec PyProof.Rows L2 Evl
/-! ### math.isqrt -/
def rIsq : List V → Hp → VK → Prop := fun vs H Q => ∃ a : Int, vs = [.int a] ∧ 0 ≤ a ∧ a < 2 ^ 200 ∧ ∀ r : Nat, r * r ≤ a.toNat → a.toNat < (r + 1) * (r + 1) → Q (.int (r : Int)) H
theorem Vals.int1 {a : Int} {us : List Value} (r : Vals [.int a] us) : ∃ t, us = [.int a t] := by
  cases r with
  | cons h t =>
    cases t
    obtain ⟨t, rfl⟩ := h
    exact ⟨t, rfl⟩
theorem cr_isqrt {X : Cx} : CallR X (.builtin "math.isqrt") rIsq := by
  intro pins s σ H vs us Q I r h
  obtain ⟨a, rfl, h0, h1, q⟩ := h
  obtain ⟨t, rfl⟩ := Vals.int1 r
  have hl : a.toNat.log2 ≤ 199 := PySem.W.mg_log (by
    have : (a.toNat : Int) < 2 ^ 200 := by omega
    exact_mod_cast this)
  obtain ⟨k1, k2⟩ := PySem.Float64.isqrt_spec a.toNat
  exact PySem.call_function_meets PySem.W.MGF.kind_isqrt PySem.W.MGF.plain_isqrt PySem.W.MGF.entry_isqrt (PySem.W.MGF.args_isqrt _) (PySem.W.mg_run_isqrt a t (by omega) (by omega) (by omega)).meets ⟨.int _, H, I.tok _, ⟨_, rfl⟩, q _ k1 k2⟩
theorem q_asgX {σ : L2.St} {H : Hp} {D : Ends} {tz : TS} {te : TE} {i : Nat} (h : te σ H fun x H1 => tz D (σ.set i (some x)) H1) : tSeq (tAsg te (gName i)) tz D σ H := h
/-- a list made over enumerate(a list) -/
theorem el_lcEn {σ : L2.St} {H : Hp} {K : PySem.W.Frag} {te : TE} {a : Addr} {xs : List V} {tp : TA} {j1 j2 : Nat} {vs : List Nat} (v : Nat → V) (h : EvA tp σ H [.ref a]) (hx : SqL K H a xs) (hz : xs.length ≤ 40000)
    (hw : ∀ a b, wipe (((wipe σ vs).set j1 (some a)).set j2 (some b)) vs = wipe σ vs)
    (he : ∀ (i : Nat) (x : V) H1, Ex H H1 → xs[i]? = some x → Ev te (((wipe σ vs).set j1 (some (.int (i : Int)))).set j2 (some x)) H1 (v i)) :
    EvL (tLc (iEnum K tp) (gTup K 2 (gCons (gName j1) (gCons (gName j2) gNil))) tYes te vs) σ H ((List.range xs.length).map v) := fun H0 e Q q => h H0 e _ fun H1 e1 => ⟨a, xs, rfl, ex_l (e.trans e1) hx, fun Dl hD => by
  refine lc_it (walk_enum (xs := xs)) (Cw H1 (fun _ => true) v Dl) ⟨hD, Ex.new hD, upd_same⟩ (fun i H' _ p => ex_l (((e.trans e1).trans p.2.1)) hx) (fun i z H' H2 hi p yp => ?_) (fun H' p => ?_)
  · obtain ⟨T, c, d, rfl, hT, rfl, ha, hb⟩ := yp
    obtain rfl := Option.some.inj ha
    have hb2 : xs[i]? = some d := hb
    have hxl := (List.getElem?_eq_some_iff.mp hb2).1
    have p2 : Cw H1 (fun _ => true) v Dl i (L2.upd H' T (.tup [.int (i : Int), d])) := ⟨p.1, p.2.1.trans (Ex.new hT), Ex.new hT _ _ p.2.2⟩
    exact ⟨T, _, rfl, st_of upd_same, rfl, _, _, rfl, _, _, rfl, rfl, hw _ _, cw_turn p2 (by omega) et_yes fun _ => he i d H1 (e.trans e1) hb2⟩
  · have e9 := given_all xs.length v
    have p3 := p.2.2
    rw [e9] at p3
    exact q Dl H' (fresh_back e1 p.1) (e1.trans p.2.1) p3⟩
theorem root_ex {a : Int} (h : 0 ≤ a) : ∃ r : Nat, (r : Int) * r ≤ a ∧ a < ((r : Int) + 1) * (r + 1) := by
  obtain ⟨k1, k2⟩ := PySem.Float64.isqrt_spec a.toNat
  refine ⟨PySem.Float64.isqrt a.toNat, ?_, ?_⟩
  · have : ((PySem.Float64.isqrt a.toNat * PySem.Float64.isqrt a.toNat : Nat) : Int) ≤ a := by omega
    rw [Int.natCast_mul] at this
    exact this
  · have : a < (((PySem.Float64.isqrt a.toNat + 1) * (PySem.Float64.isqrt a.toNat + 1) : Nat) : Int) := by omega
    rw [Int.natCast_mul, Int.natCast_add] at this
    exact this
/-- a def's call with a value and a new list -/
theorem ev_cVL {σ : L2.St} {H : Hp} {sp : Sp} {E : XK} {t1 tl : TE} {x1 y : V} {xs : List V} (h1 : Ev t1 σ H x1) (hl : EvL tl σ H xs) (hs : ∀ p H1, Ex H H1 → H1 p = some (.lst xs) → SpV sp ([x1, .ref p] ++ []) H1 y) : Ev (tCall sp [] E (tCons t1 (tCons tl tNil))) σ H y := fun H0 e Q q =>
  h1 H0 e _ fun H1 e1 => hl H1 (e.trans e1) _ fun p H2 hp e2 g2 => hs p H2 ((e.trans e1).trans e2) g2 H2 (Ex.refl H2) Q (fun H3 e3 => q H3 ((e1.trans e2).trans e3)) _
theorem sum_cast {α : Type} (f : α → Nat) : ∀ l : List α, (l.map fun x => ((f x : Nat) : Int)).sum = ((l.map f).sum : Int)
  | [] => rfl
  | a :: l => by
    rw [List.map_cons, List.map_cons, List.sum_cons, List.sum_cons, sum_cast f l, Int.natCast_add]
/-! ### own methods -/
structure AtM (K : PySem.W.Frag) (C : Addr) (m q : Str) (st : Stmt) : Prop where
  ex : ∃ f fd, Fun K m q st f fd ∧ Meth K C m f
def HasM (P : Program) (w : World) (K : PySem.W.Frag) (mg : Str → Option Value) (base : Heap) (C : Addr) (m : Str) (ps : List Str) (k : Nat) (sp : Sp) : Prop :=
  ∃ f fd, FnOk P w K mg base CX0 k f fd ps sp ∧ Binds K fd ps [] ∧ Meth K C m f
section
variable {σ : L2.St} {H : Hp}
theorem ev_isqrt {ta : TE} {a : Int} {Q : V → Prop} (ha : Ev ta σ H (.int a)) (h0 : 0 ≤ a) (h1 : a < 2 ^ 200) (r : Nat) (hr : (r : Int) * r ≤ a) (hr2 : a < ((r : Int) + 1) * (r + 1)) : Ev (tCB rIsq (tCons ta tNil)) σ H (.int (r : Int)) := fun H1 e Q q =>
  ha H1 e _ fun H2 e2 => ⟨a, rfl, h0, h1, fun s k1 k2 => by
    have e1 : s = r := by
      have a1 : s * s < (r + 1) * (r + 1) := by
        have : ((s * s : Nat) : Int) < (((r + 1) * (r + 1) : Nat) : Int) := by
          rw [Int.natCast_mul, Int.natCast_mul, Int.natCast_add]
          have : ((s * s : Nat) : Int) ≤ a := by omega
          rw [Int.natCast_mul] at this
          exact Int.lt_of_le_of_lt this hr2
        omega
      have a2 : r * r < (s + 1) * (s + 1) := by
        have : ((r * r : Nat) : Int) ≤ a := by
          rw [Int.natCast_mul]
          exact hr
        omega
      have b1 : s < r + 1 := Classical.byContradiction fun c => absurd (Nat.mul_le_mul (show r + 1 ≤ s by omega) (show r + 1 ≤ s by omega)) (by omega)
      have b2 : r < s + 1 := Classical.byContradiction fun c => absurd (Nat.mul_le_mul (show s + 1 ≤ r by omega) (show s + 1 ≤ r by omega)) (by omega)
      omega
    rw [e1]
    exact q H2 e2⟩
/-- the call of an own method -/
theorem ev_meth {C a dx : Addr} {fs : List (Str × V)} {m : Str} {sp : Sp} {ta : TE} {t : TA} {vs : List V} {v : V} {E : XK} (ha : Ev ta σ H (.ref a)) (hi : H a = some (.ins C dx fs)) (hl : fs.lookup m = none) (ht : EvA t σ H vs) (h : ∀ H1, Ex H H1 → ∀ Q : VK, (∀ H2, Ex H1 H2 → Q v H2) → sp (.ref a :: (vs ++ [])) H1 Q E) :
    Ev (tMeth C m sp [] E ta t) σ H v := fun H1 e Q q => ha H1 e _ fun H2 e2 => ⟨a, dx, fs, rfl, (e.trans e2) _ _ hi, hl, ht H2 (e.trans e2) _ fun H3 e3 => h H3 ((e.trans e2).trans e3) Q fun H4 e4 => q H4 ((e2.trans e3).trans e4)⟩
end
end Ver
namespace Ver
open PySem PySem.Spec PyProof.Rows L2 Evl
def top (i : Nat) : Stmt := PySem.Challenge.pw_outpressed_k05_length_by_count_alone.main.body.getD i (.Pass ⟨0, 0, 0, 0⟩)
abbrev s_is_alphabet : Stmt := top 9
abbrev N_is_alphabet : List Str := ["string", "one", "two"]
theorem S_is_alphabet : FnScope N_is_alphabet ["string"] (defScope s_is_alphabet) := ⟨rfl, rfl, rfl, by decide +kernel, rfl, by decide +kernel, by decide +kernel⟩
abbrev s_is_letter : Stmt := top 10
abbrev N_is_letter : List Str := ["alphabet", "value"]
theorem S_is_letter : FnScope N_is_letter ["alphabet", "value"] (defScope s_is_letter) := ⟨rfl, rfl, rfl, by decide +kernel, rfl, by decide +kernel, by decide +kernel⟩
abbrev s_check_alphabet : Stmt := top 11
abbrev N_check_alphabet : List Str := ["alphabet"]
theorem S_check_alphabet : FnScope N_check_alphabet ["alphabet"] (defScope s_check_alphabet) := ⟨rfl, rfl, rfl, by decide +kernel, rfl, by decide +kernel, by decide +kernel⟩
abbrev s_check_text : Stmt := top 12
abbrev N_check_text : List Str := ["alphabet", "text", "rest"]
theorem S_check_text : FnScope N_check_text ["alphabet", "text"] (defScope s_check_text) := ⟨rfl, rfl, rfl, by decide +kernel, rfl, by decide +kernel, by decide +kernel⟩
abbrev s_is_whole : Stmt := top 14
abbrev N_is_whole : List Str := ["value"]
theorem S_is_whole : FnScope N_is_whole ["value"] (defScope s_is_whole) := ⟨rfl, rfl, rfl, by decide +kernel, rfl, by decide +kernel, by decide +kernel⟩
abbrev s_is_number_below : Stmt := top 15
abbrev N_is_number_below : List Str := ["value", "many"]
theorem S_is_number_below : FnScope N_is_number_below ["value", "many"] (defScope s_is_number_below) := ⟨rfl, rfl, rfl, by decide +kernel, rfl, by decide +kernel, by decide +kernel⟩
abbrev s_as_tuples : Stmt := top 16
abbrev N_as_tuples : List Str := ["value", "item"]
theorem S_as_tuples : FnScope N_as_tuples ["value"] (defScope s_as_tuples) := ⟨rfl, rfl, rfl, by decide +kernel, rfl, by decide +kernel, by decide +kernel⟩
abbrev s_Cut___init__ : Stmt := inClass (top 18) 0
abbrev N_Cut___init__ : List Str := ["self", "alphabet", "rows", "tail", "kept"]
theorem S_Cut___init__ : FnScope N_Cut___init__ ["self", "alphabet", "rows", "tail"] (defScope s_Cut___init__) := ⟨rfl, rfl, rfl, by decide +kernel, rfl, by decide +kernel, by decide +kernel⟩
abbrev s_Cut___eq__ : Stmt := inClass (top 18) 1
abbrev N_Cut___eq__ : List Str := ["self", "other"]
theorem S_Cut___eq__ : FnScope N_Cut___eq__ ["self", "other"] (defScope s_Cut___eq__) := ⟨rfl, rfl, rfl, by decide +kernel, rfl, by decide +kernel, by decide +kernel⟩
abbrev s_check_rows : Stmt := top 19
abbrev N_check_rows : List Str := ["alphabet", "rows", "earlier", "index", "row", "parent", "letter"]
theorem S_check_rows : FnScope N_check_rows ["alphabet", "rows"] (defScope s_check_rows) := ⟨rfl, rfl, rfl, by decide +kernel, rfl, by decide +kernel, by decide +kernel⟩
abbrev s_pieces_of : Stmt := top 20
abbrev N_pieces_of : List Str := ["rows", "pieces", "parent", "letter"]
theorem S_pieces_of : FnScope N_pieces_of ["rows"] (defScope s_pieces_of) := ⟨rfl, rfl, rfl, by decide +kernel, rfl, by decide +kernel, by decide +kernel⟩
abbrev s_starts_of : Stmt := top 21
abbrev N_starts_of : List Str := ["pieces", "starts", "place", "piece"]
theorem S_starts_of : FnScope N_starts_of ["pieces"] (defScope s_starts_of) := ⟨rfl, rfl, rfl, by decide +kernel, rfl, by decide +kernel, by decide +kernel⟩
abbrev s_cut_of : Stmt := top 22
abbrev N_cut_of : List Str := ["alphabet", "text", "numbers", "rows", "piece", "letter", "row"]
theorem S_cut_of : FnScope N_cut_of ["alphabet", "text"] (defScope s_cut_of) := ⟨rfl, rfl, rfl, by decide +kernel, rfl, by decide +kernel, by decide +kernel⟩
abbrev s_width : Stmt := top 24
abbrev N_width : List Str := ["options"]
theorem S_width : FnScope N_width ["options"] (defScope s_width) := ⟨rfl, rfl, rfl, by decide +kernel, rfl, by decide +kernel, by decide +kernel⟩
abbrev s_number_bits : Stmt := top 25
abbrev N_number_bits : List Str := ["number", "options", "bits", "digits"]
theorem S_number_bits : FnScope N_number_bits ["number", "options"] (defScope s_number_bits) := ⟨rfl, rfl, rfl, by decide +kernel, rfl, by decide +kernel, by decide +kernel⟩
abbrev s_free_places : Stmt := top 27
abbrev N_free_places : List Str := ["size", "number"]
theorem S_free_places : FnScope N_free_places ["size", "number"] (defScope s_free_places) := ⟨rfl, rfl, rfl, by decide +kernel, rfl, by decide +kernel, by decide +kernel⟩
abbrev s_count_below : Stmt := top 28
abbrev N_count_below : List Str := ["ascending", "value", "low", "high", "middle"]
theorem S_count_below : FnScope N_count_below ["ascending", "value"] (defScope s_count_below) := ⟨rfl, rfl, rfl, by decide +kernel, rfl, by decide +kernel, by decide +kernel⟩
abbrev s_place_numbers : Stmt := top 29
abbrev N_place_numbers : List Str := ["alphabet", "rows", "taken", "numbers", "parent", "letter", "place", "before"]
theorem S_place_numbers : FnScope N_place_numbers ["alphabet", "rows"] (defScope s_place_numbers) := ⟨rfl, rfl, rfl, by decide +kernel, rfl, by decide +kernel, by decide +kernel⟩
abbrev s_press : Stmt := top 30
abbrev N_press : List Str := ["alphabet", "text", "cut", "size", "parts", "piece", "place"]
theorem S_press : FnScope N_press ["alphabet", "text"] (defScope s_press) := ⟨rfl, rfl, rfl, by decide +kernel, rfl, by decide +kernel, by decide +kernel⟩
abbrev s_width_total : Stmt := top 31
abbrev N_width_total : List Str := ["size", "last", "step", "total", "bits", "first"]
theorem S_width_total : FnScope N_width_total ["size", "last"] (defScope s_width_total) := ⟨rfl, rfl, rfl, by decide +kernel, rfl, by decide +kernel, by decide +kernel⟩
abbrev s_pressed_length : Stmt := top 32
abbrev N_pressed_length : List Str := ["size", "count"]
theorem S_pressed_length : FnScope N_pressed_length ["size", "count"] (defScope s_pressed_length) := ⟨rfl, rfl, rfl, by decide +kernel, rfl, by decide +kernel, by decide +kernel⟩
abbrev s_fill : Stmt := top 34
abbrev N_fill : List Str := ["length", "counts", "left", "total", "size", "count", "taken"]
theorem S_fill : FnScope N_fill ["length", "counts"] (defScope s_fill) := ⟨rfl, rfl, rfl, by decide +kernel, rfl, by decide +kernel, by decide +kernel⟩
abbrev s__law_whole : Stmt := top 36
abbrev N__law_whole : List Str := ["value"]
theorem S__law_whole : FnScope N__law_whole ["value"] (defScope s__law_whole) := ⟨rfl, rfl, rfl, by decide +kernel, rfl, by decide +kernel, by decide +kernel⟩
abbrev s__law_cell : Stmt := top 37
abbrev N__law_cell : List Str := ["script", "k", "seed", "cell"]
theorem S__law_cell : FnScope N__law_cell ["script", "k"] (defScope s__law_cell) := ⟨rfl, rfl, rfl, by decide +kernel, rfl, by decide +kernel, by decide +kernel⟩
abbrev s__law_digits : Stmt := top 38
abbrev N__law_digits : List Str := ["cell", "sizes", "row", "rest", "size", "seed", "k", "twice"]
theorem S__law_digits : FnScope N__law_digits ["cell", "sizes"] (defScope s__law_digits) := ⟨rfl, rfl, rfl, by decide +kernel, rfl, by decide +kernel, by decide +kernel⟩
abbrev s__law_signs : Stmt := top 39
abbrev N__law_signs : List Str := ["row", "many", "figures", "taken", "k", "at", "turn"]
theorem S__law_signs : FnScope N__law_signs ["row"] (defScope s__law_signs) := ⟨rfl, rfl, rfl, by decide +kernel, rfl, by decide +kernel, by decide +kernel⟩
abbrev s__law_free_word : Stmt := top 40
abbrev N__law_free_word : List Str := ["signs", "row", "many", "k"]
theorem S__law_free_word : FnScope N__law_free_word ["signs", "row", "many"] (defScope s__law_free_word) := ⟨rfl, rfl, rfl, by decide +kernel, rfl, by decide +kernel, by decide +kernel⟩
abbrev s__law_counting_word : Stmt := top 41
abbrev N__law_counting_word : List Str := ["signs", "many", "word", "stems", "turn", "grown", "stem", "letter"]
theorem S__law_counting_word : FnScope N__law_counting_word ["signs", "many"] (defScope s__law_counting_word) := ⟨rfl, rfl, rfl, by decide +kernel, rfl, by decide +kernel, by decide +kernel⟩
abbrev s__law_word : Stmt := top 42
abbrev N__law_word : List Str := ["signs", "row", "most", "many", "free", "kind", "k", "word"]
theorem S__law_word : FnScope N__law_word ["signs", "row", "most"] (defScope s__law_word) := ⟨rfl, rfl, rfl, by decide +kernel, rfl, by decide +kernel, by decide +kernel⟩
abbrev s__law_long_word : Stmt := top 43
abbrev N__law_long_word : List Str := ["script", "first", "signs", "row", "many", "free", "word", "k", "at", "parts", "part"]
theorem S__law_long_word : FnScope N__law_long_word ["script", "first", "signs", "row"] (defScope s__law_long_word) := ⟨rfl, rfl, rfl, by decide +kernel, rfl, by decide +kernel, by decide +kernel⟩
abbrev s__law_cut : Stmt := top 44
abbrev N__law_cut : List Str := ["word", "pieces", "known", "rows", "part", "letter"]
theorem S__law_cut : FnScope N__law_cut ["word"] (defScope s__law_cut) := ⟨rfl, rfl, rfl, by decide +kernel, rfl, by decide +kernel, by decide +kernel⟩
abbrev s__law_width : Stmt := top 45
abbrev N__law_width : List Str := ["many", "wide", "top", "k"]
theorem S__law_width : FnScope N__law_width ["many"] (defScope s__law_width) := ⟨rfl, rfl, rfl, by decide +kernel, rfl, by decide +kernel, by decide +kernel⟩
abbrev s__law_power : Stmt := top 46
abbrev N__law_power : List Str := ["often", "top", "k"]
theorem S__law_power : FnScope N__law_power ["often"] (defScope s__law_power) := ⟨rfl, rfl, rfl, by decide +kernel, rfl, by decide +kernel, by decide +kernel⟩
abbrev s__law_pieces : Stmt := top 47
abbrev N__law_pieces : List Str := ["row", "digits", "edge", "value", "digit"]
theorem S__law_pieces : FnScope N__law_pieces ["row", "digits"] (defScope s__law_pieces) := ⟨rfl, rfl, rfl, by decide +kernel, rfl, by decide +kernel, by decide +kernel⟩
abbrev s__law_summed : Stmt := top 48
abbrev N__law_summed : List Str := ["radix", "pieces", "total", "k"]
theorem S__law_summed : FnScope N__law_summed ["radix", "pieces"] (defScope s__law_summed) := ⟨rfl, rfl, rfl, by decide +kernel, rfl, by decide +kernel, by decide +kernel⟩
abbrev s__law_grouped : Stmt := top 49
abbrev N__law_grouped : List Str := ["radix", "pieces", "total", "top", "wide", "within"]
theorem S__law_grouped : FnScope N__law_grouped ["radix", "pieces"] (defScope s__law_grouped) := ⟨rfl, rfl, rfl, by decide +kernel, rfl, by decide +kernel, by decide +kernel⟩
abbrev s__law_near_least : Stmt := top 50
abbrev N__law_near_least : List Str := ["radix", "pieces", "told", "product", "k", "least", "room"]
theorem S__law_near_least : FnScope N__law_near_least ["radix", "pieces", "told"] (defScope s__law_near_least) := ⟨rfl, rfl, rfl, by decide +kernel, rfl, by decide +kernel, by decide +kernel⟩
abbrev s__law_told_right : Stmt := top 51
abbrev N__law_told_right : List Str := ["radix", "pieces", "told"]
theorem S__law_told_right : FnScope N__law_told_right ["radix", "pieces"] (defScope s__law_told_right) := ⟨rfl, rfl, rfl, by decide +kernel, rfl, by decide +kernel, by decide +kernel⟩
abbrev s__law_longest : Stmt := top 52
abbrev N__law_longest : List Str := ["signs", "word", "told", "parts", "stock", "k", "most", "left", "here", "given", "top", "block"]
theorem S__law_longest : FnScope N__law_longest ["signs", "word", "told"] (defScope s__law_longest) := ⟨rfl, rfl, rfl, by decide +kernel, rfl, by decide +kernel, by decide +kernel⟩
abbrev s_law : Stmt := top 53
abbrev N_law : List Str := ["script", "row", "pieces", "radix", "signs", "word", "turned", "many", "told", "one", "block", "letter"]
theorem S_law : FnScope N_law ["script"] (defScope s_law) := ⟨rfl, rfl, rfl, by decide +kernel, rfl, by decide +kernel, by decide +kernel⟩
structure Top (K : PySem.W.Frag) (mg : Str → Option Value) (C_Cut : Addr) : Prop where
  z_all : mg "all" = none
  z_bool : mg "bool" = none
  z_enumerate : mg "enumerate" = none
  z_int : mg "int" = none
  z_isinstance : mg "isinstance" = none
  z_len : mg "len" = none
  z_list : mg "list" = none
  z_max : mg "max" = none
  z_min : mg "min" = none
  z_range : mg "range" = none
  z_sorted : mg "sorted" = none
  z_str : mg "str" = none
  z_tuple : mg "tuple" = none
  z_zip : mg "zip" = none
  c_Cut : mg "Cut" = some (.ref C_Cut)
  cl_Cut : Cls K C_Cut
  n_Cut_alphabet : NoAttr K C_Cut "alphabet"
  n_Cut_rows : NoAttr K C_Cut "rows"
  n_Cut_tail : NoAttr K C_Cut "tail"
  n_Cut_pieces : NoAttr K C_Cut "pieces"
  n_Cut_many : NoAttr K C_Cut "many"
  n_Cut_text : NoAttr K C_Cut "text"
  n_Cut_starts : NoAttr K C_Cut "starts"
  g_LETTERS : ∃ t, mg "LETTERS" = some (.str (Str.ofString "0123456789abcdefghijklmnopqrstuvwxyz") t)
  g_MOST_LETTERS : ∃ t, mg "MOST_LETTERS" = some (.int 6 t)
end Ver
namespace Ver
/-! ### words by length: p i words of i + 1 letters -/
def S (p : Nat → Int) : Nat → Int
  | 0 => 0
  | i + 1 => S p i + p i
/-- the letters of m words, the shortest first -/
def C (p : Nat → Int) (m : Int) : Nat → Int
  | 0 => 0
  | i + 1 => C p m i + max 0 (m - S p i)
/-- the loop of the weight: left, total -/
def wl (p : Nat → Int) (m : Int) : Nat → Int
  | 0 => m
  | i + 1 => wl p m i - min (wl p m i) (p i)
def wt (p : Nat → Int) (m : Int) : Nat → Int
  | 0 => 0
  | i + 1 => wt p m i + min (wl p m i) (p i) * ((i : Int) + 1)
/-- the loop of the fill: left, total -/
def fl (p : Nat → Int) (s : Int) : Nat → Int
  | 0 => s
  | i + 1 => fl p s i - min (p i) (fl p s i / ((i : Int) + 1)) * ((i : Int) + 1)
def ft (p : Nat → Int) (s : Int) : Nat → Int
  | 0 => 0
  | i + 1 => ft p s i + min (p i) (fl p s i / ((i : Int) + 1))

section
variable {p : Nat → Int} (hp : ∀ i, 0 ≤ p i)
include hp
theorem S_nonneg : ∀ i, 0 ≤ S p i
  | 0 => Int.le_refl 0
  | i + 1 => by
    have h := S_nonneg i
    have h2 := hp i
    show 0 ≤ S p i + p i
    omega
theorem S_mono : ∀ {i j : Nat}, i ≤ j → S p i ≤ S p j := by
  intro i j h
  induction h with
  | refl => exact Int.le_refl _
  | @step j _ ih =>
    have h2 := hp j
    show S p i ≤ S p j + p j
    omega
theorem wl_eq {m : Int} (h0 : 0 ≤ m) : ∀ i, wl p m i = max 0 (m - S p i)
  | 0 => by
    show m = max 0 (m - 0)
    omega
  | i + 1 => by
    have h := wl_eq h0 i
    have h1 := hp i
    show wl p m i - min (wl p m i) (p i) = max 0 (m - (S p i + p i))
    omega
theorem C_mono {m k : Int} (h : m ≤ k) : ∀ n, C p m n ≤ C p k n
  | 0 => Int.le_refl 0
  | n + 1 => by
    have ih := C_mono h n
    show C p m n + max 0 (m - S p n) ≤ C p k n + max 0 (k - S p n)
    omega
theorem C_lip {m d : Int} (h : 0 ≤ d) : ∀ n : Nat, C p (m + d) n ≤ C p m n + d * n
  | 0 => by
    show (0 : Int) ≤ 0 + d * 0
    omega
  | n + 1 => by
    have ih := C_lip (m := m) h n
    have e : d * ((n + 1 : Nat) : Int) = d * n + d := by
      rw [Int.natCast_add, Int.mul_add]
      simp
    show C p (m + d) n + max 0 (m + d - S p n) ≤ C p m n + max 0 (m - S p n) + d * ((n + 1 : Nat) : Int)
    rw [e]
    omega
theorem C_lin {m d : Int} (h : 0 ≤ d) : ∀ n : Nat, (∀ j, j < n → S p j ≤ m) → C p (m + d) n = C p m n + d * n
  | 0, _ => by
    show (0 : Int) = 0 + d * 0
    omega
  | n + 1, hm => by
    have ih := C_lin h n fun j hj => hm j (Nat.lt_succ_of_lt hj)
    have hn := hm n (Nat.lt_succ_self n)
    have e : d * ((n + 1 : Nat) : Int) = d * n + d := by
      rw [Int.natCast_add, Int.mul_add]
      simp
    show C p (m + d) n + max 0 (m + d - S p n) = C p m n + max 0 (m - S p n) + d * ((n + 1 : Nat) : Int)
    rw [e]
    omega
theorem C_lin_S {d : Int} (h : 0 ≤ d) (n : Nat) : C p (S p n + d) n = C p (S p n) n + d * n :=
  C_lin hp h n fun _ hj => S_mono hp (Nat.le_of_lt hj)
/-- the weight of at most all words is C; beyond it stays -/
theorem wt_eq {m : Int} (h0 : 0 ≤ m) : ∀ n : Nat, wt p m n = C p (min m (S p n)) n
  | 0 => rfl
  | n + 1 => by
    have ih := wt_eq h0 n
    have hw := wl_eq hp h0 n
    have h1 := hp n
    have e : C p (min m (S p (n + 1))) (n + 1) = C p (min m (S p n + p n)) n + max 0 (min m (S p n + p n) - S p n) := rfl
    rw [e]
    show wt p m n + min (wl p m n) (p n) * ((n : Int) + 1) = _
    rw [ih, hw]
    by_cases c : m ≤ S p n
    · have e1 : min (max 0 (m - S p n)) (p n) = 0 := by omega
      have e2 : min m (S p n) = m := by omega
      have e3 : min m (S p n + p n) = m := by omega
      rw [e1, e2, e3]
      omega
    · have hd : 0 ≤ min (m - S p n) (p n) := by omega
      have e1 : min (max 0 (m - S p n)) (p n) = min (m - S p n) (p n) := by omega
      have e2 : min m (S p n) = S p n := by omega
      have e3 : min m (S p n + p n) = S p n + min (m - S p n) (p n) := by omega
      rw [e1, e2, e3, C_lin_S hp hd n]
      generalize min (m - S p n) (p n) = d at hd
      have e4 : d * ((n : Int) + 1) = d * n + d := by
        rw [Int.mul_add]
        omega
      rw [e4]
      omega
theorem wt_le {m : Int} (h0 : 0 ≤ m) {n : Nat} (h : m ≤ S p n) : wt p m n = C p m n := by
  rw [wt_eq hp h0 n]
  have e : min m (S p n) = m := by omega
  rw [e]

/-- what the greedy fill is, after i sizes -/
structure Gd (p : Nat → Int) (s : Int) (i : Nat) : Prop where
  l0 : 0 ≤ fl p s i
  t0 : 0 ≤ ft p s i
  tS : ft p s i ≤ S p i
  eC : C p (ft p s i) i = s - fl p s i
  mx : ft p s i < S p i → s < C p (ft p s i + 1) i
theorem gd {s : Int} (h0 : 0 ≤ s) : ∀ i, Gd p s i
  | 0 => ⟨h0, Int.le_refl 0, Int.le_refl 0, by
      show (0 : Int) = s - s
      omega, fun h => absurd h (Int.lt_irrefl 0)⟩
  | i + 1 => by
    obtain ⟨l0, t0, tS, eC, mx⟩ := gd h0 i
    have hpi := hp i
    have hq0 : 0 ≤ fl p s i / ((i : Int) + 1) := Int.ediv_nonneg l0 (by omega)
    have hq1 : fl p s i / ((i : Int) + 1) * ((i : Int) + 1) ≤ fl p s i := Int.ediv_mul_le _ (by omega)
    have hq2 : fl p s i < (fl p s i / ((i : Int) + 1) + 1) * ((i : Int) + 1) := by
      have := Int.lt_ediv_add_one_mul_self (fl p s i) (show (0 : Int) < (i : Int) + 1 by omega)
      exact this
    have eL : fl p s (i + 1) = fl p s i - min (p i) (fl p s i / ((i : Int) + 1)) * ((i : Int) + 1) := rfl
    have eT : ft p s (i + 1) = ft p s i + min (p i) (fl p s i / ((i : Int) + 1)) := rfl
    have eS : S p (i + 1) = S p i + p i := rfl
    have eCs : ∀ m, C p m (i + 1) = C p m i + max 0 (m - S p i) := fun _ => rfl
    generalize hL : fl p s i = L at *
    generalize hT : ft p s i = T at *
    generalize hq : L / ((i : Int) + 1) = q at *
    generalize ht : min (p i) q = t at *
    have ht0 : 0 ≤ t := by omega
    have htq : t ≤ q := by omega
    have htp : t ≤ p i := by omega
    have htl : t * ((i : Int) + 1) ≤ q * ((i : Int) + 1) := Int.mul_le_mul_of_nonneg_right htq (by omega)
    have en : t * ((i : Int) + 1) = t * i + t := by
      rw [Int.mul_add]
      omega
    rcases Int.lt_or_eq_of_le tS with c | c
    · -- the fill has stopped before
      have h1 := mx c
      have h2 := C_lip hp (m := T) (d := 1) (by omega) i
      rw [eC] at h2
      have hz : L < (i : Int) + 1 := by omega
      have hq3 : q = 0 := by
        rw [← hq]
        exact Int.ediv_eq_zero_of_lt l0 hz
      have ht3 : t = 0 := by omega
      subst ht3
      refine ⟨by rw [eL]; omega, by rw [eT]; omega, by rw [eT, eS]; omega, ?_, fun _ => ?_⟩
      · rw [eT, eL, eCs, Int.add_zero, eC]
        omega
      · rw [eT, eCs, Int.add_zero]
        omega
    · -- all are taken so far
      subst c
      have k1 := C_lin_S hp ht0 i
      refine ⟨by rw [eL]; omega, by rw [eT]; omega, by rw [eT, eS]; omega, ?_, fun c2 => ?_⟩
      · rw [eT, eL, eCs, k1, eC]
        omega
      · rw [eT, eS] at c2
        have ht4 : t = q := by omega
        have k2 := C_lin_S hp (show 0 ≤ t + 1 by omega) i
        rw [eT, eCs, show S p i + t + 1 = S p i + (t + 1) by omega, k2, eC]
        have e5 : (t + 1) * ((i : Int) + 1) = (t + 1) * i + (t + 1) := by
          rw [Int.mul_add]
          omega
        rw [ht4] at e5 ⊢
        omega
theorem ft_most {s : Int} (h0 : 0 ≤ s) {n : Nat} {t : Int} (h2 : t ≤ S p n) (h3 : C p t n ≤ s) : t ≤ ft p s n := by
  have g := gd hp h0 n
  by_cases c : t ≤ ft p s n
  · exact c
  · have h4 := g.mx (by omega)
    have h5 := C_mono hp (show ft p s n + 1 ≤ t by omega) n
    omega
/-- m words of the next size and the best of the rest are no more than the fill -/
theorem dp_le {s m : Int} (h0 : 0 ≤ s) {i : Nat} (hm : 0 ≤ m) (hmp : m ≤ p i) (hs : m * ((i : Int) + 1) ≤ s) :
    ft p (s - m * ((i : Int) + 1)) i + m ≤ ft p s (i + 1) := by
  have g := gd hp (show 0 ≤ s - m * ((i : Int) + 1) by omega) i
  have l0 := g.l0
  have tS := g.tS
  have eC := g.eC
  have lp := C_lip hp (m := ft p (s - m * ((i : Int) + 1)) i) hm i
  have en : m * ((i : Int) + 1) = m * i + m := by
    rw [Int.mul_add]
    omega
  refine ft_most hp h0 ?_ ?_
  · show _ ≤ S p i + p i
    omega
  · show C p (ft p (s - m * ((i : Int) + 1)) i + m) i + max 0 (ft p (s - m * ((i : Int) + 1)) i + m - S p i) ≤ s
    omega
/-- and one m is as good -/
theorem dp_ge {s : Int} (h0 : 0 ≤ s) (i : Nat) :
    ∃ m : Int, 0 ≤ m ∧ m ≤ p i ∧ m * ((i : Int) + 1) ≤ s ∧ ft p s (i + 1) ≤ ft p (s - m * ((i : Int) + 1)) i + m := by
  have g := gd hp h0 i
  have l0 := g.l0
  have t0 := g.t0
  have eC := g.eC
  have hpi := hp i
  have hq0 : 0 ≤ fl p s i / ((i : Int) + 1) := Int.ediv_nonneg l0 (by omega)
  have hq1 : fl p s i / ((i : Int) + 1) * ((i : Int) + 1) ≤ fl p s i := Int.ediv_mul_le _ (by omega)
  have htl : min (p i) (fl p s i / ((i : Int) + 1)) * ((i : Int) + 1) ≤ fl p s i / ((i : Int) + 1) * ((i : Int) + 1) :=
    Int.mul_le_mul_of_nonneg_right (by omega) (by omega)
  have hC0 : ∀ (m : Int) (n : Nat), 0 ≤ C p m n := by
    intro m n
    induction n with
    | zero => exact Int.le_refl 0
    | succ n ih =>
      show 0 ≤ C p m n + max 0 (m - S p n)
      omega
  have hc := hC0 (ft p s i) i
  have h5 : min (p i) (fl p s i / ((i : Int) + 1)) * ((i : Int) + 1) ≤ s := by omega
  refine ⟨min (p i) (fl p s i / ((i : Int) + 1)), by omega, by omega, h5, ?_⟩
  have key : ft p s i ≤ ft p (s - min (p i) (fl p s i / ((i : Int) + 1)) * ((i : Int) + 1)) i :=
    ft_most hp (by omega) g.tS (by rw [eC]; omega)
  show ft p s i + min (p i) (fl p s i / ((i : Int) + 1)) ≤ _
  omega
end
/-! ### the sums and letters of a list -/
theorem S_sum : ∀ (ps : List Int) (i : Nat), i ≤ ps.length → S (at0 ps) i = (ps.take i).sum
  | _, 0, _ => by simp [S]
  | ps, i + 1, h => by
    have ih := S_sum ps i (by omega)
    have e : ps.take (i + 1) = ps.take i ++ [ps[i]'(by omega)] := (List.take_append_getElem (by omega)).symm
    rw [e, List.sum_append]
    show S (at0 ps) i + at0 ps i = _
    rw [ih]
    have e2 : at0 ps i = ps[i]'(by omega) := by
      unfold at0
      rw [List.getD_eq_getElem?_getD, List.getElem?_eq_getElem (by omega)]
      rfl
    rw [e2]
    simp
theorem S_all (ps : List Int) : S (at0 ps) ps.length = ps.sum := by
  rw [S_sum ps ps.length (Nat.le_refl _), List.take_length]
theorem at0_nonneg {ps : List Int} (h : ∀ x ∈ ps, 0 ≤ x) (i : Nat) : 0 ≤ at0 ps i := by
  unfold at0
  rw [List.getD_eq_getElem?_getD]
  cases e : ps[i]? with
  | none => exact Int.le_refl 0
  | some x => exact h x (List.mem_of_getElem? e)
def weight (ps : List Int) (m : Int) : Int := wt (at0 ps) m ps.length
def fillF (s : Int) (ps : List Int) : Int := ft (at0 ps) s ps.length
/-- the fill is right: at most all, its letters fit, and one more would not -/
theorem fill_right {ps : List Int} (h : ∀ x ∈ ps, 0 ≤ x) {s : Int} (h0 : 0 ≤ s) :
    0 ≤ fillF s ps ∧ fillF s ps ≤ ps.sum ∧ weight ps (fillF s ps) ≤ s ∧ (fillF s ps = ps.sum ∨ s < weight ps (fillF s ps + 1)) := by
  have hp := at0_nonneg h
  have g := gd hp h0 ps.length
  have t0 := g.t0
  have tS := g.tS
  have l0 := g.l0
  have eC := g.eC
  have mx := g.mx
  have a := S_all ps
  have w1 := wt_le hp t0 tS
  unfold fillF weight
  rw [a] at tS mx
  refine ⟨t0, tS, ?_, ?_⟩
  · rw [w1, eC]
    omega
  · by_cases c : ft (at0 ps) s ps.length = ps.sum
    · exact .inl c
    · refine .inr ?_
      rw [wt_le hp (by omega) (by rw [a]; omega)]
      exact mx (by omega)
theorem fillF_nonneg {ps : List Int} (h : ∀ x ∈ ps, 0 ≤ x) {s : Int} (h0 : 0 ≤ s) : 0 ≤ fillF s ps := (fill_right h h0).1
theorem weight_nonneg {ps : List Int} (h : ∀ x ∈ ps, 0 ≤ x) {m : Int} (h0 : 0 ≤ m) : 0 ≤ weight ps m := by
  unfold weight
  rw [wt_eq (at0_nonneg h) h0]
  generalize min m (S (at0 ps) ps.length) = k
  generalize ps.length = n
  induction n with
  | zero => exact Int.le_refl 0
  | succ n ih =>
    show 0 ≤ C (at0 ps) k n + max 0 (k - S (at0 ps) n)
    omega
end Ver
namespace Ver
open PySem PySem.Spec PyProof.Rows L2 Evl
section
variable {P : Program} {w : World} {K : PySem.W.Frag} {mg : Str → Option Value} {base : Heap} {C_Cut : Addr}
/-! ### _law_power -/
def spPow : Sp := fun vs H Q _ => ∃ n : Nat, vs = [.int (n : Int)] ∧ n ≤ 1000 ∧ RetV (.int ((2 ^ n : Nat) : Int)) H Q
theorem has_pow (F : At K mg "_law_power" s__law_power) (T : Top K mg C_Cut) : Has P w K mg base "_law_power" s__law_power ["often"] 1 spPow := by
  obtain ⟨f, fd, F, m⟩ := F.ex
  refine ⟨f, fd, F, F.ok S__law_power (fun vs H Q E h => ?_) (fun cdv A outer s H vs Q E hr h => ?_), F.binds fun _ _ _ _ _ _ us hl => match us, hl with | [_], _ => rfl, m, F.kp⟩
  · obtain ⟨n, rfl, _⟩ := h
    rfl
  obtain ⟨n, rfl, hn, q⟩ := h
  refine ⟨_, (pss_cons
    (ps_set (i := 1) S__law_power.nd rfl (Or.inl rfl) pe_int)
    (pss_cons
    (ps_for PassesOwn.never rfl (pi_range1 rfl T.z_range (pa_cons (pv 0) pa_nil)) (pg_name (i := 2) S__law_power.nd rfl (Or.inl rfl)) (pss_one
    (ps_set (i := 1) S__law_power.nd rfl (Or.inl rfl) (pe_op op_mul (pv 1) pe_int))))
    (pss_one
    (ps_ret (pv 1))))), ?_⟩
  refine q_asg (v := .int ((2 ^ 0 : Nat) : Int)) (ev_is ev_c rfl) fun H1 e1 => ?_
  refine q_forR1 (n := (n : Int)) (ea_cons (ev_var rfl) ea_nil) (by omega) (fun i σ' H' => (∃ u, σ' = [some (.int (n : Int)), some (.int ((2 ^ i : Nat) : Int)), u]) ∧ Ex H H') ?_ ?_ ?_
  · intro H2 e2
    exact ⟨⟨none, rfl⟩, e1.trans e2⟩
  · intro i σ' H' hi z
    obtain ⟨⟨u, rfl⟩, e2⟩ := z
    refine s_asg (v := .int ((2 ^ (i + 1) : Nat) : Int)) (ev_is (ev_mulR (i := ((2 ^ i : Nat) : Int)) (j := 2) (by omega) (by omega) (ev_var rfl) ev_c) ?_) fun H3 e3 => ⟨⟨_, rfl⟩, e2.trans e3⟩
    show V.int (((2 ^ i : Nat) : Int) * ((2 : Nat) : Int)) = _
    rw [← Int.natCast_mul, ← Nat.pow_succ]
  · intro σ' H' z
    obtain ⟨⟨u, rfl⟩, e2⟩ := z
    have en : ((n : Int)).toNat = n := by omega
    rw [en]
    exact s_ret (ev_var rfl) fun H3 e3 => q H3 (e2.trans e3)
/-! ### fill -/
def spFill (K : PySem.W.Frag) : Sp := fun vs H Q _ => ∃ (a : Addr) (ps : List Int) (s : Int), vs = [.int s, .ref a] ∧ (SqL K H a (ps.map V.int) ∨ SqT K H a (ps.map V.int)) ∧ ps.length ≤ 1000 ∧ RetV (.int (fillF s ps)) H Q
theorem has_fill (F : At K mg "fill" s_fill) (T : Top K mg C_Cut) : Has P w K mg base "fill" s_fill ["length", "counts"] 1 (spFill K) := by
  obtain ⟨f, fd, F, m⟩ := F.ex
  refine ⟨f, fd, F, F.ok S_fill (fun vs H Q E h => ?_) (fun cdv A outer s H vs Q E hr h => ?_), F.binds fun _ _ _ _ _ _ us hl => match us, hl with | [_, _], _ => rfl, m, F.kp⟩
  · obtain ⟨a, ps, s, rfl, _⟩ := h
    rfl
  obtain ⟨a, ps, len, rfl, hS, hz, q⟩ := h
  refine ⟨_, (pss_cons
    (ps_set (i := 2) S_fill.nd rfl (Or.inl rfl) (pv 0))
    (pss_cons
    (ps_set (i := 3) S_fill.nd rfl (Or.inl rfl) pe_int)
    (pss_cons
    (ps_for PassesOwn.never rfl (pi_enumK rfl T.z_enumerate (pa_cons (pv 1) pa_nil) (pk_cons pe_int pk_nil)) (pg_tup rfl (pgs_cons (pg_name (i := 4) S_fill.nd rfl (Or.inl rfl)) (pgs_cons (pg_name (i := 5) S_fill.nd rfl (Or.inl rfl)) pgs_nil))) (pss_cons
    (ps_set (i := 6) S_fill.nd rfl (Or.inl rfl) (pe_callB (call_min2 rfl) rfl T.z_min (by decide +kernel) (pa_cons (pv 5) (pa_cons (pe_op op_fdivW (pv 2) (pv 4)) pa_nil))))
    (pss_cons
    (ps_aug (i := 3) S_fill.nd rfl (Or.inl rfl) (pv 6) ip_add)
    (pss_one
    (ps_aug (i := 2) S_fill.nd rfl (Or.inl rfl) (pe_op op_mul (pv 6) (pv 4)) ip_sub)))))
    (pss_one
    (ps_ret (pv 3)))))), ?_⟩
  refine q_asg (ev_var rfl) fun H1 e1 => ?_
  refine q_asg ev_c fun H2 e2 => ?_
  have e12 := e1.trans e2
  refine s_forE (D := { nx := _, rt := _, bk := _, ct := _ }) (k := 1) (xs := ps.map V.int) (ea_cons (ev_var rfl) ea_nil) (ea_cons ev_c ea_nil) (by decide) (hS.elim (fun h => .inl (ex_l e12 h)) (fun h => .inr (ex_t e12 h)))
    (fun i σ' H' => (∃ u v x, σ' = [some (.int len), some (.ref a), some (.int (fl (at0 ps) len i)), some (.int (ft (at0 ps) len i)), u, v, x]) ∧ Ex H2 H') ?_ ?_ ?_ ?_
  · intro H3 e3
    exact ⟨⟨none, none, none, rfl⟩, e3⟩
  · intro i σ' H' p
    exact p.2
  · intro i x σ' H' H3 hx p e3
    obtain ⟨⟨u, v, y, rfl⟩, e4⟩ := p
    obtain ⟨hi, rfl⟩ := at0_get hx
    have e5 : (1 : Int) + (i : Int) = (i : Int) + 1 := by omega
    refine q_asg (ev_cb (ea_cons (ev_var rfl) (ea_cons (ev_div (i := fl (at0 ps) len i) (j := 1 + (i : Int)) (by omega) (by omega) (ev_var rfl) (ev_var rfl)) ea_nil)) rc_min) fun H4 e6 => ?_
    refine q_aug (a := ft (at0 ps) len i) rfl (ev_var rfl) fun H5 e7 => ?_
    refine s_aug (a := fl (at0 ps) len i) rfl (ev_mulR (j := 1 + (i : Int)) (by omega) (by omega) (ev_var rfl) (ev_var rfl)) fun H6 e8 => ⟨⟨some (.int (1 + (i : Int))), some (.int (at0 ps i)), some (.int (min (at0 ps i) (fl (at0 ps) len i / (1 + (i : Int))))), ?_⟩, (((e4.trans e3).trans e6).trans e7).trans e8⟩
    show [some (V.int len), some (V.ref a), some (V.int (fl (at0 ps) len i - min (at0 ps i) (fl (at0 ps) len i / (1 + (i : Int))) * (1 + (i : Int)))), some (V.int (ft (at0 ps) len i + min (at0 ps i) (fl (at0 ps) len i / (1 + (i : Int))))), some (V.int (1 + (i : Int))), some (V.int (at0 ps i)), some (V.int (min (at0 ps i) (fl (at0 ps) len i / (1 + (i : Int)))))] = _
    rw [e5]
    rfl
  · intro σ' H' p
    obtain ⟨⟨u, v, y, rfl⟩, e4⟩ := p
    rw [List.length_map]
    refine s_ret (ev_var rfl) fun H3 e3 => ?_
    exact q H3 ((e12.trans e4).trans e3)
theorem sv_fill {s : Int} {a : Addr} {ps : List Int} {H : Hp} (hS : SqL K H a (ps.map V.int) ∨ SqT K H a (ps.map V.int)) (hz : ps.length ≤ 1000) : SpV (spFill K) ([V.int s, V.ref a] ++ []) H (.int (fillF s ps)) := fun _ e _ q _ =>
  ⟨a, ps, s, rfl, hS.elim (fun h => .inl (ex_l e h)) (fun h => .inr (ex_t e h)), hz, q⟩
end
end Ver
namespace Ver
open PySem PySem.Spec PyProof.Rows L2 Evl
section
variable {P : Program} {w : World} {K : PySem.W.Frag} {mg : Str → Option Value} {base : Heap} {C_Cut : Addr}
theorem has_digits (F : At K mg "_law_digits" s__law_digits) (T : Top K mg C_Cut) : Has P w K mg base "_law_digits" s__law_digits ["cell", "sizes"] 1 (spDigits K) := by
  obtain ⟨f, fd, F, m⟩ := F.ex
  refine ⟨f, fd, F, F.ok S__law_digits (fun vs H Q E h => ?_) (fun cdv A outer s H vs Q E hr h => ?_), F.binds fun _ _ _ _ _ _ us hl => match us, hl with | [_, _], _ => rfl, m, F.kp⟩
  · obtain ⟨c, a, ss, rfl, _⟩ := h
    rfl
  obtain ⟨c, a, ss, rfl, hS, hz, hss, q⟩ := h
  refine ⟨_, (pss_cons
    (ps_set (i := 2) S__law_digits.nd rfl (Or.inl rfl) (pe_lst pa_nil))
    (pss_cons
    (ps_set (i := 3) S__law_digits.nd rfl (Or.inl rfl) (pe_callTy call_int1 rfl T.z_int (by decide +kernel) (pa_cons (pv 0) pa_nil)))
    (pss_cons
    (ps_if (pt_cmpR op_ge (pv 3) (pe_op op_pow pe_int pe_int) (nomark _)) (pss_cons
    (ps_set (i := 3) S__law_digits.nd rfl (Or.inl rfl) (pe_op op_sub (pv 3) (pe_op op_pow pe_int pe_int)))
    (pss_cons
    (ps_for PassesOwn.never rfl (pi_list (pv 1)) (pg_name (i := 4) S__law_digits.nd rfl (Or.inl rfl)) (pss_cons
    (ps_expr (pe_bm PySem.F.plainAttrs_list PySem.F.slot_list_append PySem.F.type_list_append mt_append (pv 2) (pa_cons (pe_op op_mod (pe_callTy call_int1 rfl T.z_int (by decide +kernel) (pa_cons (pv 3) pa_nil)) (pv 4)) pa_nil)))
    (pss_one
    (ps_set (i := 3) S__law_digits.nd rfl (Or.inl rfl) (pe_op op_fdivW (pe_callTy call_int1 rfl T.z_int (by decide +kernel) (pa_cons (pv 3) pa_nil)) (pv 4))))))
    (pss_one
    (ps_ret (pv 2))))) pss_nil)
    (pss_cons
    (ps_set (i := 5) S__law_digits.nd rfl (Or.inl rfl) (pe_op op_mod (pe_callTy call_int1 rfl T.z_int (by decide +kernel) (pa_cons (pv 3) pa_nil)) pe_int))
    (pss_cons
    (ps_for PassesOwn.never rfl (pi_range1 rfl T.z_range (pa_cons (pe_callB call_len_seq rfl T.z_len PySem.boot_len (pa_cons (pv 1) pa_nil)) pa_nil)) (pg_name (i := 6) S__law_digits.nd rfl (Or.inl rfl)) (pss_cons
    (ps_set (i := 5) S__law_digits.nd rfl (Or.inl rfl) (pe_op op_mod (pe_callTy call_int1 rfl T.z_int (by decide +kernel) (pa_cons (pe_op op_add (pe_op op_add (pe_op op_mul (pv 5) pe_int) (pe_op op_mul pe_int (pv 6))) pe_int) pa_nil)) pe_int))
    (pss_cons
    (ps_set (i := 7) S__law_digits.nd rfl (Or.inl rfl) (pe_op op_mod (pe_callTy call_int1 rfl T.z_int (by decide +kernel) (pa_cons (pe_op op_mul (pv 5) (pe_op op_add (pe_op op_fdivW (pv 5) pe_int) pe_int)) pa_nil)) pe_int))
    (pss_one
    (ps_expr (pe_bm PySem.F.plainAttrs_list PySem.F.slot_list_append PySem.F.type_list_append mt_append (pv 2) (pa_cons (pe_op op_mod (pe_op op_fdivW (pv 7) pe_int) (pe_ix (r := rIxL K) ix_list (pv 1) (pv 6) (fun _ _ => rfl))) pa_nil)))))))
    (pss_one
    (ps_ret (pv 2)))))))), ?_⟩
  have hl : (((ss.map V.int).length : Nat) : Int) = (ss.length : Int) := by rw [List.length_map]
  have e18 : (10 : Int) ^ (18 : Int).toNat = 10 ^ 18 := rfl
  refine q_asgL (el_lst ea_nil (by decide)) fun p H1 hp e1 h1 => ?_
  refine q_asg (ev_int (ev_var rfl)) fun H2 e2 => ?_
  have hP : CPow 10 18 := ⟨by decide, by decide, by decide⟩
  refine q_when (et_is (et_ge (ev_var rfl) (ev_op ev_c ev_c (rv_I hP))) rfl) (fun hb H3 e3 => ?_) (fun hb H3 e3 => ?_)
  · have hc : 10 ^ 18 ≤ c := of_decide_eq_true hb
    refine q_asg (ev_sub (ev_var rfl) (ev_op ev_c ev_c (rv_I hP))) fun H4 e4 => ?_
    have e14 : Ex H H4 := ((e1.trans e2).trans e3).trans e4
    refine q_forLn (ev_var rfl) (ex_l e14 hS) (fun i σ' H' => (∃ u, σ' = [some (.int c), some (.ref a), some (.ref p), some (.int (restF c ss i)), u, none, none, none]) ∧ Ex H H' ∧ H' p = some (.lst (((List.range i).map (digA c ss)).map V.int))) ?_ ?_ ?_ ?_
    · intro H5 e5
      exact ⟨⟨none, rfl⟩, e14.trans e5, e5 _ _ (e4 _ _ (e3 _ _ (e2 _ _ h1)))⟩
    · intro i σ' H' _ z
      exact ex_l z.2.1 hS
    · intro i x σ' H' hx z
      obtain ⟨⟨u, rfl⟩, e5, h5⟩ := z
      obtain ⟨hi, rfl⟩ := at0_get hx
      obtain ⟨s1, s2⟩ := hss i hi
      refine q_app h5 (ev_var rfl) (ev_mod s1 (ev_int (ev_var rfl)) (ev_var rfl)) (by rw [List.length_map, List.length_map, List.length_range]; omega) fun H6 e6 => ?_
      refine s_asg (ev_div s1 s2 (ev_int (ev_var rfl)) (ev_var rfl)) fun H7 e7 => ⟨⟨some (.int (at0 ss i)), rfl⟩, ((e5.trans e6).mut hp).trans e7, ?_⟩
      rw [map_range_succ]
      exact e7 _ _ upd_same
    · intro σ' H' z
      obtain ⟨⟨u, rfl⟩, e5, h5⟩ := z
      rw [List.length_map] at h5
      refine s_ret (ev_var rfl) fun H6 e6 => ?_
      have e : digits c ss = (List.range ss.length).map (digA c ss) := by
        unfold digits
        refine List.map_congr_left fun i _ => ?_
        exact if_pos hc
      rw [e] at q
      exact q p H6 hp (e5.trans e6) (e6 _ _ h5)
  · have hc : ¬ 10 ^ 18 ≤ c := of_decide_eq_false hb
    refine q_asg (ev_mod (by decide) (ev_int (ev_var rfl)) ev_c) fun H4 e4 => ?_
    have e14 : Ex H H4 := ((e1.trans e2).trans e3).trans e4
    refine q_forR1 (ea_cons (ev_is (ev_cb (ea_cons (ev_var rfl) ea_nil) (rc_lenL (ex_l e14 hS))) (by rw [hl])) ea_nil) (by omega) (fun i σ' H' => (∃ u v, σ' = [some (.int c), some (.ref a), some (.ref p), some (.int c), none, some (.int (sdF c i)), u, v]) ∧ Ex H H' ∧ H' p = some (.lst (((List.range i).map (digB c ss)).map V.int))) ?_ ?_ ?_
    · intro H5 e5
      exact ⟨⟨none, none, rfl⟩, e14.trans e5, e5 _ _ (e4 _ _ (e3 _ _ (e2 _ _ h1)))⟩
    · intro i σ' H' hi z
      obtain ⟨⟨u, v, rfl⟩, e5, h5⟩ := z
      have hi' : i < ss.length := by omega
      obtain ⟨s1, s2⟩ := hss i hi'
      have b1 := sd_bound c (i + 1)
      refine q_asg (ev_mod (by decide) (ev_int (ev_add (ev_add (ev_mulR (by decide) (by decide) (ev_var rfl) ev_c) (ev_mulL (by decide) (by decide) ev_c (ev_var rfl))) ev_c)) ev_c) fun H6 e6 => ?_
      refine q_asg (ev_mod (by decide) (ev_int (ev_mulR (i := sdF c (i + 1)) (j := sdF c (i + 1) / 65537 + 3) (by omega) (by omega) (ev_var rfl) (ev_add (ev_div (by decide) (by decide) (ev_var rfl) ev_c) ev_c))) ev_c) fun H7 e7 => ?_
      refine s_app (e7 _ _ (e6 _ _ h5)) (ev_var rfl) (ev_mod s1 (ev_div (by decide) (by decide) (ev_var rfl) ev_c) (ev_at (ex_l ((e5.trans e6).trans e7) hS) hi' (ev_var rfl) (ev_var rfl))) (by rw [List.length_map, List.length_map, List.length_range]; omega) fun H8 e8 => ⟨⟨some (.int (i : Int)), some (.int (twF c i)), rfl⟩, (((e5.trans e6).trans e7).trans e8).mut hp, ?_⟩
      rw [map_range_succ]
      exact upd_same
    · intro σ' H' z
      obtain ⟨⟨u, v, rfl⟩, e5, h5⟩ := z
      refine s_ret (ev_var rfl) fun H6 e6 => ?_
      have e : digits c ss = (List.range ss.length).map (digB c ss) := by
        unfold digits
        refine List.map_congr_left fun i _ => ?_
        exact if_neg hc
      rw [e] at q
      exact q p H6 hp (e5.trans e6) (e6 _ _ h5)
end
end Ver
namespace Ver
open PySem PySem.Spec PyProof.Rows L2 Evl
section
variable {P : Program} {w : World} {K : PySem.W.Frag} {mg : Str → Option Value} {base : Heap} {C_Cut : Addr}
theorem has_cell (F : At K mg "_law_cell" s__law_cell) (T : Top K mg C_Cut) : Has P w K mg base "_law_cell" s__law_cell ["script", "k"] 1 (spCell K) := by
  obtain ⟨f, fd, F, m⟩ := F.ex
  refine ⟨f, fd, F, F.ok S__law_cell (fun vs H Q E h => ?_) (fun cdv A outer s H vs Q E hr h => ?_), F.binds fun _ _ _ _ _ _ us hl => match us, hl with | [_, _], _ => rfl, m, F.kp⟩
  · obtain ⟨a, ns, k, rfl, _⟩ := h
    rfl
  obtain ⟨a, ns, k, rfl, hS, h63, hk, q⟩ := h
  refine ⟨_, (pss_cons
    (ps_if (pt_cmpR op_lt (pv 1) (pe_callB call_len_seq rfl T.z_len PySem.boot_len (pa_cons (pv 0) pa_nil)) (nomark _)) (pss_one
    (ps_ret (pe_ix (r := rIxL K) ix_list (pv 0) (pv 1) (fun _ _ => rfl)))) pss_nil)
    (pss_cons
    (ps_set (i := 2) S__law_cell.nd rfl (Or.inl rfl) pe_int)
    (pss_cons
    (ps_for PassesOwn.never rfl (pi_list (pv 0)) (pg_name (i := 3) S__law_cell.nd rfl (Or.inl rfl)) (pss_one
    (ps_set (i := 2) S__law_cell.nd rfl (Or.inl rfl) (pe_op op_mod (pe_callTy call_int1 rfl T.z_int (by decide +kernel) (pa_cons (pe_op op_add (pe_op op_mul (pv 2) pe_int) (pe_op op_mod (pe_callTy call_int1 rfl T.z_int (by decide +kernel) (pa_cons (pv 3) pa_nil)) pe_int)) pa_nil)) pe_int))))
    (pss_one
    (ps_ret (pe_op op_mod (pe_callTy call_int1 rfl T.z_int (by decide +kernel) (pa_cons (pe_op op_mul (pe_op op_mul (pe_op op_add (pv 2) pe_int) (pe_op op_add (pv 1) pe_int)) pe_int) pa_nil)) pe_int)))))), ?_⟩
  have hl : (((ns.map V.int).length : Nat) : Int) = (ns.length : Int) := by rw [List.length_map]
  refine q_when (et_is (et_lt (ev_var rfl) (ev_is (ev_cb (ea_cons (ev_var rfl) ea_nil) (rc_lenL hS)) (by rw [hl]))) rfl) (fun hb H1 e1 => ?_) (fun hb H1 e1 => ?_)
  · have hlt : k < (ns.length : Int) := of_decide_eq_true hb
    have ek : k = ((k.toNat : Nat) : Int) := by omega
    refine s_ret (ev_at (ex_l e1 hS) (show k.toNat < ns.length by omega) (ev_var rfl) (ev_is (ev_var rfl) (by rw [← ek]))) fun H2 e2 => ?_
    have e : cell ns k = at0 ns k.toNat := if_pos hlt
    rw [e] at q
    exact q H2 (e1.trans e2)
  · have hlt : ¬ k < (ns.length : Int) := of_decide_eq_false hb
    refine q_asg ev_c fun H2 e2 => ?_
    refine q_forLn (ev_var rfl) (ex_l (e1.trans e2) hS) (fun i σ' H' => (∃ u, σ' = [some (.ref a), some (.int k), some (.int (seedF ns i)), u]) ∧ Ex H H') ?_ ?_ ?_ ?_
    · intro H3 e3
      exact ⟨⟨none, rfl⟩, (e1.trans e2).trans e3⟩
    · intro i σ' H' _ p
      exact ex_l p.2 hS
    · intro i x σ' H' hx p
      obtain ⟨⟨u, rfl⟩, e3⟩ := p
      obtain ⟨hi, rfl⟩ := at0_get hx
      refine s_asg (ev_mod (by decide) (ev_int (ev_add (ev_mulR (by decide) (by decide) (ev_var rfl) ev_c) (ev_mod (by decide) (ev_int (ev_var rfl)) ev_c))) ev_c) fun H4 e4 => ⟨⟨some (.int (at0 ns i)), rfl⟩, e3.trans e4⟩
    · intro σ' H' p
      obtain ⟨⟨u, rfl⟩, e3⟩ := p
      rw [List.length_map]
      refine s_ret (ev_mod (by decide) (ev_int (ev_mulR (by decide) (by decide) (ev_mulR (by omega) (by omega) (ev_add (ev_var rfl) ev_c) (ev_add (ev_var rfl) ev_c)) ev_c)) ev_c) fun H4 e4 => ?_
      have e : cell ns k = ((seedF ns ns.length + 7) * (k + 3) * 69621) % 2147483647 := if_neg hlt
      rw [e] at q
      exact q H4 (e3.trans e4)
end
end Ver
namespace Ver
open PySem PySem.Spec PyProof.Rows L2 Evl
section
variable {K : PySem.W.Frag} {σ : L2.St} {H : Hp} {ta tb tc te tl : TE} {tz : TS} {D : Ends}
/-- a list made over a text -/
theorem el_lcS {x : List Nat} {j : Nat} {vs : List Nat} (v : Nat → V) (h : Ev tl σ H (tx x)) (hz : x.length ≤ 40000) (hw : ∀ a, wipe ((wipe σ vs).set j (some a)) vs = wipe σ vs)
    (he : ∀ (i c : Nat) H1, Ex H H1 → x[i]? = some c → Ev te ((wipe σ vs).set j (some (tx [c]))) H1 (v c)) :
    EvL (tLc (iStr tl) (gName j) tYes te vs) σ H (x.map v) := fun H0 e Q q => h H0 e _ fun H1 e1 => ⟨SX.S x, rfl, fun Dl hD => by
  have hn : (SX.S x).cps.size = x.length := by
    show x.toArray.size = _
    simp
  let g : Nat → V := fun i => v (x.getD i 0)
  refine lc_it (walk_str (z := SX.S x)) (Cw H1 (fun _ => true) g Dl) ⟨hD, Ex.new hD, upd_same⟩ (fun _ _ _ _ => trivial) (fun i z H' H2 hi p yp => ?_) (fun H' p => ?_)
  · obtain ⟨rfl, c, hc, rfl⟩ := yp
    have hc2 : x[i]? = some c := by
      have : (SX.S x).cps.toList[i]? = some c := by rw [Array.getElem?_toList]; exact hc
      exact this
    have hlt := (List.getElem?_eq_some_iff.mp hc2).1
    have eg : g i = v c := by
      show v (x.getD i 0) = v c
      rw [List.getD_eq_getElem?_getD, hc2]
      rfl
    refine ⟨hw _, cw_turn p (by omega) et_yes fun _ => ?_⟩
    rw [eg]
    exact he i c H1 (e.trans e1) hc2
  · rw [hn] at p
    have p3 := p.2.2
    rw [given_all] at p3
    have ee : (List.range x.length).map g = x.map v := by
      refine List.ext_getElem (by simp) fun i h1 h2 => ?_
      have hi : i < x.length := by simpa using h2
      rw [List.getElem_map, List.getElem_map, List.getElem_range]
      show v (x.getD i 0) = _
      rw [List.getD_eq_getElem?_getD, List.getElem?_eq_getElem hi]
      rfl
    rw [ee] at p3
    exact q Dl H' (fresh_back e1 p.1) (e1.trans p.2.1) p3⟩
/-- a call whose second argument of three is a new list -/
theorem ev_call3L {sp : Sp} {E : XK} {x y z : V} {xs dvs : List V} (h : Ev ta σ H x) (hl : EvL tl σ H xs) (h3 : ∀ H1, Ex H H1 → Ev tb σ H1 y) (hs : ∀ p H1, Ex H H1 → H1 p = some (.lst xs) → SpV sp ([x, .ref p, y] ++ dvs) H1 z) : Ev (tCall sp dvs E (tCons ta (tCons tl (tCons tb tNil)))) σ H z := fun H1 e Q q =>
  h H1 e _ fun H2 e2 => hl H2 (e.trans e2) _ fun p H3 hp e3 g3 => h3 H3 ((e.trans e2).trans e3) H3 (Ex.refl H3) _ fun H4 e4 => hs p H4 (((e.trans e2).trans e3).trans e4) (e4 _ _ g3) H4 (Ex.refl H4) Q (fun H5 e5 => q H5 (((e2.trans e3).trans e4).trans e5)) E
/-- len of a new text, parts of texts -/
theorem over_cut {al l : List Nat} {lo hi : Option Int} (h : ∀ c ∈ l, c ∈ al) : ∀ c ∈ cutL l lo hi, c ∈ al := fun c hc => h c (cutL_sub c hc)
theorem over_app {al a b : List Nat} (h1 : ∀ c ∈ a, c ∈ al) (h2 : ∀ c ∈ b, c ∈ al) : ∀ c ∈ a ++ b, c ∈ al := fun c hc => (List.mem_append.mp hc).elim (h1 c) (h2 c)
theorem over_rep {al l : List Nat} {n : Nat} (h : ∀ c ∈ l, c ∈ al) : ∀ c ∈ (List.replicate n l).flatten, c ∈ al := fun c hc => by
  obtain ⟨m, hm, hc2⟩ := List.mem_flatten.mp hc
  rw [List.eq_of_mem_replicate hm] at hc2
  exact h c hc2
theorem rep_len {l : List Nat} {n : Nat} : (List.replicate n l).flatten.length = n * l.length := by
  induction n with
  | zero => simp
  | succ n ih => rw [List.replicate_succ, List.flatten_cons, List.length_append, ih, Nat.add_mul, Nat.one_mul, Nat.add_comm]
/-- a text over al, no longer than n -/
structure Word (al : List Nat) (n : Nat) (v : List Nat) : Prop where
  over : ∀ c ∈ v, c ∈ al
  len : v.length ≤ n
theorem Word.cut {al v : List Nat} {n m : Nat} (h : ∀ c ∈ v, c ∈ al) (hm : m ≤ n) : Word al n (cutL v none (some (m : Int))) := ⟨over_cut h, by rw [cutL_to, List.length_take]; omega⟩
theorem nodup_sub : ∀ (a b : List Nat), a.Nodup → (∀ x ∈ a, x ∈ b) → a.length ≤ b.length
  | [], b, _, _ => Nat.zero_le _
  | x :: r, b, nd, h => by
    have hx := h x (List.mem_cons_self ..)
    have ih := nodup_sub r (b.erase x) (List.nodup_cons.mp nd).2 fun y hy => (List.mem_erase_of_ne (fun (e : y = x) => (List.nodup_cons.mp nd).1 (e ▸ hy))).mpr (h y (List.mem_cons_of_mem _ hy))
    have e := List.length_erase_of_mem hx
    have hp : 0 < b.length := List.length_pos_of_mem hx
    show r.length + 1 ≤ _
    omega
end
end Ver
namespace Ver
open PySem PySem.Spec PyProof.Rows L2 Evl
/-! ### _law_signs -/
def figs : List Nat := [48, 49, 50, 51, 52, 53, 54, 55, 56, 57, 97, 98, 99, 100, 101, 102, 103, 104, 105, 106, 107, 108, 109, 110, 111, 112, 113, 114, 115, 116, 117, 118, 119, 120, 121, 122]
theorem figs_is : Str.ofString "0123456789abcdefghijklmnopqrstuvwxyz" = SX.S figs := by decide +kernel
theorem mt_is : Str.ofString "" = SX.S [] := by decide +kernel
theorem figs_let : ∀ c ∈ figs, (48 ≤ c ∧ c ≤ 57) ∨ (97 ≤ c ∧ c ≤ 122) := by decide +kernel
theorem figs_nd : figs.Nodup := by decide +kernel
theorem figs_at {i : Nat} (h : i < 36) : figs[i]? = some (figs.getD i 0) := by
  have : figs.length = 36 := rfl
  rw [List.getD_eq_getElem?_getD, List.getElem?_eq_getElem (by omega)]
  rfl
theorem figs_mem {i : Nat} (h : i < 36) : figs.getD i 0 ∈ figs := List.mem_of_getElem? (figs_at h)
theorem inV_one {c : Nat} {cs : List Nat} : inV (tx [c]) (cs.map fun c => tx [c]) = decide (c ∈ cs) := by
  unfold inV
  induction cs with
  | nil => rfl
  | cons d r ih =>
    rw [List.map_cons, List.any_cons, ih]
    show ((SX.S [d] == SX.S [c]) || decide (c ∈ r)) = _
    rw [SX.S_beq_eq, Bool.eq_iff_iff, Bool.or_eq_true, decide_eq_true_eq, decide_eq_true_eq, decide_eq_true_eq, List.mem_cons]
    constructor
    · rintro (h | h)
      · exact .inl (List.cons.inj h).1.symm
      · exact .inr h
    · rintro (h | h)
      · exact .inl (by rw [h])
      · exact .inr h
theorem flat_ones (cs : List Nat) : (cs.map fun c => tx [c]).all flatV = true := by
  induction cs with
  | nil => rfl
  | cons d r ih =>
    rw [List.map_cons, List.all_cons, ih]
    rfl
theorem rising_ones : ∀ (p : Nat) (cs : List Nat), risingS (SX.S [p]) (cs.map fun c => SX.S [c]) = true → (p :: cs).Pairwise (· ≤ ·)
  | p, [], _ => List.pairwise_singleton _ _
  | p, c :: r, h => by
    have h2 : (!ltCps [c] [p] && risingS (SX.S [c]) (r.map fun c => SX.S [c])) = true := h
    rw [Bool.and_eq_true, Bool.not_eq_true'] at h2
    have ih := rising_ones c r h2.2
    have hpc : p ≤ c := by
      have e : ltCps [c] [p] = (decide (c < p) || (c == p && ltCps [] [])) := rfl
      rw [e, Bool.or_eq_false_iff] at h2
      have := of_decide_eq_false h2.1.1
      omega
    refine List.pairwise_cons.mpr ⟨fun x hx => ?_, ih⟩
    rcases List.mem_cons.mp hx with rfl | hx
    · exact hpc
    · exact Nat.le_trans hpc ((List.pairwise_cons.mp ih).1 x hx)
theorem sorted_ones : ∀ (cs : List Nat), sortedS (cs.map fun c => SX.S [c]) = true → cs.Pairwise (· ≤ ·)
  | [], _ => List.Pairwise.nil
  | c :: r, h => rising_ones c r h
theorem flat_sing (cs : List Nat) : (cs.map fun c => [c]).flatten = cs := by
  induction cs with
  | nil => rfl
  | cons d r ih =>
    rw [List.map_cons, List.flatten_cons, ih]
    rfl
/-- the sorted signs of a list of different ones -/
theorem sorted_signs {cs : List Nat} {ys : List Str} (nd : cs.Nodup) (hp : ys.Perm (cs.map fun c => SX.S [c])) (hs : sortedS ys = true) : ∃ ds : List Nat, ys = ds.map (fun c => SX.S [c]) ∧ ds.Perm cs ∧ ds.Pairwise (· < ·) := by
  let g : Str → Nat := fun s => s.cps.toList.headD 0
  have hy : ys = (ys.map g).map fun c => SX.S [c] := by
    rw [List.map_map]
    refine (List.map_id' ys).symm.trans ?_ |> fun h => h
    refine List.map_congr_left fun y hm => ?_
    have := hp.mem_iff.mp hm
    obtain ⟨c, _, rfl⟩ := List.mem_map.mp this
    rfl
  have hd : (ys.map g).Perm cs := by
    have := hp.map g
    rw [List.map_map] at this
    have e : cs.map (g ∘ fun c => SX.S [c]) = cs := by
      conv => rhs; rw [← List.map_id' cs]
      exact List.map_congr_left fun _ _ => rfl
    rw [e] at this
    exact this
  refine ⟨ys.map g, hy, hd, ?_⟩
  have hle := sorted_ones (ys.map g) (by rw [← hy]; exact hs)
  have hnd := (hd.nodup_iff).mpr nd
  have := hle.and hnd
  exact this.imp fun h => Nat.lt_of_le_of_ne h.1 h.2
theorem s_retJoinX {K : PySem.W.Frag} {σ : L2.St} {H : Hp} {D : Ends} {te : TE} (h : te σ H fun y H2 => rJoin K (.str (Str.ofString "")) [y] H2 D.rt) : tRet (tM1 (rJoin K) (tC (.str (Str.ofString ""))) te) D σ H := ⟨⟨_, rfl⟩, h⟩
def manyOf (r0 : Int) : Int := at0 [2, 2, 2, 2, 3, 3, 3, 1, 4, 5, 6, 2] r0.toNat
section
variable {P : Program} {w : World} {K : PySem.W.Frag} {mg : Str → Option Value} {base : Heap} {C_Cut : Addr}
def spSigns (K : PySem.W.Frag) : Sp := fun vs H Q _ => ∃ (a : Addr) (r : List Int), vs = [.ref a] ∧ SqL K H a (r.map V.int) ∧ r.length = 7 ∧ (0 ≤ at0 r 0 ∧ at0 r 0 < 12) ∧ ∀ al, Alf al → RetV (tx al) H Q
theorem has_signs (F : At K mg "_law_signs" s__law_signs) (T : Top K mg C_Cut) : Has P w K mg base "_law_signs" s__law_signs ["row"] 1 (spSigns K) := by
  obtain ⟨f, fd, F, m⟩ := F.ex
  refine ⟨f, fd, F, F.ok S__law_signs (fun vs H Q E h => ?_) (fun cdv A outer s H vs Q E hr h => ?_), F.binds fun _ _ _ _ _ _ us hl => match us, hl with | [_], _ => rfl, m, F.kp⟩
  · obtain ⟨a, r, rfl, _⟩ := h
    rfl
  obtain ⟨a, r, rfl, hR, hl, b0, q⟩ := h
  refine ⟨_, (pss_cons
    (ps_set (i := 1) S__law_signs.nd rfl (Or.inl rfl) (pe_ix (r := rIxL K) ix_list (pe_lst (pa_cons pe_int (pa_cons pe_int (pa_cons pe_int (pa_cons pe_int (pa_cons pe_int (pa_cons pe_int (pa_cons pe_int (pa_cons pe_int (pa_cons pe_int (pa_cons pe_int (pa_cons pe_int (pa_cons pe_int pa_nil))))))))))))) (pe_ix (r := rIxL K) ix_list (pv 0) pe_int (fun _ _ => rfl)) (fun _ _ => rfl)))
    (pss_cons
    (ps_set (i := 2) S__law_signs.nd rfl (Or.inl rfl) pe_str)
    (pss_cons
    (ps_set (i := 3) S__law_signs.nd rfl (Or.inl rfl) (pe_lst pa_nil))
    (pss_cons
    (ps_for PassesOwn.never rfl (pi_range1 rfl T.z_range (pa_cons (pv 1) pa_nil)) (pg_name (i := 4) S__law_signs.nd rfl (Or.inl rfl)) (pss_cons
    (ps_set (i := 5) S__law_signs.nd rfl (Or.inl rfl) (pe_op op_mod (pe_callTy call_int1 rfl T.z_int (by decide +kernel) (pa_cons (pe_ix (r := rIxL K) ix_list (pv 0) (pe_op op_add pe_int (pv 4)) (fun _ _ => rfl)) pa_nil)) pe_int))
    (pss_cons
    (ps_for PassesOwn.never rfl (pi_range1 rfl T.z_range (pa_cons pe_int pa_nil)) (pg_name (i := 6) S__law_signs.nd rfl (Or.inl rfl)) (pss_one
    (ps_if (pt_cmpR op_in_seq (pe_ix ix_str (pv 2) (pv 5) (fun _ _ => rfl)) (pv 3) rfl) (pss_one
    (ps_set (i := 5) S__law_signs.nd rfl (Or.inl rfl) (pe_op op_mod (pe_callTy call_int1 rfl T.z_int (by decide +kernel) (pa_cons (pe_op op_add (pv 5) pe_int) pa_nil)) pe_int))) pss_nil)))
    (pss_one
    (ps_expr (pe_bm PySem.F.plainAttrs_list PySem.F.slot_list_append PySem.F.type_list_append mt_append (pv 3) (pa_cons (pe_ix ix_str (pv 2) (pv 5) (fun _ _ => rfl)) pa_nil)))))))
    (pss_one
    (ps_ret (pe_join pe_str (pe_callB cr_sortedS rfl T.z_sorted (by decide +kernel) (pa_cons (pv 3) pa_nil))))))))), ?_⟩
  obtain ⟨i0, hi0, e0⟩ : ∃ i : Nat, i < 12 ∧ at0 r 0 = (i : Int) := ⟨(at0 r 0).toNat, by omega, by omega⟩
  have km : ∀ i : Nat, i < 12 → ∃ n : Nat, 1 ≤ n ∧ n ≤ 6 ∧ at0 [2, 2, 2, 2, 3, 3, 3, 1, 4, 5, 6, 2] i = (n : Int) := by
    intro i hi
    have k : ∀ i : Nat, i < 12 → 1 ≤ at0 [2, 2, 2, 2, 3, 3, 3, 1, 4, 5, 6, 2] i ∧ at0 [2, 2, 2, 2, 3, 3, 3, 1, 4, 5, 6, 2] i ≤ 6 := by decide +kernel
    obtain ⟨k1, k2⟩ := k i hi
    exact ⟨(at0 [2, 2, 2, 2, 3, 3, 3, 1, 4, 5, 6, 2] i).toNat, by omega, by omega, by omega⟩
  obtain ⟨n, n1, n6, en⟩ := km i0 hi0
  refine q_asg (v := .int (n : Int)) ?_ fun H1 e1 => ?_
  · refine ev_opL1 (xs := [2, 2, 2, 2, 3, 3, 3, 1, 4, 5, 6, 2].map V.int) (y := .int (i0 : Int)) (el_lst (ea_cons ev_c (ea_cons ev_c (ea_cons ev_c (ea_cons ev_c (ea_cons ev_c (ea_cons ev_c (ea_cons ev_c (ea_cons ev_c (ea_cons ev_c (ea_cons ev_c (ea_cons ev_c (ea_cons ev_c ea_nil)))))))))))) (by show 12 ≤ 100000; decide)) (fun H1 e1 => ev_is (ev_atI (ex_l e1 hR) (i := 0) (by omega) rfl (ev_var rfl) ev_c) (by rw [e0])) (fun p H3 h3 e3 => rv_ixL (sq_of h3) ?_)
    rw [← en]
    exact at_int (ns := [2, 2, 2, 2, 3, 3, 3, 1, 4, 5, 6, 2]) hi0
  refine q_asg (v := tx figs) (ev_is ev_c (by rw [figs_is])) fun H2 e2 => ?_
  refine q_asgL (xs := []) (el_lst ea_nil (by decide)) fun l H3 hl3 e3 g3 => ?_
  have e13 := (e1.trans e2).trans e3
  have hl0 : H l = none := fresh_back (e1.trans e2) hl3
  refine q_forR1 (ea_cons (ev_var rfl) ea_nil) (by omega) (fun i σ' H' => (∃ u4 u5 u6, σ' = [some (.ref a), some (.int (n : Int)), some (tx figs), some (.ref l), u4, u5, u6]) ∧ Ex H H' ∧ ∃ cs : List Nat, H' l = some (.lst (cs.map fun c => tx [c])) ∧ cs.length = i ∧ cs.Nodup ∧ ∀ c ∈ cs, c ∈ figs) ?_ ?_ ?_
  · intro H4 e4
    exact ⟨⟨none, none, none, rfl⟩, e13.trans e4, [], e4 _ _ g3, rfl, List.nodup_nil, fun c h => (by cases h)⟩
  · intro i σ' H' hi z
    obtain ⟨⟨u4, u5, u6, rfl⟩, e4, cs, g4, hcl, nd, sub⟩ := z
    have hi6 : i < 6 := by omega
    obtain ⟨a0, ha0, ea0⟩ : ∃ k : Nat, k < 36 ∧ at0 r (1 + i) % 36 = (k : Int) := ⟨(at0 r (1 + i) % 36).toNat, by omega, by omega⟩
    refine q_asg (v := .int (a0 : Int)) (ev_is (ev_mod (by decide) (ev_int (ev_atI (ex_l e4 hR) (i := 1 + i) (by omega) (by omega) (ev_var rfl) (ev_add ev_c (ev_var rfl)))) ev_c) (by rw [ea0])) fun H4 e5 => ?_
    have g5 := e5 _ _ g4
    refine q_forR1 (ea_cons ev_c ea_nil) (by decide) (fun t σ' H' => (∃ (k : Nat) (u6 : Option V), σ' = [some (.ref a), some (.int (n : Int)), some (tx figs), some (.ref l), some (.int (i : Int)), some (.int (k : Int)), u6] ∧ k < 36 ∧ (figs.getD k 0 ∉ cs ∨ k = (a0 + t) % 36 ∧ ∀ s, s < t → figs.getD ((a0 + s) % 36) 0 ∈ cs)) ∧ Ex H4 H') ?_ ?_ ?_
    · intro H5 e6
      exact ⟨⟨a0, u6, rfl, ha0, .inr ⟨by omega, fun s hs => absurd hs (Nat.not_lt_zero _)⟩⟩, e6⟩
    · intro t σ' H' ht z
      obtain ⟨⟨k, u6, rfl, hk, hz⟩, e6⟩ := z
      refine s_when (et_test (ev_op (ev_ixS (by decide) (figs_at hk) (ev_var rfl) (ev_var rfl)) (ev_var rfl) (rv_isL (sq_of (e6 _ _ g5)) rfl (flat_ones cs)))) (fun hb H5 e7 => ?_) (fun hb H5 e7 => ?_)
      · rw [inV_one] at hb
        have hin := of_decide_eq_true hb
        obtain ⟨k2, hk2, ek2⟩ : ∃ k2 : Nat, k2 < 36 ∧ ((k : Int) + 1) % 36 = (k2 : Int) := ⟨(k + 1) % 36, by omega, by omega⟩
        refine s_asg (v := .int (k2 : Int)) (ev_is (ev_mod (by decide) (ev_int (ev_add (ev_var rfl) ev_c)) ev_c) (by rw [ek2])) fun H6 e8 => ⟨⟨k2, _, rfl, hk2, ?_⟩, (e6.trans e7).trans e8⟩
        rcases hz with hz | ⟨hz1, hz2⟩
        · exact absurd hin hz
        · refine .inr ⟨by omega, fun s hs => ?_⟩
          by_cases c : s < t
          · exact hz2 s c
          · have : s = t := by omega
            rw [this, ← hz1]
            exact hin
      · rw [inV_one] at hb
        have hout := of_decide_eq_false hb
        exact ⟨⟨k, _, rfl, hk, .inl hout⟩, e6.trans e7⟩
    · intro σ' H' z
      obtain ⟨⟨k, u6, rfl, hk, hz⟩, e6⟩ := z
      have hout : figs.getD k 0 ∉ cs := by
        rcases hz with hz | ⟨_, hz2⟩
        · exact hz
        · exfalso
          have := nodup_sub figs cs figs_nd fun x hx => by
            obtain ⟨j, hj, ej⟩ := List.mem_iff_getElem.mp hx
            have hj36 : j < 36 := hj
            have h2 := hz2 ((j + 36 - a0) % 36) (by show _ < 36; omega)
            have e9 : (a0 + (j + 36 - a0) % 36) % 36 = j := by omega
            rw [e9, List.getD_eq_getElem?_getD, List.getElem?_eq_getElem hj] at h2
            rw [← ej]
            exact h2
          have h36 : figs.length = 36 := rfl
          omega
      refine s_app (e6 _ _ g5) (ev_var rfl) (ev_ixS (by decide) (figs_at hk) (ev_var rfl) (ev_var rfl)) (by rw [List.length_map]; omega) fun H5 e7 => ⟨⟨_, _, _, rfl⟩, ((e4.trans e5).trans (e6.trans e7)).mut hl0, cs ++ [figs.getD k 0], ?_, by rw [List.length_append, hcl]; rfl, List.nodup_append.mpr ⟨nd, by simp, fun x hx y hy e => hout (by rw [← List.mem_singleton.mp hy, ← e]; exact hx)⟩, fun c hc => ?_⟩
      · rw [List.map_append]
        exact upd_same
      · rcases List.mem_append.mp hc with hc | hc
        · exact sub c hc
        · rw [List.mem_singleton.mp hc]
          exact figs_mem hk
  · intro σ' H' z
    obtain ⟨⟨u4, u5, u6, rfl⟩, e4, cs, g4, hcl, nd, sub⟩ := z
    rw [Int.toNat_natCast] at hcl
    have hms : (cs.map fun c => tx [c]) = (cs.map fun c => SX.S [c]).map V.str := by
      rw [List.map_map]
      rfl
    refine s_retJoinX ⟨_, rfl, l, cs.map (fun c => SX.S [c]), rfl, sq_of (by rw [← hms]; exact g4), by rw [List.length_map]; omega, fun ys p hp hs hpn => ?_⟩
    rw [mt_is]
    obtain ⟨ds, rfl, hdp, hda⟩ := sorted_signs nd hp hs
    have hdl := hdp.length_eq
    have hA : Alf ds := ⟨hda, by omega, by omega, fun c hc => figs_let c (sub c (hdp.mem_iff.mp hc))⟩
    have ej : (ds.map fun c => SX.S [c]) = (ds.map fun c => [c]).map SX.S := by
      rw [List.map_map]
      rfl
    have hfl : (ds.map fun c => [c]).flatten.length ≤ 100000 := by
      rw [flat_sing]
      omega
    refine join_ok (ps := ds.map fun c => [c]) (K := K) (.inl (sq_of (by rw [map_tx, ← ej]; exact upd_same))) hfl ?_
    rw [flat_sing]
    exact q ds hA _ (e4.trans (Ex.new hpn))
theorem Alf.ex {al : List Nat} (h : Alf al) (i : Nat) : al[i % al.length]? = some (al.getD (i % al.length) 0) ∧ al.getD (i % al.length) 0 ∈ al := by
  have hl : i % al.length < al.length := Nat.mod_lt _ h.pos
  have e : al[i % al.length]? = some (al.getD (i % al.length) 0) := by
    rw [List.getD_eq_getElem?_getD, List.getElem?_eq_getElem hl]
    rfl
  exact ⟨e, List.mem_of_getElem? e⟩
/-! ### _law_free_word -/
def fwF (al : List Nat) (r : List Int) (k : Nat) : Nat := al.getD (at0 r k % (al.length : Int)).toNat 0
def fwL (al : List Nat) (r : List Int) (n : Nat) : List Nat := (List.range n).map (fwF al r)
def spFw (K : PySem.W.Frag) : Sp := fun vs H Q _ => ∃ (al : List Nat) (a : Addr) (r : List Int) (n : Nat), vs = [tx al, .ref a, .int (n : Int)] ∧ Alf al ∧ SqL K H a (r.map V.int) ∧ n ≤ r.length ∧ n ≤ 400 ∧ RetV (tx (fwL al r n)) H Q
theorem int_mod {x : Int} {n : Nat} (hn : 0 < n) : ∃ k : Nat, k < n ∧ x % (n : Int) = (k : Int) := by
  have h1 := Int.emod_nonneg x (show (n : Int) ≠ 0 by omega)
  have h2 := Int.emod_lt_of_pos x (show 0 < (n : Int) by omega)
  exact ⟨(x % (n : Int)).toNat, by omega, by omega⟩
theorem fwF_ok {al : List Nat} (h : Alf al) (r : List Int) (k : Nat) : fwF al r k ∈ al ∧ ∃ i : Nat, at0 r k % (al.length : Int) = (i : Int) ∧ al[i]? = some (fwF al r k) := by
  obtain ⟨i, hi, e⟩ := int_mod (x := at0 r k) h.pos
  have e2 : fwF al r k = al.getD i 0 := by
    unfold fwF
    rw [e, Int.toNat_natCast]
  have e3 : al[i]? = some (al.getD i 0) := by
    rw [List.getD_eq_getElem?_getD, List.getElem?_eq_getElem hi]
    rfl
  rw [e2]
  exact ⟨List.mem_of_getElem? e3, i, e, e3⟩
theorem has_fw (F : At K mg "_law_free_word" s__law_free_word) (T : Top K mg C_Cut) : Has P w K mg base "_law_free_word" s__law_free_word ["signs", "row", "many"] 1 (spFw K) := by
  obtain ⟨f, fd, F, m⟩ := F.ex
  refine ⟨f, fd, F, F.ok S__law_free_word (fun vs H Q E h => ?_) (fun cdv A outer s H vs Q E hr h => ?_), F.binds fun _ _ _ _ _ _ us hl => match us, hl with | [_, _, _], _ => rfl, m, F.kp⟩
  · obtain ⟨al, a, r, n, rfl, _⟩ := h
    rfl
  obtain ⟨al, a, r, n, rfl, hA, hR, hn, hz, q⟩ := h
  refine ⟨_, (pss_one
    (ps_ret (pe_join pe_str (pe_lc (own := [("k", 3)]) (g := gName 3) (tt := tYes) rfl S__law_free_word.nd (pi_range1 rfl T.z_range (pa_cons (pv 2) pa_nil)) (blkOk_by (N := N__law_free_word) (sc := defScope s__law_free_word) (by decide +kernel)) (fun _ _ _ _ _ => pg_name (i := 3) S__law_free_word.nd rfl (Or.inl rfl)) (fun _ _ _ _ _ => pts_nil) (fun _ _ _ _ _ => (pe_ix ix_str (pv 0) (pe_op op_mod (pe_callTy call_int1 rfl T.z_int (by decide +kernel) (pa_cons (pe_ix (r := rIxL K) ix_list (pv 1) (pv 3) (fun _ _ => rfl)) pa_nil)) (pe_callB call_len_str rfl T.z_len PySem.boot_len (pa_cons (pv 0) pa_nil))) (fun _ _ => rfl))))))), ?_⟩
  have h6 := hA.six
  have efl : ((List.range n).map fun k => [fwF al r k]).flatten = fwL al r n := by
    rw [show (fun k => [fwF al r k]) = (fun c => [c]) ∘ fwF al r from rfl, ← List.map_map, flat_sing]
    rfl
  refine s_ret (v := tx (fwL al r n)) (ev_is (ev_joinL (ps := (List.range n).map fun k => [fwF al r k]) (ev_is ev_c (by rw [mt_is])) ?_ ?_) (by rw [efl])) q
  · have g := el_lcR1 (j := 3) (vs := [3]) (σ := [some (tx al), some (.ref a), some (.int (n : Int)), none]) (H := H) (ta := tCons (tVar 2) tNil) (n := (n : Int)) (t := tYes) (fun _ => true) (fun i => tx [fwF al r i])
      (te := tOp rIxS (tVar 0) (tOp (rI (fun _ j => 0 < j) fun i j => .int (i % j)) (tCB (fun xs H Q => (∃ i, xs = [V.int i] ∧ Q (V.int i) H) ∨ ∃ k, xs = [V.bl k] ∧ Q (V.int (if k = true then 1 else 0)) H) (tCons (tOp (rIxL K) (tVar 1) (tVar 3)) tNil)) (tCB (fun vs H Q => ∃ z : Str, vs = [.str z] ∧ z.length ≤ sizeLine ∧ Q (.int (z.length : Int)) H) (tCons (tVar 0) tNil))))
      (ea_cons (ev_var rfl) ea_nil) (by omega) (fun x => rfl) (fun i H1 e1 hi => et_yes) (fun i H1 e1 hi _ => ?_)
    · rw [Int.toNat_natCast, given_all] at g
      rw [List.map_map]
      exact g
    · obtain ⟨_, k, ek, hk⟩ := fwF_ok hA r i
      exact ev_ixS (i := k) (by omega) hk (ev_var rfl) (ev_is (ev_mod (j := (al.length : Int)) (by have := hA.pos; omega) (ev_int (ev_at (ex_l e1 hR) (by omega) (ev_var rfl) (ev_var rfl))) (ev_lenS (by omega) (ev_var rfl))) (by rw [ek]))
  · rw [efl]
    unfold fwL
    rw [List.length_map, List.length_range]
    omega
theorem fwL_len {al : List Nat} {r : List Int} {n : Nat} : (fwL al r n).length = n := by
  unfold fwL
  rw [List.length_map, List.length_range]
theorem fwL_over {al : List Nat} (h : Alf al) {r : List Int} {n : Nat} : ∀ c ∈ fwL al r n, c ∈ al := fun c hc => by
  obtain ⟨k, _, rfl⟩ := List.mem_map.mp hc
  exact (fwF_ok h r k).1
theorem sv_fw {al : List Nat} {a : Addr} {r : List Int} {n : Nat} {H : Hp} (hA : Alf al) (hR : SqL K H a (r.map V.int)) (hn : n ≤ r.length) (hz : n ≤ 400) : SpV (spFw K) ([tx al, .ref a, .int (n : Int)] ++ []) H (tx (fwL al r n)) := fun _ e _ q _ => ⟨al, a, r, n, rfl, hA, ex_l e hR, hn, hz, q⟩
end
end Ver
namespace Ver
open PySem PySem.Spec PyProof.Rows L2 Evl
theorem flat_len {gs : List (List Nat)} {n : Nat} (h : ∀ g ∈ gs, g.length = n) : gs.flatten.length = gs.length * n := by
  induction gs with
  | nil => simp
  | cons g r ih =>
    rw [List.flatten_cons, List.length_append, ih fun x hx => h x (List.mem_cons_of_mem _ hx), h g (List.mem_cons_self ..), List.length_cons, Nat.add_mul, Nat.one_mul, Nat.add_comm]
theorem flat_over {al : List Nat} {gs : List (List Nat)} (h : ∀ g ∈ gs, ∀ c ∈ g, c ∈ al) : ∀ c ∈ gs.flatten, c ∈ al := fun c hc => by
  obtain ⟨g, hg, hc2⟩ := List.mem_flatten.mp hc
  exact h g hg c hc2
theorem mul_le_of {a b c : Nat} (hb : 1 ≤ b) (h : a * b ≤ c) : a ≤ c := by
  have : a * 1 ≤ a * b := Nat.mul_le_mul_left _ hb
  omega
section
variable {P : Program} {w : World} {K : PySem.W.Frag} {mg : Str → Option Value} {base : Heap} {C_Cut : Addr}
section
variable {σ : L2.St} {H : Hp} {ta tb tl te : TE} {tz : TS} {D : Ends}
theorem el_catR {xs ys : List V} {a : Addr} (ha : Ev ta σ H (.ref a)) (hx : H a = some (.lst xs)) (hb : EvL tb σ H ys) (hz : xs.length + ys.length ≤ 100000) : EvL (tOp rCat ta tb) σ H (xs ++ ys) := fun H1 e Q q =>
  ha H1 e _ fun H2 e2 => hb H2 (e.trans e2) _ fun p2 H3 hp2 e3 h3 =>
    ⟨a, p2, xs, ys, rfl, rfl, ((e.trans e2).trans e3) _ _ hx, h3, sz_of hz, fun l hl => q l _ (fresh_back (e2.trans e3) hl) ((e2.trans e3).trans (Ex.new hl)) upd_same⟩
theorem s_retCall {sp : Sp} {tp : TA} {vs dvs : List V} {E : XK} (h : EvA tp σ H vs) (k : ∀ H1, Ex H H1 → sp (vs ++ dvs) H1 (fun x H2 => D.rt x H2) E) : tRet (tCall sp dvs E tp) D σ H := h H (Ex.refl H) _ k
end
/-! ### _law_counting_word -/
def spCw : Sp := fun vs H Q _ => ∃ (al : List Nat) (m : Nat), vs = [tx al, .int (m : Int)] ∧ Alf al ∧ m ≤ 400 ∧ ∀ v, Word al m v → RetV (tx v) H Q
theorem has_cw (F : At K mg "_law_counting_word" s__law_counting_word) (T : Top K mg C_Cut) : Has P w K mg base "_law_counting_word" s__law_counting_word ["signs", "many"] 1 spCw := by
  obtain ⟨f, fd, F, m⟩ := F.ex
  refine ⟨f, fd, F, F.ok S__law_counting_word (fun vs H Q E h => ?_) (fun cdv A outer s H vs Q E hr h => ?_), F.binds fun _ _ _ _ _ _ us hl => match us, hl with | [_, _], _ => rfl, m, F.kp⟩
  · obtain ⟨al, n, rfl, _⟩ := h
    rfl
  obtain ⟨al, n, rfl, hA, hn, q⟩ := h
  refine ⟨_, (pss_cons
    (ps_set (i := 2) S__law_counting_word.nd rfl (Or.inl rfl) pe_str)
    (pss_cons
    (ps_set (i := 3) S__law_counting_word.nd rfl (Or.inl rfl) (pe_lst (pa_cons pe_str pa_nil)))
    (pss_cons
    (ps_for PassesOwn.never rfl (pi_range1 rfl T.z_range (pa_cons pe_int pa_nil)) (pg_name (i := 4) S__law_counting_word.nd rfl (Or.inl rfl)) (pss_cons
    (ps_if (pt_cmpR op_ge (pe_callB call_len_str rfl T.z_len PySem.boot_len (pa_cons (pv 2) pa_nil)) (pv 1) (nomark _)) (pss_one
    ps_break) pss_nil)
    (pss_cons
    (ps_set (i := 5) S__law_counting_word.nd rfl (Or.inl rfl) (pe_lst pa_nil))
    (pss_cons
    (ps_for PassesOwn.never rfl (pi_list (pv 3)) (pg_name (i := 6) S__law_counting_word.nd rfl (Or.inr rfl)) (pss_one
    (ps_if (pt_cmpR op_lt (pe_op op_add (pe_callB call_len_str rfl T.z_len PySem.boot_len (pa_cons (pv 2) pa_nil)) (pe_op op_mul (pe_callB call_len_seq rfl T.z_len PySem.boot_len (pa_cons (pv 5) pa_nil)) (pe_op op_add (pe_callB call_len_str rfl T.z_len PySem.boot_len (pa_cons (pv 6) pa_nil)) pe_int))) (pe_op op_add (pv 1) (pe_op op_mul pe_int (pe_op op_add (pe_callB call_len_str rfl T.z_len PySem.boot_len (pa_cons (pv 6) pa_nil)) pe_int))) (nomark _)) (pss_one
    (ps_set (i := 5) S__law_counting_word.nd rfl (Or.inl rfl) (pe_op op_cat (pv 5) (pe_lc (own := [("letter", 7)]) (g := gName 7) (tt := tYes) rfl S__law_counting_word.nd (pi_str (pv 0)) (blkOk_by (N := N__law_counting_word) (sc := defScope s__law_counting_word) (by decide +kernel)) (fun _ _ _ _ _ => pg_name (i := 7) S__law_counting_word.nd rfl (Or.inl rfl)) (fun _ _ _ _ _ => pts_nil) (fun _ _ _ _ _ => (pe_op op_add_str (pv 6) (pv 7))))))) pss_nil)))
    (pss_cons
    (ps_set (i := 2) S__law_counting_word.nd rfl (Or.inl rfl) (pe_op op_add_str (pv 2) (pe_join pe_str (pv 5))))
    (pss_one
    (ps_set (i := 3) S__law_counting_word.nd rfl (Or.inl rfl) (pe_callTy call_list_of rfl T.z_list (by decide +kernel) (pa_cons (pv 5) pa_nil)))))))))
    (pss_one
    (ps_ret (pe_slice sl_str (pv 2) po_none (po_some (pv 1)))))))), ?_⟩
  have h6 := hA.six
  refine q_asg (v := tx []) (ev_is ev_c (by rw [mt_is])) fun H1 e1 => ?_
  refine q_asgL (xs := [tx []]) (el_lst (ea_cons (ev_is ev_c (by rw [mt_is])) ea_nil) (by show 1 ≤ 100000; decide)) fun s0 H2 hs0 e2 g2 => ?_
  have e12 := e1.trans e2
  have fin : ∀ (σ' : L2.St) (H' : Hp) (v : List Nat) (u3 u4 u5 u6 u7 : Option V), σ' = [some (tx al), some (.int (n : Int)), some (tx v), u3, u4, u5, u6, u7] → (∀ c ∈ v, c ∈ al) → v.length ≤ 6000 → Ex H H' →
      tRet (tSl rSlS (tVar 2) tNoPart (tPart (tVar 1))) { nx := fun x H' => Q V.non H', rt := Q } σ' H' := by
    intro σ' H' v u3 u4 u5 u6 u7 hσ ho hz e
    subst hσ
    exact s_ret (ev_slS (by omega) (ev_var rfl) eo_none (eo_some (i := (n : Int)) (ev_var rfl))) fun H3 e3 => q _ (Word.cut ho (Nat.le_refl _)) H3 (e.trans e3)
  refine q_forR1 (ea_cons ev_c ea_nil) (by decide) (fun t σ' H' => ∃ (v : List Nat) (s1 : Addr) (ss : List (List Nat)) (u4 u5 u6 u7 : Option V), σ' = [some (tx al), some (.int (n : Int)), some (tx v), some (.ref s1), u4, u5, u6, u7] ∧ Ex H H' ∧ (∀ c ∈ v, c ∈ al) ∧ v.length ≤ 6000 ∧ H' s1 = some (.lst (ss.map tx)) ∧
    (∀ s ∈ ss, s.length = t ∧ ∀ c ∈ s, c ∈ al) ∧ ss.length ≤ 1000) ?_ ?_ ?_
  · intro H3 e3
    refine ⟨[], s0, [[]], none, none, none, none, rfl, e12.trans e3, fun c h => (by cases h), Nat.zero_le _, e3 _ _ g2, fun s hs => ?_, by show 1 ≤ 1000; decide⟩
    rw [List.mem_singleton.mp hs]
    exact ⟨rfl, fun c h => (by cases h)⟩
  · intro t σ' H' ht z
    obtain ⟨v, s1, ss, u4, u5, u6, u7, rfl, e3, vo, vz, g3, sf, sz⟩ := z
    have ht4 : t < 400 := by
      have : (t : Int) < 400 := ht
      omega
    refine q_when (et_ge (ev_lenS (by omega) (ev_var rfl)) (ev_var rfl)) (fun hb H3 e4 => ?_) (fun hb H3 e4 => ?_)
    · exact fin _ H3 v _ _ _ _ _ rfl vo vz (e3.trans e4)
    · have hvn : v.length < n := by
        have := of_decide_eq_false hb
        omega
      refine q_asgL (xs := ([] : List (List Nat)).map tx) (el_lst ea_nil (by decide)) fun g0 H4 hg0 e5 g4 => ?_
      have e34 := e4.trans e5
      refine q_forLn (ev_var rfl) (sq_of (e34 _ _ g3)) (fun i σ' H' => ∃ (g : Addr) (gs : List (List Nat)) (u6 u7 : Option V), σ' = [some (tx al), some (.int (n : Int)), some (tx v), some (.ref s1), some (.int (t : Int)), some (.ref g), u6, u7] ∧ Ex H H' ∧ H' s1 = some (.lst (ss.map tx)) ∧ H' g = some (.lst (gs.map tx)) ∧
        (∀ s ∈ gs, s.length = t + 1 ∧ ∀ c ∈ s, c ∈ al) ∧ gs.length * (t + 1) ≤ n + 12 * (t + 1)) ?_ ?_ ?_ ?_
      · intro H5 e6
        exact ⟨g0, [], u6, u7, rfl, (e3.trans e34).trans e6, e6 _ _ (e34 _ _ g3), e6 _ _ g4, fun s h => (by cases h), by show 0 * _ ≤ _; omega⟩
      · intro i σ' H' _ z
        obtain ⟨g, gs, u6, u7, rfl, e6, k1, _⟩ := z
        exact sq_of k1
      · intro i x σ' H' hx z
        obtain ⟨g, gs, u6, u7, rfl, e6, k1, k2, k3, k4⟩ := z
        rw [List.getElem?_map] at hx
        cases hp : ss[i]? with
        | none =>
          rw [hp] at hx
          cases hx
        | some st =>
        rw [hp] at hx
        cases hx
        obtain ⟨hsl, hso⟩ := sf st (List.mem_of_getElem? hp)
        have hgl : gs.length ≤ 5200 := Nat.le_trans (mul_le_of (by omega) k4) (by omega)
        refine s_when (et_lt (ev_add (ev_lenS (by omega) (ev_var rfl)) (ev_mulL (i := (gs.length : Int)) (by omega) (by omega) (ev_is (ev_cb (ea_cons (ev_var rfl) ea_nil) (rc_lenL (sq_of k2))) (by rw [List.length_map])) (ev_add (ev_lenS (l := st) (by omega) (ev_var rfl)) ev_c))) (ev_add (ev_var rfl) (ev_mulL (by decide) (by decide) ev_c (ev_add (ev_lenS (l := st) (by omega) (ev_var rfl)) ev_c)))) (fun hb H5 e7 => ?_) (fun hb H5 e7 => ?_)
        · have c := of_decide_eq_true hb
          rw [hsl] at c
          have em : (gs.length : Int) * ((t : Int) + 1) = ((gs.length * (t + 1) : Nat) : Int) := by
            rw [Int.natCast_mul, Int.natCast_add]
            rfl
          rw [em] at c
          have c2 : gs.length * (t + 1) < n + 6 * (t + 1) := by omega
          have hnew : (gs.length + al.length) * (t + 1) ≤ n + 12 * (t + 1) := by
            rw [Nat.add_mul]
            have : al.length * (t + 1) ≤ 6 * (t + 1) := Nat.mul_le_mul_right _ h6
            omega
          refine s_asgL (xs := (gs ++ al.map fun d => st ++ [d]).map tx) ?_ fun g' H6 hg' e8 k5 => ⟨g', gs ++ al.map (fun d => st ++ [d]), _, _, rfl, (e6.trans e7).trans e8, e8 _ _ (e7 _ _ k1), k5, fun s hs => ?_, by rw [List.length_append, List.length_map]; exact hnew⟩
          · rw [List.map_append, List.map_map]
            refine el_catR (ev_var rfl) (e7 _ _ k2) (el_lcS (x := al) (j := 7) (vs := [7]) (fun d => tx (st ++ [d])) (ev_var rfl) (by omega) (fun a => rfl) (fun i d H1 e9 hd => ?_)) (by rw [List.length_map, List.length_map]; omega)
            exact ev_catS (b := [d]) (by show st.length + 1 ≤ 100000; omega) (ev_var rfl) (ev_var rfl)
          · rcases List.mem_append.mp hs with hs | hs
            · exact k3 s hs
            · obtain ⟨d, hd, rfl⟩ := List.mem_map.mp hs
              refine ⟨by rw [List.length_append, hsl]; rfl, over_app hso fun c hc => ?_⟩
              rw [List.mem_singleton.mp hc]
              exact hd
        · exact ⟨g, gs, _, _, rfl, e6.trans e7, e7 _ _ k1, e7 _ _ k2, k3, k4⟩
      · intro σ' H' z
        obtain ⟨g, gs, u6, u7, rfl, e6, k1, k2, k3, k4⟩ := z
        have hfl := flat_len fun s hs => (k3 s hs).1
        have hfl2 : gs.flatten.length ≤ 400 + 12 * 400 := by
          rw [hfl]
          omega
        have hgl : gs.length ≤ 1000 := by
          by_cases c : t + 1 ≤ 12
          · -- few letters: bounded by the words
            have h2 : gs.length * 1 ≤ gs.length * (t + 1) := Nat.mul_le_mul_left _ (by omega)
            omega
          · have h2 : gs.length * 12 ≤ gs.length * (t + 1) := Nat.mul_le_mul_left _ (by omega)
            omega
        refine q_asg (v := tx (v ++ gs.flatten)) (ev_catS (by omega) (ev_var rfl) (ev_join (ev_is ev_c (by rw [mt_is])) (ev_var rfl) (.inl (sq_of k2)) (by omega))) fun H5 e7 => ?_
        refine s_asgL (el_cb (ea_cons (ev_var rfl) ea_nil) (rcl_list (sq_of (e7 _ _ k2)))) fun s2 H6 hs2 e8 k6 => ?_
        exact ⟨v ++ gs.flatten, s2, gs, _, _, _, _, rfl, (e6.trans e7).trans e8, over_app vo (flat_over fun s hs => (k3 s hs).2), by rw [List.length_append]; omega, k6, k3, hgl⟩
  · intro σ' H' z
    obtain ⟨v, s1, ss, u4, u5, u6, u7, rfl, e3, vo, vz, g3, sf, sz⟩ := z
    exact fin _ H' v _ _ _ _ _ rfl vo vz e3
end
end Ver
namespace Ver
/-! ### words whose beginnings stand ahead of them are cut into themselves -/
/-- every word is new, not empty, and each of its beginnings that is not empty stands ahead -/
structure Closed (ws : List (List Nat)) : Prop where
  nd : ws.Nodup
  ne : ∀ x ∈ ws, x ≠ []
  beg : ∀ (i : Nat) (x : List Nat), ws[i]? = some x → ∀ y z, x = y ++ z → z ≠ [] → y = [] ∨ y ∈ ws.take i
theorem Closed.take {ws : List (List Nat)} (h : Closed ws) (n : Nat) : Closed (ws.take n) := by
  refine ⟨h.nd.sublist (List.take_sublist n ws), fun x hx => h.ne x (List.mem_of_mem_take hx), fun i x hx y z e hz => ?_⟩
  have hi : i < n := by
    have := (List.getElem?_eq_some_iff.mp hx).1
    rw [List.length_take] at this
    omega
  rw [List.getElem?_take, if_pos hi] at hx
  rw [List.take_take, Nat.min_eq_left (by omega)]
  exact h.beg i x hx y z e hz
/-- read on through pieces that are there -/
theorem cut_known {al : List Nat} {ps : List (List Nat)} {v : List Nat} (hv : ∀ c ∈ v, c ∈ al) (hp : pcs (cutW v).1 = ps) (h0 : (cutW v).2 = 0) (x : List Nat) (hx : ∀ y z, x = y ++ z → y ∈ ps) (ho : ∀ c ∈ x, c ∈ al) :
    (cutW (v ++ x)).1 = (cutW v).1 ∧ ps.getD (cutW (v ++ x)).2 [] = x ∧ (cutW (v ++ x)).2 ≤ (cutW v).1.length := by
  induction x using snoc_ind with
  | h0 =>
    rw [List.append_nil, h0]
    refine ⟨rfl, ?_, Nat.zero_le _⟩
    rw [← hp]
    exact pcs_zero _
  | hs x c ih =>
    obtain ⟨i1, i2, i3⟩ := ih (fun y z e => hx y (z ++ [c]) (by rw [e, List.append_assoc])) (fun d hd => ho d (List.mem_append_left _ hd))
    rw [← List.append_assoc, cut_snoc]
    generalize cutW (v ++ x) = st at i1 i2 i3 ⊢
    obtain ⟨rs, cur⟩ := st
    have i1 : rs = (cutW v).1 := i1
    rw [← i1] at hp i3
    have ok : RowsOk al (cutW v).1 := (cut_ok (al := al) v hv).ok
    rw [← i1] at ok
    obtain ⟨nd, rows, ex⟩ := pcs_facts rs ok
    have hin : (pcs rs).getD cur [] ++ [c] ∈ pcs rs := by
      have i2 : ps.getD cur [] = x := i2
      rw [hp, i2]
      exact hx (x ++ [c]) [] (by simp)
    have hm : (cur, c) ∈ rs := (ex cur c i3).mp hin
    have es : cutStep (rs, cur) c = (rs, rs.idxOf (cur, c) + 1) := if_pos hm
    rw [es]
    obtain ⟨h1, h2⟩ := idx_row hm
    refine ⟨i1, ?_, ?_⟩
    · show ps.getD (rs.idxOf (cur, c) + 1) [] = x ++ [c]
      have i2 : ps.getD cur [] = x := i2
      rw [← hp, rows _ cur c h2, hp, i2]
    · rw [← i1]
      exact h1
theorem cut_words {al : List Nat} : ∀ ws : List (List Nat), Closed ws → (∀ x ∈ ws, ∀ c ∈ x, c ∈ al) → pcs (cutW ws.flatten).1 = [] :: ws ∧ (cutW ws.flatten).2 = 0 := by
  intro ws
  induction ws using snoc_ind with
  | h0 =>
    intro _ _
    exact ⟨rfl, rfl⟩
  | hs ws x ih =>
    intro hc ho
    have hc2 : Closed ws := by
      have := hc.take ws.length
      rw [List.take_append_of_le_length (Nat.le_refl _), List.take_length] at this
      exact this
    obtain ⟨i1, i2⟩ := ih hc2 fun y hy => ho y (List.mem_append_left _ hy)
    have hlast : (ws ++ [x])[ws.length]? = some x := by simp
    have hxne := hc.ne x (List.mem_append_right _ (List.mem_singleton.mpr rfl))
    have hnew : x ∉ ws := fun hm => by
      have := (List.nodup_append.mp hc.nd).2.2 x hm x (List.mem_singleton.mpr rfl)
      exact this rfl
    have ex := (List.dropLast_concat_getLast hxne).symm
    have ov : ∀ c ∈ ws.flatten, c ∈ al := fun c hcm => by
      obtain ⟨y, hy, hcy⟩ := List.mem_flatten.mp hcm
      exact ho y (List.mem_append_left _ hy) c hcy
    have ox : ∀ c ∈ x, c ∈ al := ho x (List.mem_append_right _ (List.mem_singleton.mpr rfl))
    generalize x.dropLast = y at ex
    generalize x.getLast hxne = d at ex
    have hkn : ∀ a b, y = a ++ b → a ∈ [] :: ws := fun a b e => by
      have := hc.beg ws.length x hlast a (b ++ [d]) (by rw [ex, e, List.append_assoc]) (by simp)
      rcases this with h | h
      · rw [h]
        exact List.mem_cons_self ..
      · rw [List.take_append_of_le_length (Nat.le_refl _), List.take_length] at h
        exact List.mem_cons_of_mem _ h
    obtain ⟨k1, k2, k3⟩ := cut_known ov i1 i2 y hkn (fun c hcm => ox c (by rw [ex]; exact List.mem_append_left _ hcm))
    have ef : (ws ++ [x]).flatten = (ws.flatten ++ y) ++ [d] := by
      rw [List.flatten_append, ex]
      simp
    rw [ef, cut_snoc]
    have ok : RowsOk al (cutW ws.flatten).1 := (cut_ok (al := al) _ ov).ok
    generalize cutW (ws.flatten ++ y) = st at k1 k2 k3 ⊢
    obtain ⟨rs, cur⟩ := st
    have k1 : rs = (cutW ws.flatten).1 := k1
    rw [← k1] at i1 ok k3
    obtain ⟨nd, rows, exx⟩ := pcs_facts rs ok
    have k2 : (pcs rs).getD cur [] = y := by
      rw [i1]
      exact k2
    have hout : (cur, d) ∉ rs := fun hm => by
      have := (exx cur d k3).mpr hm
      rw [k2, ← ex, i1] at this
      rcases List.mem_cons.mp this with h | h
      · exact hxne h
      · exact hnew h
    have es : cutStep (rs, cur) d = (rs ++ [(cur, d)], 0) := if_neg hout
    rw [es]
    refine ⟨?_, rfl⟩
    show pcs (rs ++ [(cur, d)]) = [] :: (ws ++ [x])
    rw [pcs_snoc]
    show pcs rs ++ [(pcs rs).getD cur [] ++ [d]] = _
    rw [k2, ← ex, i1]
    rfl
/-- how many pieces a beginning has: the words that are whole -/
theorem cut_begin {al : List Nat} {ws : List (List Nat)} (hc : Closed ws) (ho : ∀ x ∈ ws, ∀ c ∈ x, c ∈ al) {m n : Nat} (hm : m < ws.length) (h1 : (ws.take m).flatten.length ≤ n) (h2 : n < (ws.take (m + 1)).flatten.length) :
    (cutW (ws.flatten.take n)).1.length = m := by
  have hcm := hc.take m
  have hom : ∀ x ∈ ws.take m, ∀ c ∈ x, c ∈ al := fun x hx => ho x (List.mem_of_mem_take hx)
  obtain ⟨i1, i2⟩ := cut_words (al := al) (ws.take m) hcm hom
  have et : ws.take (m + 1) = ws.take m ++ [ws[m]] := by
    rw [List.take_add_one, List.getElem?_eq_getElem hm]
    rfl
  have ew : ws.flatten.take n = (ws.take m).flatten ++ ws[m].take (n - (ws.take m).flatten.length) := by
    have e0 : ws = ws.take m ++ (ws[m] :: ws.drop (m + 1)) := by
      rw [← List.drop_eq_getElem_cons hm, List.take_append_drop]
    conv => lhs; rw [e0, List.flatten_append, List.flatten_cons]
    rw [List.take_append, List.take_of_length_le h1, List.take_append]
    have hle : n - (ws.take m).flatten.length - ws[m].length = 0 := by
      rw [et, List.flatten_append, List.length_append] at h2
      have : [ws[m]].flatten.length = ws[m].length := by simp
      omega
    rw [hle, List.take_zero, List.append_nil]
  have hx : ∀ y z, ws[m].take (n - (ws.take m).flatten.length) = y ++ z → y ∈ [] :: ws.take m := fun y z e => by
    have hlt : n - (ws.take m).flatten.length < ws[m].length := by
      rw [et, List.flatten_append, List.length_append] at h2
      have : [ws[m]].flatten.length = ws[m].length := by simp
      omega
    have e2 : ws[m] = y ++ (z ++ ws[m].drop (n - (ws.take m).flatten.length)) := by
      rw [← List.append_assoc, ← e, List.take_append_drop]
    have hz : z ++ ws[m].drop (n - (ws.take m).flatten.length) ≠ [] := fun q => by
      have := congrArg List.length q
      rw [List.length_append, List.length_drop, List.length_nil] at this
      omega
    rcases hc.beg m ws[m] (List.getElem?_eq_getElem hm) y _ e2 hz with h | h
    · rw [h]
      exact List.mem_cons_self ..
    · exact List.mem_cons_of_mem _ h
  have ov : ∀ c ∈ (ws.take m).flatten, c ∈ al := fun c hcm => by
    obtain ⟨y, hy, hcy⟩ := List.mem_flatten.mp hcm
    exact hom y hy c hcy
  obtain ⟨k1, _, _⟩ := cut_known ov i1 i2 _ hx (fun c hcm => ho _ (List.getElem_mem hm) c (List.mem_of_mem_take hcm))
  rw [ew, k1]
  have := congrArg List.length i1
  rw [pcs_len, List.length_cons, List.length_take] at this
  omega
end Ver
namespace Ver
/-! ### all words that are not empty, in order -/
def nxtN (al : List Nat) (v : List Nat) : List (List Nat) := al.map fun c => v ++ [c]
def levN (al : List Nat) : Nat → List (List Nat)
  | 0 => [[]]
  | t + 1 => (levN al t).flatMap (nxtN al)
def wo (al : List Nat) : Nat → List (List Nat)
  | 0 => []
  | n + 1 => wo al n ++ levN al (n + 1)
theorem levN_word {al : List Nat} : ∀ t, ∀ v ∈ levN al t, v.length = t ∧ ∀ c ∈ v, c ∈ al
  | 0, v, h => by
    rw [List.mem_singleton.mp h]
    exact ⟨rfl, fun c h => (by cases h)⟩
  | t + 1, v, h => by
    obtain ⟨x, hx, hv⟩ := List.mem_flatMap.mp h
    obtain ⟨c, hc, rfl⟩ := List.mem_map.mp hv
    obtain ⟨h1, h2⟩ := levN_word t x hx
    refine ⟨by rw [List.length_append, h1]; rfl, fun d hd => ?_⟩
    rcases List.mem_append.mp hd with hd | hd
    · exact h2 d hd
    · rw [List.mem_singleton.mp hd]
      exact hc
theorem levN_all {al : List Nat} (v : List Nat) (h : ∀ c ∈ v, c ∈ al) : v ∈ levN al v.length := by
  induction v using snoc_ind with
  | h0 => exact List.mem_singleton.mpr rfl
  | hs v c ih =>
    have h1 := ih fun d hd => h d (List.mem_append_left _ hd)
    rw [List.length_append]
    show v ++ [c] ∈ (levN al v.length).flatMap (nxtN al)
    exact List.mem_flatMap.mpr ⟨v, h1, List.mem_map.mpr ⟨c, h c (List.mem_append_right _ (List.mem_singleton.mpr rfl)), rfl⟩⟩
theorem levN_len {al : List Nat} : ∀ t, (levN al t).length = al.length ^ t
  | 0 => rfl
  | t + 1 => by
    have h : ∀ l : List (List Nat), (l.flatMap (nxtN al)).length = l.length * al.length := by
      intro l
      induction l with
      | nil => simp
      | cons a r ih =>
        rw [List.flatMap_cons, List.length_append, ih]
        unfold nxtN
        rw [List.length_map, List.length_cons, Nat.add_mul, Nat.one_mul, Nat.add_comm]
    show ((levN al t).flatMap (nxtN al)).length = _
    rw [h, levN_len t, Nat.pow_succ]
theorem levN_nd {al : List Nat} (nd : al.Nodup) : ∀ t, (levN al t).Nodup
  | 0 => by simp [levN]
  | t + 1 => by
    show ((levN al t).flatMap (nxtN al)).Pairwise (· ≠ ·)
    rw [List.pairwise_flatMap]
    refine ⟨fun x _ => ?_, ?_⟩
    · unfold nxtN
      refine List.pairwise_map.mpr (nd.imp fun {a b} h e => h ?_)
      have := (List.append_inj' e rfl).2
      exact (List.cons.inj this).1
    · refine (levN_nd nd t).imp fun {a b} h x hx y hy e => h ?_
      obtain ⟨c, _, rfl⟩ := List.mem_map.mp hx
      obtain ⟨d, _, rfl⟩ := List.mem_map.mp hy
      exact (List.append_inj' e rfl).1
theorem wo_word {al : List Nat} : ∀ n, ∀ v ∈ wo al n, 1 ≤ v.length ∧ v.length ≤ n ∧ ∀ c ∈ v, c ∈ al
  | 0, v, h => by cases h
  | n + 1, v, h => by
    rcases List.mem_append.mp h with h | h
    · obtain ⟨h0, h1, h2⟩ := wo_word n v h
      exact ⟨h0, by omega, h2⟩
    · obtain ⟨h1, h2⟩ := levN_word (n + 1) v h
      exact ⟨by omega, by omega, h2⟩
theorem wo_all {al : List Nat} : ∀ n (v : List Nat), 1 ≤ v.length → v.length ≤ n → (∀ c ∈ v, c ∈ al) → v ∈ wo al n
  | 0, v, h1, h2, _ => by omega
  | n + 1, v, h1, h2, h => by
    show v ∈ wo al n ++ levN al (n + 1)
    by_cases c : v.length = n + 1
    · rw [← c]
      exact List.mem_append_right _ (levN_all v h)
    · exact List.mem_append_left _ (wo_all n v h1 (by omega) h)
theorem wo_nd {al : List Nat} (nd : al.Nodup) : ∀ n, (wo al n).Nodup
  | 0 => List.nodup_nil
  | n + 1 => List.nodup_append.mpr ⟨wo_nd nd n, levN_nd nd (n + 1), fun a ha b hb e => by
    have h1 := (wo_word n a ha).2.1
    have h2 := (levN_word (n + 1) b hb).1
    rw [e] at h1
    omega⟩
theorem wo_closed {al : List Nat} (nd : al.Nodup) (n : Nat) : Closed (wo al n) := by
  refine ⟨wo_nd nd n, fun x hx e => ?_, ?_⟩
  · have := (wo_word n x hx).1
    rw [e] at this
    exact absurd this (by decide)
  · induction n with
    | zero =>
      intro i x hx
      simp [wo] at hx
    | succ n ih =>
      intro i x hx y z e hz
      have hx : (wo al n ++ levN al (n + 1))[i]? = some x := hx
      by_cases hi : i < (wo al n).length
      · rw [List.getElem?_append_left hi] at hx
        show y = [] ∨ y ∈ (wo al n ++ levN al (n + 1)).take i
        rw [List.take_append_of_le_length (by omega)]
        exact ih i x hx y z e hz
      · rw [List.getElem?_append_right (by omega)] at hx
        obtain ⟨hl, ho⟩ := levN_word (n + 1) x (List.mem_of_getElem? hx)
        by_cases c : y = []
        · exact .inl c
        · refine .inr ?_
          have hy1 : 1 ≤ y.length := List.length_pos_iff.mpr c
          have hz1 : 1 ≤ z.length := List.length_pos_iff.mpr hz
          have hyl : y.length ≤ n := by
            rw [e, List.length_append] at hl
            omega
          have hin := wo_all (al := al) n y hy1 hyl fun d hd => ho d (by rw [e]; exact List.mem_append_left _ hd)
          show y ∈ (wo al n ++ levN al (n + 1)).take i
          rw [List.take_append, List.take_of_length_le (by omega)]
          exact List.mem_append_left _ hin
theorem lens_all {t : Nat} : ∀ l : List (List Nat), (∀ v ∈ l, v.length = t) → l.flatten.length = l.length * t
  | [], _ => by simp
  | a :: r, h => by
    rw [List.flatten_cons, List.length_append, h a (List.mem_cons_self ..), lens_all r fun v hv => h v (List.mem_cons_of_mem _ hv), List.length_cons, Nat.add_mul, Nat.one_mul, Nat.add_comm]
/-- words up to n letters -/
def sw (s : Nat) : Nat → Nat
  | 0 => 0
  | n + 1 => sw s n + s ^ (n + 1)
theorem wo_len {al : List Nat} : ∀ n, (wo al n).length = sw al.length n
  | 0 => rfl
  | n + 1 => by
    show (wo al n ++ levN al (n + 1)).length = sw al.length n + al.length ^ (n + 1)
    rw [List.length_append, wo_len n, levN_len]
/-- letters of the first m words, of at most n letters each -/
def lw (s m : Nat) : Nat → Nat
  | 0 => 0
  | n + 1 => lw s m n + min (m - sw s n) (s ^ (n + 1)) * (n + 1)
theorem wo_letters {al : List Nat} (m : Nat) : ∀ n, ((wo al n).take m).flatten.length = lw al.length m n
  | 0 => by simp [wo, lw]
  | n + 1 => by
    show ((wo al n ++ levN al (n + 1)).take m).flatten.length = lw al.length m n + min (m - sw al.length n) (al.length ^ (n + 1)) * (n + 1)
    rw [List.take_append, List.flatten_append, List.length_append, wo_letters m n, wo_len]
    congr 1
    rw [lens_all (t := n + 1) _ fun v hv => (levN_word (n + 1) v (List.mem_of_mem_take hv)).1, List.length_take, levN_len]
/-- different words that are not empty have at least as many letters as the first ones in order -/
theorem nodup_subL : ∀ (a b : List (List Nat)), a.Nodup → (∀ x ∈ a, x ∈ b) → a.length ≤ b.length
  | [], b, _, _ => Nat.zero_le _
  | x :: r, b, nd, h => by
    have hx := h x (List.mem_cons_self ..)
    have ih := nodup_subL r (b.erase x) (List.nodup_cons.mp nd).2 fun y hy => (List.mem_erase_of_ne (fun (e : y = x) => (List.nodup_cons.mp nd).1 (e ▸ hy))).mpr (h y (List.mem_cons_of_mem _ hy))
    have e := List.length_erase_of_mem hx
    have hp : 0 < b.length := List.length_pos_of_mem hx
    show r.length + 1 ≤ _
    omega
theorem two_parts {α : Type} (p : α → Bool) : ∀ l : List α, l.length = l.countP p + l.countP (fun v => !p v)
  | [] => rfl
  | a :: r => by
    rw [List.length_cons, List.countP_cons, List.countP_cons, two_parts p r]
    cases p a
    · simp
      omega
    · simp
      omega
/-- how many of xs have more than i letters -/
def above (xs : List (List Nat)) (i : Nat) : Nat := xs.countP fun v => decide (i < v.length)
theorem above_ge {al : List Nat} {xs : List (List Nat)} (nd : xs.Nodup) (h : ∀ x ∈ xs, 1 ≤ x.length ∧ ∀ c ∈ x, c ∈ al) (i : Nat) : xs.length - sw al.length i ≤ above xs i := by
  have e : xs.length = above xs i + (xs.filter fun v => !decide (i < v.length)).length := by
    unfold above
    rw [← List.countP_eq_length_filter]
    exact two_parts _ xs
  have h2 := nodup_subL (xs.filter fun v => !decide (i < v.length)) (wo al i) (nd.filter _) fun x hx => by
    obtain ⟨h1, h3⟩ := List.mem_filter.mp hx
    obtain ⟨h4, h5⟩ := h x h1
    have : ¬ i < x.length := by simpa using h3
    exact wo_all i x h4 (by omega) h5
  rw [wo_len] at h2
  omega
def sumA (xs : List (List Nat)) : Nat → Nat
  | 0 => 0
  | n + 1 => sumA xs n + above xs n
theorem sumA_le : ∀ (xs : List (List Nat)) (n : Nat), sumA xs n ≤ xs.flatten.length := by
  intro xs n
  have h : ∀ n, sumA xs n = (xs.map fun v => min n v.length).sum := by
    intro n
    induction n with
    | zero =>
      show 0 = _
      induction xs with
      | nil => rfl
      | cons a r ih => rw [List.map_cons, List.sum_cons, ← ih]; omega
    | succ n ih =>
      show sumA xs n + above xs n = _
      rw [ih]
      clear ih
      unfold above
      induction xs with
      | nil => rfl
      | cons a r ih =>
        rw [List.map_cons, List.map_cons, List.sum_cons, List.sum_cons, List.countP_cons, ← ih]
        by_cases c : n < a.length
        · rw [if_pos (decide_eq_true c)]
          omega
        · rw [if_neg (by simpa using c)]
          omega
  rw [h n]
  clear h
  induction xs with
  | nil => simp
  | cons a r ih =>
    rw [List.map_cons, List.sum_cons, List.flatten_cons, List.length_append]
    omega
end Ver
namespace Ver
open PySem PySem.Spec PyProof.Rows L2 Evl
theorem wo_long {al : List Nat} (h : 1 ≤ al.length) : ∀ t, t ≤ (wo al t).flatten.length
  | 0 => Nat.zero_le _
  | t + 1 => by
    have ih := wo_long h t
    show t + 1 ≤ (wo al t ++ levN al (t + 1)).flatten.length
    rw [List.flatten_append, List.length_append, lens_all (t := t + 1) _ fun v hv => (levN_word (t + 1) v hv).1, levN_len]
    have hp : 1 ≤ al.length ^ (t + 1) := Nat.pow_pos h
    have : 1 * (t + 1) ≤ al.length ^ (t + 1) * (t + 1) := Nat.mul_le_mul_right _ hp
    omega
theorem prx_flat {a b : List (List Nat)} (h : a <+: b) : a.flatten <+: b.flatten := by
  obtain ⟨r, rfl⟩ := h
  exact ⟨r.flatten, by rw [List.flatten_append]⟩
theorem prx_take {a b : List Nat} {n : Nat} (h : a <+: b) (hn : n ≤ a.length) : a.take n = b.take n ∧ n ≤ b.length := by
  obtain ⟨r, rfl⟩ := h
  exact ⟨by rw [List.take_append_of_le_length hn], by rw [List.length_append]; omega⟩
section
variable {P : Program} {w : World} {K : PySem.W.Frag} {mg : Str → Option Value} {base : Heap} {C_Cut : Addr}
/-! ### _law_counting_word, exactly -/
def spCwX : Sp := fun vs H Q _ => ∃ (al : List Nat) (m : Nat), vs = [tx al, .int (m : Int)] ∧ Alf al ∧ m ≤ 400 ∧ ∀ T : Nat, m ≤ (wo al T).flatten.length → RetV (tx ((wo al T).flatten.take m)) H Q
theorem has_cwX (F : At K mg "_law_counting_word" s__law_counting_word) (T : Top K mg C_Cut) : Has P w K mg base "_law_counting_word" s__law_counting_word ["signs", "many"] 1 spCwX := by
  obtain ⟨f, fd, F, m⟩ := F.ex
  refine ⟨f, fd, F, F.ok S__law_counting_word (fun vs H Q E h => ?_) (fun cdv A outer s H vs Q E hr h => ?_), F.binds fun _ _ _ _ _ _ us hl => match us, hl with | [_, _], _ => rfl, m, F.kp⟩
  · obtain ⟨al, n, rfl, _⟩ := h
    rfl
  obtain ⟨al, n, rfl, hA, hn, q⟩ := h
  refine ⟨_, (pss_cons
    (ps_set (i := 2) S__law_counting_word.nd rfl (Or.inl rfl) pe_str)
    (pss_cons
    (ps_set (i := 3) S__law_counting_word.nd rfl (Or.inl rfl) (pe_lst (pa_cons pe_str pa_nil)))
    (pss_cons
    (ps_for PassesOwn.never rfl (pi_range1 rfl T.z_range (pa_cons pe_int pa_nil)) (pg_name (i := 4) S__law_counting_word.nd rfl (Or.inl rfl)) (pss_cons
    (ps_if (pt_cmpR op_ge (pe_callB call_len_str rfl T.z_len PySem.boot_len (pa_cons (pv 2) pa_nil)) (pv 1) (nomark _)) (pss_one
    ps_break) pss_nil)
    (pss_cons
    (ps_set (i := 5) S__law_counting_word.nd rfl (Or.inl rfl) (pe_lst pa_nil))
    (pss_cons
    (ps_for PassesOwn.never rfl (pi_list (pv 3)) (pg_name (i := 6) S__law_counting_word.nd rfl (Or.inr rfl)) (pss_one
    (ps_if (pt_cmpR op_lt (pe_op op_add (pe_callB call_len_str rfl T.z_len PySem.boot_len (pa_cons (pv 2) pa_nil)) (pe_op op_mul (pe_callB call_len_seq rfl T.z_len PySem.boot_len (pa_cons (pv 5) pa_nil)) (pe_op op_add (pe_callB call_len_str rfl T.z_len PySem.boot_len (pa_cons (pv 6) pa_nil)) pe_int))) (pe_op op_add (pv 1) (pe_op op_mul pe_int (pe_op op_add (pe_callB call_len_str rfl T.z_len PySem.boot_len (pa_cons (pv 6) pa_nil)) pe_int))) (nomark _)) (pss_one
    (ps_set (i := 5) S__law_counting_word.nd rfl (Or.inl rfl) (pe_op op_cat (pv 5) (pe_lc (own := [("letter", 7)]) (g := gName 7) (tt := tYes) rfl S__law_counting_word.nd (pi_str (pv 0)) (blkOk_by (N := N__law_counting_word) (sc := defScope s__law_counting_word) (by decide +kernel)) (fun _ _ _ _ _ => pg_name (i := 7) S__law_counting_word.nd rfl (Or.inl rfl)) (fun _ _ _ _ _ => pts_nil) (fun _ _ _ _ _ => (pe_op op_add_str (pv 6) (pv 7))))))) pss_nil)))
    (pss_cons
    (ps_set (i := 2) S__law_counting_word.nd rfl (Or.inl rfl) (pe_op op_add_str (pv 2) (pe_join pe_str (pv 5))))
    (pss_one
    (ps_set (i := 3) S__law_counting_word.nd rfl (Or.inl rfl) (pe_callTy call_list_of rfl T.z_list (by decide +kernel) (pa_cons (pv 5) pa_nil)))))))))
    (pss_one
    (ps_ret (pe_slice sl_str (pv 2) po_none (po_some (pv 1)))))))), ?_⟩
  have h6 := hA.six
  refine q_asg (v := tx []) (ev_is ev_c (by rw [mt_is])) fun H1 e1 => ?_
  refine q_asgL (xs := [tx []]) (el_lst (ea_cons (ev_is ev_c (by rw [mt_is])) ea_nil) (by show 1 ≤ 100000; decide)) fun s0 H2 hs0 e2 g2 => ?_
  have e12 := e1.trans e2
  have fin : ∀ (σ' : L2.St) (H' : Hp) (v : List Nat) (u3 u4 u5 u6 u7 : Option V), σ' = [some (tx al), some (.int (n : Int)), some (tx v), u3, u4, u5, u6, u7] → (∀ c ∈ v, c ∈ al) → v.length ≤ 6000 → n ≤ v.length → (∃ T, v <+: (wo al T).flatten) → Ex H H' →
      tRet (tSl rSlS (tVar 2) tNoPart (tPart (tVar 1))) { nx := fun x H' => Q V.non H', rt := Q } σ' H' := by
    intro σ' H' v u3 u4 u5 u6 u7 hσ ho hz hge hT e
    subst hσ
    obtain ⟨T0, hT⟩ := hT
    obtain ⟨et, hle⟩ := prx_take hT hge
    refine s_ret (ev_slS (by omega) (ev_var rfl) eo_none (eo_some (i := (n : Int)) (ev_var rfl))) fun H3 e3 => ?_
    rw [cutL_to, et]
    exact q T0 hle H3 (e.trans e3)
  refine q_forR1 (ea_cons ev_c ea_nil) (by decide) (fun t σ' H' => ∃ (v : List Nat) (s1 : Addr) (ss : List (List Nat)) (u4 u5 u6 u7 : Option V), σ' = [some (tx al), some (.int (n : Int)), some (tx v), some (.ref s1), u4, u5, u6, u7] ∧ Ex H H' ∧ (∀ c ∈ v, c ∈ al) ∧ v.length ≤ 6000 ∧ H' s1 = some (.lst (ss.map tx)) ∧
    (∀ s ∈ ss, s.length = t ∧ ∀ c ∈ s, c ∈ al) ∧ ss.length ≤ 1000 ∧ ((v = (wo al t).flatten ∧ ss = levN al t) ∨ (n ≤ v.length ∧ ∃ T, v <+: (wo al T).flatten))) ?_ ?_ ?_
  · intro H3 e3
    refine ⟨[], s0, [[]], none, none, none, none, rfl, e12.trans e3, fun c h => (by cases h), Nat.zero_le _, e3 _ _ g2, fun s hs => ?_, by show 1 ≤ 1000; decide, .inl ⟨rfl, rfl⟩⟩
    rw [List.mem_singleton.mp hs]
    exact ⟨rfl, fun c h => (by cases h)⟩
  · intro t σ' H' ht z
    obtain ⟨v, s1, ss, u4, u5, u6, u7, rfl, e3, vo, vz, g3, sf, sz, st8⟩ := z
    have ht4 : t < 400 := by
      have : (t : Int) < 400 := ht
      omega
    refine q_when (et_ge (ev_lenS (by omega) (ev_var rfl)) (ev_var rfl)) (fun hb H3 e4 => ?_) (fun hb H3 e4 => ?_)
    · have hge : n ≤ v.length := by
        have := of_decide_eq_true hb
        omega
      exact fin _ H3 v _ _ _ _ _ rfl vo vz hge (st8.elim (fun h => ⟨t, by rw [← h.1]; exact List.prefix_refl _⟩) (fun h => h.2)) (e3.trans e4)
    · have hvn : v.length < n := by
        have := of_decide_eq_false hb
        omega
      obtain ⟨rv, rs⟩ : v = (wo al t).flatten ∧ ss = levN al t := st8.elim id (fun h => absurd h.1 (by omega))
      refine q_asgL (xs := ([] : List (List Nat)).map tx) (el_lst ea_nil (by decide)) fun g0 H4 hg0 e5 g4 => ?_
      have e34 := e4.trans e5
      refine q_forLn (ev_var rfl) (sq_of (e34 _ _ g3)) (fun i σ' H' => ∃ (g : Addr) (gs : List (List Nat)) (u6 u7 : Option V), σ' = [some (tx al), some (.int (n : Int)), some (tx v), some (.ref s1), some (.int (t : Int)), some (.ref g), u6, u7] ∧ Ex H H' ∧ H' s1 = some (.lst (ss.map tx)) ∧ H' g = some (.lst (gs.map tx)) ∧
        (∀ s ∈ gs, s.length = t + 1 ∧ ∀ c ∈ s, c ∈ al) ∧ gs.length * (t + 1) ≤ n + 12 * (t + 1) ∧ (gs = (ss.take i).flatMap (nxtN al) ∨ (n + 6 * (t + 1) ≤ v.length + gs.length * (t + 1) ∧ gs <+: ss.flatMap (nxtN al)))) ?_ ?_ ?_ ?_
      · intro H5 e6
        exact ⟨g0, [], u6, u7, rfl, (e3.trans e34).trans e6, e6 _ _ (e34 _ _ g3), e6 _ _ g4, fun s h => (by cases h), by show 0 * _ ≤ _; omega, .inl rfl⟩
      · intro i σ' H' _ z
        obtain ⟨g, gs, u6, u7, rfl, e6, k1, _⟩ := z
        exact sq_of k1
      · intro i x σ' H' hx z
        obtain ⟨g, gs, u6, u7, rfl, e6, k1, k2, k3, k4, k9⟩ := z
        rw [List.getElem?_map] at hx
        cases hp : ss[i]? with
        | none =>
          rw [hp] at hx
          cases hx
        | some st =>
        rw [hp] at hx
        cases hx
        obtain ⟨hsl, hso⟩ := sf st (List.mem_of_getElem? hp)
        have hgl : gs.length ≤ 5200 := Nat.le_trans (mul_le_of (by omega) k4) (by omega)
        refine s_when (et_lt (ev_add (ev_lenS (by omega) (ev_var rfl)) (ev_mulL (i := (gs.length : Int)) (by omega) (by omega) (ev_is (ev_cb (ea_cons (ev_var rfl) ea_nil) (rc_lenL (sq_of k2))) (by rw [List.length_map])) (ev_add (ev_lenS (l := st) (by omega) (ev_var rfl)) ev_c))) (ev_add (ev_var rfl) (ev_mulL (by decide) (by decide) ev_c (ev_add (ev_lenS (l := st) (by omega) (ev_var rfl)) ev_c)))) (fun hb H5 e7 => ?_) (fun hb H5 e7 => ?_)
        · have c := of_decide_eq_true hb
          rw [hsl] at c
          have em : (gs.length : Int) * ((t : Int) + 1) = ((gs.length * (t + 1) : Nat) : Int) := by
            rw [Int.natCast_mul, Int.natCast_add]
            rfl
          rw [em] at c
          have c2 : gs.length * (t + 1) < n + 6 * (t + 1) := by omega
          have hnew : (gs.length + al.length) * (t + 1) ≤ n + 12 * (t + 1) := by
            rw [Nat.add_mul]
            have : al.length * (t + 1) ≤ 6 * (t + 1) := Nat.mul_le_mul_right _ h6
            omega
          have hnx : gs ++ al.map (fun d => st ++ [d]) = (ss.take (i + 1)).flatMap (nxtN al) := by
            rcases k9 with k9 | k9
            · rw [List.take_add_one, hp, List.flatMap_append, ← k9]
              show _ = gs ++ ([st].flatMap (nxtN al))
              rw [List.flatMap_cons, List.flatMap_nil, List.append_nil]
              rfl
            · exact absurd k9.1 (by omega)
          refine s_asgL (xs := (gs ++ al.map fun d => st ++ [d]).map tx) ?_ fun g' H6 hg' e8 k5 => ⟨g', gs ++ al.map (fun d => st ++ [d]), _, _, rfl, (e6.trans e7).trans e8, e8 _ _ (e7 _ _ k1), k5, fun s hs => ?_, by rw [List.length_append, List.length_map]; exact hnew, .inl hnx⟩
          · rw [List.map_append, List.map_map]
            refine el_catR (ev_var rfl) (e7 _ _ k2) (el_lcS (x := al) (j := 7) (vs := [7]) (fun d => tx (st ++ [d])) (ev_var rfl) (by omega) (fun a => rfl) (fun i d H1 e9 hd => ?_)) (by rw [List.length_map, List.length_map]; omega)
            exact ev_catS (b := [d]) (by show st.length + 1 ≤ 100000; omega) (ev_var rfl) (ev_var rfl)
          · rcases List.mem_append.mp hs with hs | hs
            · exact k3 s hs
            · obtain ⟨d, hd, rfl⟩ := List.mem_map.mp hs
              refine ⟨by rw [List.length_append, hsl]; rfl, over_app hso fun c hc => ?_⟩
              rw [List.mem_singleton.mp hc]
              exact hd
        · have c := of_decide_eq_false hb
          rw [hsl] at c
          have em : (gs.length : Int) * ((t : Int) + 1) = ((gs.length * (t + 1) : Nat) : Int) := by
            rw [Int.natCast_mul, Int.natCast_add]
            rfl
          rw [em] at c
          have c2 : n + 6 * (t + 1) ≤ v.length + gs.length * (t + 1) := by omega
          refine ⟨g, gs, _, _, rfl, e6.trans e7, e7 _ _ k1, e7 _ _ k2, k3, k4, .inr ⟨c2, ?_⟩⟩
          rcases k9 with k9 | k9
          · rw [k9]
            exact ⟨(ss.drop i).flatMap (nxtN al), by rw [← List.flatMap_append, List.take_append_drop]⟩
          · exact k9.2
      · intro σ' H' z
        obtain ⟨g, gs, u6, u7, rfl, e6, k1, k2, k3, k4, k9⟩ := z
        have hfl := flat_len fun s hs => (k3 s hs).1
        have hfl2 : gs.flatten.length ≤ 400 + 12 * 400 := by
          rw [hfl]
          omega
        have hgl : gs.length ≤ 1000 := by
          by_cases c : t + 1 ≤ 12
          · -- few letters: bounded by the words
            have h2 : gs.length * 1 ≤ gs.length * (t + 1) := Nat.mul_le_mul_left _ (by omega)
            omega
          · have h2 : gs.length * 12 ≤ gs.length * (t + 1) := Nat.mul_le_mul_left _ (by omega)
            omega
        refine q_asg (v := tx (v ++ gs.flatten)) (ev_catS (by omega) (ev_var rfl) (ev_join (ev_is ev_c (by rw [mt_is])) (ev_var rfl) (.inl (sq_of k2)) (by omega))) fun H5 e7 => ?_
        refine s_asgL (el_cb (ea_cons (ev_var rfl) ea_nil) (rcl_list (sq_of (e7 _ _ k2)))) fun s2 H6 hs2 e8 k6 => ?_
        refine ⟨v ++ gs.flatten, s2, gs, _, _, _, _, rfl, (e6.trans e7).trans e8, over_app vo (flat_over fun s hs => (k3 s hs).2), by rw [List.length_append]; omega, k6, k3, hgl, ?_⟩
        rw [List.length_map] at k9
        rcases k9 with k9 | k9
        · rw [List.take_length] at k9
          refine .inl ⟨?_, by rw [k9, rs]; rfl⟩
          show _ = (wo al t ++ levN al (t + 1)).flatten
          rw [List.flatten_append, rv, k9, rs]
          rfl
        · refine .inr ⟨by rw [List.length_append, hfl]; omega, t + 1, ?_⟩
          show _ <+: (wo al t ++ levN al (t + 1)).flatten
          rw [List.flatten_append, ← rv, List.prefix_append_right_inj]
          have hpre := prx_flat k9.2
          rw [rs] at hpre
          exact hpre
  · intro σ' H' z
    obtain ⟨v, s1, ss, u4, u5, u6, u7, rfl, e3, vo, vz, g3, sf, sz, st8⟩ := z
    have e4 : (400 : Int).toNat = 400 := rfl
    rw [e4] at st8
    rcases st8 with h | h
    · have := wo_long (al := al) hA.pos 400
      rw [← h.1] at this
      exact fin _ H' v _ _ _ _ _ rfl vo vz (by omega) ⟨400, by rw [← h.1]; exact List.prefix_refl _⟩ e3
    · exact fin _ H' v _ _ _ _ _ rfl vo vz h.1 h.2 e3
end
end Ver
namespace Ver
open PySem PySem.Spec PyProof.Rows L2 Evl
/-! ### min of three numbers; an item of a written list; items by place -/
def rMin3 : List V → Hp → VK → Prop := fun xs H Q => ∃ i j k, xs = [.int i, .int j, .int k] ∧ Q (.int (min i (min j k))) H
theorem call_min3I {X : Cx} (hc : X.calm = true) : CallR X (.builtin "min") rMin3 := by
  intro pn s σ H xs us Q I r h
  obtain ⟨i, j, k, rfl, q⟩ := h
  match us, r with
  | [_, _, _], .cons ⟨t, rfl⟩ (.cons ⟨t1, rfl⟩ (.cons ⟨t2, rfl⟩ .nil)) =>
    refine min_three_ints (I.ok.hd hc) fun h' tk keep => ⟨_, H, I.kept keep, ?_, q⟩
    by_cases c1 : j < i
    · rw [if_pos c1]
      by_cases c2 : k < j
      · rw [if_pos c2]
        exact ⟨t2, by rw [show min i (min j k) = k by omega]⟩
      · rw [if_neg c2]
        exact ⟨t1, by rw [show min i (min j k) = j by omega]⟩
    · rw [if_neg c1]
      by_cases c2 : k < i
      · rw [if_pos c2]
        exact ⟨t2, by rw [show min i (min j k) = k by omega]⟩
      · rw [if_neg c2]
        exact ⟨t, by rw [show min i (min j k) = i by omega]⟩
section
variable {K : PySem.W.Frag} {σ : L2.St} {H : Hp} {ta tb tc tl : TE} {tz : TS} {D : Ends}
theorem rc_min3 {i j k : Int} : RC rMin3 [.int i, .int j, .int k] H (.int (min i (min j k))) := fun H1 _ _ q => ⟨i, j, k, rfl, q H1 (Ex.refl H1)⟩
/-- an item of a new list of ints -/
theorem ev_atN {ns : List Int} {i : Nat} {z : Int} (hl : EvL tl σ H (ns.map V.int)) (hi : i < ns.length) (hz : z = (i : Int)) (hb : ∀ H1, Ex H H1 → Ev tb σ H1 (.int z)) : Ev (tOp (rIxL K) tl tb) σ H (.int (at0 ns i)) := by
  subst hz
  exact ev_opL1 hl hb fun p H1 h _ => rv_ixL (sq_of h) (at_int hi)
/-- the numbers f 0, f 1, .. as a list -/
def nl (f : Nat → Nat) (n : Nat) : List Int := (List.range n).map fun k => (f k : Int)
theorem nl_len (f : Nat → Nat) (n : Nat) : (nl f n).length = n := by
  unfold nl
  rw [List.length_map, List.length_range]
theorem nl_at {f : Nat → Nat} {n i : Nat} (h : i < n) : at0 (nl f n) i = (f i : Int) := by
  unfold nl at0
  rw [List.getD_eq_getElem?_getD, List.getElem?_map, List.getElem?_range h]
  rfl
theorem nl_succ (f : Nat → Nat) (n : Nat) : (nl f (n + 1)).map V.int = (nl f n).map V.int ++ [V.int (f n : Int)] := by
  unfold nl
  rw [List.range_succ, List.map_append, List.map_append]
  rfl
theorem nl_congr {f g : Nat → Nat} {n : Nat} (h : ∀ k, k < n → f k = g k) : nl f n = nl g n := by
  unfold nl
  refine List.map_congr_left fun k hk => ?_
  rw [h k (List.mem_range.mp hk)]
theorem ev_nl {a : Addr} {f : Nat → Nat} {n i : Nat} {z : Int} (hs : SqL K H a ((nl f n).map V.int)) (hi : i < n) (hz : z = (i : Int)) (ha : Ev ta σ H (.ref a)) (hb : Ev tb σ H (.int z)) : Ev (tOp (rIxL K) ta tb) σ H (.int (f i : Int)) := by
  have g := ev_atI hs (by rw [nl_len]; exact hi) hz ha hb
  rw [nl_at hi] at g
  exact g
theorem nl_get (f : Nat → Nat) (n j : Nat) : ((nl f n).map V.int)[j]? = if j < n then some (.int (f j : Int)) else none := by
  unfold nl
  rw [List.getElem?_map, List.getElem?_map]
  by_cases c : j < n
  · rw [if_pos c, List.getElem?_range c]
    rfl
  · rw [if_neg c, List.getElem?_eq_none (by rw [List.length_range]; omega)]
    rfl
theorem set_nl {f : Nat → Nat} {n i x : Nat} (hi : i < n) : ((nl f n).map V.int).set i (.int (x : Int)) = (nl (fun k => if k = i then x else f k) n).map V.int := by
  refine List.ext_getElem? fun j => ?_
  rw [List.getElem?_set, nl_get, nl_get, List.length_map, nl_len]
  by_cases c : i = j
  · subst c
    rw [if_pos rfl, if_pos hi, if_pos hi, if_pos rfl]
  · rw [if_neg c]
    by_cases d : j < n
    · rw [if_pos d, if_pos d, if_neg fun e => c (Eq.symm e)]
    · rw [if_neg d, if_neg d]
theorem given_nl (f : Nat → Nat) (n : Nat) : given n (fun _ => true) (fun k => V.int (f k : Int)) = (nl f n).map V.int := by
  unfold given nl
  rw [List.filter_eq_self.mpr fun _ _ => rfl, List.map_map]
  rfl
end
open L2 Evl in
theorem ev_chainV {r r' : R2} {ta tb tc : TE} {σ : L2.St} {H : Hp} {x y z : V} {a b : Bool} (h1 : Ev ta σ H x) (h2 : Ev tb σ H y) (hr : RV r x y H (.bl a)) (h3 : a = true → Ev tc σ H z) (hr' : a = true → RV r' y z H (.bl b)) : Ev (tChain r r' ta tb tc) σ H (.bl (a && b)) := fun H1 e Q q =>
  h1 H1 e _ fun H2 e2 => h2 H2 (e.trans e2) _ fun H3 e3 => hr H3 ((e.trans e2).trans e3) _ fun H4 e4 => ⟨a, rfl, by
    have e5 := ((e.trans e2).trans e3).trans e4
    cases a with
    | false => exact ite_ff (q H4 ((e2.trans e3).trans e4))
    | true => exact ite_tt (h3 rfl H4 e5 _ fun H5 e6 => hr' rfl H5 (e5.trans e6) Q fun H6 e7 => q H6 (((((e2.trans e3).trans e4).trans e6)).trans e7))⟩
section
variable {K : PySem.W.Frag}
theorem cutV_from {xs : List V} (n : Nat) : cutV xs (some (n : Int)) none = xs.drop n := by
  unfold cutV
  rw [HT.sIx_none, HT.sIx_nat]
  by_cases h : n ≤ xs.length
  · rw [Nat.min_eq_left h]
    exact List.take_of_length_le (by rw [List.length_drop]; omega)
  · rw [Nat.min_eq_right (by omega), Nat.sub_self, List.take_zero, List.drop_eq_nil_of_le (by omega)]
theorem at0_drop {r : List Int} {n i : Nat} : at0 (r.drop n) i = at0 r (n + i) := by
  unfold at0
  rw [List.getD_eq_getElem?_getD, List.getD_eq_getElem?_getD, List.getElem?_drop]
theorem el_from {σ : L2.St} {H : Hp} {te : TE} {a : Addr} {r : List Int} {n : Nat} {i : Int} (hi : i = (n : Int)) (h : Ev te σ H (.ref a)) (hR : SqL K H a (r.map V.int)) : EvL (tSl (rSlL K) te (tPart (tC (.int i))) tNoPart) σ H ((r.drop n).map V.int) := by
  have g := el_sl (K := K) (te := te) (σ := σ) (H := H) (tl := tPart (tC (.int i))) (th := tNoPart) (lo := some i) (hi := none) h (eo_some ev_c) eo_none hR
  subst hi
  rw [cutV_from, ← List.map_drop] at g
  exact g
theorem cutV_both {xs : List V} (a b : Nat) : cutV xs (some (a : Int)) (some ((a + b : Nat) : Int)) = (xs.drop a).take b := by
  unfold cutV
  rw [HT.sIx_nat, HT.sIx_nat]
  by_cases c : a ≤ xs.length
  · rw [Nat.min_eq_left c, ← List.take_drop_min c]
  · rw [List.drop_eq_nil_of_le (show xs.length ≤ min a xs.length by omega), List.drop_eq_nil_of_le (show xs.length ≤ a by omega), List.take_nil, List.take_nil]
where
  List.take_drop_min {xs : List V} {a b : Nat} (c : a ≤ xs.length) : (xs.drop a).take b = (xs.drop a).take (min (a + b) xs.length - a) := by
    by_cases d : a + b ≤ xs.length
    · rw [Nat.min_eq_left d, Nat.add_sub_cancel_left]
    · rw [Nat.min_eq_right (by omega), List.take_of_length_le (by rw [List.length_drop]; omega), List.take_of_length_le (by rw [List.length_drop]; omega)]
theorem at0_take {r : List Int} {n i : Nat} (h : i < n) : at0 (r.take n) i = at0 r i := by
  unfold at0
  rw [List.getD_eq_getElem?_getD, List.getD_eq_getElem?_getD, List.getElem?_take_of_lt h]
theorem el_both {σ : L2.St} {H : Hp} {te t1 t2 : TE} {a : Addr} {r : List Int} {n k : Nat} (h : Ev te σ H (.ref a)) (hR : SqL K H a (r.map V.int)) (h1 : Ev t1 σ H (.int (n : Int))) (h2 : Ev t2 σ H (.int ((n + k : Nat) : Int))) : EvL (tSl (rSlL K) te (tPart t1) (tPart t2)) σ H (((r.drop n).take k).map V.int) := by
  have g := el_sl h (eo_some h1) (eo_some h2) hR
  rw [cutV_both] at g
  rw [List.map_take, List.map_drop]
  exact g
end
section
variable {K : PySem.W.Frag} {σ : L2.St} {H : Hp} {ta tb tc tl : TE} {sp : Sp} {dvs xs : List V} {E : XK} {Q : VK}
theorem el_lrg {n : Nat} (h : Ev ta σ H (.int (n : Int))) (hn : n ≤ 100000) : EvL (tLstRg (tRg1 ta)) σ H ((nl (fun k => k) n).map V.int) := fun H1 e Q q =>
  h H1 e _ fun H2 e2 => ⟨(n : Int), rfl, RgOk.of_le (by omega) (by omega) (by omega) (by omega), fun p hp => by
    have ee : rgV 0 (n : Int) = (nl (fun k => k) n).map V.int := by
      unfold rgV nl
      rw [List.map_map, show ((n : Int) - 0).toNat = n by omega]
      refine List.map_congr_left fun i _ => ?_
      show V.int (0 + (i : Int)) = V.int (i : Int)
      rw [Int.zero_add]
    rw [ee]
    exact q p _ (fresh_back e2 hp) (e2.trans (Ex.new hp)) upd_same⟩
theorem ev_sumN {ns : List Int} (h : EvL tl σ H (ns.map V.int)) : Ev (tCB (fun vs H Q => ∃ (a : Addr) (ns : List Int), vs = [V.ref a] ∧ SqL K H a (ns.map V.int) ∧ Q (V.int ns.sum) H) (tCons tl tNil)) σ H (.int ns.sum) := fun H1 e Q q =>
  h H1 e _ fun p H2 _ e2 g2 => ⟨p, ns, rfl, sq_of g2, q H2 e2⟩
theorem el_eq {ys : List V} (h : EvL tl σ H xs) (e : xs = ys) : EvL tl σ H ys := by
  rw [← e]
  exact h
theorem rv_eqv {r : R2} {x y z z' : V} (h : RV r x y H z) (e : z = z') : RV r x y H z' := by
  rw [← e]
  exact h
theorem el_catB {ys : List V} {a : Addr} (ha : Ev ta σ H (.ref a)) (hx : H a = some (.lst xs)) (hb : EvL tb σ H ys) (hz : xs.length + ys.length ≤ 100000) : EvL (tOp rCat ta tb) σ H (xs ++ ys) := fun H1 e Q q =>
  ha H1 e _ fun H2 e2 => hb H2 (e.trans e2) _ fun p H3 hp e3 h3 => ⟨a, p, xs, ys, rfl, rfl, ((e.trans e2).trans e3) _ _ hx, h3, sz_of hz, fun l hl => q l _ (fresh_back (e2.trans e3) hl) ((e2.trans e3).trans (Ex.new hl)) upd_same⟩
/-- the least, the greatest of a new list, whatever it is -/
theorem run_minN {ns : List Int} (h : EvL tl σ H (ns.map V.int)) (hp : 0 < ns.length) (k : ∀ m H1, Ex H H1 → m ∈ ns → (∀ y ∈ ns, m ≤ y) → Q (.int m) H1) : tCB (rMin K) (tCons tl tNil) σ H Q := h H (Ex.refl H) _ fun p H1 _ e g => ⟨p, ns, rfl, sq_of g, hp, fun m hm hy => k m H1 e hm hy⟩
theorem run_maxN {ns : List Int} (h : EvL tl σ H (ns.map V.int)) (hp : 0 < ns.length) (k : ∀ m H1, Ex H H1 → m ∈ ns → (∀ y ∈ ns, y ≤ m) → Q (.int m) H1) : tCB (rMax K) (tCons tl tNil) σ H Q := h H (Ex.refl H) _ fun p H1 _ e g => ⟨p, ns, rfl, sq_of g, hp, fun m hm hy => k m H1 e hm hy⟩
theorem run_c1L (hl : EvL tl σ H xs) (k : ∀ p H1, Ex H H1 → H1 p = some (.lst xs) → sp ([.ref p] ++ dvs) H1 Q E) : tCall sp dvs E (tCons tl tNil) σ H Q := hl H (Ex.refl H) _ fun p H1 _ e h1 => k p H1 e h1
theorem run_cE {x1 : V} {t1 : TE} (h1 : Ev t1 σ H x1) (hl : EvL tl σ H xs) (k : ∀ p H1, Ex H H1 → H1 p = some (.lst xs) → sp ([x1, .ref p] ++ dvs) H1 Q E) : tCall sp dvs E (tCons t1 (tCons tl tNil)) σ H Q := h1 H (Ex.refl H) _ fun H1 e1 => hl H1 e1 _ fun p H2 _ e2 g2 => k p H2 (e1.trans e2) g2
end
theorem q_asgR {te : TE} {σ : L2.St} {H : Hp} {tz : TS} {D : Ends} {i : Nat} (h : te σ H fun x H1 => tz D (σ.set i (some x)) H1) : tSeq (tAsg te (gName i)) tz D σ H := h
end Ver
namespace Ver
open PySem PySem.Spec PyProof.Rows L2 Evl
section
variable {P : Program} {w : World} {K : PySem.W.Frag} {mg : Str → Option Value} {base : Heap} {C_Cut : Addr}
/-! ### is_alphabet -/
def lets : List Nat := [48, 49, 50, 51, 52, 53, 54, 55, 56, 57, 97, 98, 99, 100, 101, 102, 103, 104, 105, 106, 107, 108, 109, 110, 111, 112, 113, 114, 115, 116, 117, 118, 119, 120, 121, 122]
theorem lets_is : Str.ofString "0123456789abcdefghijklmnopqrstuvwxyz" = SX.S lets := by decide +kernel
theorem nil_is : Str.ofString "" = SX.S [] := by decide +kernel
theorem let_mem {c : Nat} (h : (48 ≤ c ∧ c ≤ 57) ∨ (97 ≤ c ∧ c ≤ 122)) : c ∈ lets := by
  have k : ∀ d, d < 123 → ((48 ≤ d ∧ d ≤ 57) ∨ (97 ≤ d ∧ d ≤ 122)) → d ∈ lets := by decide +kernel
  exact k c (by omega) h
def spIsAl : Sp := fun vs H Q _ => ∃ al : List Nat, vs = [tx al] ∧ Alf al ∧ RetV (.bl true) H Q
theorem has_isal (F : At K mg "is_alphabet" s_is_alphabet) (T : Top K mg C_Cut) : Has P w K mg base "is_alphabet" s_is_alphabet ["string"] 1 spIsAl := by
  obtain ⟨f, fd, F, m⟩ := F.ex
  obtain ⟨tL, g_LETTERS⟩ := T.g_LETTERS
  obtain ⟨tM, g_MOST_LETTERS⟩ := T.g_MOST_LETTERS
  refine ⟨f, fd, F, F.ok S_is_alphabet (fun vs H Q E h => ?_) (fun cdv A outer s H vs Q E hr h => ?_), F.binds fun _ _ _ _ _ _ us hl => match us, hl with | [_], _ => rfl, m, F.kp⟩
  · obtain ⟨al, rfl, _⟩ := h
    rfl
  obtain ⟨al, rfl, hA, q⟩ := h
  refine ⟨_, (pss_cons
    (ps_if (PW.pt (pw_or (pt_cmpR op_lt (pe_callB call_len_str rfl T.z_len PySem.boot_len (pa_cons (pv 0) pa_nil)) pe_int (nomark _)) (pw_or1 (pt_cmpR op_gt (pe_callB call_len_str rfl T.z_len PySem.boot_len (pa_cons (pv 0) pa_nil)) (pe_glob (v := .int 6) rfl g_MOST_LETTERS ⟨_, rfl⟩) (nomark _))))) (pss_one
    (ps_ret pe_bl)) pss_nil)
    (pss_cons
    (ps_if (pt_cmpR op_ne (pe_bm PySem.F.plainAttrs_str PySem.F.slot_str_strip PySem.F.type_str_strip mt_stripChars (pv 0) (pa_cons (pe_glob (v := .str (Str.ofString "0123456789abcdefghijklmnopqrstuvwxyz")) rfl g_LETTERS ⟨_, rfl⟩) pa_nil)) pe_str (nomark _)) (pss_one
    (ps_ret pe_bl)) pss_nil)
    (pss_one
    (ps_ret (pe_callB (cr_all rfl) rfl T.z_all (by decide +kernel) (pa_cons (pe_lc (own := [("one", 1), ("two", 2)]) (g := gTup K 2 (gCons (gName 1) (gCons (gName 2) gNil))) (tt := tYes) rfl S_is_alphabet.nd (pi_zipS rfl T.z_zip (pa_cons (pv 0) (pa_cons (pe_slice sl_str (pv 0) (po_some pe_int) po_none) pa_nil))) (blkOk_by (N := N_is_alphabet) (sc := defScope s_is_alphabet) (by decide +kernel)) (fun _ _ _ _ _ => pg_tup rfl (pgs_cons (pg_name (i := 1) S_is_alphabet.nd rfl (Or.inl rfl)) (pgs_cons (pg_name (i := 2) S_is_alphabet.nd rfl (Or.inl rfl)) pgs_nil))) (fun _ _ _ _ _ => pts_nil) (fun _ _ _ _ _ => (pe_cmpR op_lt_str (pv 1) (pv 2) (nomark _)))) pa_nil)))))), ?_⟩
  have h6 := hA.six
  have h1 := hA.pos
  refine q_skip (et_is (et_or (et_lt (ev_lenS (by omega) (ev_var rfl)) ev_c) (fun _ => et_gt (ev_lenS (by omega) (ev_var rfl)) ev_c)) (by rw [decide_eq_false (show ¬ (al.length : Int) < 1 by omega), decide_eq_false (show ¬ (6 : Int) < (al.length : Int) by omega)]; rfl)) fun H1 e1 => ?_
  have hst : Txt.stripChars (SX.S al) (Str.ofString "0123456789abcdefghijklmnopqrstuvwxyz") = SX.S [] := by
    rw [lets_is]
    exact strip_chars fun c hc => let_mem (hA.let' c hc)
  refine q_skip (et_is (et_test (ev_op (ev_bm (z := tx []) (ev_var rfl) (fun _ _ => rfl) (ea_cons ev_c ea_nil) fun H2 _ Q' q' => ⟨SX.S al, _, rfl, rfl, by rw [SX.S_len]; exact sz_of (by omega), by rw [hst]; exact q' H2 (Ex.refl H2)⟩) ev_c (rv_ne rfl))) (by rw [nil_is]; simp)) fun H2 e2 => ?_
  refine s_ret (ev_is (ev_allN (bs := (List.range (min al.length (al.drop 1).length)).map fun i => decide (al.getD i 0 < (al.drop 1).getD i 0)) ?_) ?_) fun H3 e3 => q H3 ((e1.trans e2).trans e3)
  · have g := el_lcZ (K := K) (σ := [some (tx al), none, none]) (H := H2) (x := al) (y := al.drop 1) (tp := tCons (tVar 0) (tCons (tSl rSlS (tVar 0) (tPart (tC (.int 1))) tNoPart) tNil)) (j1 := 1) (j2 := 2) (vs := [1, 2]) (te := tOp (fun x y H Q => ∃ i j : Str, x = .str i ∧ y = .str j ∧ Q (.bl (decide (i.cps.toList < j.cps.toList))) H) (tVar 1) (tVar 2))
      (fun i => V.bl (decide (al.getD i 0 < (al.drop 1).getD i 0)))
      (ea_cons (ev_var rfl) (ea_cons (ev_is (ev_slS (by omega) (ev_var rfl) (eo_some (i := ((1 : Nat) : Int)) ev_c) eo_none) (by rw [cutL_from])) ea_nil)) (by omega) (fun a b => rfl) (fun i c d H3 e3 hc hd => ?_)
    · rw [List.map_map]
      exact g
    · have ec : al.getD i 0 = c := by
        rw [List.getD_eq_getElem?_getD, hc]
        rfl
      have ed : (al.drop 1).getD i 0 = d := by
        rw [List.getD_eq_getElem?_getD, hd]
        rfl
      rw [ec, ed]
      refine ev_is (ev_op (ev_var rfl) (ev_var rfl) rv_ltS) ?_
      congr 1
      refine decide_eq_decide.mpr ?_
      constructor
      · intro h
        cases h with
        | rel h => exact h
        | cons h => cases h
      · exact fun h => List.Lex.rel h
  · congr 1
    rw [List.all_eq_true]
    intro b hb
    obtain ⟨i, hi, rfl⟩ := List.mem_map.mp hb
    have hi := List.mem_range.mp hi
    have hl : (al.drop 1).length = al.length - 1 := List.length_drop
    show decide _ = true
    refine decide_eq_true ?_
    rw [List.getD_eq_getElem?_getD, List.getD_eq_getElem?_getD, List.getElem?_drop, List.getElem?_eq_getElem (by omega), List.getElem?_eq_getElem (by omega)]
    exact List.pairwise_iff_getElem.mp hA.asc i (1 + i) (by omega) (by omega) (by omega)
theorem sv_isal {al : List Nat} {H : Hp} (h : Alf al) : SpV spIsAl ([tx al] ++ []) H (.bl true) := fun _ _ _ q _ => ⟨al, rfl, h, q⟩
/-! ### is_letter, is_whole -/
def spLet : Sp := fun vs H Q _ => ∃ (al : List Nat) (c : Nat), vs = [tx al, tx [c]] ∧ c ∈ al ∧ RetV (.bl true) H Q
theorem has_let (F : At K mg "is_letter" s_is_letter) (T : Top K mg C_Cut) : Has P w K mg base "is_letter" s_is_letter ["alphabet", "value"] 1 spLet := by
  obtain ⟨f, fd, F, m⟩ := F.ex
  refine ⟨f, fd, F, F.ok S_is_letter (fun vs H Q E h => ?_) (fun cdv A outer s H vs Q E hr h => ?_), F.binds fun _ _ _ _ _ _ us hl => match us, hl with | [_, _], _ => rfl, m, F.kp⟩
  · obtain ⟨al, c, rfl, _⟩ := h
    rfl
  obtain ⟨al, c, rfl, hc, q⟩ := h
  refine ⟨_, (pss_one
    (ps_ret (pe_and (pe_callB call_isi rfl T.z_isinstance (by decide +kernel) (pa_cons (pv 1) (pa_cons (pe_bltn (v := .ty "str") rfl T.z_str (by decide +kernel) rfl) pa_nil))) (pe_and (pe_cmpR op_eq (pe_callB call_len_str rfl T.z_len PySem.boot_len (pa_cons (pv 1) pa_nil)) pe_int (nomark _)) (pe_one (pe_cmpR op_in_sign (pv 1) (pv 0) rfl)))))), ?_⟩
  refine s_ret (ev_is (ev_andV (ev_cb (ea_cons (ev_var rfl) (ea_cons ev_c ea_nil)) (rc_isiS (b := true) (by decide +kernel)))
    (fun _ => ev_andV (ev_op (ev_lenS (l := [c]) (by show 1 ≤ 100000; decide) (ev_var rfl)) ev_c (rv_eq rfl)) (fun _ => ev_op (ev_var rfl) (ev_var rfl) (rv_inSign (c := c) (l := al))))) ?_) q
  rw [decide_eq_true hc]
  rfl
theorem sv_let {al : List Nat} {c : Nat} {H : Hp} (h : c ∈ al) : SpV spLet ([tx al, tx [c]] ++ []) H (.bl true) := fun _ _ _ q _ => ⟨al, c, rfl, h, q⟩
theorem has_whole (F : At K mg "is_whole" s_is_whole) (T : Top K mg C_Cut) : Has P w K mg base "is_whole" s_is_whole ["value"] 1 spWhole := by
  obtain ⟨f, fd, F, m⟩ := F.ex
  refine ⟨f, fd, F, F.ok S_is_whole (fun vs H Q E h => ?_) (fun cdv A outer s H vs Q E hr h => ?_), F.binds fun _ _ _ _ _ _ us hl => match us, hl with | [_], _ => rfl, m, F.kp⟩
  · obtain ⟨n, rfl, _⟩ := h
    rfl
  obtain ⟨n, rfl, q⟩ := h
  refine ⟨_, (pss_one
    (ps_ret (pe_and (pe_callB call_isi rfl T.z_isinstance (by decide +kernel) (pa_cons (pv 0) (pa_cons (pe_bltn (v := .ty "int") rfl T.z_int (by decide +kernel) rfl) pa_nil))) (pe_one (pe_not (pe_callB call_isi rfl T.z_isinstance (by decide +kernel) (pa_cons (pv 0) (pa_cons (pe_bltn (v := .ty "bool") rfl T.z_bool (by decide +kernel) rfl) pa_nil)))))))), ?_⟩
  exact s_ret (ev_is (ev_andV (ev_cb (ea_cons (ev_var rfl) (ea_cons ev_c ea_nil)) (rc_isi (b := true) (by decide +kernel)))
    (fun _ => ev_notV (ev_cb (ea_cons (ev_var rfl) (ea_cons ev_c ea_nil)) (rc_isi (b := false) (by decide +kernel))))) rfl) q
def spBelow : Sp := fun vs H Q _ => ∃ n m : Int, vs = [.int n, .int m] ∧ RetV (.bl (decide (0 ≤ n) && decide (n < m))) H Q
theorem sv_below {n m : Int} {H : Hp} : SpV spBelow ([V.int n, V.int m] ++ []) H (.bl (decide (0 ≤ n) && decide (n < m))) := fun _ _ _ q _ => ⟨n, m, rfl, q⟩
theorem sv_belowT {n m : Int} {H : Hp} (h0 : 0 ≤ n) (h : n < m) : SpV spBelow ([V.int n, V.int m] ++ []) H (.bl true) := by
  have g := sv_below (n := n) (m := m) (H := H)
  rw [decide_eq_true h0, decide_eq_true h] at g
  exact g
theorem has_below (F : At K mg "is_number_below" s_is_number_below) (T : Top K mg C_Cut) (h1 : Has P w K mg base "is_whole" s_is_whole ["value"] 1 spWhole) : Has P w K mg base "is_number_below" s_is_number_below ["value", "many"] 2 spBelow := by
  obtain ⟨f, fd, F, m⟩ := F.ex
  obtain ⟨f1, fd1, _, G_is_whole, b_is_whole, m_is_whole, k_is_whole⟩ := h1
  refine ⟨f, fd, F, F.ok S_is_number_below (fun vs H Q E h => ?_) (fun cdv A outer s H vs Q E hr h => ?_), F.binds fun _ _ _ _ _ _ us hl => match us, hl with | [_, _], _ => rfl, m, F.kp⟩
  · obtain ⟨n, m, rfl, _⟩ := h
    rfl
  obtain ⟨n, m, rfl, q⟩ := h
  refine ⟨_, (pss_one
    (ps_ret (pe_and (pe_call G_is_whole (hr.mono (by decide)) rfl m_is_whole k_is_whole b_is_whole .nil pass0 (pa_cons (pv 0) pa_nil)) (pe_one (pe_chain op_le op_lt pe_int (pv 0) (pv 1)))))), ?_⟩
  exact s_ret (ev_is (ev_andV (ev_call (ea_cons (ev_var rfl) ea_nil) sv_whole) (fun _ => ev_chainV ev_c (ev_var rfl) rv_I0 (fun _ => ev_var rfl) (fun _ => rv_I0))) (by rw [Bool.true_and])) q
/-! ### check_alphabet, check_text -/
def spCkAl : Sp := fun vs H Q _ => ∃ al : List Nat, vs = [tx al] ∧ Alf al ∧ RetV .non H Q
theorem has_ckal (F : At K mg "check_alphabet" s_check_alphabet) (T : Top K mg C_Cut) (h1 : Has P w K mg base "is_alphabet" s_is_alphabet ["string"] 1 spIsAl) : Has P w K mg base "check_alphabet" s_check_alphabet ["alphabet"] 2 spCkAl := by
  obtain ⟨f, fd, F, m⟩ := F.ex
  obtain ⟨f1, fd1, _, G_is_alphabet, b_is_alphabet, m_is_alphabet, k_is_alphabet⟩ := h1
  refine ⟨f, fd, F, F.ok S_check_alphabet (fun vs H Q E h => ?_) (fun cdv A outer s H vs Q E hr h => ?_), F.binds fun _ _ _ _ _ _ us hl => match us, hl with | [_], _ => rfl, m, F.kp⟩
  · obtain ⟨al, rfl, _⟩ := h
    rfl
  obtain ⟨al, rfl, hA, q⟩ := h
  refine ⟨_, (pss_one
    (ps_if (pt_not (pt_val (pe_call G_is_alphabet (hr.mono (by decide)) rfl m_is_alphabet k_is_alphabet b_is_alphabet .nil pass0 (pa_cons (pv 0) pa_nil)))) (pss_one
    ps_never) pss_nil)), ?_⟩
  exact s_skip (et_not (et_B (ev_call (ea_cons (ev_var rfl) ea_nil) (sv_isal hA)))) fun H1 e1 => q H1 e1
theorem sv_ckal {al : List Nat} {H : Hp} (h : Alf al) : SpV spCkAl ([tx al] ++ []) H .non := fun _ _ _ q _ => ⟨al, rfl, h, q⟩
def spCkTx : Sp := fun vs H Q _ => ∃ al v : List Nat, vs = [tx al, tx v] ∧ (∀ c ∈ v, c ∈ al) ∧ v.length ≤ 100000 ∧ RetV .non H Q
theorem has_cktx (F : At K mg "check_text" s_check_text) (T : Top K mg C_Cut) : Has P w K mg base "check_text" s_check_text ["alphabet", "text"] 1 spCkTx := by
  obtain ⟨f, fd, F, m⟩ := F.ex
  refine ⟨f, fd, F, F.ok S_check_text (fun vs H Q E h => ?_) (fun cdv A outer s H vs Q E hr h => ?_), F.binds fun _ _ _ _ _ _ us hl => match us, hl with | [_, _], _ => rfl, m, F.kp⟩
  · obtain ⟨al, v, rfl, _⟩ := h
    rfl
  obtain ⟨al, v, rfl, hv, hz, q⟩ := h
  refine ⟨_, (pss_cons
    (ps_set (i := 2) S_check_text.nd rfl (Or.inl rfl) (pe_bm PySem.F.plainAttrs_str PySem.F.slot_str_lstrip PySem.F.type_str_lstrip mt_lstripChars (pv 1) (pa_cons (pv 0) pa_nil)))
    (pss_one
    (ps_if (pt_cmpR op_ne (pv 2) pe_str (nomark _)) (pss_one
    ps_never) pss_nil))), ?_⟩
  refine q_asg (v := tx []) (ev_bm (ev_var rfl) (fun _ _ => rfl) (ea_cons (ev_var rfl) ea_nil) fun H2 _ Q' q' => ⟨SX.S v, SX.S al, rfl, rfl, by rw [SX.S_len]; exact sz_of hz, by rw [lstrip_chars hv]; exact q' H2 (Ex.refl H2)⟩) fun H1 e1 => ?_
  exact s_skip (et_is (et_test (ev_op (ev_var rfl) ev_c (rv_ne rfl))) (by rw [nil_is]; simp)) fun H2 e2 => q H2 (e1.trans e2)
theorem sv_cktx {al v : List Nat} {H : Hp} (h : ∀ c ∈ v, c ∈ al) (hz : v.length ≤ 100000) : SpV spCkTx ([tx al, tx v] ++ []) H .non := fun _ _ _ q _ => ⟨al, v, rfl, h, hz, q⟩
end
end Ver
namespace Ver
open PySem PySem.Spec PyProof.Rows L2 Evl
section
variable {P : Program} {w : World} {K : PySem.W.Frag} {mg : Str → Option Value} {base : Heap} {C_Cut : Addr}
/-! ### isinstance(x, (list, tuple)) -/
theorem kit_no {t : String} (h1 : kitB t "list" = some false) (h2 : kitB t "tuple" = some false) : PySem.W.kitAny K (.type t) [.type "list", .type "tuple"] = some false :=
  kitAny_cons (kit_ty h1) (fun _ => kitAny_cons (kit_ty h2) (fun _ => rfl) (fun h => nomatch h)) (fun h => nomatch h)
theorem kit_list : PySem.W.kitAny K (.type "list") [.type "list", .type "tuple"] = some true :=
  kitAny_cons (kit_ty (b := "list") (r := true) (by decide +kernel)) (fun h => nomatch h) (fun _ => rfl)
theorem kit_tuple : PySem.W.kitAny K (.type "tuple") [.type "list", .type "tuple"] = some true :=
  kitAny_cons (kit_ty (b := "list") (r := false) (by decide +kernel)) (fun _ => kitAny_cons (kit_ty (b := "tuple") (r := true) (by decide +kernel)) (fun h => nomatch h) (fun _ => rfl)) (fun h => nomatch h)
theorem ev_isT {ta tu : TE} {σ : L2.St} {H : Hp} {x : V} {t : Value} {b : Bool} (hx : Ev ta σ H x) (hu : EvU tu σ H [.ty "list", .ty "tuple"]) (ht : ∀ H1, Ex H H1 → TyX K H1 x t)
    (hb : PySem.W.kitAny K t [.type "list", .type "tuple"] = some b) : Ev (tCB (rIsiT K) (tCons ta (tCons tu tNil))) σ H (.bl b) := fun H1 e Q q =>
  hx H1 e _ fun H2 e2 => hu H2 (e.trans e2) _ fun p H3 _ e3 h3 => ⟨x, p, _, t, _, b, rfl, h3, .cons (.ty _) (.cons (.ty _) .nil), ht H3 ((e.trans e2).trans e3), hb, q H3 (e2.trans e3)⟩
/-! ### as_tuples, level by level -/
def spNo : Sp := fun _ _ _ _ => False
def flatT (x : V) : Prop := (∃ n, x = .int n) ∨ ∃ z, x = .str z
def Seq (H : Hp) (a : Addr) (xs : List V) : Prop := H a = some (.lst xs) ∨ H a = some (.tup xs)
theorem Seq.mono {H H' : Hp} {a : Addr} {xs : List V} (h : Seq H a xs) (e : Ex H H') : Seq H' a xs := h.elim (fun h => .inl (e _ _ h)) (fun h => .inr (e _ _ h))
theorem Seq.ty {H : Hp} {a : Addr} {xs : List V} (h : Seq H a xs) : ∃ t : Value, (∀ H1, Ex H H1 → TyX K H1 (.ref a) t) ∧ PySem.W.kitAny K t [.type "list", .type "tuple"] = some true := by
  rcases h with h | h
  · exact ⟨_, fun H1 e => .base (.lst (e _ _ h)), kit_list⟩
  · exact ⟨_, fun H1 e => .base (.tup (e _ _ h)), kit_tuple⟩
theorem s_retTup {σ : L2.St} {H : Hp} {te : TE} {D : Ends} (h : te σ H fun x H1 => ∃ p ys, [x] = [V.ref p] ∧ ((SqL K H1 p ys ∧ ∀ l, H1 l = none → D.rt (.ref l) (upd H1 l (.tup ys))) ∨ (SqT K H1 p ys ∧ D.rt (.ref p) H1))) :
    tRet (tCB (fun xs H Q => ∃ p ys, xs = [.ref p] ∧ ((SqL K H p ys ∧ ∀ l, H l = none → Q (.ref l) (upd H l (.tup ys))) ∨ (SqT K H p ys ∧ Q (.ref p) H))) (tCons te tNil)) D σ H := h
/-- a list made over a list or a tuple -/
theorem run_lcSeq {σ : L2.St} {H : Hp} {tl te : TE} {a : Addr} {xs : List V} {j : Nat} {vs : List Nat} {Q : VK} (h : Ev tl σ H (.ref a)) (hS : Seq H a xs) (Pv : Addr → Nat → Hp → Prop)
    (h0 : ∀ H1 Dl, Ex H H1 → H1 Dl = none → Pv Dl 0 (upd H1 Dl (.lst []))) (hG : ∀ Dl i H', Pv Dl i H' → Ex H H')
    (hs : ∀ Dl i x H', xs[i]? = some x → Pv Dl i H' → wipe ((wipe σ vs).set j (some x)) vs = wipe σ vs ∧ te ((wipe σ vs).set j (some x)) H' fun y H4 => ∃ acc, H4 Dl = some (.lst acc) ∧ acc.length < sizeLine ∧ Pv Dl (i + 1) (upd H4 Dl (.lst (acc ++ [y]))))
    (hd : ∀ Dl H', Pv Dl xs.length H' → Q (.ref Dl) H') : tLc (iSeq K tl) (gName j) tYes te vs σ H Q :=
  h H (Ex.refl H) _ fun H1 e1 => ⟨a, rfl, by
    rcases hS.mono e1 with q | q
    · exact .inl ⟨xs, sq_of q, fun Dl hD => lc_list (xs := xs) (Pv Dl) (h0 H1 Dl e1 hD) (fun i H' _ p => by
        have := (hG Dl i H' p)
        rcases hS with y | y
        · exact sq_of (this _ _ y)
        · have := e1 _ _ y
          rw [q] at this
          cases this) (fun i x H' hi p => ⟨(hs Dl i x H' hi p).1, (hs Dl i x H' hi p).2⟩) (hd Dl)⟩
    · exact .inr ⟨xs, st_of q, fun Dl hD => lc_tup (xs := xs) (Pv Dl) (h0 H1 Dl e1 hD) (fun i H' _ p => by
        have := (hG Dl i H' p)
        rcases hS with y | y
        · have := e1 _ _ y
          rw [q] at this
          cases this
        · exact st_of (this _ _ y)) (fun i x H' hi p => ⟨(hs Dl i x H' hi p).1, (hs Dl i x H' hi p).2⟩) (hd Dl)⟩⟩
/-- rows of pairs, each a list or a tuple -/
structure RowsS (H : Hp) (xs : List V) (rs : Rw) : Prop where
  len : xs.length = rs.length
  row : ∀ i x, xs[i]? = some x → i < rs.length ∧ ∃ r, x = .ref r ∧ Seq H r [.int ((rowAt rs i).1 : Int), tx [(rowAt rs i).2]]
theorem RowsS.mono {H H' : Hp} {xs : List V} {rs : Rw} (h : RowsS H xs rs) (e : Ex H H') : RowsS H' xs rs := ⟨h.len, fun i x q => by
  obtain ⟨a, r, b, c⟩ := h.row i x q
  exact ⟨a, r, b, c.mono e⟩⟩
theorem RowsS.get {H : Hp} {xs : List V} {rs : Rw} (h : RowsS H xs rs) {i : Nat} {x : V} (hx : xs[i]? = some x) : i < rs.length ∧ ∃ r, x = .ref r ∧ Seq H r [.int ((rowAt rs i).1 : Int), tx [(rowAt rs i).2]] := h.row i x hx
theorem RowsAt.toS {H : Hp} {xs : List V} {rs : Rw} (h : RowsAt H xs rs) : RowsS H xs rs := ⟨h.len, fun i x q => by
  obtain ⟨a, r, b, c⟩ := h.get q
  exact ⟨a, r, b, .inr c⟩⟩
def spAs0 : Sp := fun vs H Q _ => ∃ x : V, vs = [x] ∧ flatT x ∧ RetV x H Q
def spAs1 : Sp := fun vs H Q _ => ∃ (a : Addr) (xs : List V), vs = [.ref a] ∧ Seq H a xs ∧ xs.length ≤ 40000 ∧ (∀ x ∈ xs, flatT x) ∧ RetU xs H Q
def spAs2 : Sp := fun vs H Q _ => ∃ (a : Addr) (xs : List V) (rs : Rw), vs = [.ref a] ∧ Seq H a xs ∧ xs.length ≤ 40000 ∧ RowsS H xs rs ∧ ∀ p ys H2, H p = none → Ex H H2 → H2 p = some (.tup ys) → RowsAt H2 ys rs → Q (.ref p) H2
theorem as_no {f : Addr} {fd : FuncData} (F : Fun K "as_tuples" "as_tuples" s_as_tuples f fd) : FnOk P w K mg base CX0 1 f fd ["value"] spNo := F.ok S_as_tuples (fun vs H Q E h => h.elim) (fun cdv A outer s H vs Q E hr h => h.elim)
theorem as_0 {f : Addr} {fd : FuncData} (F : Fun K "as_tuples" "as_tuples" s_as_tuples f fd) (T : Top K mg C_Cut) (b_as_tuples : Binds K fd ["value"] []) (m_as_tuples : mg "as_tuples" = some (.ref f)) (k_as_tuples : PySem.W.keepIn K (.ref f) = true) : FnOk P w K mg base CX0 2 f fd ["value"] spAs0 := by
  have G_as_tuples := as_no (P := P) (w := w) (mg := mg) (base := base) F
  refine F.ok S_as_tuples (fun vs H Q E h => ?_) (fun cdv A outer s H vs Q E hr h => ?_)
  · obtain ⟨x, rfl, _⟩ := h
    rfl
  obtain ⟨x, rfl, hx, q⟩ := h
  refine ⟨_, (pss_cons
    (ps_if (pt_val (pe_callB call_isiT rfl T.z_isinstance (by decide +kernel) (pa_cons (pv 0) (pa_cons (pe_tup (pa_cons (pe_bltn (v := .ty "list") rfl T.z_list (by decide +kernel) rfl) (pa_cons (pe_bltn (v := .ty "tuple") rfl T.z_tuple (by decide +kernel) rfl) pa_nil))) pa_nil)))) (pss_one
    (ps_ret (pe_callTy call_tuple_of rfl T.z_tuple (by decide +kernel) (pa_cons (pe_lc (own := [("item", 1)]) (g := gName 1) (tt := tYes) rfl S_as_tuples.nd (pi_seq (pv 0)) (blkOk_by (N := N_as_tuples) (sc := defScope s_as_tuples) (by decide +kernel)) (fun _ _ _ _ _ => pg_name (i := 1) S_as_tuples.nd rfl (Or.inl rfl)) (fun _ _ _ _ _ => pts_nil) (fun _ _ _ _ _ => (pe_call G_as_tuples (hr.mono (by omega)) rfl m_as_tuples k_as_tuples b_as_tuples .nil pass0 (pa_cons (pv 1) pa_nil)))) pa_nil)))) pss_nil)
    (pss_one
    (ps_ret (pv 0)))), ?_⟩
  have ht : ∃ t : Value, (∀ H1, Ex H H1 → TyX K H1 x t) ∧ PySem.W.kitAny K t [.type "list", .type "tuple"] = some false := by
    rcases hx with ⟨n, rfl⟩ | ⟨z, rfl⟩
    · exact ⟨.type "int", fun _ _ => .base (.int n), kit_no (by decide +kernel) (by decide +kernel)⟩
    · exact ⟨.type "str", fun _ _ => .base (.str z), kit_no (by decide +kernel) (by decide +kernel)⟩
  obtain ⟨t, ht, hb⟩ := ht
  refine q_skip (et_B (ev_isT (ev_var rfl) (eu_tup (ea_cons ev_c (ea_cons ev_c ea_nil)) (by show 2 ≤ 100000; decide)) ht hb)) fun H1 e1 => ?_
  exact s_ret (ev_var rfl) fun H2 e2 => q H2 (e1.trans e2)
theorem sv_as0 {x : V} {H : Hp} (h : flatT x) : SpV spAs0 ([x] ++ []) H x := fun _ _ _ q _ => ⟨x, rfl, h, q⟩
theorem as_1 {f : Addr} {fd : FuncData} (F : Fun K "as_tuples" "as_tuples" s_as_tuples f fd) (T : Top K mg C_Cut) (b_as_tuples : Binds K fd ["value"] []) (m_as_tuples : mg "as_tuples" = some (.ref f)) (k_as_tuples : PySem.W.keepIn K (.ref f) = true) : FnOk P w K mg base CX0 3 f fd ["value"] spAs1 := by
  have G_as_tuples := as_0 (P := P) (w := w) (base := base) F T b_as_tuples m_as_tuples k_as_tuples
  refine F.ok S_as_tuples (fun vs H Q E h => ?_) (fun cdv A outer s H vs Q E hr h => ?_)
  · obtain ⟨a, xs, rfl, _⟩ := h
    rfl
  obtain ⟨a, xs, rfl, hS, hz, hx, q⟩ := h
  refine ⟨_, (pss_cons
    (ps_if (pt_val (pe_callB call_isiT rfl T.z_isinstance (by decide +kernel) (pa_cons (pv 0) (pa_cons (pe_tup (pa_cons (pe_bltn (v := .ty "list") rfl T.z_list (by decide +kernel) rfl) (pa_cons (pe_bltn (v := .ty "tuple") rfl T.z_tuple (by decide +kernel) rfl) pa_nil))) pa_nil)))) (pss_one
    (ps_ret (pe_callTy call_tuple_of rfl T.z_tuple (by decide +kernel) (pa_cons (pe_lc (own := [("item", 1)]) (g := gName 1) (tt := tYes) rfl S_as_tuples.nd (pi_seq (pv 0)) (blkOk_by (N := N_as_tuples) (sc := defScope s_as_tuples) (by decide +kernel)) (fun _ _ _ _ _ => pg_name (i := 1) S_as_tuples.nd rfl (Or.inl rfl)) (fun _ _ _ _ _ => pts_nil) (fun _ _ _ _ _ => (pe_call G_as_tuples (hr.mono (by omega)) rfl m_as_tuples k_as_tuples b_as_tuples .nil pass0 (pa_cons (pv 1) pa_nil)))) pa_nil)))) pss_nil)
    (pss_one
    (ps_ret (pv 0)))), ?_⟩
  obtain ⟨t, ht, hb⟩ := hS.ty (K := K)
  refine q_take (et_B (ev_isT (ev_var rfl) (eu_tup (ea_cons ev_c (ea_cons ev_c ea_nil)) (by show 2 ≤ 100000; decide)) ht hb)) fun H1 e1 => ?_
  have hS1 := hS.mono e1
  refine s_retU (xs := xs) (eu_tupOfL ?_) fun p H2 hp e2 h2 => q p H2 (fresh_back e1 hp) (e1.trans e2) h2
  intro H2 e2 Q2 q2
  refine run_lcSeq (σ := [some (.ref a), none]) (ev_var rfl) (hS1.mono e2) (fun Dl i H' => H2 Dl = none ∧ Ex H2 H' ∧ H' Dl = some (.lst (xs.take i))) (fun H3 Dl e3 hD => ⟨fresh_back e3 hD, e3.trans (Ex.new hD), upd_same⟩) (fun Dl i H' p => p.2.1) ?_ ?_
  · intro Dl i x H' hi p
    have hlt := (List.getElem?_eq_some_iff.mp hi).1
    refine ⟨rfl, (ev_call (z := x) (ea_cons (ev_var rfl) ea_nil) (sv_as0 (hx x (List.mem_of_getElem? hi)))) H' (Ex.refl H') _ fun H3 e3 => ⟨xs.take i, e3 _ _ p.2.2, sz_lt (by rw [List.length_take]; omega), p.1, (p.2.1.trans e3).mut p.1, ?_⟩⟩
    rw [List.take_add_one, hi]
    exact upd_same
  · intro Dl H' p
    have p3 := p.2.2
    rw [List.take_length] at p3
    exact q2 Dl H' p.1 p.2.1 p3
theorem su_as1 {a : Addr} {xs : List V} {H : Hp} (h : Seq H a xs) (hz : xs.length ≤ 40000) (hx : ∀ x ∈ xs, flatT x) : SpU spAs1 ([.ref a] ++ []) H xs := fun _ e _ q _ => ⟨a, xs, rfl, h.mono e, hz, hx, q⟩
theorem as_2 {f : Addr} {fd : FuncData} (F : Fun K "as_tuples" "as_tuples" s_as_tuples f fd) (T : Top K mg C_Cut) (b_as_tuples : Binds K fd ["value"] []) (m_as_tuples : mg "as_tuples" = some (.ref f)) (k_as_tuples : PySem.W.keepIn K (.ref f) = true) : FnOk P w K mg base CX0 4 f fd ["value"] spAs2 := by
  have G_as_tuples := as_1 (P := P) (w := w) (base := base) F T b_as_tuples m_as_tuples k_as_tuples
  refine F.ok S_as_tuples (fun vs H Q E h => ?_) (fun cdv A outer s H vs Q E hr h => ?_)
  · obtain ⟨a, xs, rs, rfl, _⟩ := h
    rfl
  obtain ⟨a, xs, rs, rfl, hS, hz, hR, q⟩ := h
  refine ⟨_, (pss_cons
    (ps_if (pt_val (pe_callB call_isiT rfl T.z_isinstance (by decide +kernel) (pa_cons (pv 0) (pa_cons (pe_tup (pa_cons (pe_bltn (v := .ty "list") rfl T.z_list (by decide +kernel) rfl) (pa_cons (pe_bltn (v := .ty "tuple") rfl T.z_tuple (by decide +kernel) rfl) pa_nil))) pa_nil)))) (pss_one
    (ps_ret (pe_callTy call_tuple_of rfl T.z_tuple (by decide +kernel) (pa_cons (pe_lc (own := [("item", 1)]) (g := gName 1) (tt := tYes) rfl S_as_tuples.nd (pi_seq (pv 0)) (blkOk_by (N := N_as_tuples) (sc := defScope s_as_tuples) (by decide +kernel)) (fun _ _ _ _ _ => pg_name (i := 1) S_as_tuples.nd rfl (Or.inl rfl)) (fun _ _ _ _ _ => pts_nil) (fun _ _ _ _ _ => (pe_call G_as_tuples (hr.mono (by omega)) rfl m_as_tuples k_as_tuples b_as_tuples .nil pass0 (pa_cons (pv 1) pa_nil)))) pa_nil)))) pss_nil)
    (pss_one
    (ps_ret (pv 0)))), ?_⟩
  obtain ⟨t, ht, hb⟩ := hS.ty (K := K)
  refine q_take (et_B (ev_isT (ev_var rfl) (eu_tup (ea_cons ev_c (ea_cons ev_c ea_nil)) (by show 2 ≤ 100000; decide)) ht hb)) fun H1 e1 => ?_
  have hS1 := hS.mono e1
  refine s_retTup (run_lcSeq (ev_var rfl) hS1 (fun Dl i H' => H1 Dl = none ∧ Ex H1 H' ∧ ∃ ys, H' Dl = some (.lst ys) ∧ RowsAt H' ys (rs.take i)) (fun H3 Dl e3 hD => ⟨fresh_back e3 hD, e3.trans (Ex.new hD), [], upd_same, .nil⟩) (fun Dl i H' p => p.2.1) ?_ ?_)
  · intro Dl i x H' hi p
    obtain ⟨p1, p2, ys, p3, p4⟩ := p
    obtain ⟨hlt, r, rfl, hr⟩ := hR.get hi
    have hr2 := hr.mono (e1.trans p2)
    refine ⟨rfl, (eu_call (ea_cons (ev_var rfl) ea_nil) (su_as1 (xs := [.int ((rowAt rs i).1 : Int), tx [(rowAt rs i).2]]) hr2 (by show 2 ≤ 40000; decide) (fun x hx => ?_))) H' (Ex.refl H') _ fun r2 H3 hr3 e3 h3 => ?_⟩
    · rcases List.mem_cons.mp hx with rfl | hx
      · exact .inl ⟨_, rfl⟩
      · rw [List.mem_singleton.mp hx]
        exact .inr ⟨_, rfl⟩
    · have hl := p4.len
      rw [List.length_take] at hl
      have hx := hR.len
      refine ⟨ys, e3 _ _ p3, sz_lt (by omega), p1, (p2.trans e3).mut p1, ys ++ [.ref r2], upd_same, ?_⟩
      have g := (p4.mono e3).snoc (r := r2) (p := (rowAt rs i).1) (c := (rowAt rs i).2) h3
      have et : rs.take (i + 1) = rs.take i ++ [((rowAt rs i).1, (rowAt rs i).2)] := by
        rw [List.take_add_one, rowAt_get hlt]
        rfl
      rw [et]
      exact g.upd (e3 _ _ p3) fun ys => by
        intro z
        cases z
  · intro Dl H' p
    obtain ⟨p1, p2, ys, p3, p4⟩ := p
    refine ⟨Dl, ys, rfl, .inl ⟨sq_of p3, fun l hl => ?_⟩⟩
    have e9 : rs.take xs.length = rs := List.take_of_length_le (by rw [hR.len]; exact Nat.le_refl _)
    rw [e9] at p4
    exact q l ys _ (fresh_back (e1.trans p2) hl) ((e1.trans p2).trans (Ex.new hl)) upd_same (p4.mono (Ex.new hl))
theorem has_as (F : At K mg "as_tuples" s_as_tuples) (T : Top K mg C_Cut) : Has P w K mg base "as_tuples" s_as_tuples ["value"] 4 spAs2 := by
  obtain ⟨f, fd, F, m⟩ := F.ex
  have b := F.binds (ps := ["value"]) fun _ _ _ _ _ _ us hl => match us, hl with | [_], _ => rfl
  exact ⟨f, fd, F, as_2 F T b m F.kp, b, m, F.kp⟩
end
end Ver
namespace Ver
open PySem PySem.Spec PyProof.Rows L2 Evl
/-! ### dicts by rows -/
def kr (r : Nat × Nat) : List Key := [Sum.inl (r.1 : Int), Sum.inr (SX.S [r.2])]
theorem kr_map (r : Nat × Nat) : (kr r).map kV = [V.int (r.1 : Int), tx [r.2]] := rfl
theorem kr_inj {a b : Nat × Nat} (h : kr a = kr b) : a = b := by
  unfold kr at h
  have h1 := (List.cons.inj h).1
  have h2 := (List.cons.inj (List.cons.inj h).2).1
  have e1 : (a.1 : Int) = (b.1 : Int) := Sum.inl.inj h1
  have e2 := SX.S_inj (Sum.inr.inj h2)
  have e3 : a.2 = b.2 := (List.cons.inj e2).1
  exact Prod.ext (by omega) e3
structure DictAt (kvs : List (List Key × V)) (L : Rw) (v : Nat × Nat → V) : Prop where
  len : kvs.length = L.length
  there : ∀ r ∈ L, valV kvs (kr r) = some (v r)
  not : ∀ r, r ∉ L → valV kvs (kr r) = none
theorem DictAt.nil {v : Nat × Nat → V} : DictAt [] [] v := ⟨rfl, fun r h => (by cases h), fun r _ => rfl⟩
theorem DictAt.put {kvs : List (List Key × V)} {L : Rw} {v v' : Nat × Nat → V} {r : Nat × Nat} (h : DictAt kvs L v) (hr : r ∉ L) (he : ∀ q ∈ L, v' q = v q) : DictAt (putK kvs (kr r) (v' r)) (L ++ [r]) v' := by
  refine ⟨?_, fun q hq => ?_, fun q hq => ?_⟩
  · rw [putK_new _ (h.not r hr), List.length_append, List.length_append, h.len]
    rfl
  · rw [valV_put]
    by_cases c : q = r
    · rw [c, if_pos rfl]
    · rw [if_neg fun e => c (kr_inj e)]
      rcases List.mem_append.mp hq with hq | hq
      · rw [h.there q hq, he q hq]
      · exact absurd (List.mem_singleton.mp hq) c
  · rw [valV_put, if_neg fun e => hq (by rw [kr_inj e]; exact List.mem_append_right _ (List.mem_singleton.mpr rfl))]
    exact h.not q fun hm => hq (List.mem_append_left _ hm)
theorem take_row {rs : Rw} {i : Nat} (h : i < rs.length) : rs.take (i + 1) = rs.take i ++ [rowAt rs i] := by
  rw [List.take_add_one, rowAt_get h]
  rfl
theorem row_new {al : List Nat} {rs : Rw} (h : RowsOk al rs) {i : Nat} (hi : i < rs.length) : rowAt rs i ∉ rs.take i := by
  have g := h.take (i + 1)
  rw [take_row hi] at g
  exact (RowsOk.last (p := (rowAt rs i).1) (c := (rowAt rs i).2) g).2.2
section
variable {P : Program} {w : World} {K : PySem.W.Frag} {mg : Str → Option Value} {base : Heap} {C_Cut : Addr}
/-! ### check_rows -/
def spCkR (K : PySem.W.Frag) : Sp := fun vs H Q _ => ∃ (al : List Nat) (a : Addr) (xs : List V) (rs : Rw), vs = [tx al, .ref a] ∧ SqT K H a xs ∧ RowsAt H xs rs ∧ RowsOk al rs ∧ rs.length ≤ 1000 ∧ RetV .non H Q
theorem has_ckr (F : At K mg "check_rows" s_check_rows) (T : Top K mg C_Cut) (h1 : Has P w K mg base "is_letter" s_is_letter ["alphabet", "value"] 1 spLet) (h2 : Has P w K mg base "is_number_below" s_is_number_below ["value", "many"] 2 spBelow) : Has P w K mg base "check_rows" s_check_rows ["alphabet", "rows"] 3 (spCkR K) := by
  obtain ⟨f, fd, F, m⟩ := F.ex
  obtain ⟨f1, fd1, _, G_is_letter, b_is_letter, m_is_letter, k_is_letter⟩ := h1
  obtain ⟨f2, fd2, _, G_is_number_below, b_is_number_below, m_is_number_below, k_is_number_below⟩ := h2
  refine ⟨f, fd, F, F.ok S_check_rows (fun vs H Q E h => ?_) (fun cdv A outer s H vs Q E hr h => ?_), F.binds fun _ _ _ _ _ _ us hl => match us, hl with | [_, _], _ => rfl, m, F.kp⟩
  · obtain ⟨al, a, xs, rs, rfl, _⟩ := h
    rfl
  obtain ⟨al, a, xs, rs, rfl, hT, hR, ok, hz, q⟩ := h
  refine ⟨_, (pss_cons
    (ps_set (i := 2) S_check_rows.nd rfl (Or.inl rfl) pe_dnewT)
    (pss_one
    (ps_for PassesOwn.never rfl (pi_enumT rfl T.z_enumerate (pa_cons (pv 1) pa_nil)) (pg_tup rfl (pgs_cons (pg_name (i := 3) S_check_rows.nd rfl (Or.inl rfl)) (pgs_cons (pg_name (i := 4) S_check_rows.nd rfl (Or.inl rfl)) pgs_nil))) (pss_cons
    (ps_asg (pv 4) (pg_tup rfl (pgs_cons (pg_name (i := 5) S_check_rows.nd rfl (Or.inl rfl)) (pgs_cons (pg_name (i := 6) S_check_rows.nd rfl (Or.inl rfl)) pgs_nil))))
    (pss_cons
    (ps_if (pt_not (pt_val (pe_call G_is_number_below (hr.mono (by decide)) rfl m_is_number_below k_is_number_below b_is_number_below .nil pass0 (pa_cons (pv 5) (pa_cons (pe_op op_add (pv 3) pe_int) pa_nil))))) (pss_one
    ps_never) pss_nil)
    (pss_cons
    (ps_if (PW.pt (pw_or (pt_not (pt_val (pe_call G_is_letter (hr.mono (by decide)) rfl m_is_letter k_is_letter b_is_letter .nil pass0 (pa_cons (pv 0) (pa_cons (pv 6) pa_nil))))) (pw_or1 (pt_cmp (pc_din (hu_of hr) (pv 4) (pv 2)))))) (pss_one
    ps_never) pss_nil)
    (pss_one
    (ps_dput (hu_of hr) (pv 2) (pv 4) pe_bl rfl)))))))), ?_⟩
  refine q_newT fun d H1 hd e1 h1 => ?_
  refine s_forET (D := { nx := _, rt := _, bk := _, ct := _ }) (xs := xs) (ea_cons (ev_var rfl) ea_nil) (ex_t e1 hT)
    (fun i σ' H' => (∃ u3 u4 u5 u6, σ' = [some (tx al), some (.ref a), some (.ref d), u3, u4, u5, u6]) ∧ Ex H H' ∧ (∃ kvs, H' d = some (.dT kvs) ∧ DictAt kvs (rs.take i) (fun _ => .bl true))) ?_ ?_ ?_ ?_
  · intro H2 e2
    exact ⟨⟨none, none, none, none, rfl⟩, e1.trans e2, [], e2 _ _ h1, .nil⟩
  · intro i σ' H' p
    exact ex_t p.2.1 hT
  · intro i x σ' H' H2 hx p e2
    obtain ⟨⟨u3, u4, u5, u6, rfl⟩, e3, kvs, hk, dk⟩ := p
    obtain ⟨hi, r, rfl, hr⟩ := hR.get hx
    have hr2 := e2 _ _ (e3 _ _ hr)
    obtain ⟨low, mem⟩ := row_ok ok hi
    refine q_unp (ev_var rfl) hr2 fun H3 e4 => ?_
    refine q_skip (et_is (et_not (et_B (ev_call (ea_cons (ev_var rfl) (ea_cons (ev_op (ev_var rfl) ev_c rv_I0) ea_nil)) (sv_belowT (n := ((rowAt rs i).1 : Int)) (m := (i : Int) + 1) (by omega) (by omega))))) rfl) fun H4 e5 => ?_
    have e24 := (e2.trans e4).trans e5
    refine q_skip (et_is (et_or (et_not (et_B (ev_call (ea_cons (ev_var rfl) (ea_cons (ev_var rfl) ea_nil)) (sv_let mem)))) (fun _ => et_din (o := none) (ev_var rfl) (ev_var rfl) fun H5 e6 => ?_)) rfl) fun H5 e6 => ?_
    · have g := DGet.t (k := kr (rowAt rs i)) (e6 _ _ (e24 _ _ hk)) (e6 _ _ (e5 _ _ (e4 _ _ hr2)))
      rw [dk.not _ (row_new ok hi)] at g
      exact g
    · refine s_dput (g := fun H6 => L2.upd H6 d (.dT (putK kvs (kr (rowAt rs i)) (.bl true)))) ev_c (ev_var rfl) (ev_var rfl) (fun H6 e7 => ?_) fun H6 e7 => ?_
      · refine DPut.t (k := kr (rowAt rs i)) (e7 _ _ (e6 _ _ (e24 _ _ hk))) (e7 _ _ (e6 _ _ (e5 _ _ (e4 _ _ hr2)))) (sz_lt ?_)
        rw [dk.len, List.length_take]
        omega
      · refine ⟨⟨_, _, _, _, rfl⟩, ((e3.trans e24).trans (e6.trans e7)).mut hd, _, upd_same, ?_⟩
        rw [take_row hi]
        exact dk.put (v' := fun _ => .bl true) (row_new ok hi) fun _ _ => rfl
  · intro σ' H' p
    exact q H' p.2.1
theorem sv_ckr {al : List Nat} {a : Addr} {xs : List V} {rs : Rw} {H : Hp} (hT : SqT K H a xs) (hR : RowsAt H xs rs) (ok : RowsOk al rs) (hz : rs.length ≤ 1000) : SpV (spCkR K) ([tx al, .ref a] ++ []) H .non := fun _ e _ q _ => ⟨al, a, xs, rs, rfl, ex_t e hT, hR.mono e, ok, hz, q⟩
/-! ### pieces_of, starts_of -/
theorem pcs_at (rs : Rw) (k : Nat) : ((pcs rs).getD k []).length ≤ rs.length := by
  induction rs using snoc_ind generalizing k with
  | h0 =>
    show (([[]] : List (List Nat)).getD k []).length ≤ 0
    match k with
    | 0 => exact Nat.le_refl 0
    | k + 1 => exact Nat.le_refl 0
  | hs rs r ih =>
    rw [pcs_snoc, List.getD_eq_getElem?_getD, List.length_append]
    show _ ≤ rs.length + 1
    by_cases h : k < (pcs rs).length
    · rw [List.getElem?_append_left h, ← List.getD_eq_getElem?_getD]
      have := ih k
      omega
    · rw [List.getElem?_append_right (by omega)]
      by_cases h2 : k - (pcs rs).length = 0
      · rw [h2]
        show ((pcs rs).getD r.1 [] ++ [r.2]).length ≤ _
        rw [List.length_append]
        have := ih r.1
        show _ + 1 ≤ _
        omega
      · obtain ⟨j, hj⟩ := Nat.exists_eq_succ_of_ne_zero h2
        rw [hj]
        show ([] : List Nat).length ≤ _
        exact Nat.zero_le _
def spPcs (K : PySem.W.Frag) : Sp := fun vs H Q _ => ∃ (al : List Nat) (a : Addr) (xs : List V) (rs : Rw), vs = [.ref a] ∧ SqT K H a xs ∧ RowsAt H xs rs ∧ RowsOk al rs ∧ rs.length ≤ 1000 ∧ RetU ((pcs rs).map tx) H Q
theorem has_pcs (F : At K mg "pieces_of" s_pieces_of) (T : Top K mg C_Cut) : Has P w K mg base "pieces_of" s_pieces_of ["rows"] 1 (spPcs K) := by
  obtain ⟨f, fd, F, m⟩ := F.ex
  refine ⟨f, fd, F, F.ok S_pieces_of (fun vs H Q E h => ?_) (fun cdv A outer s H vs Q E hr h => ?_), F.binds fun _ _ _ _ _ _ us hl => match us, hl with | [_], _ => rfl, m, F.kp⟩
  · obtain ⟨al, a, xs, rs, rfl, _⟩ := h
    rfl
  obtain ⟨al, a, xs, rs, rfl, hT, hR, ok, hz, q⟩ := h
  refine ⟨_, (pss_cons
    (ps_set (i := 1) S_pieces_of.nd rfl (Or.inl rfl) (pe_lst (pa_cons pe_str pa_nil)))
    (pss_cons
    (ps_for PassesOwn.never rfl (pi_tup (pv 0)) (pg_tup rfl (pgs_cons (pg_name (i := 2) S_pieces_of.nd rfl (Or.inl rfl)) (pgs_cons (pg_name (i := 3) S_pieces_of.nd rfl (Or.inl rfl)) pgs_nil))) (pss_one
    (ps_expr (pe_bm PySem.F.plainAttrs_list PySem.F.slot_list_append PySem.F.type_list_append mt_append (pv 1) (pa_cons (pe_op op_add_str (pe_ix (r := rIxL K) ix_list (pv 1) (pv 2) (fun _ _ => rfl)) (pv 3)) pa_nil)))))
    (pss_one
    (ps_ret (pe_callTy call_tuple_of rfl T.z_tuple (by decide +kernel) (pa_cons (pv 1) pa_nil)))))), ?_⟩
  refine q_asgL (xs := [tx []]) (el_lst (ea_cons (ev_is ev_c (by rw [nil_is])) ea_nil) (by show 1 ≤ 100000; decide)) fun l H1 hl e1 h1 => ?_
  refine q_forRows (ev_var rfl) (ex_t e1 hT) (hR.mono e1) (fun i σ' H' => (∃ u v, σ' = [some (.ref a), some (.ref l), u, v]) ∧ Ex H H' ∧ H' l = some (.lst ((pcs (rs.take i)).map tx))) ?_ ?_ ?_ ?_
  · intro H2 e2
    exact ⟨⟨none, none, rfl⟩, e1.trans e2, e2 _ _ h1⟩
  · intro i σ' H' p
    exact ⟨ex_t p.2.1 hT, hR.mono p.2.1⟩
  · intro i σ' H' hi p
    obtain ⟨⟨u, v, rfl⟩, e2, h2⟩ := p
    obtain ⟨low, mem⟩ := row_ok ok hi
    have hlen : (pcs (rs.take i)).length = i + 1 := by
      rw [pcs_len, List.length_take]
      omega
    have hlt : (rowAt rs i).1 < (pcs (rs.take i)).length := by omega
    have hpl := pcs_at (rs.take i) (rowAt rs i).1
    rw [List.length_take] at hpl
    have hg : ((pcs (rs.take i)).map tx)[(rowAt rs i).1]? = some (tx ((pcs (rs.take i)).getD (rowAt rs i).1 [])) := by
      rw [List.getElem?_map, List.getD_eq_getElem?_getD, List.getElem?_eq_getElem hlt]
      rfl
    refine s_app h2 (ev_var rfl) (ev_catS (b := [(rowAt rs i).2]) (by show _ + 1 ≤ 100000; omega) (ev_op (ev_var rfl) (ev_var rfl) (rv_ixL (sq_of h2) (atI_nat hg))) (ev_var rfl)) (by rw [List.length_map]; omega) fun H3 e3 => ⟨⟨_, _, rfl⟩, (e2.trans e3).mut hl, ?_⟩
    rw [take_row hi, pcs_snoc, List.map_append]
    exact upd_same
  · intro σ' H' p
    obtain ⟨⟨u, v, rfl⟩, e2, h2⟩ := p
    rw [List.take_length] at h2
    exact s_retU (eu_tupOf (ev_var rfl) (sq_of h2)) fun r H3 hr e3 h3 => q r H3 (fresh_back e2 hr) (e2.trans e3) h3
theorem su_pcs {al : List Nat} {a : Addr} {xs : List V} {rs : Rw} {H : Hp} (hT : SqT K H a xs) (hR : RowsAt H xs rs) (ok : RowsOk al rs) (hz : rs.length ≤ 1000) : SpU (spPcs K) ([.ref a] ++ []) H ((pcs rs).map tx) := fun _ e _ q _ => ⟨al, a, xs, rs, rfl, ex_t e hT, hR.mono e, ok, hz, q⟩
def sts (ps : List (List Nat)) : List Int := (List.range ps.length).map fun i => (((ps.drop 1).take i).flatten.length : Int)
def spSts (K : PySem.W.Frag) : Sp := fun vs H Q _ => ∃ (a : Addr) (ps : List (List Nat)), vs = [.ref a] ∧ SqT K H a (ps.map tx) ∧ 1 ≤ ps.length ∧ ps.length ≤ 2000 ∧ ps.flatten.length ≤ 50000 ∧ RetU ((sts ps).map V.int) H Q
theorem flat_take (ps : List (List Nat)) (i : Nat) : (ps.take i).flatten.length ≤ ps.flatten.length := by
  conv => rhs; rw [← List.take_append_drop i ps, List.flatten_append, List.length_append]
  omega
theorem has_sts (F : At K mg "starts_of" s_starts_of) (T : Top K mg C_Cut) : Has P w K mg base "starts_of" s_starts_of ["pieces"] 1 (spSts K) := by
  obtain ⟨f, fd, F, m⟩ := F.ex
  refine ⟨f, fd, F, F.ok S_starts_of (fun vs H Q E h => ?_) (fun cdv A outer s H vs Q E hr h => ?_), F.binds fun _ _ _ _ _ _ us hl => match us, hl with | [_], _ => rfl, m, F.kp⟩
  · obtain ⟨a, ps, rfl, _⟩ := h
    rfl
  obtain ⟨a, ps, rfl, hT, h1p, hz, hfl, q⟩ := h
  refine ⟨_, (pss_cons
    (ps_set (i := 1) S_starts_of.nd rfl (Or.inl rfl) (pe_lst pa_nil))
    (pss_cons
    (ps_set (i := 2) S_starts_of.nd rfl (Or.inl rfl) pe_int)
    (pss_cons
    (ps_for PassesOwn.never rfl (pi_tup (pe_slice sl_tup (pv 0) (po_some pe_int) po_none)) (pg_name (i := 3) S_starts_of.nd rfl (Or.inl rfl)) (pss_cons
    (ps_expr (pe_bm PySem.F.plainAttrs_list PySem.F.slot_list_append PySem.F.type_list_append mt_append (pv 1) (pa_cons (pv 2) pa_nil)))
    (pss_one
    (ps_aug (i := 2) S_starts_of.nd rfl (Or.inl rfl) (pe_callB call_len_str rfl T.z_len PySem.boot_len (pa_cons (pv 3) pa_nil)) ip_add))))
    (pss_cons
    (ps_expr (pe_bm PySem.F.plainAttrs_list PySem.F.slot_list_append PySem.F.type_list_append mt_append (pv 1) (pa_cons (pv 2) pa_nil)))
    (pss_one
    (ps_ret (pe_callTy call_tuple_of rfl T.z_tuple (by decide +kernel) (pa_cons (pv 1) pa_nil)))))))), ?_⟩
  have hdl : (ps.drop 1).flatten.length ≤ 50000 := by
    have : ps.flatten.length = (ps.take 1).flatten.length + (ps.drop 1).flatten.length := by
      conv => lhs; rw [← List.take_append_drop 1 ps, List.flatten_append, List.length_append]
    omega
  refine q_asgL (xs := []) (el_lst ea_nil (by decide)) fun l H1 hl e1 h1 => ?_
  refine q_asg ev_c fun H2 e2 => ?_
  have e12 := e1.trans e2
  have hsl : EvU (tSl (rSlT K) (tVar 0) (tPart (tC (.int 1))) tNoPart) [some (.ref a), some (.ref l), some (.int 0), none] H2 ((ps.drop 1).map tx) := fun H3 e3 Q' q' => by
    refine ⟨_, rfl, 1, rfl, a, ps.map tx, rfl, ex_t (e12.trans e3) hT, ?_, fun r hr => ?_⟩
    · rw [show (1 : Int) = ((1 : Nat) : Int) from rfl, HT.sIx_nat, List.length_map]
      omega
    · have ec : cutV (ps.map tx) (some 1) none = (ps.drop 1).map tx := by
        unfold cutV
        rw [show (1 : Int) = ((1 : Nat) : Int) from rfl, HT.sIx_nat, HT.sIx_none, List.length_map, Nat.min_eq_left h1p, List.map_drop]
        exact List.take_of_length_le (by rw [List.length_drop, List.length_map]; omega)
      rw [ec]
      exact q' r _ hr (Ex.new hr) upd_same
  refine hsl H2 (Ex.refl H2) _ fun s2 H3 hs2 e3 h3 => ?_
  refine ⟨s2, rfl, ⟨_, st_of h3⟩, for_tup (xs := (ps.drop 1).map tx) (fun i σ' H' => (∃ u, σ' = [some (.ref a), some (.ref l), some (.int ((((ps.drop 1).take i).flatten.length : Nat) : Int)), u]) ∧ Ex H H' ∧ H' s2 = some (.tup ((ps.drop 1).map tx)) ∧ H' l = some (.lst (((List.range i).map fun i => (((ps.drop 1).take i).flatten.length : Int)).map V.int))) ?_ ?_ ?_ ?_⟩
  · exact ⟨⟨none, rfl⟩, e12.trans e3, h3, e3 _ _ (e2 _ _ h1)⟩
  · intro i σ' H' _ p
    exact st_of p.2.2.1
  · intro i x σ' H' hx p
    obtain ⟨⟨u, rfl⟩, e4, h4, h5⟩ := p
    rw [List.getElem?_map] at hx
    cases hp : (ps.drop 1)[i]? with
    | none =>
      rw [hp] at hx
      cases hx
    | some pc =>
    rw [hp] at hx
    cases hx
    have hi := (List.getElem?_eq_some_iff.mp hp).1
    rw [List.length_drop] at hi
    have et : (ps.drop 1).take (i + 1) = (ps.drop 1).take i ++ [pc] := by
      rw [List.take_add_one, hp]
      rfl
    have hf := flat_take (ps.drop 1) (i + 1)
    rw [et, List.flatten_append, List.length_append] at hf
    have hpc : [pc].flatten.length = pc.length := by simp
    have nls : l ≠ s2 := ne_of h5 h4 (by intro z; cases z)
    refine q_app h5 (ev_var rfl) (ev_var rfl) (by rw [List.length_map, List.length_map, List.length_range]; omega) fun H4 e5 => ?_
    refine s_aug (f := fun a b => a + b) (a := (((ps.drop 1).take i).flatten.length : Int)) rfl (ev_lenS (l := pc) (by omega) (ev_var rfl)) fun H5 e6 => ⟨⟨some (tx pc), ?_⟩, ((e4.trans e5).mut hl).trans e6, ?_, ?_⟩
    · rw [et, List.flatten_append, List.length_append, hpc, Int.natCast_add]
      rfl
    · refine e6 _ _ ?_
      rw [upd_ne nls.symm]
      exact e5 _ _ h4
    · refine e6 _ _ ?_
      rw [map_range_succ]
      exact upd_same
  · intro σ' H' p
    obtain ⟨⟨u, rfl⟩, e4, h4, h5⟩ := p
    have hln : ((ps.drop 1).map tx).length = ps.length - 1 := by rw [List.length_map, List.length_drop]
    rw [hln] at h5 ⊢
    refine q_app h5 (ev_var rfl) (ev_var rfl) (by rw [List.length_map, List.length_map, List.length_range]; omega) fun H4 e5 => ?_
    rw [← map_range_succ (fun i => (((ps.drop 1).take i).flatten.length : Int))]
    have e7 : ps.length - 1 + 1 = ps.length := by omega
    rw [e7]
    exact s_retU (xs := (sts ps).map V.int) (eu_tupOf (ev_var rfl) (sq_of upd_same)) fun r H5 hr e6 h6 => q r H5 (fresh_back ((e4.trans e5).mut hl) hr) (((e4.trans e5).mut hl).trans e6) h6
theorem su_sts {a : Addr} {ps : List (List Nat)} {H : Hp} (hT : SqT K H a (ps.map tx)) (h1 : 1 ≤ ps.length) (hz : ps.length ≤ 2000) (hf : ps.flatten.length ≤ 50000) : SpU (spSts K) ([.ref a] ++ []) H ((sts ps).map V.int) := fun _ e _ q _ => ⟨a, ps, rfl, ex_t e hT, h1, hz, hf, q⟩
end
end Ver
namespace Ver
open PySem PySem.Spec PyProof.Rows L2 Evl
/-! ### the fields of a Cut -/
def cutFs (al : List Nat) (ra : Addr) (t : Int) (pa : Addr) (m : Int) (tt : List Nat) (sa : Addr) : List (Str × V) :=
  putF "starts" (.ref sa) (putF "text" (tx tt) (putF "many" (.int m) (putF "pieces" (.ref pa) (putF "tail" (.int t) (putF "rows" (.ref ra) (putF "alphabet" (tx al) []))))))
theorem putF_len (f : Str) (y : V) : ∀ fs : List (Str × V), (putF f y fs).length ≤ fs.length + 1
  | [] => Nat.le_refl _
  | p :: r => by
    unfold putF
    split
    · show _ ≤ r.length + 1 + 1
      simp
    · have := putF_len f y r
      show (putF f y r).length + 1 ≤ r.length + 1 + 1
      omega
structure CutAt (C : Addr) (H : Hp) (p : Addr) (al : List Nat) (rs : Rw) (t : Nat) : Prop where
  ex : ∃ (dx ra pa sa : Addr) (xs : List V), H p = some (.ins C dx (cutFs al ra (t : Int) pa (rs.length : Int) ((pcs rs).flatten ++ (pcs rs).getD t []) sa)) ∧
    H ra = some (.tup xs) ∧ RowsAt H xs rs ∧ H pa = some (.tup ((pcs rs).map tx)) ∧ H sa = some (.tup ((sts (pcs rs)).map V.int))
theorem CutAt.mono {C : Addr} {H H' : Hp} {p : Addr} {al : List Nat} {rs : Rw} {t : Nat} (h : CutAt C H p al rs t) (e : Ex H H') : CutAt C H' p al rs t := by
  obtain ⟨dx, ra, pa, sa, xs, h1, h2, h3, h4, h5⟩ := h.ex
  exact ⟨dx, ra, pa, sa, xs, e _ _ h1, e _ _ h2, h3.mono e, e _ _ h4, e _ _ h5⟩
theorem fs_rows {al : List Nat} {ra pa sa : Addr} {t m : Int} {tt : List Nat} : (cutFs al ra t pa m tt sa).lookup ("rows" : Str) = some (.ref ra) := by
  unfold cutFs
  rw [lookup_putF, if_neg (by decide +kernel), lookup_putF, if_neg (by decide +kernel), lookup_putF, if_neg (by decide +kernel), lookup_putF, if_neg (by decide +kernel), lookup_putF, if_neg (by decide +kernel), lookup_putF, if_pos rfl]
theorem fs_many {al : List Nat} {ra pa sa : Addr} {t m : Int} {tt : List Nat} : (cutFs al ra t pa m tt sa).lookup ("many" : Str) = some (.int m) := by
  unfold cutFs
  rw [lookup_putF, if_neg (by decide +kernel), lookup_putF, if_neg (by decide +kernel), lookup_putF, if_pos rfl]
theorem fs_tail {al : List Nat} {ra pa sa : Addr} {t m : Int} {tt : List Nat} : (cutFs al ra t pa m tt sa).lookup ("tail" : Str) = some (.int t) := by
  unfold cutFs
  rw [lookup_putF, if_neg (by decide +kernel), lookup_putF, if_neg (by decide +kernel), lookup_putF, if_neg (by decide +kernel), lookup_putF, if_neg (by decide +kernel), lookup_putF, if_pos rfl]
/-- on the way: the instance at p has the fields fs, the rows stand at ra -/
structure Way (C : Addr) (H0 : Hp) (p dx ra : Addr) (ys : List V) (rs : Rw) (fs : List (Str × V)) (H : Hp) : Prop where
  e : Ex H0 H
  ins : H p = some (.ins C dx fs)
  row : H ra = some (.tup ys)
  rat : RowsAt H ys rs
theorem Way.mono {C : Addr} {H0 : Hp} {p dx ra : Addr} {ys : List V} {rs : Rw} {fs : List (Str × V)} {H H' : Hp} (h : Way C H0 p dx ra ys rs fs H) (e : Ex H H') : Way C H0 p dx ra ys rs fs H' := ⟨h.e.trans e, e _ _ h.ins, e _ _ h.row, h.rat.mono e⟩
theorem tup_upd {H : Hp} {p q C dx : Addr} {fs gs : List (Str × V)} {ys : List V} (hp : H p = some (.ins C dx fs)) (h : H q = some (.tup ys)) : (upd H p (.ins C dx gs)) q = some (.tup ys) := by
  rw [upd_ne (ne_of h hp (by intro z; cases z))]
  exact h
theorem Way.put {C : Addr} {H0 : Hp} {p dx ra : Addr} {ys : List V} {rs : Rw} {fs gs : List (Str × V)} {H : Hp} (h : Way C H0 p dx ra ys rs fs H) (hp : H0 p = none) : Way C H0 p dx ra ys rs gs (upd H p (.ins C dx gs)) :=
  ⟨h.e.mut hp, upd_same, tup_upd h.ins h.row, h.rat.upd h.ins (fun ys => by intro z; cases z)⟩
section
variable {P : Program} {w : World} {K : PySem.W.Frag} {mg : Str → Option Value} {base : Heap} {C_Cut : Addr}
/-! ### Cut.__init__ -/
def spInit (C : Addr) : Sp := fun vs H Q _ => ∃ (al : List Nat) (p a dx : Addr) (t : Nat) (xs : List V) (rs : Rw) (H0 : Hp), vs = [.ref p, tx al, .ref a, .int (t : Int)] ∧ Ex H0 H ∧ H0 p = none ∧ H p = some (.ins C dx []) ∧
  Seq H0 a xs ∧ RowsS H0 xs rs ∧ Alf al ∧ RowsOk al rs ∧ t ≤ rs.length ∧ rs.length ≤ 1000 ∧ (pcs rs).flatten.length ≤ 40000 ∧ ∀ H2, Ex H0 H2 → CutAt C H2 p al rs t → Q .non H2
theorem has_init (F : AtI K C_Cut "Cut.__init__" s_Cut___init__) (T : Top K mg C_Cut) (h1 : Has P w K mg base "check_alphabet" s_check_alphabet ["alphabet"] 2 spCkAl) (h2 : Has P w K mg base "as_tuples" s_as_tuples ["value"] 4 spAs2)
    (h3 : Has P w K mg base "check_rows" s_check_rows ["alphabet", "rows"] 3 (spCkR K)) (h4 : Has P w K mg base "is_number_below" s_is_number_below ["value", "many"] 2 spBelow) (h5 : Has P w K mg base "pieces_of" s_pieces_of ["rows"] 1 (spPcs K)) (h6 : Has P w K mg base "starts_of" s_starts_of ["pieces"] 1 (spSts K)) :
    HasI P w K mg base C_Cut ["self", "alphabet", "rows", "tail"] 5 (spInit C_Cut) := by
  obtain ⟨f, fd, F, M⟩ := F.ex
  obtain ⟨f1, fd1, _, G_check_alphabet, b_check_alphabet, m_check_alphabet, k_check_alphabet⟩ := h1
  obtain ⟨f2, fd2, _, G_as_tuples, b_as_tuples, m_as_tuples, k_as_tuples⟩ := h2
  obtain ⟨f3, fd3, _, G_check_rows, b_check_rows, m_check_rows, k_check_rows⟩ := h3
  obtain ⟨f4, fd4, _, G_is_number_below, b_is_number_below, m_is_number_below, k_is_number_below⟩ := h4
  obtain ⟨f5, fd5, _, G_pieces_of, b_pieces_of, m_pieces_of, k_pieces_of⟩ := h5
  obtain ⟨f6, fd6, _, G_starts_of, b_starts_of, m_starts_of, k_starts_of⟩ := h6
  refine ⟨f, fd, F.ok S_Cut___init__ (fun vs H Q E h => ?_) (fun cdv A outer s H vs Q E hr h => ?_), F.binds fun _ _ _ _ _ _ us hl => match us, hl with | [_, _, _, _], _ => rfl, M⟩
  · obtain ⟨al, p, a, dx, t, xs, rs, H0, rfl, _⟩ := h
    rfl
  obtain ⟨al, p, a, dx, t, xs, rs, H0, rfl, e0, hp0, hp, hS, hR, hA, ok, ht, hz, hfl, q⟩ := h
  refine ⟨_, (pss_cons
    (ps_expr (pe_call G_check_alphabet (hr.mono (by decide)) rfl m_check_alphabet k_check_alphabet b_check_alphabet .nil pass0 (pa_cons (pv 1) pa_nil)))
    (pss_cons
    (ps_set (i := 4) S_Cut___init__.nd rfl (Or.inl rfl) (pe_call G_as_tuples (hr.mono (by decide)) rfl m_as_tuples k_as_tuples b_as_tuples .nil pass0 (pa_cons (pv 2) pa_nil)))
    (pss_cons
    (ps_expr (pe_call G_check_rows (hr.mono (by decide)) rfl m_check_rows k_check_rows b_check_rows .nil pass0 (pa_cons (pv 1) (pa_cons (pv 4) pa_nil))))
    (pss_cons
    (ps_if (pt_not (pt_val (pe_call G_is_number_below (hr.mono (by decide)) rfl m_is_number_below k_is_number_below b_is_number_below .nil pass0 (pa_cons (pv 3) (pa_cons (pe_op op_add (pe_callB call_len_seq rfl T.z_len PySem.boot_len (pa_cons (pv 4) pa_nil)) pe_int) pa_nil))))) (pss_one
    ps_never) pss_nil)
    (pss_cons
    (ps_fld (pv 0) (pv 1) rfl)
    (pss_cons
    (ps_fld (pv 0) (pv 4) rfl)
    (pss_cons
    (ps_fld (pv 0) (pv 3) rfl)
    (pss_cons
    (ps_fld (pv 0) (pe_call G_pieces_of (hr.mono (by decide)) rfl m_pieces_of k_pieces_of b_pieces_of .nil pass0 (pa_cons (pv 4) pa_nil)) rfl)
    (pss_cons
    (ps_fld (pv 0) (pe_callB call_len_seq rfl T.z_len PySem.boot_len (pa_cons (pv 4) pa_nil)) rfl)
    (pss_cons
    (ps_fld (pv 0) (pe_op op_add_str (pe_join pe_str (pe_fld (pv 0) rfl)) (pe_ix (r := rIxT K) ix_tup (pe_fld (pv 0) rfl) (pv 3) (fun _ _ => rfl))) rfl)
    (pss_one
    (ps_fld (pv 0) (pe_call G_starts_of (hr.mono (by decide)) rfl m_starts_of k_starts_of b_starts_of .nil pass0 (pa_cons (pe_fld (pv 0) rfl) pa_nil)) rfl)))))))))))), ?_⟩
  refine q_drop (ev_call (ea_cons (ev_var rfl) ea_nil) (sv_ckal hA)) fun H1 e1 => ?_
  -- kept = as_tuples(rows)
  refine q_callD (vs := [.ref a]) (dvs := []) (ea_cons (ev_var rfl) ea_nil) fun H2 e2 => ⟨a, xs, rs, rfl, hS.mono (e0.trans (e1.trans e2)), by rw [hR.len]; omega, hR.mono (e0.trans (e1.trans e2)), fun ra ys H3 hra e3 h3 hR3 => ?_⟩
  have e13 := (e1.trans e2).trans e3
  refine q_drop (ev_call (ea_cons (ev_var rfl) (ea_cons (ev_var rfl) ea_nil)) (sv_ckr (st_of h3) hR3 ok hz)) fun H4 e4 => ?_
  have hlen : (((ys.length : Nat) : Int)) = (rs.length : Int) := by rw [hR3.len]
  refine q_skip (et_is (et_not (et_B (ev_call (ea_cons (ev_var rfl) (ea_cons (ev_op (ev_cb (ea_cons (ev_var rfl) ea_nil) (rc_lenT (st_of (e4 _ _ h3)))) ev_c rv_I0) ea_nil)) (sv_belowT (n := (t : Int)) (m := (ys.length : Int) + 1) (by omega) (by omega))))) rfl) fun H5 e5 => ?_
  have e05 := e13.trans (e4.trans e5)
  have h5 := e5 _ _ (e4 _ _ h3)
  have hR5 := hR3.mono (e4.trans e5)
  have cl := T.cl_Cut
  -- fields
  have w5 : Way C_Cut H0 p dx ra ys rs [] H5 := ⟨e0.trans e05, e05 _ _ hp, h5, hR5⟩
  have small : ∀ (f : Str) (y : V) (fs : List (Str × V)) (n : Nat), fs.length ≤ n → (putF f y fs).length ≤ n + 1 := fun f y fs n h => Nat.le_trans (putF_len f y fs) (by omega)
  refine q_fld (ev_var rfl) (ev_var rfl) w5.ins cl T.n_Cut_alphabet (by show 0 < 1000; decide) fun H6 e6 => ?_
  have w6 := (w5.mono e6).put (gs := putF "alphabet" (tx al) []) hp0
  have z6 := small "alphabet" (tx al) [] 0 (Nat.le_refl 0)
  generalize hf6 : putF ("alphabet" : Str) (tx al) [] = F6 at w6 z6 ⊢
  generalize upd H6 p (.ins C_Cut dx F6) = G6 at w6 ⊢
  refine q_fld (ev_var rfl) (ev_var rfl) w6.ins cl T.n_Cut_rows (by omega) fun H7 e7 => ?_
  have w7 := (w6.mono e7).put (gs := putF "rows" (.ref ra) F6) hp0
  have z7 := small "rows" (.ref ra) F6 1 (by omega)
  generalize hf7 : putF ("rows" : Str) (.ref ra) F6 = F7 at w7 z7 ⊢
  generalize upd H7 p (.ins C_Cut dx F7) = G7 at w7 ⊢
  refine q_fld (ev_var rfl) (ev_var rfl) w7.ins cl T.n_Cut_tail (by omega) fun H8 e8 => ?_
  have w8 := (w7.mono e8).put (gs := putF "tail" (.int (t : Int)) F7) hp0
  have z8 := small "tail" (.int (t : Int)) F7 2 (by omega)
  generalize hf8 : putF ("tail" : Str) (.int (t : Int)) F7 = F8 at w8 z8 ⊢
  generalize upd H8 p (.ins C_Cut dx F8) = G8 at w8 ⊢
  refine q_fldU (eu_call (ea_cons (ev_var rfl) ea_nil) (su_pcs (st_of w8.row) w8.rat ok hz)) (fun H9 e9 => ev_var rfl) w8.ins cl T.n_Cut_pieces (by omega) fun pa H9 hpa e9 h9 => ?_
  have h9' := tup_upd (gs := putF "pieces" (.ref pa) F8) (w8.mono e9).ins h9
  have w9 := (w8.mono e9).put (gs := putF "pieces" (.ref pa) F8) hp0
  have z9 := small "pieces" (.ref pa) F8 3 (by omega)
  have lk : (putF ("pieces" : Str) (.ref pa) F8).lookup ("pieces" : Str) = some (.ref pa) := by rw [lookup_putF, if_pos rfl]
  generalize hf9 : putF ("pieces" : Str) (.ref pa) F8 = F9 at w9 z9 lk h9' ⊢
  generalize upd H9 p (.ins C_Cut dx F9) = G9 at w9 h9' ⊢
  refine q_fld (ev_is (ev_cb (ea_cons (ev_var rfl) ea_nil) (rc_lenT (st_of w9.row))) (by rw [hlen])) (ev_var rfl) w9.ins cl T.n_Cut_many (by omega) fun H10 e10 => ?_
  have h10 := tup_upd (gs := putF "many" (.int (rs.length : Int)) F9) (w9.mono e10).ins (e10 _ _ h9')
  have w10 := (w9.mono e10).put (gs := putF "many" (.int (rs.length : Int)) F9) hp0
  have z10 := small "many" (.int (rs.length : Int)) F9 4 (by omega)
  have lk10 : (putF ("many" : Str) (.int (rs.length : Int)) F9).lookup ("pieces" : Str) = some (.ref pa) := by rw [lookup_putF, if_neg (by decide +kernel)]; exact lk
  generalize hf10 : putF ("many" : Str) (.int (rs.length : Int)) F9 = F10 at w10 z10 lk10 h10 ⊢
  generalize upd H10 p (.ins C_Cut dx F10) = G10 at w10 h10 ⊢
  have htl : t < (pcs rs).length := by
    rw [pcs_len]
    omega
  have hg : ((pcs rs).map tx)[t]? = some (tx ((pcs rs).getD t [])) := by
    rw [List.getElem?_map, List.getD_eq_getElem?_getD, List.getElem?_eq_getElem htl]
    rfl
  have hpt := pcs_at rs t
  refine q_fld (v := tx ((pcs rs).flatten ++ (pcs rs).getD t [])) (ev_catS (by omega) (ev_join (ev_is ev_c (by rw [nil_is])) (ev_fld (ev_var rfl) w10.ins cl T.n_Cut_pieces lk10) (.inr (st_of h10)) (by omega)) (ev_op (ev_fld (ev_var rfl) w10.ins cl T.n_Cut_pieces lk10) (ev_var rfl) (rv_ixT (st_of h10) (atI_nat hg)))) (ev_var rfl) w10.ins cl T.n_Cut_text (by omega) fun H11 e11 => ?_
  have h11 := tup_upd (gs := putF "text" (tx ((pcs rs).flatten ++ (pcs rs).getD t [])) F10) (w10.mono e11).ins (e11 _ _ h10)
  have w11 := (w10.mono e11).put (gs := putF "text" (tx ((pcs rs).flatten ++ (pcs rs).getD t [])) F10) hp0
  have z11 := small "text" (tx ((pcs rs).flatten ++ (pcs rs).getD t [])) F10 5 (by omega)
  have lk11 : (putF ("text" : Str) (tx ((pcs rs).flatten ++ (pcs rs).getD t [])) F10).lookup ("pieces" : Str) = some (.ref pa) := by rw [lookup_putF, if_neg (by decide +kernel)]; exact lk10
  generalize hf11 : putF ("text" : Str) (tx ((pcs rs).flatten ++ (pcs rs).getD t [])) F10 = F11 at w11 z11 lk11 h11 ⊢
  generalize upd H11 p (.ins C_Cut dx F11) = G11 at w11 h11 ⊢
  refine s_fldU (eu_call (vs := [.ref pa]) (ea_cons (ev_fld (ev_var rfl) w11.ins cl T.n_Cut_pieces lk11) ea_nil) (su_sts (st_of h11) (by rw [pcs_len]; omega) (by rw [pcs_len]; omega) (by omega))) (fun H12 e12 => ev_var rfl) w11.ins cl T.n_Cut_starts (by omega) fun sa H12 hsa e12 h12 => ?_
  have w12 := (w11.mono e12).put (gs := putF "starts" (.ref sa) F11) hp0
  refine q _ w12.e ⟨dx, ra, pa, sa, ys, ?_, w12.row, w12.rat, tup_upd (w11.mono e12).ins (e12 _ _ h11), tup_upd (w11.mono e12).ins h12⟩
  rw [w12.ins, ← hf11, ← hf10, ← hf9, ← hf8, ← hf7, ← hf6]
  rfl
end
end Ver
namespace Ver
open PySem PySem.Spec PyProof.Rows L2 Evl
theorem idx_old {L : Rw} {r q : Nat × Nat} (h : q ∈ L) : (L ++ [r]).idxOf q = L.idxOf q := by
  rw [List.idxOf_append, if_pos h]
theorem idx_new {L : Rw} {r : Nat × Nat} (h : r ∉ L) : (L ++ [r]).idxOf r = L.length := by
  rw [List.idxOf_append, if_neg h]
  simp
theorem s_retMake {σ : L2.St} {H : Hp} {D : Ends} {C : Addr} {sp : Sp} {dvs vs : List V} {E : XK} {tp : TA} (h : EvA tp σ H vs)
    (k : ∀ H1, Ex H H1 → ∀ x dx, H1 x = none → H1 dx = none → dx ≠ x → sp (.ref x :: (vs ++ dvs)) (upd (upd H1 dx (.own x)) x (.ins C dx [])) (fun v H2 => v = .non ∧ D.rt (.ref x) H2) E) : tRet (tMake C sp dvs E tp) D σ H := h H (Ex.refl H) _ k
section
variable {P : Program} {w : World} {K : PySem.W.Frag} {mg : Str → Option Value} {base : Heap} {C_Cut : Addr}
/-! ### cut_of -/
def spCut (C : Addr) : Sp := fun vs H Q _ => ∃ al v : List Nat, vs = [tx al, tx v] ∧ Alf al ∧ (∀ c ∈ v, c ∈ al) ∧ v.length ≤ 1000 ∧ ∀ p H2, H p = none → Ex H H2 → CutAt C H2 p al (cutW v).1 (cutW v).2 → Q (.ref p) H2
theorem has_cut (F : At K mg "cut_of" s_cut_of) (T : Top K mg C_Cut) (h1 : Has P w K mg base "check_alphabet" s_check_alphabet ["alphabet"] 2 spCkAl) (h2 : Has P w K mg base "check_text" s_check_text ["alphabet", "text"] 1 spCkTx)
    (h3 : HasI P w K mg base C_Cut ["self", "alphabet", "rows", "tail"] 5 (spInit C_Cut)) : Has P w K mg base "cut_of" s_cut_of ["alphabet", "text"] 7 (spCut C_Cut) := by
  obtain ⟨f, fd, F, m⟩ := F.ex
  obtain ⟨f1, fd1, _, G_check_alphabet, b_check_alphabet, m_check_alphabet, k_check_alphabet⟩ := h1
  obtain ⟨f2, fd2, _, G_check_text, b_check_text, m_check_text, k_check_text⟩ := h2
  obtain ⟨f3, fd3, G_Cut___init__, b_Cut___init__, mk_Cut⟩ := h3
  refine ⟨f, fd, F, F.ok S_cut_of (fun vs H Q E h => ?_) (fun cdv A outer s H vs Q E hr h => ?_), F.binds fun _ _ _ _ _ _ us hl => match us, hl with | [_, _], _ => rfl, m, F.kp⟩
  · obtain ⟨al, v, rfl, _⟩ := h
    rfl
  obtain ⟨al, v, rfl, hA, hv, hz, q⟩ := h
  refine ⟨_, (pss_cons
    (ps_expr (pe_call G_check_alphabet (hr.mono (by decide)) rfl m_check_alphabet k_check_alphabet b_check_alphabet .nil pass0 (pa_cons (pv 0) pa_nil)))
    (pss_cons
    (ps_expr (pe_call G_check_text (hr.mono (by decide)) rfl m_check_text k_check_text b_check_text .nil pass0 (pa_cons (pv 0) (pa_cons (pv 1) pa_nil))))
    (pss_cons
    (ps_set (i := 2) S_cut_of.nd rfl (Or.inl rfl) pe_dnewT)
    (pss_cons
    (ps_set (i := 3) S_cut_of.nd rfl (Or.inl rfl) (pe_lst pa_nil))
    (pss_cons
    (ps_set (i := 4) S_cut_of.nd rfl (Or.inl rfl) pe_int)
    (pss_cons
    (ps_for PassesOwn.never rfl (pi_str (pv 1)) (pg_name (i := 5) S_cut_of.nd rfl (Or.inl rfl)) (pss_cons
    (ps_set (i := 6) S_cut_of.nd rfl (Or.inl rfl) (pe_tup (pa_cons (pv 4) (pa_cons (pv 5) pa_nil))))
    (pss_one
    (ps_if (pt_cmp (pc_din (hu_of hr) (pv 6) (pv 2))) (pss_one
    (ps_set (i := 4) S_cut_of.nd rfl (Or.inl rfl) (pe_dget (hu_of hr) (pv 2) (pv 6) (fun _ _ => rfl)))) (pss_cons
    (ps_expr (pe_bm PySem.F.plainAttrs_list PySem.F.slot_list_append PySem.F.type_list_append mt_append (pv 3) (pa_cons (pv 6) pa_nil)))
    (pss_cons
    (ps_dput (hu_of hr) (pv 2) (pv 6) (pe_callB call_len_seq rfl T.z_len PySem.boot_len (pa_cons (pv 3) pa_nil)) rfl)
    (pss_one
    (ps_set (i := 4) S_cut_of.nd rfl (Or.inl rfl) pe_int))))))))
    (pss_one
    (ps_ret (pe_make mk_Cut G_Cut___init__ (hr.mono (by decide)) rfl T.c_Cut b_Cut___init__ .nil pass0 (pa_cons (pv 0) (pa_cons (pv 3) (pa_cons (pv 4) pa_nil)))))))))))), ?_⟩
  refine q_drop (ev_call (ea_cons (ev_var rfl) ea_nil) (sv_ckal hA)) fun H1 e1 => ?_
  refine q_drop (ev_call (ea_cons (ev_var rfl) (ea_cons (ev_var rfl) ea_nil)) (sv_cktx hv (by omega))) fun H2 e2 => ?_
  refine q_newT fun d H3 hd e3 h3 => ?_
  refine q_asgL (xs := []) (el_lst ea_nil (by decide)) fun l H4 hl e4 h4 => ?_
  refine q_asg ev_c fun H5 e5 => ?_
  have e02 := e1.trans e2
  have hd0 : H d = none := fresh_back e02 hd
  have hl0 : H l = none := fresh_back (e02.trans e3) hl
  have e05 := ((e02.trans e3).trans e4).trans e5
  refine q_forS (z := SX.S v) (ev_var rfl) (fun i σ' H' => (∃ u5 u6, σ' = [some (tx al), some (tx v), some (.ref d), some (.ref l), some (.int ((cutW (v.take i)).2 : Int)), u5, u6]) ∧ Ex H H' ∧ (∃ xs, H' l = some (.lst xs) ∧ RowsAt H' xs (cutW (v.take i)).1) ∧
    ∃ kvs, H' d = some (.dT kvs) ∧ DictAt kvs (cutW (v.take i)).1 (fun r => .int (((cutW (v.take i)).1.idxOf r : Int) + 1))) ?_ ?_ ?_
  · intro H6 e6
    exact ⟨⟨none, none, rfl⟩, e05.trans e6, ⟨[], e6 _ _ (e5 _ _ h4), .nil⟩, [], e6 _ _ (e5 _ _ (e4 _ _ h3)), .nil⟩
  · intro i c σ' H' hc p
    obtain ⟨⟨u5, u6, rfl⟩, e6, ⟨xs, h6, hR⟩, kvs, h7, dk⟩ := p
    have hc2 : v[i]? = some c := hc
    have hi := (List.getElem?_eq_some_iff.mp hc2).1
    have et : v.take (i + 1) = v.take i ++ [c] := by
      rw [List.take_add_one, hc2]
      rfl
    have ko := cut_ok (al := al) (v.take i) fun x hx => hv x (List.mem_of_mem_take hx)
    rw [et, cut_snoc]
    generalize cutW (v.take i) = st at *
    obtain ⟨rs, cur⟩ := st
    have few : rs.length ≤ (v.take i).length := ko.few
    rw [List.length_take] at few
    have hxl : xs.length = rs.length := hR.len
    refine q_asgU (xs := [.int (cur : Int), tx [c]]) (eu_tup (ea_cons (ev_var rfl) (ea_cons (ev_var rfl) ea_nil)) (by show 2 ≤ 100000; decide)) fun r H7 hr e7 h8 => ?_
    have nld : l ≠ d := ne_of h6 h7 (by intro z; cases z)
    refine s_if (et_din (o := valV kvs (kr (cur, c))) (ev_var rfl) (ev_var rfl) fun H8 e8 => DGet.t (k := kr (cur, c)) (e8 _ _ (e7 _ _ h7)) (e8 _ _ h8)) (fun hb H8 e8 => ?_) (fun hb H8 e8 => ?_)
    · have hm : (cur, c) ∈ rs := by
        refine Classical.byContradiction fun hn => ?_
        rw [dk.not _ hn] at hb
        cases hb
      have hval := dk.there _ hm
      refine s_asg (v := .int ((rs.idxOf (cur, c) : Int) + 1)) (ev_dget (ev_var rfl) (ev_var rfl) fun H9 e9 => ?_) fun H9 e9 => ?_
      · have g := DGet.t (k := kr (cur, c)) (e9 _ _ (e8 _ _ (e7 _ _ h7))) (e9 _ _ (e8 _ _ h8))
        rw [hval] at g
        exact g
      · have es : cutStep (rs, cur) c = (rs, rs.idxOf (cur, c) + 1) := if_pos hm
        rw [es]
        have e69 := (e7.trans e8).trans e9
        exact ⟨⟨_, _, rfl⟩, e6.trans e69, ⟨xs, e69 _ _ h6, hR.mono e69⟩, kvs, e69 _ _ h7, dk⟩
    · have hm : (cur, c) ∉ rs := fun hm => by
        rw [dk.there _ hm] at hb
        cases hb
      have es : cutStep (rs, cur) c = (rs ++ [(cur, c)], 0) := if_neg hm
      rw [es]
      have e68 := e7.trans e8
      refine q_app (e68 _ _ h6) (ev_var rfl) (ev_var rfl) (by omega) fun H9 e9 => ?_
      have e69 := e68.trans e9
      have nrl : r ≠ l := ne_of (e9 _ _ (e8 _ _ h8)) (e69 _ _ h6) (by intro z; cases z)
      have h8' : (L2.upd H9 l (.lst (xs ++ [.ref r]))) r = some (.tup [.int (cur : Int), tx [c]]) := by
        rw [upd_ne nrl]
        exact e9 _ _ (e8 _ _ h8)
      have h7' : (L2.upd H9 l (.lst (xs ++ [.ref r]))) d = some (.dT kvs) := by
        rw [upd_ne nld.symm]
        exact e69 _ _ h7
      have h6' : (L2.upd H9 l (.lst (xs ++ [.ref r]))) l = some (.lst (xs ++ [.ref r])) := upd_same
      have hR' : RowsAt (L2.upd H9 l (.lst (xs ++ [.ref r]))) (xs ++ [.ref r]) (rs ++ [(cur, c)]) := ((hR.mono e69).upd (e69 _ _ h6) (fun ys => by intro z; cases z)).snoc h8'
      have e6' : Ex H (L2.upd H9 l (.lst (xs ++ [.ref r]))) := (e6.trans e69).mut hl0
      generalize L2.upd H9 l (.lst (xs ++ [.ref r])) = G at *
      have ev : ((((xs ++ [V.ref r]).length : Nat) : Int)) = ((rs.length : Nat) : Int) + 1 := by
        rw [List.length_append, hxl]
        rfl
      refine q_dput (g := fun H10 => L2.upd H10 d (.dT (putK kvs (kr (cur, c)) (.int ((rs.length : Int) + 1))))) (ev_is (ev_cb (ea_cons (ev_var rfl) ea_nil) (rc_lenL (sq_of h6'))) (by rw [ev])) (ev_var rfl) (ev_var rfl) (fun H10 e10 => ?_) fun H10 e10 => ?_
      · exact DPut.t (k := kr (cur, c)) (e10 _ _ h7') (e10 _ _ h8') (sz_lt (by rw [dk.len]; show rs.length < 100000; omega))
      · refine s_asg ev_c fun H11 e11 => ⟨⟨_, _, rfl⟩, ((e6'.trans e10).mut hd0).trans e11, ⟨_, e11 _ _ (by rw [upd_ne nld]; exact e10 _ _ h6'), ((hR'.mono e10).upd (e10 _ _ h7') (fun ys => by intro z; cases z)).mono e11⟩, _, e11 _ _ upd_same, ?_⟩
        have g := dk.put (v' := fun r => V.int (((rs ++ [(cur, c)]).idxOf r : Int) + 1)) hm (fun q hq => by
          show V.int (((rs ++ [(cur, c)]).idxOf q : Int) + 1) = V.int ((rs.idxOf q : Int) + 1)
          rw [idx_old hq])
        have ei : (rs ++ [(cur, c)]).idxOf (cur, c) = rs.length := idx_new hm
        have g2 : DictAt (putK kvs (kr (cur, c)) (V.int (((rs ++ [(cur, c)]).idxOf (cur, c) : Int) + 1))) (rs ++ [(cur, c)]) (fun r => V.int (((rs ++ [(cur, c)]).idxOf r : Int) + 1)) := g
        rw [ei] at g2
        exact g2
  · intro σ' H' p
    obtain ⟨⟨u5, u6, rfl⟩, e6, ⟨xs, h6, hR⟩, kvs, h7, dk⟩ := p
    have ef : v.take (SX.S v).cps.size = v := by
      show v.take v.toArray.size = v
      simp
    rw [ef] at hR dk ⊢
    have ko := cut_ok (al := al) v hv
    generalize cutW v = st at *
    obtain ⟨rs, cur⟩ := st
    have few : rs.length ≤ v.length := ko.few
    have word : v = (pcs rs).flatten ++ (pcs rs).getD cur [] := ko.word
    have hfl := congrArg List.length word
    rw [List.length_append] at hfl
    refine s_retMake (ea_cons (ev_var rfl) (ea_cons (ev_var rfl) (ea_cons (ev_var rfl) ea_nil))) fun H7 e7 x dx hx hdx ne => ?_
    have en : Ex H7 (L2.upd (L2.upd H7 dx (.own x)) x (.ins C_Cut dx [])) := (Ex.new hdx).trans (Ex.new (by rw [upd_ne ne.symm]; exact hx))
    refine ⟨al, x, l, dx, cur, xs, rs, H7, rfl, en, hx, upd_same, .inl (e7 _ _ h6), (hR.mono e7).toS, hA, ko.ok, ko.low, by omega, by omega, fun H8 e8 hc => ⟨rfl, q x H8 (fresh_back (e6.trans e7) hx) ((e6.trans e7).trans e8) hc⟩⟩
end
end Ver
namespace Ver
open PySem PySem.Spec PyProof.Rows L2 Evl
section
variable {P : Program} {w : World} {K : PySem.W.Frag} {mg : Str → Option Value} {base : Heap} {C_Cut : Addr}
theorem has_width (F : At K mg "width" s_width) : Has P w K mg base "width" s_width ["options"] 1 spWidth := by
  obtain ⟨f, fd, F, m⟩ := F.ex
  refine ⟨f, fd, F, F.ok S_width (fun vs H Q E h => ?_) (fun cdv A outer s H vs Q E hr h => ?_), F.binds fun _ _ _ _ _ _ us hl => match us, hl with | [_], _ => rfl, m, F.kp⟩
  · obtain ⟨n, rfl, _⟩ := h
    rfl
  obtain ⟨n, rfl, q⟩ := h
  refine ⟨_, (pss_one
    (ps_ret (pe_bits (pe_op op_sub (pv 0) pe_int)))), ?_⟩
  refine ⟨_, rfl, _, _, rfl, rfl, _, rfl, ?_⟩
  exact q H (Ex.refl H)
theorem kb_width {f : Addr} {fd : FuncData} (F : Fun K "width" "width" s_width f fd) : KBn K fd ["options"] 0 ["options"] (fun _ ws => ws) (fun _ ws => ws) := by
  obtain ⟨oc, od, kV, doc, pm, an, cdv, ct, osl, rfl, lk, hcd⟩ := F.ex
  refine ⟨fun s us ws X l1 l2 => ?_, fun r1 r2 => r2⟩
  match us, ws, l1, l2 with
  | [], [v], _, _ => exact .of_eq rfl
end
end Ver
namespace Ver
open PySem PySem.Spec PyProof.Rows L2 Evl
section
variable {P : Program} {w : World} {K : PySem.W.Frag} {mg : Str → Option Value} {base : Heap} {C_Cut : Addr}
theorem has_nb (F : At K mg "number_bits" s_number_bits) (T : Top K mg C_Cut) (hW : Has P w K mg base "width" s_width ["options"] 1 spWidth) : Has P w K mg base "number_bits" s_number_bits ["number", "options"] 2 spNb := by
  obtain ⟨f, fd, F, m⟩ := F.ex
  obtain ⟨f1, fd1, _, G_width, b_width, m_width, k_width⟩ := hW
  refine ⟨f, fd, F, F.ok S_number_bits (fun vs H Q E h => ?_) (fun cdv A outer s H vs Q E hr h => ?_), F.binds fun _ _ _ _ _ _ us hl => match us, hl with | [_, _], _ => rfl, m, F.kp⟩
  · obtain ⟨n, m, rfl, _⟩ := h
    rfl
  obtain ⟨n, m, rfl, h0, hm, hB, q⟩ := h
  refine ⟨_, (pss_cons
    (ps_set (i := 2) S_number_bits.nd rfl (Or.inl rfl) (pe_call G_width (hr.mono (by decide)) rfl m_width k_width b_width .nil pass0 (pa_cons (pv 1) pa_nil)))
    (pss_cons
    (ps_if (pt_cmpR op_eq (pv 2) pe_int (nomark _)) (pss_one
    (ps_ret pe_str)) pss_nil)
    (pss_cons
    (ps_set (i := 3) S_number_bits.nd rfl (Or.inl rfl) (pe_joined1 (pe_bin (pv 0) (pe_joined1 pe_str))))
    (pss_one
    (ps_ret (pe_bm PySem.F.plainAttrs_str PySem.F.slot_str_zfill PySem.F.type_str_zfill mt_zfill (pv 3) (pa_cons (pv 2) pa_nil))))))), ?_⟩
  have hlt := bits_lt h0 hm
  have hb0 := bits_nn m
  have hb1 := bits_le (b := 1000) (by omega) hB
  have ew : bitsOf m = (((bitsOf m).toNat : Nat) : Int) := by omega
  have en : n = ((n.toNat : Nat) : Int) := by omega
  refine q_asg (ev_call (ea_cons (ev_var rfl) ea_nil) sv_width) fun H1 e1 => ?_
  refine q_when (et_eqI (ev_var rfl) ev_c) (fun hb H2 e2 => ?_) (fun hb H2 e2 => ?_)
  · have c : bitsOf m = 0 := of_decide_eq_true hb
    refine s_ret ev_c fun H3 e3 => ?_
    have e : nb n m = Str.ofString "" := by
      unfold nb nbL
      rw [c]
      rfl
    rw [e] at q
    exact q H3 ((e1.trans e2).trans e3)
  · have c : ¬ bitsOf m = 0 := of_decide_eq_false hb
    have hn2 : n.toNat < 2 ^ 1000 := Nat.lt_of_lt_of_le hlt (Nat.pow_le_pow_right (by decide) (by omega))
    refine q_asg (ev_bin (n := n.toNat) (ev_is (ev_var rfl) (by rw [← en])) hn2) fun H3 e3 => ?_
    refine s_ret (v := .str (nb n m)) (ev_bm (ev_var rfl) (fun _ _ => rfl) (ea_cons (ev_var rfl) ea_nil) fun H4 _ Q' q' => ⟨binS n.toNat, bitsOf m, rfl, rfl, ?_, ?_⟩) fun H4 e4 => q H4 (((e1.trans e2).trans e3).trans e4)
    · rw [ew]
      have : (bitsOf m).toNat ≤ 1000 := by omega
      exact pad_ok this
    · have z := zfill_is (n := n.toNat) (w := (bitsOf m).toNat) (by omega) hlt
      rw [← ew] at z
      rw [z]
      exact q' H4 (Ex.refl H4)
end
end Ver
namespace Ver
open PySem PySem.Spec PyProof.Rows L2 Evl
/-! ### ascending lists -/
theorem bel_sorted : ∀ {T : List Nat} {v : Nat}, T.Pairwise (· < ·) → (∀ x ∈ T.take (bel T v), x < v) ∧ (∀ x ∈ T.drop (bel T v), v ≤ x)
  | [], v, _ => ⟨fun x h => by simp at h, fun x h => by simp at h⟩
  | a :: r, v, h => by
    have hr := (List.pairwise_cons.mp h).2
    have ha := (List.pairwise_cons.mp h).1
    obtain ⟨i1, i2⟩ := bel_sorted (v := v) hr
    by_cases c : a < v
    · have e : bel (a :: r) v = bel r v + 1 := by
        unfold bel
        rw [List.countP_cons, if_pos (decide_eq_true c)]
      rw [e]
      refine ⟨fun x hx => ?_, fun x hx => i2 x hx⟩
      rcases List.mem_cons.mp hx with rfl | hx
      · exact c
      · exact i1 x hx
    · have e : bel (a :: r) v = 0 := by
        unfold bel
        refine List.countP_eq_zero.mpr fun x hx => ?_
        have : a ≤ x := by
          rcases List.mem_cons.mp hx with rfl | hx
          · exact Nat.le_refl _
          · have := ha x hx
            omega
        simp
        omega
      rw [e]
      refine ⟨fun x hx => by simp at hx, fun x hx => ?_⟩
      rcases List.mem_cons.mp hx with rfl | hx
      · omega
      · have := ha x hx
        omega
theorem bel_len {T : List Nat} {v : Nat} : bel T v ≤ T.length := List.countP_le_length
theorem bel_is {T : List Nat} {v k : Nat} (hk : k ≤ T.length) (h1 : ∀ x ∈ T.take k, x < v) (h2 : ∀ x ∈ T.drop k, v ≤ x) : bel T v = k := by
  have e : bel T v = bel (T.take k) v + bel (T.drop k) v := by
    unfold bel
    rw [← List.countP_append, List.take_append_drop]
  rw [e, bel_all h1, List.length_take, Nat.min_eq_left hk]
  have z : bel (T.drop k) v = 0 := by
    unfold bel
    refine List.countP_eq_zero.mpr fun x hx => ?_
    have := h2 x hx
    simp
    omega
  omega
theorem ins_sorted {T : List Nat} {v : Nat} (h : T.Pairwise (· < ·)) (hv : v ∉ T) : (T.take (bel T v) ++ [v] ++ T.drop (bel T v)).Pairwise (· < ·) := by
  obtain ⟨i1, i2⟩ := bel_sorted (v := v) h
  have hs := h
  rw [← List.take_append_drop (bel T v) T] at hs
  obtain ⟨p1, p2, p3⟩ := List.pairwise_append.mp hs
  rw [List.append_assoc]
  refine List.pairwise_append.mpr ⟨p1, List.pairwise_cons.mpr ⟨fun x hx => ?_, p2⟩, fun x hx y hy => ?_⟩
  · have h1 := i2 x hx
    have : x ≠ v := fun e => hv (e ▸ List.mem_of_mem_drop hx)
    omega
  · rcases List.mem_cons.mp hy with rfl | hy
    · exact i1 x hx
    · exact p3 x hx y hy
theorem ins_perm {T : List Nat} {v k : Nat} : (T.take k ++ [v] ++ T.drop k).Perm (T ++ [v]) := by
  rw [List.append_assoc]
  refine (List.perm_middle (a := v) (l₁ := T.take k) (l₂ := T.drop k)).trans ?_
  rw [List.take_append_drop]
  exact (List.perm_append_comm (l₁ := [v]) (l₂ := T))
theorem wid_13 {n : Nat} (h1 : 1 ≤ n) (h : n ≤ 8192) : wid n ≤ 13 := by
  have := bits_le (m := (n : Int)) (b := 13) (by omega) (by
    show (n : Int) ≤ 8192
    omega)
  unfold wid
  omega
theorem opt_le {al : List Nat} (h : al.length ≤ 6) {k : Nat} (hk : k ≤ 1000) : opt al k ≤ 8192 := by
  unfold opt
  have : (k + 1) * al.length ≤ (k + 1) * 6 := Nat.mul_le_mul_left _ h
  omega
theorem rch_le {al : List Nat} (h : al.length ≤ 6) (hp : 1 ≤ al.length) : ∀ k, k ≤ 1001 → rch al k ≤ 13 * k
  | 0, _ => Nat.le_refl 0
  | k + 1, hk => by
    have h1 := rch_le h hp k (by omega)
    have h2 := wid_13 (by have := opt_two hp k; omega) (opt_le h (show k ≤ 1000 by omega))
    show rch al k + wid (opt al k) ≤ _
    omega
theorem bln_le {al : List Nat} (h : al.length ≤ 6) (hp : 1 ≤ al.length) {m : Nat} (hm : m ≤ 1000) : bln al m ≤ 13100 := by
  have h1 := rch_le h hp (m + 1) (by omega)
  have h2 := wid_13 (n := m + 1) (by omega) (by omega)
  unfold bln
  omega
section
variable {P : Program} {w : World} {K : PySem.W.Frag} {mg : Str → Option Value} {base : Heap} {C_Cut : Addr}
/-! ### free_places, count_below -/
def spFree : Sp := fun vs H Q _ => ∃ n k : Nat, vs = [.int (n : Int), .int (k : Int)] ∧ n ≤ 6 ∧ RetV (.int ((k : Int) * (n : Int) - ((k : Int) - 1))) H Q
theorem has_free (F : At K mg "free_places" s_free_places) : Has P w K mg base "free_places" s_free_places ["size", "number"] 1 spFree := by
  obtain ⟨f, fd, F, m⟩ := F.ex
  refine ⟨f, fd, F, F.ok S_free_places (fun vs H Q E h => ?_) (fun cdv A outer s H vs Q E hr h => ?_), F.binds fun _ _ _ _ _ _ us hl => match us, hl with | [_, _], _ => rfl, m, F.kp⟩
  · obtain ⟨n, k, rfl, _⟩ := h
    rfl
  obtain ⟨n, k, rfl, hn, q⟩ := h
  refine ⟨_, (pss_one
    (ps_ret (pe_op op_sub (pe_op op_mul (pv 1) (pv 0)) (pe_op op_sub (pv 1) pe_int)))), ?_⟩
  exact s_ret (ev_sub (ev_mulR (by omega) (by omega) (ev_var rfl) (ev_var rfl)) (ev_sub (ev_var rfl) ev_c)) q
theorem sv_free {n k : Nat} {H : Hp} (h : n ≤ 6) : SpV spFree ([V.int (n : Int), V.int (k : Int)] ++ []) H (.int ((k : Int) * (n : Int) - ((k : Int) - 1))) := fun _ _ _ q _ => ⟨n, k, rfl, h, q⟩
def nat (n : Nat) : V := .int (n : Int)
theorem nat_at {T : List Nat} {i : Nat} (h : i < T.length) : atI (T.map nat) (i : Int) = some (.int (T.getD i 0 : Int)) := by
  refine atI_nat ?_
  rw [List.getElem?_map, List.getD_eq_getElem?_getD, List.getElem?_eq_getElem h]
  rfl
def spBel (K : PySem.W.Frag) : Sp := fun vs H Q _ => ∃ (a : Addr) (T : List Nat) (v : Nat), vs = [.ref a, .int (v : Int)] ∧ SqL K H a (T.map nat) ∧ T.Pairwise (· < ·) ∧ T.length ≤ 10000 ∧ RetV (.int (bel T v : Int)) H Q
theorem getD_mem_take {T : List Nat} {k : Nat} {x : Nat} (h : x ∈ T.take k) : ∃ i, i < k ∧ i < T.length ∧ T.getD i 0 = x := by
  obtain ⟨i, hi, e⟩ := List.mem_iff_getElem.mp h
  rw [List.length_take] at hi
  refine ⟨i, by omega, by omega, ?_⟩
  rw [List.getElem_take] at e
  rw [List.getD_eq_getElem?_getD, List.getElem?_eq_getElem (by omega)]
  exact e
theorem getD_mem_drop {T : List Nat} {k : Nat} {x : Nat} (h : x ∈ T.drop k) : ∃ i, k ≤ i ∧ i < T.length ∧ T.getD i 0 = x := by
  obtain ⟨i, hi, e⟩ := List.mem_iff_getElem.mp h
  rw [List.length_drop] at hi
  refine ⟨k + i, by omega, by omega, ?_⟩
  rw [List.getElem_drop] at e
  rw [List.getD_eq_getElem?_getD, List.getElem?_eq_getElem (by omega)]
  exact e
theorem getD_lt {T : List Nat} (h : T.Pairwise (· < ·)) {i j : Nat} (hij : i ≤ j) (hj : j < T.length) : T.getD i 0 ≤ T.getD j 0 := by
  rw [List.getD_eq_getElem?_getD, List.getElem?_eq_getElem (by omega), List.getD_eq_getElem?_getD, List.getElem?_eq_getElem hj]
  by_cases c : i = j
  · subst c
    exact Nat.le_refl _
  · exact Nat.le_of_lt (List.pairwise_iff_getElem.mp h i j (by omega) hj (by omega))
theorem has_bel (F : At K mg "count_below" s_count_below) (T : Top K mg C_Cut) : Has P w K mg base "count_below" s_count_below ["ascending", "value"] 1 (spBel K) := by
  obtain ⟨f, fd, F, m⟩ := F.ex
  refine ⟨f, fd, F, F.ok S_count_below (fun vs H Q E h => ?_) (fun cdv A outer s H vs Q E hr h => ?_), F.binds fun _ _ _ _ _ _ us hl => match us, hl with | [_, _], _ => rfl, m, F.kp⟩
  · obtain ⟨a, L, v, rfl, _⟩ := h
    rfl
  obtain ⟨a, L, v, rfl, hS, hs, hz, q⟩ := h
  refine ⟨_, (pss_cons
    (ps_set (i := 2) S_count_below.nd rfl (Or.inl rfl) pe_int)
    (pss_cons
    (ps_set (i := 3) S_count_below.nd rfl (Or.inl rfl) (pe_callB call_len_seq rfl T.z_len PySem.boot_len (pa_cons (pv 0) pa_nil)))
    (pss_cons
    (ps_while PassesOwn.never (pt_cmpR op_lt (pv 2) (pv 3) (nomark _)) (pss_cons
    (ps_set (i := 4) S_count_below.nd rfl (Or.inl rfl) (pe_op op_fdivW (pe_op op_add (pv 2) (pv 3)) pe_int))
    (pss_one
    (ps_if (pt_cmpR op_lt (pe_ix (r := rIxL K) ix_list (pv 0) (pv 4) (fun _ _ => rfl)) (pv 1) (nomark _)) (pss_one
    (ps_set (i := 2) S_count_below.nd rfl (Or.inl rfl) (pe_op op_add (pv 4) pe_int))) (pss_one
    (ps_set (i := 3) S_count_below.nd rfl (Or.inl rfl) (pv 4)))))))
    (pss_one
    (ps_ret (pv 2)))))), ?_⟩
  refine q_asg (v := .int ((0 : Nat) : Int)) ev_c fun H1 e1 => ?_
  refine q_asg (v := .int (L.length : Int)) (ev_is (ev_cb (ea_cons (ev_var rfl) ea_nil) (rc_lenL (ex_l e1 hS))) (by rw [List.length_map])) fun H2 e2 => ?_
  refine q_while (fun n σ' H' => ∃ (lo hi : Nat) (u : Option V), σ' = [some (.ref a), some (.int (v : Int)), some (.int (lo : Int)), some (.int (hi : Int)), u] ∧ Ex H H' ∧ n = hi - lo ∧ lo ≤ hi ∧ hi ≤ L.length ∧ (∀ i, i < lo → L.getD i 0 < v) ∧ (∀ i, hi ≤ i → i < L.length → v ≤ L.getD i 0)) L.length
    ⟨0, L.length, none, rfl, e1.trans e2, rfl, Nat.zero_le _, Nat.le_refl _, fun i h => absurd h (Nat.not_lt_zero _), fun i h1 h2 => absurd h1 (by omega)⟩ ?_
  intro n σ' H' p
  obtain ⟨lo, hi, u, rfl, e3, rfl, hlh, hhl, b1, b2⟩ := p
  refine ⟨decide ((lo : Int) < (hi : Int)), et_lt (ev_var rfl) (ev_var rfl), fun hb H3 e4 => ?_, fun hb H3 e4 => ?_⟩
  · have hlt : lo < hi := by
      have := of_decide_eq_true hb
      omega
    refine ⟨fun σ2 H4 => ∃ (lo2 hi2 : Nat) (u : Option V), σ2 = [some (.ref a), some (.int (v : Int)), some (.int (lo2 : Int)), some (.int (hi2 : Int)), u] ∧ Ex H H4 ∧ hi2 - lo2 < hi - lo ∧ lo2 ≤ hi2 ∧ hi2 ≤ L.length ∧ (∀ i, i < lo2 → L.getD i 0 < v) ∧ (∀ i, hi2 ≤ i → i < L.length → v ≤ L.getD i 0),
      fun σ2 H4 ⟨lo2, hi2, u2, h1, h2, h3, h4, h5, h6, h7⟩ => ⟨hi2 - lo2, h3, lo2, hi2, u2, h1, h2, rfl, h4, h5, h6, h7⟩, ?_⟩
    have em : ((lo : Int) + (hi : Int)) / 2 = (((lo + hi) / 2 : Nat) : Int) := by omega
    refine q_asg (v := .int (((lo + hi) / 2 : Nat) : Int)) (ev_is (ev_div (i := (lo : Int) + (hi : Int)) (j := 2) (by decide) (by decide) (ev_add (ev_var rfl) (ev_var rfl)) ev_c) (by rw [em])) fun H4 e5 => ?_
    have hml : (lo + hi) / 2 < L.length := by omega
    have e35 := (e3.trans e4).trans e5
    refine s_if (et_lt (ev_op (ev_var rfl) (ev_var rfl) (rv_ixL (ex_l e35 hS) (nat_at hml))) (ev_var rfl)) (fun hb H5 e6 => ?_) (fun hb H5 e6 => ?_)
    · have c : L.getD ((lo + hi) / 2) 0 < v := by
        have := of_decide_eq_true hb
        omega
      refine s_asg (v := .int (((lo + hi) / 2 + 1 : Nat) : Int)) (ev_is (ev_add (ev_var rfl) ev_c) (by rw [Int.natCast_add]; rfl)) fun H6 e7 => ⟨(lo + hi) / 2 + 1, hi, _, rfl, (e35.trans e6).trans e7, by omega, by omega, hhl, fun i hi' => ?_, b2⟩
      have := getD_lt hs (i := i) (j := (lo + hi) / 2) (by omega) hml
      omega
    · have c : ¬ L.getD ((lo + hi) / 2) 0 < v := by
        have := of_decide_eq_false hb
        omega
      refine s_asg (ev_var rfl) fun H6 e7 => ⟨lo, (lo + hi) / 2, _, rfl, (e35.trans e6).trans e7, by omega, by omega, by omega, b1, fun i h1 h2 => ?_⟩
      have := getD_lt hs (i := (lo + hi) / 2) (j := i) h1 h2
      omega
  · have hge : ¬ lo < hi := by
      have := of_decide_eq_false hb
      omega
    have e : lo = hi := by omega
    subst e
    refine s_ret (ev_var rfl) fun H4 e5 => ?_
    have eb : bel L v = lo := bel_is hhl (fun x hx => by
      obtain ⟨i, h1, _, rfl⟩ := getD_mem_take hx
      exact b1 i h1) (fun x hx => by
      obtain ⟨i, h1, h2, rfl⟩ := getD_mem_drop hx
      exact b2 i h1 h2)
    rw [eb] at q
    exact q H4 ((e3.trans e4).trans e5)
theorem sv_bel {a : Addr} {T : List Nat} {v : Nat} {H : Hp} (hS : SqL K H a (T.map nat)) (hs : T.Pairwise (· < ·)) (hz : T.length ≤ 10000) : SpV (spBel K) ([V.ref a, V.int (v : Int)] ++ []) H (.int (bel T v : Int)) := fun _ e _ q _ => ⟨a, T, v, rfl, ex_l e hS, hs, hz, q⟩
/-! ### place_numbers -/
def spPl (K : PySem.W.Frag) : Sp := fun vs H Q _ => ∃ (al : List Nat) (a : Addr) (xs : List V) (rs : Rw), vs = [tx al, .ref a] ∧ SqT K H a xs ∧ RowsAt H xs rs ∧ RowsOk al rs ∧ Alf al ∧ rs.length ≤ 1000 ∧ RetL (((List.range rs.length).map (pnum al rs)).map nat) H Q
theorem has_pl (F : At K mg "place_numbers" s_place_numbers) (T : Top K mg C_Cut) (h1 : Has P w K mg base "count_below" s_count_below ["ascending", "value"] 1 (spBel K)) : Has P w K mg base "place_numbers" s_place_numbers ["alphabet", "rows"] 2 (spPl K) := by
  obtain ⟨f, fd, F, m⟩ := F.ex
  obtain ⟨f1, fd1, _, G_count_below, b_count_below, m_count_below, k_count_below⟩ := h1
  refine ⟨f, fd, F, F.ok S_place_numbers (fun vs H Q E h => ?_) (fun cdv A outer s H vs Q E hr h => ?_), F.binds fun _ _ _ _ _ _ us hl => match us, hl with | [_, _], _ => rfl, m, F.kp⟩
  · obtain ⟨al, a, xs, rs, rfl, _⟩ := h
    rfl
  obtain ⟨al, a, xs, rs, rfl, hT, hR, ok, hA, hz, q⟩ := h
  refine ⟨_, (pss_cons
    (ps_set (i := 2) S_place_numbers.nd rfl (Or.inl rfl) (pe_lst pa_nil))
    (pss_cons
    (ps_set (i := 3) S_place_numbers.nd rfl (Or.inl rfl) (pe_lst pa_nil))
    (pss_cons
    (ps_for PassesOwn.never rfl (pi_tup (pv 1)) (pg_tup rfl (pgs_cons (pg_name (i := 4) S_place_numbers.nd rfl (Or.inl rfl)) (pgs_cons (pg_name (i := 5) S_place_numbers.nd rfl (Or.inl rfl)) pgs_nil))) (pss_cons
    (ps_set (i := 6) S_place_numbers.nd rfl (Or.inl rfl) (pe_op op_add (pe_op op_mul (pv 4) (pe_callB call_len_str rfl T.z_len PySem.boot_len (pa_cons (pv 0) pa_nil))) (pe_bm PySem.F.plainAttrs_str PySem.F.slot_str_index PySem.F.type_str_index mt_sindex (pv 0) (pa_cons (pv 5) pa_nil))))
    (pss_cons
    (ps_set (i := 7) S_place_numbers.nd rfl (Or.inl rfl) (pe_call G_count_below (hr.mono (by decide)) rfl m_count_below k_count_below b_count_below .nil pass0 (pa_cons (pv 2) (pa_cons (pv 6) pa_nil))))
    (pss_cons
    (ps_expr (pe_bm PySem.F.plainAttrs_list PySem.F.slot_list_insert PySem.F.type_list_insert mt_insert (pv 2) (pa_cons (pv 7) (pa_cons (pv 6) pa_nil))))
    (pss_one
    (ps_expr (pe_bm PySem.F.plainAttrs_list PySem.F.slot_list_append PySem.F.type_list_append mt_append (pv 3) (pa_cons (pe_op op_sub (pv 6) (pv 7)) pa_nil))))))))
    (pss_one
    (ps_ret (pv 3)))))), ?_⟩
  have h6 := hA.six
  refine q_asgL (xs := []) (el_lst ea_nil (by decide)) fun l H1 hl e1 g1 => ?_
  refine q_asgL (xs := []) (el_lst ea_nil (by decide)) fun n H2 hn e2 g2 => ?_
  have e12 := e1.trans e2
  have hn0 : H n = none := fresh_back e1 hn
  have nln : l ≠ n := ne_of_none g1 hn
  refine q_forRows (ev_var rfl) (ex_t e12 hT) (hR.mono e12) (fun i σ' H' => (∃ u4 u5 u6 u7, σ' = [some (tx al), some (.ref a), some (.ref l), some (.ref n), u4, u5, u6, u7]) ∧ Ex H H' ∧
    (∃ L : List Nat, H' l = some (.lst (L.map nat)) ∧ L.Pairwise (· < ·) ∧ L.Perm (pls al (rs.take i))) ∧ H' n = some (.lst (((List.range i).map (pnum al rs)).map nat))) ?_ ?_ ?_ ?_
  · intro H3 e3
    exact ⟨⟨none, none, none, none, rfl⟩, e12.trans e3, ⟨[], e3 _ _ (e2 _ _ g1), List.Pairwise.nil, List.Perm.refl _⟩, e3 _ _ g2⟩
  · intro i σ' H' p
    exact ⟨ex_t p.2.1 hT, hR.mono p.2.1⟩
  · intro i σ' H' hi p
    obtain ⟨⟨u4, u5, u6, u7, rfl⟩, e3, ⟨L, h3, hs, hp⟩, h4⟩ := p
    obtain ⟨low, mem⟩ := row_ok ok hi
    have hfree := free_row hA.asc ok hi
    have hnd := pls_nd hA.asc (ok.take i)
    have hLl : L.length = i := by
      rw [hp.length_eq]
      unfold pls
      rw [List.length_map, List.length_take]
      omega
    have hin : al[al.idxOf (rowAt rs i).2]? = some (rowAt rs i).2 := by
      have h1 := List.idxOf_lt_length_of_mem mem
      rw [List.getElem?_eq_getElem h1, List.getElem_idxOf h1]
    have hbl : bel L (plc al (rowAt rs i)) = bel (pls al (rs.take i)) (plc al (rowAt rs i)) := hp.countP_eq _
    have hble := bel_le hnd (plc al (rowAt rs i))
    have hv : plc al (rowAt rs i) ∉ L := fun h => hfree (hp.mem_iff.mp h)
    refine q_asg (v := .int (plc al (rowAt rs i) : Int)) (ev_is (ev_add (ev_mulR (by omega) (by omega) (ev_var rfl) (ev_lenS (by omega) (ev_var rfl))) (ev_sidx hA.nd hin (ev_var rfl) (ev_var rfl))) ?_) fun H3 e4 => ?_
    · unfold plc
      rw [Int.natCast_add, Int.natCast_mul]
    refine q_asg (ev_call (ea_cons (ev_var rfl) (ea_cons (ev_var rfl) ea_nil)) (sv_bel (v := plc al (rowAt rs i)) (sq_of (e4 _ _ h3)) hs (by omega))) fun H4 e5 => ?_
    have e45 := e4.trans e5
    have hbL := bel_len (T := L) (v := plc al (rowAt rs i))
    refine q_ins (e45 _ _ h3) (ev_var rfl) (ev_var rfl) (ev_var rfl) (by rw [List.length_map]; omega) (by omega) fun H5 e6 => ?_
    have e46 := e45.trans e6
    have hnn : (L2.upd H5 l (.lst ((L.map nat).take (bel L (plc al (rowAt rs i))) ++ [V.int (plc al (rowAt rs i) : Int)] ++ (L.map nat).drop (bel L (plc al (rowAt rs i)))))) n = some (.lst (((List.range i).map (pnum al rs)).map nat)) := by
      rw [upd_ne nln.symm]
      exact e46 _ _ h4
    refine s_app hnn (ev_var rfl) (ev_sub (ev_var rfl) (ev_var rfl)) (by rw [List.length_map, List.length_map, List.length_range]; omega) fun H6 e7 => ⟨⟨_, _, _, _, rfl⟩, (((e3.trans e46).mut hl).trans e7).mut hn0, ⟨L.take (bel L (plc al (rowAt rs i))) ++ [plc al (rowAt rs i)] ++ L.drop (bel L (plc al (rowAt rs i))), ?_, ins_sorted hs hv, ?_⟩, ?_⟩
    · rw [upd_ne nln]
      refine e7 _ _ ?_
      rw [List.map_append, List.map_append, List.map_take, List.map_drop]
      exact upd_same
    · rw [take_row hi]
      unfold pls at hp ⊢
      rw [List.map_append]
      exact ins_perm.trans (hp.append_right _)
    · have ep : ((plc al (rowAt rs i) : Int) - (bel L (plc al (rowAt rs i)) : Int)) = (pnum al rs i : Int) := by
        unfold pnum
        rw [hbl]
        omega
      rw [ep, List.range_succ, List.map_append, List.map_append]
      exact upd_same
  · intro σ' H' p
    obtain ⟨⟨u4, u5, u6, u7, rfl⟩, e3, _, h4⟩ := p
    exact s_ret (ev_var rfl) fun H3 e4 => q n H3 hn0 (e3.trans e4) (e4 _ _ h4)
end
end Ver
namespace Ver
open PySem PySem.Spec PyProof.Rows L2 Evl
theorem opt_cast {al : List Nat} (hp : 1 ≤ al.length) (i : Nat) : (((i + 1 : Nat) : Int) * (al.length : Int) - (((i + 1 : Nat) : Int) - 1)) + 1 = (opt al i : Int) := by
  have e : ((i + 1 : Nat) : Int) * (al.length : Int) = (((i + 1) * al.length : Nat) : Int) := (Int.natCast_mul _ _).symm
  have h : (i + 1) * 1 ≤ (i + 1) * al.length := Nat.mul_le_mul_left _ hp
  unfold opt
  rw [e]
  omega
theorem pre_flat (al : List Nat) (rs : Rw) : ∀ n, ((List.range n).map (prt al rs)).flatten = pre al rs n
  | 0 => rfl
  | n + 1 => by
    rw [List.range_succ, List.map_append, List.flatten_append, pre_flat al rs n]
    show _ ++ ([prt al rs n].flatten) = pre al rs n ++ prt al rs n
    simp
theorem big_ok {n : Nat} (h : n ≤ 8192) : (n : Int) ≤ 2 ^ 1000 := Int.le_trans (show (n : Int) ≤ 8192 by omega) (by decide +kernel)
section
variable {P : Program} {w : World} {K : PySem.W.Frag} {mg : Str → Option Value} {base : Heap} {C_Cut : Addr}
section
variable {σ : L2.St} {H : Hp} {te : TE} {tu tz : TS} {D : Ends}
/-- for i, x in enumerate(a new list, start=k) -/
theorem q_forEN {tk : TA} {k : Int} {xs : List V} {j1 j2 : Nat} (h : EvL te σ H xs) (hk : ∀ H1, Ex H H1 → EvA tk σ H1 [.int k]) (hb : 0 ≤ k ∧ k ≤ 1000) (Pv : Addr → Nat → L2.St → Hp → Prop)
    (h0 : ∀ p H1, H p = none → Ex H H1 → H1 p = some (.lst xs) → Pv p 0 σ H1) (hG : ∀ p i σ' H', Pv p i σ' H' → SqL K H' p xs)
    (hs : ∀ p i x σ' H' H2, xs[i]? = some x → Pv p i σ' H' → Ex H' H2 → tu { D with nx := Pv p (i + 1), ct := Pv p (i + 1), bk := tz D } ((σ'.set j1 (some (.int (k + (i : Int))))).set j2 (some x)) H2)
    (hd : ∀ p σ' H', Pv p xs.length σ' H' → tz D σ' H') : tSeq (tFor (iEnumK K (tCons te tNil) tk) (gPair K j1 j2) tu) tz D σ H := by
  refine h H (Ex.refl H) _ fun p H1 hp e1 h1 => hk H1 e1 H1 (Ex.refl H1) _ fun H2 e2 => ⟨p, k, rfl, rfl, hb, .inl ⟨xs, sq_of (e2 _ _ h1), ?_⟩⟩
  refine for_it (D := { D with nx := tz D }) (walk_eL (xs := xs)) (Pv p) (h0 p H2 hp (e1.trans e2) (e2 _ _ h1)) (fun i σ' H' _ q => hG p i σ' H' q) ?_ (hd p)
  intro i v σ' H3 H4 _ q y
  obtain ⟨T, x, z, rfl, hT, rfl, e3, e4⟩ := y
  cases e3
  exact ⟨T, [.int (k + (i : Int)), z], rfl, st_of upd_same, rfl, _, _, rfl, _, _, rfl, rfl, hs p i z σ' H3 _ e4 q (Ex.new hT)⟩
end
theorem ev_nb {σ : L2.St} {H : Hp} {ta tb : TE} {n m : Nat} (h1 : n < m) (h2 : m ≤ 8192) (ha : Ev ta σ H (.int (n : Int))) (hb : Ev tb σ H (.int (m : Int))) : Ev (tCall spNb [] E0 (tCons ta (tCons tb tNil))) σ H (tx (nbl n m)) :=
  ev_call (ea_cons ha (ea_cons hb ea_nil)) (sv_nb (n := (n : Int)) (m := (m : Int)) (by omega) (by omega) (big_ok h2))
def spPress : Sp := fun vs H Q _ => ∃ al v : List Nat, vs = [tx al, tx v] ∧ Alf al ∧ (∀ c ∈ v, c ∈ al) ∧ v.length ≤ 1000 ∧ RetV (tx (blk al (cutW v))) H Q
theorem has_press (F : At K mg "press" s_press) (T : Top K mg C_Cut) (h1 : Has P w K mg base "cut_of" s_cut_of ["alphabet", "text"] 7 (spCut C_Cut)) (h2 : Has P w K mg base "place_numbers" s_place_numbers ["alphabet", "rows"] 2 (spPl K))
    (h3 : Has P w K mg base "number_bits" s_number_bits ["number", "options"] 2 spNb) (h4 : Has P w K mg base "free_places" s_free_places ["size", "number"] 1 spFree) : Has P w K mg base "press" s_press ["alphabet", "text"] 8 spPress := by
  obtain ⟨f, fd, F, m⟩ := F.ex
  obtain ⟨f1, fd1, _, G_cut_of, b_cut_of, m_cut_of, k_cut_of⟩ := h1
  obtain ⟨f2, fd2, _, G_place_numbers, b_place_numbers, m_place_numbers, k_place_numbers⟩ := h2
  obtain ⟨f3, fd3, _, G_number_bits, b_number_bits, m_number_bits, k_number_bits⟩ := h3
  obtain ⟨f4, fd4, _, G_free_places, b_free_places, m_free_places, k_free_places⟩ := h4
  refine ⟨f, fd, F, F.ok S_press (fun vs H Q E h => ?_) (fun cdv A outer s H vs Q E hr h => ?_), F.binds fun _ _ _ _ _ _ us hl => match us, hl with | [_, _], _ => rfl, m, F.kp⟩
  · obtain ⟨al, v, rfl, _⟩ := h
    rfl
  obtain ⟨al, v, rfl, hA, hv, hz, q⟩ := h
  refine ⟨_, (pss_cons
    (ps_set (i := 2) S_press.nd rfl (Or.inl rfl) (pe_call G_cut_of (hr.mono (by decide)) rfl m_cut_of k_cut_of b_cut_of .nil pass0 (pa_cons (pv 0) (pa_cons (pv 1) pa_nil))))
    (pss_cons
    (ps_set (i := 3) S_press.nd rfl (Or.inl rfl) (pe_callB call_len_str rfl T.z_len PySem.boot_len (pa_cons (pv 0) pa_nil)))
    (pss_cons
    (ps_set (i := 4) S_press.nd rfl (Or.inl rfl) (pe_lst pa_nil))
    (pss_cons
    (ps_for PassesOwn.never rfl (pi_enumK rfl T.z_enumerate (pa_cons (pe_call G_place_numbers (hr.mono (by decide)) rfl m_place_numbers k_place_numbers b_place_numbers .nil pass0 (pa_cons (pv 0) (pa_cons (pe_fld (pv 2) rfl) pa_nil))) pa_nil) (pk_cons pe_int pk_nil)) (pg_tup rfl (pgs_cons (pg_name (i := 5) S_press.nd rfl (Or.inl rfl)) (pgs_cons (pg_name (i := 6) S_press.nd rfl (Or.inl rfl)) pgs_nil))) (pss_one
    (ps_expr (pe_bm PySem.F.plainAttrs_list PySem.F.slot_list_append PySem.F.type_list_append mt_append (pv 4) (pa_cons (pe_call G_number_bits (hr.mono (by decide)) rfl m_number_bits k_number_bits b_number_bits .nil pass0 (pa_cons (pe_op op_add pe_int (pv 6)) (pa_cons (pe_op op_add (pe_call G_free_places (hr.mono (by decide)) rfl m_free_places k_free_places b_free_places .nil pass0 (pa_cons (pv 3) (pa_cons (pv 5) pa_nil))) pe_int) pa_nil))) pa_nil)))))
    (pss_cons
    (ps_expr (pe_bm PySem.F.plainAttrs_list PySem.F.slot_list_append PySem.F.type_list_append mt_append (pv 4) (pa_cons (pe_call G_number_bits (hr.mono (by decide)) rfl m_number_bits k_number_bits b_number_bits .nil pass0 (pa_cons pe_int (pa_cons (pe_op op_add (pe_call G_free_places (hr.mono (by decide)) rfl m_free_places k_free_places b_free_places .nil pass0 (pa_cons (pv 3) (pa_cons (pe_op op_add (pe_fld (pv 2) rfl) pe_int) pa_nil))) pe_int) pa_nil))) pa_nil)))
    (pss_cons
    (ps_expr (pe_bm PySem.F.plainAttrs_list PySem.F.slot_list_append PySem.F.type_list_append mt_append (pv 4) (pa_cons (pe_call G_number_bits (hr.mono (by decide)) rfl m_number_bits k_number_bits b_number_bits .nil pass0 (pa_cons (pe_fld (pv 2) rfl) (pa_cons (pe_op op_add (pe_fld (pv 2) rfl) pe_int) pa_nil))) pa_nil)))
    (pss_one
    (ps_ret (pe_join pe_str (pv 4)))))))))), ?_⟩
  have h6 := hA.six
  have hp1 := hA.pos
  refine q_callD (vs := [tx al, tx v]) (dvs := []) (ea_cons (ev_var rfl) (ea_cons (ev_var rfl) ea_nil)) fun H1 e1 => ⟨al, v, rfl, hA, hv, hz, fun p H2 hp e2 hc => ?_⟩
  have ko := cut_ok (al := al) v hv
  have hbl := blk_cut_len hA hv
  generalize cutW v = st at *
  obtain ⟨rs, t⟩ := st
  have ok : RowsOk al rs := ko.ok
  have low : t ≤ rs.length := ko.low
  have few : rs.length ≤ v.length := ko.few
  have hbl : (blk al (rs, t)).length = bln al rs.length := hbl
  have hbn := bln_le h6 hp1 (show rs.length ≤ 1000 by omega)
  obtain ⟨dx, ra, pa, sa, xs, c1, c2, c3, c4, c5⟩ := hc.ex
  have e12 := e1.trans e2
  refine q_asg (ev_lenS (by omega) (ev_var rfl)) fun H3 e3 => ?_
  refine q_asgL (xs := []) (el_lst ea_nil (by decide)) fun l H4 hl e4 g4 => ?_
  have e24 := e3.trans e4
  have hl0 : H l = none := fresh_back (e12.trans e3) hl
  have hl2 : H2 l = none := fresh_back e3 hl
  have cl := T.cl_Cut
  refine q_forEN (k := 1) (xs := ((List.range rs.length).map (pnum al rs)).map nat)
    (el_call (ea_cons (ev_var rfl) (ea_cons (ev_fld (ev_var rfl) (e24 _ _ c1) cl T.n_Cut_rows fs_rows) ea_nil)) (fun H5 e5 Q' q' _ => ⟨al, ra, xs, rs, rfl, st_of (e5 _ _ (e24 _ _ c2)), c3.mono (e24.trans e5), ok, hA, by omega, q'⟩))
    (fun _ _ => ea_cons ev_c ea_nil) (by decide)
    (fun np i σ' H' => (∃ u5 u6, σ' = [some (tx al), some (tx v), some (.ref p), some (.int (al.length : Int)), some (.ref l), u5, u6]) ∧ Ex H H' ∧ Ex H2 H' ∧ H' np = some (.lst (((List.range rs.length).map (pnum al rs)).map nat)) ∧ H' l = some (.lst (((List.range i).map (prt al rs)).map tx)) ∧ np ≠ l) ?_ ?_ ?_ ?_
  · intro np H5 hnp e5 h5
    exact ⟨⟨none, none, rfl⟩, ((e12.trans e24).trans e5), e24.trans e5, h5, e5 _ _ g4, (ne_of_none g4 hnp).symm⟩
  · intro np i σ' H' z
    exact sq_of z.2.2.2.1
  · intro np i x σ' H' H5 hx z e5
    obtain ⟨⟨u5, u6, rfl⟩, e6, e7, z1, z2, nz⟩ := z
    have hx2 : x = nat (pnum al rs i) ∧ i < rs.length := by
      have hlt := (List.getElem?_eq_some_iff.mp hx).1
      rw [List.length_map, List.length_map, List.length_range] at hlt
      rw [List.getElem?_map, List.getElem?_map, List.getElem?_range hlt] at hx
      exact ⟨(Option.some.inj hx).symm, hlt⟩
    obtain ⟨rfl, hi⟩ := hx2
    have hlt := pnum_lt hA.asc hp1 ok hi
    have ho := opt_le h6 (show i ≤ 1000 by omega)
    refine s_app (v := tx (prt al rs i)) (e5 _ _ z2) (ev_var rfl) (ev_is (ev_nb (n := 1 + pnum al rs i) (m := opt al i) hlt ho (ev_is (ev_add ev_c (ev_var (v := nat (pnum al rs i)) rfl)) ?_) (ev_is (ev_add (ev_call (ea_cons (ev_var rfl) (ea_cons (ev_is (ev_var rfl) ?_) ea_nil)) (sv_free (n := al.length) (k := i + 1) h6)) ev_c) ?_)) ?_) (by rw [List.length_map, List.length_map, List.length_range]; omega) fun H6 e8 => ⟨⟨_, _, rfl⟩, ((e6.trans e5).trans e8).mut hl0, ((e7.trans e5).trans e8).mut hl2, ?_, ?_, nz⟩
    · rw [Int.natCast_add]
      rfl
    · rw [Int.natCast_add, Int.add_comm]
      rfl
    · rw [opt_cast hp1]
    · unfold prt
      rw [num_pos hi]
    · rw [upd_ne nz]
      exact e8 _ _ (e5 _ _ z1)
    · rw [List.range_succ, List.map_append, List.map_append]
      exact upd_same
  · intro np σ' H' z
    obtain ⟨⟨u5, u6, rfl⟩, e6, e7, z1, z2, nz⟩ := z
    rw [List.length_map, List.length_map, List.length_range] at z2
    have ho := opt_le h6 (show rs.length ≤ 1000 by omega)
    have o2 := opt_two hp1 rs.length
    refine q_app (v := tx (prt al rs rs.length)) z2 (ev_var rfl) (ev_is (ev_nb (n := 0) (m := opt al rs.length) (by omega) ho ev_c (ev_is (ev_add (ev_call (ea_cons (ev_var rfl) (ea_cons (ev_is (ev_add (ev_fld (ev_var rfl) (e7 _ _ c1) cl T.n_Cut_many fs_many) ev_c) ?_) ea_nil)) (sv_free (n := al.length) (k := rs.length + 1) h6)) ev_c) ?_)) ?_) (by rw [List.length_map, List.length_map, List.length_range]; omega) fun H6 e8 => ?_
    · rw [Int.natCast_add]
      rfl
    · rw [opt_cast hp1]
    · unfold prt
      rw [num_end]
    have e28 := (e7.trans e8).mut (o := .lst ((((List.range rs.length).map (prt al rs)).map tx) ++ [tx (prt al rs rs.length)])) hl2
    have e08 := (e6.trans e8).mut (o := .lst ((((List.range rs.length).map (prt al rs)).map tx) ++ [tx (prt al rs rs.length)])) hl0
    have g8 : (L2.upd H6 l (.lst ((((List.range rs.length).map (prt al rs)).map tx) ++ [tx (prt al rs rs.length)]))) l = _ := upd_same
    generalize L2.upd H6 l (.lst ((((List.range rs.length).map (prt al rs)).map tx) ++ [tx (prt al rs rs.length)])) = G at *
    refine q_app (v := tx (nbl t (rs.length + 1))) g8 (ev_var rfl) (ev_nb (n := t) (m := rs.length + 1) (by omega) (by omega) (ev_fld (ev_var rfl) (e28 _ _ c1) cl T.n_Cut_tail fs_tail) (ev_is (ev_add (ev_fld (ev_var rfl) (e28 _ _ c1) cl T.n_Cut_many fs_many) ev_c) ?_)) (by rw [List.length_append, List.length_map, List.length_map, List.length_range]; show _ + 1 < _; omega) fun H7 e9 => ?_
    · rw [Int.natCast_add]
      rfl
    have ef : ((List.range rs.length).map (prt al rs)).map tx ++ [tx (prt al rs rs.length)] ++ [tx (nbl t (rs.length + 1))] = ((List.range (rs.length + 1)).map (prt al rs) ++ [nbl t (rs.length + 1)]).map tx := by
      rw [List.range_succ, List.map_append, List.map_append, List.map_append]
      rfl
    rw [ef]
    have eb : ((List.range (rs.length + 1)).map (prt al rs) ++ [nbl t (rs.length + 1)]).flatten = blk al (rs, t) := by
      rw [List.flatten_append, pre_flat]
      show _ ++ _ = pre al rs (rs.length + 1) ++ nbl t (rs.length + 1)
      simp
    refine s_ret (ev_join (ev_is ev_c (by rw [nil_is])) (ev_var rfl) (.inl (sq_of upd_same)) (by rw [eb]; omega)) fun H8 e10 => ?_
    rw [eb]
    exact q H8 (((e08.trans e9).mut hl0).trans e10)
theorem sv_press {al v : List Nat} {H : Hp} (hA : Alf al) (hv : ∀ c ∈ v, c ∈ al) (hz : v.length ≤ 1000) : SpV spPress ([tx al, tx v] ++ []) H (tx (blk al (cutW v))) := fun _ _ _ q _ => ⟨al, v, rfl, hA, hv, hz, q⟩
end
end Ver
namespace Ver
open PySem PySem.Spec PyProof.Rows L2 Evl
section
variable {P : Program} {w : World} {K : PySem.W.Frag} {mg : Str → Option Value} {base : Heap} {C_Cut : Addr}
theorem has_lw (F : At K mg "_law_width" s__law_width) (T : Top K mg C_Cut) : Has P w K mg base "_law_width" s__law_width ["many"] 1 spLw := by
  obtain ⟨f, fd, F, m⟩ := F.ex
  refine ⟨f, fd, F, F.ok S__law_width (fun vs H Q E h => ?_) (fun cdv A outer s H vs Q E hr h => ?_), F.binds fun _ _ _ _ _ _ us hl => match us, hl with | [_], _ => rfl, m, F.kp⟩
  · obtain ⟨n, rfl, _⟩ := h
    rfl
  obtain ⟨n, rfl, h1, h2, q⟩ := h
  generalize hB : (2 : Int) ^ 2100 = B at h2
  refine ⟨_, (pss_cons
    (ps_set (i := 1) S__law_width.nd rfl (Or.inl rfl) pe_int)
    (pss_cons
    (ps_set (i := 2) S__law_width.nd rfl (Or.inl rfl) pe_int)
    (pss_cons
    (ps_for PassesOwn.never rfl (pi_range1 rfl T.z_range (pa_cons pe_int pa_nil)) (pg_name (i := 3) S__law_width.nd rfl (Or.inl rfl)) (pss_cons
    (ps_if (pt_cmpR op_ge (pv 2) (pv 0) (nomark _)) (pss_one
    ps_break) pss_nil)
    (pss_cons
    (ps_set (i := 2) S__law_width.nd rfl (Or.inl rfl) (pe_op op_mul (pv 2) pe_int))
    (pss_one
    (ps_set (i := 1) S__law_width.nd rfl (Or.inl rfl) (pe_op op_add (pv 1) pe_int))))))
    (pss_one
    (ps_ret (pv 1)))))), ?_⟩
  refine q_asg ev_c fun H1 e1 => ?_
  refine q_asg ev_c fun H2 e2 => ?_
  refine q_forR1 (ea_cons ev_c ea_nil) (by decide) (fun i σ' H' => (∃ u, σ' = [some (.int n), some (.int (i : Int)), some (.int (2 ^ i)), u]) ∧ Ex H H' ∧ (i = 0 ∨ ∃ j, i = j + 1 ∧ (2 : Int) ^ j < n)) ?_ ?_ ?_
  · intro H3 e3
    exact ⟨⟨none, rfl⟩, (e1.trans e2).trans e3, .inl rfl⟩
  · intro i σ' H' hi z
    obtain ⟨⟨u, rfl⟩, e3, hj⟩ := z
    refine q_when (et_ge (ev_var rfl) (ev_var rfl)) (fun hb H4 e4 => ?_) (fun hb H4 e4 => ?_)
    · have c : n ≤ 2 ^ i := of_decide_eq_true hb
      refine s_ret (ev_var rfl) fun H5 e5 => ?_
      rw [bits_is h1 c hj] at q
      exact q H5 ((e3.trans e4).trans e5)
    · have c : ¬ n ≤ 2 ^ i := of_decide_eq_false hb
      refine q_asg (ev_mulR (by decide) (by decide) (ev_var rfl) ev_c) fun H5 e5 => ?_
      refine s_asg (ev_add (ev_var rfl) ev_c) fun H6 e6 => ⟨⟨some (.int (i : Int)), ?_⟩, ((e3.trans e4).trans e5).trans e6, .inr ⟨i, rfl, by omega⟩⟩
      rw [Int.pow_succ]
      rfl
  · intro σ' H' z
    obtain ⟨⟨u, rfl⟩, e3, hj⟩ := z
    refine s_ret (ev_var rfl) fun H5 e5 => ?_
    have c : n ≤ 2 ^ (2100 : Int).toNat := by
      rw [show (2100 : Int).toNat = 2100 from rfl, hB]
      exact h2
    rw [bits_is h1 c hj] at q
    exact q H5 (e3.trans e5)
end
end Ver
namespace Ver
/-! ### the length of a block by its number of pieces alone -/
def opts (s k : Nat) : Nat := (k + 1) * s - k + 1
def rcs (s : Nat) : Nat → Nat
  | 0 => 0
  | k + 1 => rcs s k + wid (opts s k)
theorem rch_is (al : List Nat) : ∀ k, rch al k = rcs al.length k
  | 0 => rfl
  | k + 1 => by
    show rch al k + wid (opt al k) = rcs al.length k + wid (opts al.length k)
    rw [rch_is al k]
    rfl
theorem wid_gt {b m : Nat} (h : 1 ≤ m) : b < wid m ↔ 2 ^ b < m := by
  constructor
  · intro hb
    refine Classical.byContradiction fun hn => ?_
    have := bits_le (m := (m : Int)) (b := b) (by omega) (by
      have e : (2 : Int) ^ b = ((2 ^ b : Nat) : Int) := by
        rw [Int.natCast_pow]
        rfl
      rw [e]
      omega)
    unfold wid at hb
    omega
  · intro hb
    have hp := wid_pow h
    refine Classical.byContradiction fun hn => ?_
    have : 2 ^ wid m ≤ 2 ^ b := Nat.pow_le_pow_right (by decide) (by omega)
    omega
theorem opts_is {s k : Nat} (h : 1 ≤ s) : opts s k = (k + 1) * (s - 1) + 2 := by
  unfold opts
  obtain ⟨r, rfl⟩ : ∃ r, s = r + 1 := ⟨s - 1, by omega⟩
  rw [Nat.mul_add, Nat.mul_one]
  show (k + 1) * r + (k + 1) - k + 1 = (k + 1) * r + 2
  omega
/-- how many of the first numbers have at most b bits -/
def wi (s b : Nat) : Nat := if b = 0 then 0 else (2 ^ b - 2) / (s - 1)
theorem wi_lt {s b n : Nat} (hs : 2 ≤ s) (hn : 1 ≤ n) : wi s b < n ↔ 2 ^ b < n * (s - 1) + 2 := by
  unfold wi
  by_cases c : b = 0
  · subst c
    rw [if_pos rfl]
    have : 1 * (s - 1) ≤ n * (s - 1) := Nat.mul_le_mul_right _ hn
    constructor
    · intro _
      show 1 < _
      omega
    · intro _
      omega
  · rw [if_neg c, Nat.div_lt_iff_lt_mul (by omega)]
    have h2 : 2 ≤ 2 ^ b := by
      have : 2 ^ 1 ≤ 2 ^ b := Nat.pow_le_pow_right (by decide) (by omega)
      omega
    omega
def tot (s L : Nat) : Nat → Nat
  | 0 => 0
  | b + 1 => tot s L b + (L - wi s b)
theorem tot_zero (s : Nat) : ∀ B, tot s 0 B = 0
  | 0 => rfl
  | B + 1 => by
    show tot s 0 B + (0 - wi s B) = 0
    rw [tot_zero s B]
    omega
theorem tot_succ {s L : Nat} (hs : 2 ≤ s) : ∀ B, tot s (L + 1) B = tot s L B + min B (wid (opts s L))
  | 0 => by
    show 0 = 0 + min 0 _
    omega
  | B + 1 => by
    have ih := tot_succ (L := L) hs B
    have e := opts_is (s := s) (k := L) (by omega)
    have h1 := wid_gt (b := B) (m := opts s L) (by rw [e]; omega)
    have h2 := wi_lt (s := s) (b := B) (n := L + 1) hs (by omega)
    rw [e] at h1
    show tot s (L + 1) B + (L + 1 - wi s B) = tot s L B + (L - wi s B) + min (B + 1) (wid (opts s L))
    rw [ih]
    rw [e]
    by_cases c : wi s B < L + 1
    · have := h1.mpr (h2.mp c)
      omega
    · have : ¬ B < wid ((L + 1) * (s - 1) + 2) := fun q => c (h2.mpr (h1.mp q))
      omega
theorem wid_mono2 {n m : Nat} (h1 : 1 ≤ n) (h : n ≤ m) : wid n ≤ wid m := wid_mono h1 h
theorem tot_is {s : Nat} (hs : 2 ≤ s) (B : Nat) : ∀ L, (1 ≤ L → L ≤ wi s B) → tot s L B = rcs s L
  | 0, _ => tot_zero s B
  | L + 1, h => by
    have hw := h (by omega)
    have ih := tot_is hs B L fun h1 => by omega
    rw [tot_succ hs, ih]
    show rcs s L + min B (wid (opts s L)) = rcs s L + wid (opts s L)
    have e := opts_is (s := s) (k := L) (by omega)
    have h1 := wid_gt (b := B) (m := opts s L) (by rw [e]; omega)
    have h2 := wi_lt (s := s) (b := B) (n := L + 1) hs (by omega)
    have : ¬ B < wid (opts s L) := fun q => by
      have q2 := h1.mp q
      rw [e] at q2
      have := h2.mpr q2
      omega
    omega
/-- one letter: each number has one bit -/
theorem rcs_one : ∀ L, rcs 1 L = L
  | 0 => rfl
  | L + 1 => by
    show rcs 1 L + wid (opts 1 L) = L + 1
    rw [rcs_one L]
    have e : opts 1 L = 2 := by
      unfold opts
      omega
    rw [e]
    rfl
/-- the first number with more than b bits -/
theorem first_is {s b : Nat} (hs : 2 ≤ s) (hb : 1 ≤ b) : (2 ^ b + (s - 1) - 2) / (s - 1) = wi s b + 1 := by
  unfold wi
  rw [if_neg (by omega)]
  have h2 : 2 ≤ 2 ^ b := by
    have : 2 ^ 1 ≤ 2 ^ b := Nat.pow_le_pow_right (by decide) (by omega)
    omega
  have e : 2 ^ b + (s - 1) - 2 = (2 ^ b - 2) + (s - 1) := by omega
  rw [e, Nat.add_div_right _ (by omega)]
def plen (s m : Nat) : Nat := rcs s (m + 1) + wid (m + 1)
theorem bln_is (al : List Nat) (m : Nat) : bln al m = plen al.length m := by
  unfold bln plen
  rw [rch_is]
end Ver
namespace Ver
/-! ### the block against the number of texts -/
/-- free places: k of them at number k - 1 -/
def fre (s k : Nat) : Nat := k * (s - 1) + 1
def prd (s : Nat) : Nat → Nat
  | 0 => 1
  | p + 1 => prd s p * fre s (p + 1)
theorem fre_pos (s k : Nat) : 1 ≤ fre s k := by
  unfold fre
  omega
theorem prd_pos (s : Nat) : ∀ p, 1 ≤ prd s p
  | 0 => Nat.le_refl 1
  | p + 1 => by
    have h1 := prd_pos s p
    have h2 := fre_pos s (p + 1)
    show 1 ≤ prd s p * fre s (p + 1)
    have := Nat.mul_le_mul h1 h2
    omega
theorem opts_fre {s k : Nat} (h : 1 ≤ s) : opts s k = fre s (k + 1) + 1 := by
  rw [opts_is h]
  rfl
theorem wid_mul {a b : Nat} (ha : 1 ≤ a) (hb : 1 ≤ b) : wid (a * b) ≤ wid a + wid b := by
  refine Classical.byContradiction fun hn => ?_
  have h := (wid_gt (b := wid a + wid b) (m := a * b) (by have := Nat.mul_le_mul ha hb; omega)).mp (by omega)
  rw [Nat.pow_add] at h
  have := Nat.mul_le_mul (wid_pow ha) (wid_pow hb)
  omega
theorem wid_one : wid 1 = 0 := rfl
theorem prd_wid {s : Nat} (hs : 1 ≤ s) : ∀ p, wid (prd s p) ≤ rcs s p
  | 0 => Nat.le_refl _
  | p + 1 => by
    have ih := prd_wid hs p
    have h := wid_mul (prd_pos s p) (fre_pos s (p + 1))
    have h2 := wid_mono (n := fre s (p + 1)) (m := fre s (p + 1) + 1) (fre_pos s (p + 1)) (by omega)
    show wid (prd s p * fre s (p + 1)) ≤ rcs s p + wid (opts s p)
    rw [opts_fre hs]
    omega
/-- at least the number of texts -/
theorem plen_low {s : Nat} (hs : 1 ≤ s) (p : Nat) : wid ((p + 1) * prd s p) ≤ plen s p := by
  have h1 := wid_mul (a := p + 1) (b := prd s p) (by omega) (prd_pos s p)
  have h2 := prd_wid hs p
  unfold plen
  show _ ≤ rcs s p + wid (opts s p) + wid (p + 1)
  omega
theorem wid_half {f : Nat} (h : 1 ≤ f) : 1 ≤ wid (f + 1) ∧ 2 ^ (wid (f + 1) - 1) ≤ f := by
  have h1 := wid_two (n := f + 1) (by omega)
  refine ⟨h1, ?_⟩
  have := (wid_gt (b := wid (f + 1) - 1) (m := f + 1) (by omega)).mp (by omega)
  omega
theorem prd_pow {s : Nat} (hs : 1 ≤ s) : ∀ p, p ≤ rcs s p ∧ 2 ^ (rcs s p - p) ≤ prd s p
  | 0 => ⟨Nat.le_refl 0, Nat.le_refl 1⟩
  | p + 1 => by
    obtain ⟨i1, i2⟩ := prd_pow hs p
    obtain ⟨h1, h2⟩ := wid_half (fre_pos s (p + 1))
    have e : rcs s (p + 1) = rcs s p + wid (fre s (p + 1) + 1) := by
      show rcs s p + wid (opts s p) = _
      rw [opts_fre hs]
    refine ⟨by omega, ?_⟩
    have e2 : rcs s (p + 1) - (p + 1) = (rcs s p - p) + (wid (fre s (p + 1) + 1) - 1) := by omega
    rw [e2, Nat.pow_add]
    exact Nat.mul_le_mul i2 h2
theorem plen_high {s : Nat} (hs : 1 ≤ s) (p : Nat) : plen s p ≤ wid ((p + 1) * prd s p) + p + wid (fre s (p + 1) + 1) := by
  obtain ⟨i1, i2⟩ := prd_pow hs p
  have e : plen s p = rcs s p + wid (fre s (p + 1) + 1) + wid (p + 1) := by
    unfold plen
    show rcs s p + wid (opts s p) + _ = _
    rw [opts_fre hs]
  rw [e]
  by_cases c : p = 0
  · subst c
    show rcs s 0 + _ + wid 1 ≤ _
    rw [wid_one]
    show 0 + _ + 0 ≤ _
    omega
  · obtain ⟨h1, h2⟩ := wid_half (f := p) (by omega)
    have h3 := (wid_gt (b := wid (p + 1) - 1) (m := p + 1) (by omega)).mp (by omega)
    have hp := prd_pos s p
    have h4 : 2 ^ ((wid (p + 1) - 1) + (rcs s p - p)) < (p + 1) * prd s p := by
      rw [Nat.pow_add]
      calc 2 ^ (wid (p + 1) - 1) * 2 ^ (rcs s p - p) ≤ 2 ^ (wid (p + 1) - 1) * prd s p := Nat.mul_le_mul_left _ i2
        _ < (p + 1) * prd s p := Nat.mul_lt_mul_of_pos_right h3 (by omega)
    have h5 := (wid_gt (m := (p + 1) * prd s p) (by have := Nat.mul_le_mul (show 1 ≤ p + 1 by omega) hp; omega)).mpr h4
    omega
theorem prd_le {s : Nat} (h : s ≤ 6) : ∀ p, p ≤ 200 → prd s p ≤ 1001 ^ p
  | 0, _ => Nat.le_refl 1
  | p + 1, hp => by
    have ih := prd_le h p (by omega)
    have hf : fre s (p + 1) ≤ 1001 := by
      unfold fre
      have : (p + 1) * (s - 1) ≤ 200 * 5 := Nat.mul_le_mul (by omega) (by omega)
      omega
    show prd s p * fre s (p + 1) ≤ 1001 ^ (p + 1)
    rw [Nat.pow_succ]
    exact Nat.mul_le_mul ih hf
theorem prd_big {s p : Nat} (h : s ≤ 6) (hp : p ≤ 200) : (p + 1) * prd s p ≤ 2 ^ 2100 := by
  have h1 := prd_le h p hp
  have h2 : 1001 ^ p ≤ 1001 ^ 200 := Nat.pow_le_pow_right (by decide) hp
  have h3 : (201 : Nat) * 1001 ^ 200 ≤ 2 ^ 2100 := by decide +kernel
  have h4 : (p + 1) * prd s p ≤ 201 * 1001 ^ 200 := Nat.mul_le_mul (by omega) (Nat.le_trans h1 h2)
  exact Nat.le_trans h4 h3
end Ver
namespace Ver
open PySem PySem.Spec PyProof.Rows L2 Evl
/-- numbers of pieces that are asked -/
def ML : Nat := 10 ^ 31
theorem ml_is : ML = 10000000000000000000000000000000 := by decide +kernel
theorem wi_big {s b L : Nat} (hs : 2 ≤ s) (h6 : s ≤ 6) (hL : L ≤ ML) (h : wi s b < L) : b < 110 := by
  have h2 := (wi_lt hs (show 1 ≤ L by omega)).mp h
  have h3 : L * (s - 1) ≤ ML * 5 := Nat.mul_le_mul hL (by omega)
  rw [ml_is] at h3
  refine Classical.byContradiction fun hn => ?_
  have h4 : 2 ^ 110 ≤ 2 ^ b := Nat.pow_le_pow_right (by decide) (by omega)
  have h5 : (2 : Nat) ^ 110 = 1298074214633706907132624082305024 := by decide +kernel
  omega
theorem bits_w {n : Nat} : bitsOf (n : Int) = (wid n : Int) := by
  have := bits_nn (n : Int)
  unfold wid
  omega
theorem ml_pow : (ML : Int) * 6 + 2 ≤ 2 ^ 2100 := by decide +kernel
section
variable {P : Program} {w : World} {K : PySem.W.Frag} {mg : Str → Option Value} {base : Heap} {C_Cut : Addr}
/-! ### width_total, pressed_length -/
def spWt : Sp := fun vs H Q _ => ∃ s L : Nat, vs = [.int (s : Int), .int (L : Int)] ∧ 1 ≤ s ∧ s ≤ 6 ∧ L ≤ ML ∧ RetV (.int (rcs s L : Int)) H Q
theorem has_wt (F : At K mg "width_total" s_width_total) (T : Top K mg C_Cut) : Has P w K mg base "width_total" s_width_total ["size", "last"] 1 spWt := by
  obtain ⟨f, fd, F, m⟩ := F.ex
  refine ⟨f, fd, F, F.ok S_width_total (fun vs H Q E h => ?_) (fun cdv A outer s H vs Q E hr h => ?_), F.binds fun _ _ _ _ _ _ us hl => match us, hl with | [_, _], _ => rfl, m, F.kp⟩
  · obtain ⟨s, L, rfl, _⟩ := h
    rfl
  obtain ⟨s, L, rfl, h1, h6, hL, q⟩ := h
  refine ⟨_, (pss_cons
    (ps_if (pt_cmpR op_eq (pv 0) pe_int (nomark _)) (pss_one
    (ps_ret (pv 1))) pss_nil)
    (pss_cons
    (ps_set (i := 2) S_width_total.nd rfl (Or.inl rfl) (pe_op op_sub (pv 0) pe_int))
    (pss_cons
    (ps_set (i := 3) S_width_total.nd rfl (Or.inl rfl) pe_int)
    (pss_cons
    (ps_set (i := 4) S_width_total.nd rfl (Or.inl rfl) pe_int)
    (pss_cons
    (ps_set (i := 5) S_width_total.nd rfl (Or.inl rfl) pe_int)
    (pss_cons
    (ps_while PassesOwn.never (pt_cmpR op_le (pv 5) (pv 1) (nomark _)) (pss_cons
    (ps_aug (i := 3) S_width_total.nd rfl (Or.inl rfl) (pe_op op_add (pe_op op_sub (pv 1) (pv 5)) pe_int) ip_add)
    (pss_cons
    (ps_aug (i := 4) S_width_total.nd rfl (Or.inl rfl) pe_int ip_add)
    (pss_one
    (ps_set (i := 5) S_width_total.nd rfl (Or.inl rfl) (pe_op op_fdivW (pe_op op_sub (pe_op op_add (pe_op op_shl pe_int (pv 4)) (pv 2)) pe_int) (pv 2)))))))
    (pss_one
    (ps_ret (pv 3))))))))), ?_⟩
  refine q_when (et_eqI (ev_var rfl) ev_c) (fun hb H1 e1 => ?_) (fun hb H1 e1 => ?_)
  · have hs : s = 1 := by
      have := of_decide_eq_true hb
      omega
    subst hs
    refine s_ret (ev_var rfl) fun H2 e2 => ?_
    rw [rcs_one] at q
    exact q H2 (e1.trans e2)
  have hs : 2 ≤ s := by
    have := of_decide_eq_false hb
    omega
  refine q_asg (v := .int ((s - 1 : Nat) : Int)) (ev_is (ev_sub (ev_var rfl) ev_c) (by congr 1; omega)) fun H2 e2 => ?_
  refine q_asg (v := .int ((tot s L 0 : Nat) : Int)) ev_c fun H3 e3 => ?_
  refine q_asg (v := .int ((0 : Nat) : Int)) ev_c fun H4 e4 => ?_
  refine q_asg (v := .int ((wi s 0 + 1 : Nat) : Int)) ev_c fun H5 e5 => ?_
  have e15 := (((e1.trans e2).trans e3).trans e4).trans e5
  refine q_while (fun n σ' H' => ∃ b : Nat, σ' = [some (.int (s : Int)), some (.int (L : Int)), some (.int ((s - 1 : Nat) : Int)), some (.int (tot s L b : Int)), some (.int (b : Int)), some (.int ((wi s b + 1 : Nat) : Int))] ∧ Ex H H' ∧ n = 200 - b ∧ b ≤ 111) 200 ⟨0, rfl, e15, rfl, by omega⟩ ?_
  intro n σ' H' z
  obtain ⟨b, rfl, e6, rfl, hb110⟩ := z
  refine ⟨decide (((wi s b + 1 : Nat) : Int) ≤ (L : Int)), et_le (ev_var rfl) (ev_var rfl), fun hc H6 e7 => ?_, fun hc H6 e7 => ?_⟩
  · have hw : wi s b < L := by
      have := of_decide_eq_true hc
      omega
    have hb := wi_big hs h6 hL hw
    refine ⟨fun σ2 H7 => ∃ b2 : Nat, σ2 = [some (.int (s : Int)), some (.int (L : Int)), some (.int ((s - 1 : Nat) : Int)), some (.int (tot s L b2 : Int)), some (.int (b2 : Int)), some (.int ((wi s b2 + 1 : Nat) : Int))] ∧ Ex H H7 ∧ 200 - b2 < 200 - b ∧ b2 ≤ 111, fun σ2 H7 ⟨b2, i1, i2, i3, i4⟩ => ⟨200 - b2, i3, b2, i1, i2, rfl, i4⟩, ?_⟩
    refine q_aug (f := fun a b => a + b) (a := (tot s L b : Int)) rfl (ev_add (ev_sub (ev_var rfl) (ev_var rfl)) ev_c) fun H7 e8 => ?_
    refine q_aug (f := fun a b => a + b) (a := (b : Int)) rfl ev_c fun H8 e9 => ?_
    have hp : CPow 1 ((b : Int) + 1) := ⟨by omega, by omega, by decide⟩
    have hsh : (1 : Int) * 2 ^ ((b : Int) + 1).toNat = ((2 ^ (b + 1) : Nat) : Int) := by
      have e : ((b : Int) + 1).toNat = b + 1 := by omega
      rw [e, Int.one_mul, Int.natCast_pow]
      rfl
    have hfi := first_is (s := s) (b := b + 1) hs (by omega)
    have h2p : 2 ≤ 2 ^ (b + 1) := by
      have : 2 ^ 1 ≤ 2 ^ (b + 1) := Nat.pow_le_pow_right (by decide) (by omega)
      omega
    refine s_asg (v := .int ((wi s (b + 1) + 1 : Nat) : Int)) (ev_is (ev_div (j := ((s - 1 : Nat) : Int)) (by omega) (by omega) (ev_sub (ev_add (ev_op ev_c (ev_var rfl) (rv_I hp)) (ev_var rfl)) ev_c) (ev_var rfl)) ?_) fun H9 e10 => ⟨b + 1, ?_, (((e6.trans e7).trans e8).trans e9).trans e10, by omega, by omega⟩
    · rw [hsh, ← hfi, Int.natCast_ediv]
      congr 2
      omega
    · show [_, _, _, some (V.int ((tot s L b : Int) + ((L : Int) - ((wi s b + 1 : Nat) : Int) + 1))), some (V.int ((b : Int) + 1)), _] = _
      have et : (tot s L b : Int) + ((L : Int) - ((wi s b + 1 : Nat) : Int) + 1) = ((tot s L (b + 1) : Nat) : Int) := by
        show _ = ((tot s L b + (L - wi s b) : Nat) : Int)
        omega
      rw [et]
      rfl
  · have hw : L ≤ wi s b := by
      have := of_decide_eq_false hc
      omega
    refine s_ret (ev_var rfl) fun H7 e8 => ?_
    rw [← tot_is hs b L (fun _ => hw)] at q
    exact q H7 ((e6.trans e7).trans e8)
theorem sv_wt {s L : Nat} {H : Hp} (h1 : 1 ≤ s) (h6 : s ≤ 6) (hL : L ≤ ML) : SpV spWt ([V.int (s : Int), V.int (L : Int)] ++ []) H (.int (rcs s L : Int)) := fun _ _ _ q _ => ⟨s, L, rfl, h1, h6, hL, q⟩
def spPlen : Sp := fun vs H Q _ => ∃ s p : Nat, vs = [.int (s : Int), .int (p : Int)] ∧ 1 ≤ s ∧ s ≤ 6 ∧ p < ML ∧ RetV (.int (plen s p : Int)) H Q
theorem has_plen (F : At K mg "pressed_length" s_pressed_length) (T : Top K mg C_Cut) (h1 : Has P w K mg base "width_total" s_width_total ["size", "last"] 1 spWt) (h2 : Has P w K mg base "width" s_width ["options"] 1 spWidth) : Has P w K mg base "pressed_length" s_pressed_length ["size", "count"] 2 spPlen := by
  obtain ⟨f, fd, F, m⟩ := F.ex
  obtain ⟨f1, fd1, _, G_width_total, b_width_total, m_width_total, k_width_total⟩ := h1
  obtain ⟨f2, fd2, _, G_width, b_width, m_width, k_width⟩ := h2
  refine ⟨f, fd, F, F.ok S_pressed_length (fun vs H Q E h => ?_) (fun cdv A outer s H vs Q E hr h => ?_), F.binds fun _ _ _ _ _ _ us hl => match us, hl with | [_, _], _ => rfl, m, F.kp⟩
  · obtain ⟨s, p, rfl, _⟩ := h
    rfl
  obtain ⟨s, p, rfl, h1, h6, hp, q⟩ := h
  refine ⟨_, (pss_one
    (ps_ret (pe_op op_add (pe_call G_width_total (hr.mono (by decide)) rfl m_width_total k_width_total b_width_total .nil pass0 (pa_cons (pv 0) (pa_cons (pe_op op_add (pv 1) pe_int) pa_nil))) (pe_call G_width (hr.mono (by decide)) rfl m_width k_width b_width .nil pass0 (pa_cons (pe_op op_add (pv 1) pe_int) pa_nil))))), ?_⟩
  have e : (p : Int) + 1 = ((p + 1 : Nat) : Int) := by omega
  refine s_ret (ev_is (ev_add (ev_call (ea_cons (ev_var rfl) (ea_cons (ev_is (ev_add (ev_var rfl) ev_c) (by rw [e])) ea_nil)) (sv_wt (s := s) (L := p + 1) h1 h6 hp)) (ev_call (ea_cons (ev_is (ev_add (ev_var rfl) ev_c) (by rw [e])) ea_nil) (sv_width (n := ((p + 1 : Nat) : Int))))) ?_) q
  rw [bits_w]
  unfold plen
  rw [Int.natCast_add]
theorem sv_plen {s p : Nat} {H : Hp} (h1 : 1 ≤ s) (h6 : s ≤ 6) (hp : p < ML) : SpV spPlen ([V.int (s : Int), V.int (p : Int)] ++ []) H (.int (plen s p : Int)) := fun _ _ _ q _ => ⟨s, p, rfl, h1, h6, hp, q⟩
theorem kb_plen {f : Addr} {fd : FuncData} (F : Fun K "pressed_length" "pressed_length" s_pressed_length f fd) : KBn K fd ["size", "count"] 0 ["count", "size"] (fun _ ws => ws.reverse) (fun _ ws => ws.reverse) := by
  obtain ⟨oc, od, kV, doc, pm, an, cdv, ct, osl, rfl, lk, hcd⟩ := F.ex
  refine ⟨fun s us ws X l1 l2 => ?_, fun r1 r2 => ?_⟩
  · match us, ws, l1, l2 with
    | [], [v, u], _, _ => exact .of_eq rfl
  · exact vals_rev r2
where
  vals_rev {xs : List V} {us : List Value} (r : Vals xs us) : Vals xs.reverse us.reverse := by
    induction r with
    | nil => exact .nil
    | cons h _ ih =>
      rw [List.reverse_cons, List.reverse_cons]
      exact Vals.append ih (.cons h .nil)
end
end Ver
namespace Ver
open PySem PySem.Spec PyProof.Rows L2 Evl
section
variable {P : Program} {w : World} {K : PySem.W.Frag} {mg : Str → Option Value} {base : Heap} {C_Cut : Addr}
theorem has_lwhole (F : At K mg "_law_whole" s__law_whole) (T : Top K mg C_Cut) : Has P w K mg base "_law_whole" s__law_whole ["value"] 1 spWhole := by
  obtain ⟨f, fd, F, m⟩ := F.ex
  refine ⟨f, fd, F, F.ok S__law_whole (fun vs H Q E h => ?_) (fun cdv A outer s H vs Q E hr h => ?_), F.binds fun _ _ _ _ _ _ us hl => match us, hl with | [_], _ => rfl, m, F.kp⟩
  · obtain ⟨n, rfl, _⟩ := h
    rfl
  obtain ⟨n, rfl, q⟩ := h
  refine ⟨_, (pss_one
    (ps_ret (pe_and (pe_callB call_isi rfl T.z_isinstance (by decide +kernel) (pa_cons (pv 0) (pa_cons (pe_bltn (v := .ty "int") rfl T.z_int (by decide +kernel) rfl) pa_nil))) (pe_one (pe_not (pe_callB call_isi rfl T.z_isinstance (by decide +kernel) (pa_cons (pv 0) (pa_cons (pe_bltn (v := .ty "bool") rfl T.z_bool (by decide +kernel) rfl) pa_nil)))))))), ?_⟩
  exact s_ret (ev_is (ev_andV (ev_cb (ea_cons (ev_var rfl) (ea_cons ev_c ea_nil)) (rc_isi (b := true) (by decide +kernel)))
    (fun _ => ev_notV (ev_cb (ea_cons (ev_var rfl) (ea_cons ev_c ea_nil)) (rc_isi (b := false) (by decide +kernel))))) rfl) q
end
end Ver
namespace Ver
open PySem PySem.Spec PyProof.Rows L2 Evl
theorem big2100 {n : Nat} (h : n ≤ ML * 6 + 2) : (n : Int) ≤ 2 ^ 2100 := by
  have := ml_pow
  generalize (2 : Int) ^ 2100 = B at *
  omega
theorem big_nat {n : Nat} (h : n ≤ 2 ^ 2100) : (n : Int) ≤ 2 ^ 2100 := by
  have e : (2 : Int) ^ 2100 = ((2 ^ 2100 : Nat) : Int) := by
    rw [Int.natCast_pow]
    rfl
  rw [e]
  exact Int.ofNat_le.mpr h
section
variable {P : Program} {w : World} {K : PySem.W.Frag} {mg : Str → Option Value} {base : Heap} {C_Cut : Addr}
theorem sv_lwN {n : Nat} {H : Hp} (h1 : 1 ≤ n) (h2 : (n : Int) ≤ 2 ^ 2100) : SpV spLw ([V.int (n : Int)] ++ []) H (.int (wid n : Int)) := fun _ _ _ q _ => ⟨(n : Int), rfl, by omega, h2, by rw [bits_w]; exact q⟩
/-! ### _law_summed -/
def spSum : Sp := fun vs H Q _ => ∃ s p : Nat, vs = [.int (s : Int), .int (p : Int)] ∧ 1 ≤ s ∧ s ≤ 6 ∧ p ≤ 200 ∧ RetV (.int (plen s p : Int)) H Q
theorem has_sum (F : At K mg "_law_summed" s__law_summed) (T : Top K mg C_Cut) (h1 : Has P w K mg base "_law_width" s__law_width ["many"] 1 spLw) : Has P w K mg base "_law_summed" s__law_summed ["radix", "pieces"] 2 spSum := by
  obtain ⟨f, fd, F, m⟩ := F.ex
  obtain ⟨f1, fd1, _, G__law_width, b__law_width, m__law_width, k__law_width⟩ := h1
  refine ⟨f, fd, F, F.ok S__law_summed (fun vs H Q E h => ?_) (fun cdv A outer s H vs Q E hr h => ?_), F.binds fun _ _ _ _ _ _ us hl => match us, hl with | [_, _], _ => rfl, m, F.kp⟩
  · obtain ⟨s, p, rfl, _⟩ := h
    rfl
  obtain ⟨s, p, rfl, h1, h6, hp, q⟩ := h
  refine ⟨_, (pss_cons
    (ps_set (i := 2) S__law_summed.nd rfl (Or.inl rfl) (pe_call G__law_width (hr.mono (by decide)) rfl m__law_width k__law_width b__law_width .nil pass0 (pa_cons (pe_op op_add (pv 1) pe_int) pa_nil)))
    (pss_cons
    (ps_for PassesOwn.never rfl (pi_range2 rfl T.z_range (pa_cons pe_int (pa_cons (pe_op op_add (pv 1) pe_int) pa_nil))) (pg_name (i := 3) S__law_summed.nd rfl (Or.inl rfl)) (pss_one
    (ps_set (i := 2) S__law_summed.nd rfl (Or.inl rfl) (pe_op op_add (pv 2) (pe_call G__law_width (hr.mono (by decide)) rfl m__law_width k__law_width b__law_width .nil pass0 (pa_cons (pe_op op_add (pe_op op_sub (pe_op op_mul (pv 3) (pv 0)) (pv 3)) pe_int) pa_nil))))))
    (pss_one
    (ps_ret (pv 2))))), ?_⟩
  have hml := ml_is
  have e : (p : Int) + 1 = ((p + 1 : Nat) : Int) := by omega
  refine q_asg (v := .int (wid (p + 1) : Int)) (ev_call (ea_cons (ev_is (ev_add (ev_var rfl) ev_c) (by rw [e])) ea_nil) (sv_lwN (n := p + 1) (by omega) (big2100 (by omega)))) fun H1 e1 => ?_
  refine q_forR2 (lo := 1) (n := (p : Int) + 2) (ea_cons ev_c (ea_cons (ev_add (ev_var rfl) ev_c) ea_nil)) (by omega) (fun i σ' H' => (∃ u, σ' = [some (.int (s : Int)), some (.int (p : Int)), some (.int ((wid (p + 1) + rcs s i : Nat) : Int)), u]) ∧ Ex H H') ?_ ?_ ?_
  · intro H2 e2
    exact ⟨⟨none, rfl⟩, e1.trans e2⟩
  · intro i σ' H' hi z
    obtain ⟨⟨u, rfl⟩, e2⟩ := z
    have hi2 : i ≤ p := by omega
    have ho : ((1 : Int) + (i : Int)) * (s : Int) - ((1 : Int) + (i : Int)) + 2 = (opts s i : Int) := by
      have em : ((1 : Int) + (i : Int)) * (s : Int) = (((i + 1) * s : Nat) : Int) := by
        rw [Int.natCast_mul, Int.natCast_add, Int.add_comm]
        rfl
      have h : (i + 1) * 1 ≤ (i + 1) * s := Nat.mul_le_mul_left _ h1
      unfold opts
      rw [em]
      omega
    have hol : opts s i ≤ ML * 6 + 2 := by
      unfold opts
      have : (i + 1) * s ≤ 201 * 6 := Nat.mul_le_mul (by omega) h6
      omega
    have ho1 : 1 ≤ opts s i := by
      unfold opts
      omega
    refine s_asg (v := .int ((wid (p + 1) + rcs s (i + 1) : Nat) : Int)) (ev_is (ev_add (ev_var rfl) (ev_call (ea_cons (ev_is (ev_add (ev_sub (ev_mulR (by omega) (by omega) (ev_var rfl) (ev_var rfl)) (ev_var rfl)) ev_c) (by rw [ho])) ea_nil) (sv_lwN ho1 (big2100 hol)))) ?_) fun H3 e3 => ⟨⟨_, rfl⟩, e2.trans e3⟩
    show V.int (((wid (p + 1) + rcs s i : Nat) : Int) + (wid (opts s i) : Int)) = V.int ((wid (p + 1) + (rcs s i + wid (opts s i)) : Nat) : Int)
    congr 1
    omega
  · intro σ' H' z
    obtain ⟨⟨u, rfl⟩, e2⟩ := z
    have en : ((p : Int) + 2 - 1).toNat = p + 1 := by omega
    rw [en]
    refine s_ret (ev_is (ev_var rfl) ?_) fun H3 e3 => q H3 (e2.trans e3)
    unfold plen
    rw [Nat.add_comm]
/-! ### _law_grouped -/
def spGrp : Sp := fun vs H Q _ => ∃ s p : Nat, vs = [.int (s : Int), .int (p : Int)] ∧ 1 ≤ s ∧ s ≤ 6 ∧ p < ML ∧ RetV (.int (plen s p : Int)) H Q
/-- the numbers that have no more bits, as the law counts them -/
def wiL (s p b : Nat) : Nat := if b = 0 then 0 else if s = 1 then p + 1 else wi s b
def totL (s p : Nat) : Nat → Nat
  | 0 => 0
  | b + 1 => totL s p b + (p + 1 - wiL s p b)
theorem totL_two {s p : Nat} (hs : 2 ≤ s) : ∀ b, totL s p b = tot s (p + 1) b
  | 0 => rfl
  | b + 1 => by
    show totL s p b + (p + 1 - wiL s p b) = tot s (p + 1) b + (p + 1 - wi s b)
    rw [totL_two hs b]
    unfold wiL
    by_cases c : b = 0
    · subst c
      rw [if_pos rfl]
      rfl
    · rw [if_neg c, if_neg (by omega)]
theorem totL_end {s p b : Nat} (h1 : 1 ≤ s) (hw : p + 1 ≤ wiL s p b) (hb : ∀ k, k < b → wiL s p k < p + 1) : totL s p b = rcs s (p + 1) := by
  by_cases c : s = 1
  · subst c
    have hb1 : b = 1 := by
      have h0 : b ≠ 0 := fun e => by
        rw [e] at hw
        unfold wiL at hw
        rw [if_pos rfl] at hw
        omega
      refine Classical.byContradiction fun hn => ?_
      have := hb 1 (by omega)
      unfold wiL at this
      rw [if_neg (by omega), if_pos rfl] at this
      omega
    subst hb1
    rw [rcs_one]
    show 0 + (p + 1 - wiL 1 p 0) = p + 1
    unfold wiL
    rw [if_pos rfl]
    omega
  · rw [totL_two (by omega)]
    refine tot_is (by omega) b (p + 1) fun _ => ?_
    unfold wiL at hw
    by_cases c0 : b = 0
    · rw [if_pos c0] at hw
      omega
    · rw [if_neg c0, if_neg c] at hw
      exact hw
theorem wiL_big {s b p : Nat} (h1 : 1 ≤ s) (h6 : s ≤ 6) (hp : p < ML) (h : wiL s p b < p + 1) : b < 110 := by
  unfold wiL at h
  by_cases c0 : b = 0
  · omega
  · rw [if_neg c0] at h
    by_cases c : s = 1
    · rw [if_pos c] at h
      omega
    · rw [if_neg c] at h
      exact wi_big (by omega) h6 (show p + 1 ≤ ML by omega) h
theorem has_grp (F : At K mg "_law_grouped" s__law_grouped) (T : Top K mg C_Cut) (h1 : Has P w K mg base "_law_width" s__law_width ["many"] 1 spLw) : Has P w K mg base "_law_grouped" s__law_grouped ["radix", "pieces"] 2 spGrp := by
  obtain ⟨f, fd, F, m⟩ := F.ex
  obtain ⟨f1, fd1, _, G__law_width, b__law_width, m__law_width, k__law_width⟩ := h1
  refine ⟨f, fd, F, F.ok S__law_grouped (fun vs H Q E h => ?_) (fun cdv A outer s H vs Q E hr h => ?_), F.binds fun _ _ _ _ _ _ us hl => match us, hl with | [_, _], _ => rfl, m, F.kp⟩
  · obtain ⟨s, p, rfl, _⟩ := h
    rfl
  obtain ⟨s, p, rfl, h1, h6, hp, q⟩ := h
  refine ⟨_, (pss_cons
    (ps_set (i := 2) S__law_grouped.nd rfl (Or.inl rfl) (pe_call G__law_width (hr.mono (by decide)) rfl m__law_width k__law_width b__law_width .nil pass0 (pa_cons (pe_op op_add (pv 1) pe_int) pa_nil)))
    (pss_cons
    (ps_set (i := 3) S__law_grouped.nd rfl (Or.inl rfl) pe_int)
    (pss_cons
    (ps_for PassesOwn.never rfl (pi_range1 rfl T.z_range (pa_cons pe_int pa_nil)) (pg_name (i := 4) S__law_grouped.nd rfl (Or.inl rfl)) (pss_cons
    (ps_set (i := 5) S__law_grouped.nd rfl (Or.inl rfl) pe_int)
    (pss_cons
    (ps_if (PW.pt (pw_and (pt_cmpR op_gt (pv 3) pe_int (nomark _)) (pw_and1 (pt_cmpR op_gt (pv 0) pe_int (nomark _))))) (pss_one
    (ps_set (i := 5) S__law_grouped.nd rfl (Or.inl rfl) (pe_op op_fdivW (pe_op op_sub (pv 3) pe_int) (pe_op op_sub (pv 0) pe_int)))) pss_nil)
    (pss_cons
    (ps_if (PW.pt (pw_and (pt_cmpR op_gt (pv 3) pe_int (nomark _)) (pw_and1 (pt_cmpR op_eq (pv 0) pe_int (nomark _))))) (pss_one
    (ps_set (i := 5) S__law_grouped.nd rfl (Or.inl rfl) (pe_op op_add (pv 1) pe_int))) pss_nil)
    (pss_cons
    (ps_if (pt_cmpR op_ge (pv 5) (pe_op op_add (pv 1) pe_int) (nomark _)) (pss_one
    ps_break) pss_nil)
    (pss_cons
    (ps_set (i := 2) S__law_grouped.nd rfl (Or.inl rfl) (pe_op op_sub (pe_op op_add (pe_op op_add (pv 2) (pv 1)) pe_int) (pv 5)))
    (pss_one
    (ps_set (i := 3) S__law_grouped.nd rfl (Or.inl rfl) (pe_op op_mul (pv 3) pe_int)))))))))
    (pss_one
    (ps_ret (pv 2)))))), ?_⟩
  have e : (p : Int) + 1 = ((p + 1 : Nat) : Int) := by omega
  refine q_asg (v := .int ((wid (p + 1) + totL s p 0 : Nat) : Int)) (ev_call (ea_cons (ev_is (ev_add (ev_var rfl) ev_c) (by rw [e])) ea_nil) (sv_lwN (n := p + 1) (by omega) (big2100 (by omega)))) fun H1 e1 => ?_
  refine q_asg (v := .int ((2 ^ 0 : Nat) : Int)) ev_c fun H2 e2 => ?_
  have fin : ∀ (b : Nat) (σ' : L2.St) (H' : Hp) (u3 u4 u5 : Option V), σ' = [some (.int (s : Int)), some (.int (p : Int)), some (.int ((wid (p + 1) + totL s p b : Nat) : Int)), u3, u4, u5] → Ex H H' → p + 1 ≤ wiL s p b → (∀ k, k < b → wiL s p k < p + 1) → tRet (tVar 2) { nx := fun x H' => Q V.non H', rt := Q } σ' H' := by
    intro b σ' H' u3 u4 u5 hσ he hw hb
    subst hσ
    refine s_ret (ev_is (ev_var rfl) ?_) fun H3 e3 => q H3 (he.trans e3)
    rw [totL_end h1 hw hb]
    unfold plen
    rw [Nat.add_comm]
  refine q_forR1 (ea_cons ev_c ea_nil) (by decide) (fun b σ' H' => (∃ u4 u5, σ' = [some (.int (s : Int)), some (.int (p : Int)), some (.int ((wid (p + 1) + totL s p b : Nat) : Int)), some (.int ((2 ^ b : Nat) : Int)), u4, u5]) ∧ Ex H H' ∧ ∀ k, k < b → wiL s p k < p + 1) ?_ ?_ ?_
  · intro H3 e3
    exact ⟨⟨none, none, rfl⟩, (e1.trans e2).trans e3, fun k hk => absurd hk (Nat.not_lt_zero _)⟩
  · intro b σ' H' hb z
    obtain ⟨⟨u4, u5, rfl⟩, e3, hall⟩ := z
    have h2p : 1 ≤ 2 ^ b := Nat.pow_pos (by decide)
    have hgt : decide ((1 : Int) < ((2 ^ b : Nat) : Int)) = decide (b ≠ 0) := decide_eq_decide.mpr (by
      constructor
      · intro h e
        subst e
        exact absurd h (by decide)
      · intro h
        have : 2 ^ 1 ≤ 2 ^ b := Nat.pow_le_pow_right (by decide) (by omega)
        omega)
    refine q_asg (v := .int 0) ev_c fun H3 e4 => ?_
    have e34 := e3.trans e4
    -- within, in two steps
    refine q_ifAsg (v := .int ((if b ≠ 0 ∧ 1 < s then wi s b else 0 : Nat) : Int)) (b := decide (b ≠ 0 ∧ 1 < s)) (et_is (et_and (et_gt (ev_var rfl) ev_c) (fun _ => et_gt (ev_var rfl) ev_c)) ?_) (fun hc => ?_) (fun hc => ?_) fun H4 e5 => ?_
    · rw [hgt]
      have : decide ((1 : Int) < (s : Int)) = decide (1 < s) := decide_eq_decide.mpr (by omega)
      rw [this, Bool.decide_and]
    · have hc := of_decide_eq_true hc
      rw [if_pos hc]
      refine ev_is (ev_div (i := ((2 ^ b : Nat) : Int) - 2) (j := (s : Int) - 1) (by omega) (by omega) (ev_sub (ev_var rfl) ev_c) (ev_sub (ev_var rfl) ev_c)) ?_
      have h2b : 2 ≤ 2 ^ b := by
        have : 2 ^ 1 ≤ 2 ^ b := Nat.pow_le_pow_right (by decide) (by omega)
        omega
      unfold wi
      rw [if_neg hc.1, Int.natCast_ediv]
      congr 2
      · omega
      · omega
    · have hc := of_decide_eq_false hc
      rw [if_neg hc]
      rfl
    refine q_ifAsg (v := .int (wiL s p b : Int)) (b := decide (b ≠ 0 ∧ s = 1)) (et_is (et_and (et_gt (ev_var rfl) ev_c) (fun _ => et_eqI (ev_var rfl) ev_c)) ?_) (fun hc => ?_) (fun hc => ?_) fun H5 e6 => ?_
    · rw [hgt]
      have : decide ((s : Int) = 1) = decide (s = 1) := decide_eq_decide.mpr (by omega)
      rw [this, Bool.decide_and]
    · have hc := of_decide_eq_true hc
      unfold wiL
      rw [if_neg hc.1, if_pos hc.2]
      exact ev_is (ev_add (ev_var rfl) ev_c) (by rw [e])
    · have hc := of_decide_eq_false hc
      have ew : (if b ≠ 0 ∧ 1 < s then wi s b else 0) = wiL s p b := by
        unfold wiL
        by_cases c0 : b = 0
        · rw [if_neg (fun h => h.1 c0), if_pos c0]
        · by_cases c : s = 1
          · exact absurd ⟨c0, c⟩ hc
          · rw [if_pos ⟨c0, by omega⟩, if_neg c0, if_neg c]
      show [_, _, _, _, _, some (V.int (wiL s p b : Int))] = [_, _, _, _, _, some (V.int ((if b ≠ 0 ∧ 1 < s then wi s b else 0 : Nat) : Int))]
      rw [ew]
    have e36 := (e34.trans e5).trans e6
    refine q_when (et_ge (ev_var rfl) (ev_add (ev_var rfl) ev_c)) (fun hc H6 e7 => ?_) (fun hc H6 e7 => ?_)
    · have hw : p + 1 ≤ wiL s p b := by
        have := of_decide_eq_true hc
        omega
      exact fin b _ H6 _ _ _ rfl (e36.trans e7) hw hall
    · have hw : wiL s p b < p + 1 := by
        have := of_decide_eq_false hc
        omega
      refine q_asg (v := .int ((wid (p + 1) + totL s p (b + 1) : Nat) : Int)) (ev_is (ev_sub (ev_add (ev_add (ev_var rfl) (ev_var rfl)) ev_c) (ev_var rfl)) ?_) fun H7 e8 => ?_
      · show V.int (((wid (p + 1) + totL s p b : Nat) : Int) + (p : Int) + 1 - (wiL s p b : Int)) = V.int ((wid (p + 1) + (totL s p b + (p + 1 - wiL s p b)) : Nat) : Int)
        congr 1
        omega
      refine s_asg (v := .int ((2 ^ (b + 1) : Nat) : Int)) (ev_is (ev_mulR (by decide) (by decide) (ev_var rfl) ev_c) (by rw [Nat.pow_succ, Int.natCast_mul]; rfl)) fun H8 e9 => ⟨⟨_, _, rfl⟩, ((e36.trans e7).trans e8).trans e9, fun k hk => ?_⟩
      by_cases c : k < b
      · exact hall k c
      · have : k = b := by omega
        rw [this]
        exact hw
  · intro σ' H' z
    obtain ⟨⟨u4, u5, rfl⟩, e3, hall⟩ := z
    exfalso
    have := wiL_big h1 h6 hp (hall 150 (by decide))
    omega
end
end Ver
namespace Ver
open PySem PySem.Spec PyProof.Rows L2 Evl
section
variable {P : Program} {w : World} {K : PySem.W.Frag} {mg : Str → Option Value} {base : Heap} {C_Cut : Addr}
/-! ### _law_near_least -/
def spNl : Sp := fun vs H Q _ => ∃ s p : Nat, vs = [.int (s : Int), .int (p : Int), .int (plen s p : Int)] ∧ 1 ≤ s ∧ s ≤ 6 ∧ p ≤ 200 ∧ RetV (.bl true) H Q
theorem fre_int {s : Nat} (h1 : 1 ≤ s) (k : Nat) : (k : Int) * (s : Int) - (k : Int) + 1 = (fre s k : Int) := by
  unfold fre
  obtain ⟨r, rfl⟩ : ∃ r, s = r + 1 := ⟨s - 1, by omega⟩
  have e : (k : Int) * ((r + 1 : Nat) : Int) = ((k * r + k : Nat) : Int) := by
    rw [show k * r + k = k * (r + 1) from rfl, Int.natCast_mul]
  rw [e]
  show _ = ((k * r + 1 : Nat) : Int)
  omega
theorem has_nl (F : At K mg "_law_near_least" s__law_near_least) (T : Top K mg C_Cut) (h1 : Has P w K mg base "_law_width" s__law_width ["many"] 1 spLw) : Has P w K mg base "_law_near_least" s__law_near_least ["radix", "pieces", "told"] 2 spNl := by
  obtain ⟨f, fd, F, m⟩ := F.ex
  obtain ⟨f1, fd1, _, G__law_width, b__law_width, m__law_width, k__law_width⟩ := h1
  refine ⟨f, fd, F, F.ok S__law_near_least (fun vs H Q E h => ?_) (fun cdv A outer s H vs Q E hr h => ?_), F.binds fun _ _ _ _ _ _ us hl => match us, hl with | [_, _, _], _ => rfl, m, F.kp⟩
  · obtain ⟨s, p, rfl, _⟩ := h
    rfl
  obtain ⟨s, p, rfl, h1, h6, hp, q⟩ := h
  refine ⟨_, (pss_cons
    (ps_set (i := 3) S__law_near_least.nd rfl (Or.inl rfl) (pe_op op_add (pv 1) pe_int))
    (pss_cons
    (ps_for PassesOwn.never rfl (pi_range2 rfl T.z_range (pa_cons pe_int (pa_cons (pe_op op_add (pv 1) pe_int) pa_nil))) (pg_name (i := 4) S__law_near_least.nd rfl (Or.inl rfl)) (pss_one
    (ps_set (i := 3) S__law_near_least.nd rfl (Or.inl rfl) (pe_op op_mul (pv 3) (pe_op op_add (pe_op op_sub (pe_op op_mul (pv 4) (pv 0)) (pv 4)) pe_int)))))
    (pss_cons
    (ps_set (i := 5) S__law_near_least.nd rfl (Or.inl rfl) (pe_call G__law_width (hr.mono (by decide)) rfl m__law_width k__law_width b__law_width .nil pass0 (pa_cons (pv 3) pa_nil)))
    (pss_cons
    (ps_set (i := 6) S__law_near_least.nd rfl (Or.inl rfl) (pe_op op_sub (pe_op op_mul (pe_op op_add (pv 1) pe_int) (pv 0)) (pv 1)))
    (pss_one
    (ps_ret (pe_and (pe_cmpR op_le (pv 5) (pv 2) (nomark _)) (pe_one (pe_cmpR op_le (pv 2) (pe_op op_sub (pe_op op_add (pe_op op_add (pe_op op_add (pv 5) (pv 1)) pe_int) (pe_call G__law_width (hr.mono (by decide)) rfl m__law_width k__law_width b__law_width .nil pass0 (pa_cons (pe_op op_add (pv 6) pe_int) pa_nil))) pe_int) (nomark _)))))))))), ?_⟩
  have hml := ml_is
  have e : (p : Int) + 1 = ((p + 1 : Nat) : Int) := by omega
  refine q_asg (v := .int (((p + 1) * prd s 0 : Nat) : Int)) (ev_is (ev_add (ev_var rfl) ev_c) (by rw [e]; show _ = V.int (((p + 1) * 1 : Nat) : Int); rw [Nat.mul_one])) fun H1 e1 => ?_
  refine q_forR2 (lo := 1) (n := (p : Int) + 1) (ea_cons ev_c (ea_cons (ev_add (ev_var rfl) ev_c) ea_nil)) (by omega) (fun i σ' H' => (∃ u, σ' = [some (.int (s : Int)), some (.int (p : Int)), some (.int (plen s p : Int)), some (.int (((p + 1) * prd s i : Nat) : Int)), u, none, none]) ∧ Ex H H') ?_ ?_ ?_
  · intro H2 e2
    exact ⟨⟨none, rfl⟩, e1.trans e2⟩
  · intro i σ' H' hi z
    obtain ⟨⟨u, rfl⟩, e2⟩ := z
    have hfi := fre_int h1 (i + 1)
    have ei : (1 : Int) + (i : Int) = ((i + 1 : Nat) : Int) := by omega
    have hfl : fre s (i + 1) ≤ 1001 := by
      unfold fre
      have : (i + 1) * (s - 1) ≤ 200 * 5 := Nat.mul_le_mul (by omega) (by omega)
      omega
    refine s_asg (v := .int (((p + 1) * prd s (i + 1) : Nat) : Int)) (ev_is (ev_mulR (j := (fre s (i + 1) : Int)) (by omega) (by omega) (ev_var rfl) (ev_is (ev_add (ev_sub (ev_mulR (by omega) (by omega) (ev_var rfl) (ev_var rfl)) (ev_var rfl)) ev_c) (by rw [ei, hfi]))) ?_) fun H3 e3 => ⟨⟨_, rfl⟩, e2.trans e3⟩
    rw [← Int.natCast_mul, Nat.mul_assoc]
    rfl
  · intro σ' H' z
    obtain ⟨⟨u, rfl⟩, e2⟩ := z
    have en : ((p : Int) + 1 - 1).toNat = p := by omega
    rw [en]
    have hpp := prd_pos s p
    have hprod : 1 ≤ (p + 1) * prd s p := by
      have := Nat.mul_le_mul (show 1 ≤ p + 1 by omega) hpp
      omega
    refine q_asg (v := .int (wid ((p + 1) * prd s p) : Int)) (ev_call (ea_cons (ev_var rfl) ea_nil) (sv_lwN hprod (big_nat (prd_big h6 hp)))) fun H3 e3 => ?_
    have hfr : (((p : Int) + 1) * (s : Int)) - (p : Int) = (fre s (p + 1) : Int) := by
      have := fre_int h1 (p + 1)
      rw [← this]
      have e9 : ((p + 1 : Nat) : Int) = (p : Int) + 1 := by omega
      rw [e9]
      omega
    refine q_asg (v := .int (fre s (p + 1) : Int)) (ev_is (ev_sub (ev_mulR (by omega) (by omega) (ev_add (ev_var rfl) ev_c) (ev_var rfl)) (ev_var rfl)) (by rw [hfr])) fun H4 e4 => ?_
    have hfl : fre s (p + 1) ≤ 1006 := by
      unfold fre
      have : (p + 1) * (s - 1) ≤ 201 * 5 := Nat.mul_le_mul (by omega) (by omega)
      omega
    have er : (fre s (p + 1) : Int) + 1 = ((fre s (p + 1) + 1 : Nat) : Int) := by omega
    have lo := plen_low h1 p
    have hi := plen_high h1 p
    refine s_ret (ev_is (ev_andV (a := true) (ev_is (ev_op (ev_var rfl) (ev_var rfl) rv_I0) ?_) (fun _ => ev_op (ev_var rfl) (ev_sub (ev_add (ev_add (ev_add (ev_var rfl) (ev_var rfl)) ev_c) (ev_call (ea_cons (ev_is (ev_add (ev_var rfl) ev_c) (by rw [er])) ea_nil) (sv_lwN (n := fre s (p + 1) + 1) (by omega) (big2100 (by omega))))) ev_c) rv_I0)) ?_) fun H5 e5 => q H5 (((e2.trans e3).trans e4).trans e5)
    · rw [decide_eq_true (show (wid ((p + 1) * prd s p) : Int) ≤ (plen s p : Int) by omega)]
    · rw [decide_eq_true (show (plen s p : Int) ≤ (wid ((p + 1) * prd s p) : Int) + (p : Int) + 2 + (wid (fre s (p + 1) + 1) : Int) - 1 by omega)]
      rfl
/-! ### _law_told_right -/
def spTold : Sp := fun vs H Q _ => ∃ s p : Nat, vs = [.int (s : Int), .int (p : Int)] ∧ 1 ≤ s ∧ s ≤ 6 ∧ p < ML ∧ RetV (.bl true) H Q
theorem has_told (F : At K mg "_law_told_right" s__law_told_right) (T : Top K mg C_Cut) (h1 : Has P w K mg base "pressed_length" s_pressed_length ["size", "count"] 2 spPlen) (h2 : Has P w K mg base "_law_whole" s__law_whole ["value"] 1 spWhole) (h3 : Has P w K mg base "_law_grouped" s__law_grouped ["radix", "pieces"] 2 spGrp)
    (h4 : Has P w K mg base "_law_summed" s__law_summed ["radix", "pieces"] 2 spSum) (h5 : Has P w K mg base "_law_near_least" s__law_near_least ["radix", "pieces", "told"] 2 spNl) : Has P w K mg base "_law_told_right" s__law_told_right ["radix", "pieces"] 3 spTold := by
  obtain ⟨f, fd, F, m⟩ := F.ex
  obtain ⟨f1, fd1, FP, G_pressed_length, b_pressed_length, m_pressed_length, k_pressed_length⟩ := h1
  obtain ⟨f2, fd2, _, G__law_whole, b__law_whole, m__law_whole, k__law_whole⟩ := h2
  obtain ⟨f3, fd3, _, G__law_grouped, b__law_grouped, m__law_grouped, k__law_grouped⟩ := h3
  obtain ⟨f4, fd4, _, G__law_summed, b__law_summed, m__law_summed, k__law_summed⟩ := h4
  obtain ⟨f5, fd5, _, G__law_near_least, b__law_near_least, m__law_near_least, k__law_near_least⟩ := h5
  have kb_pressed_length := kb_plen FP
  refine ⟨f, fd, F, F.ok S__law_told_right (fun vs H Q E h => ?_) (fun cdv A outer s H vs Q E hr h => ?_), F.binds fun _ _ _ _ _ _ us hl => match us, hl with | [_, _], _ => rfl, m, F.kp⟩
  · obtain ⟨s, p, rfl, _⟩ := h
    rfl
  obtain ⟨s, p, rfl, h1, h6, hp, q⟩ := h
  refine ⟨_, (pss_cons
    (ps_set (i := 2) S__law_told_right.nd rfl (Or.inl rfl) (pe_call G_pressed_length (hr.mono (by decide)) rfl m_pressed_length k_pressed_length b_pressed_length .nil pass0 (pa_cons (pv 0) (pa_cons (pv 1) pa_nil))))
    (pss_cons
    (ps_if (PW.pt (pw_or (pt_not (pt_val (pe_call G__law_whole (hr.mono (by decide)) rfl m__law_whole k__law_whole b__law_whole .nil pass0 (pa_cons (pv 2) pa_nil)))) (pw_or1 (pt_cmpR op_ne (pv 2) (pe_call G__law_grouped (hr.mono (by decide)) rfl m__law_grouped k__law_grouped b__law_grouped .nil pass0 (pa_cons (pv 0) (pa_cons (pv 1) pa_nil))) (nomark _))))) (pss_one
    (ps_ret pe_bl)) pss_nil)
    (pss_cons
    (ps_if (pt_cmpR op_le (pv 1) pe_int (nomark _)) (pss_one
    (ps_if (PW.pt (pw_or (pt_cmpR op_ne (pv 2) (pe_call G__law_summed (hr.mono (by decide)) rfl m__law_summed k__law_summed b__law_summed .nil pass0 (pa_cons (pv 0) (pa_cons (pv 1) pa_nil))) (nomark _)) (pw_or1 (pt_not (pt_val (pe_call G__law_near_least (hr.mono (by decide)) rfl m__law_near_least k__law_near_least b__law_near_least .nil pass0 (pa_cons (pv 0) (pa_cons (pv 1) (pa_cons (pv 2) pa_nil))))))))) (pss_one
    (ps_ret pe_bl)) pss_nil)) pss_nil)
    (pss_one
    (ps_ret (pe_cmpR op_eq (pe_callN0 G_pressed_length (hr.mono (by decide)) rfl m_pressed_length k_pressed_length kb_pressed_length pass0 (pk_cons (pv 1) (pk_cons (pv 0) pk_nil))) (pv 2) (nomark _))))))), ?_⟩
  refine q_asg (ev_call (ea_cons (ev_var rfl) (ea_cons (ev_var rfl) ea_nil)) (sv_plen h1 h6 hp)) fun H1 e1 => ?_
  refine q_skip (et_is (et_or (et_not (et_B (ev_call (ea_cons (ev_var rfl) ea_nil) sv_whole))) (fun _ => et_neI (ev_var rfl) (ev_call (z := .int (plen s p : Int)) (ea_cons (ev_var rfl) (ea_cons (ev_var rfl) ea_nil)) fun H2 _ Q' q' _ => ⟨s, p, rfl, h1, h6, hp, q'⟩))) (by simp)) fun H2 e2 => ?_
  refine q_when (et_le (ev_var rfl) ev_c) (fun hb H3 e3 => ?_) (fun hb H3 e3 => ?_)
  · have hp2 : p ≤ 200 := by
      have := of_decide_eq_true hb
      omega
    refine s_skip (et_is (et_or (et_neI (ev_var rfl) (ev_call (z := .int (plen s p : Int)) (ea_cons (ev_var rfl) (ea_cons (ev_var rfl) ea_nil)) fun H4 _ Q' q' _ => ⟨s, p, rfl, h1, h6, hp2, q'⟩)) (fun _ => et_not (et_B (ev_call (z := .bl true) (ea_cons (ev_var rfl) (ea_cons (ev_var rfl) (ea_cons (ev_var rfl) ea_nil))) fun H4 _ Q' q' _ => ⟨s, p, rfl, h1, h6, hp2, q'⟩)))) (by simp)) fun H4 e4 => ?_
    dsimp only
    refine s_ret (ev_is (ev_op (ev_callN0 (zs := [.int (p : Int), .int (s : Int)]) (z := .int (plen s p : Int)) (ea_cons (ev_var rfl) (ea_cons (ev_var rfl) ea_nil)) rfl (sv_plen h1 h6 hp)) (ev_var rfl) (rv_eq rfl)) (by rw [decide_eq_true rfl])) fun H5 e5 => q H5 ((((e1.trans e2).trans e3).trans e4).trans e5)
  · refine s_ret (ev_is (ev_op (ev_callN0 (zs := [.int (p : Int), .int (s : Int)]) (z := .int (plen s p : Int)) (ea_cons (ev_var rfl) (ea_cons (ev_var rfl) ea_nil)) rfl (sv_plen h1 h6 hp)) (ev_var rfl) (rv_eq rfl)) (by rw [decide_eq_true rfl])) fun H5 e5 => q H5 (((e1.trans e2).trans e3).trans e5)
end
end Ver
namespace Ver
open PySem PySem.Spec PyProof.Rows L2 Evl
theorem over_at {al l : List Nat} {i c : Nat} (h : ∀ c ∈ l, c ∈ al) (e : l[i]? = some c) : ∀ d ∈ [c], d ∈ al := fun d hd => by
  rw [List.mem_singleton.mp hd]
  exact h c (List.mem_of_getElem? e)
theorem get_ex {l : List Nat} {i : Nat} (h : i < l.length) : l[i]? = some (l.getD i 0) := by
  rw [List.getD_eq_getElem?_getD, List.getElem?_eq_getElem h]
  rfl
section
variable {P : Program} {w : World} {K : PySem.W.Frag} {mg : Str → Option Value} {base : Heap} {C_Cut : Addr}
theorem ev_fw {σ : L2.St} {H : Hp} {ta tb tc : TE} {al : List Nat} {r : List Int} {n : Nat} (hA : Alf al) (h : Ev ta σ H (tx al)) (hl : EvL tb σ H (r.map V.int)) (h3 : ∀ H1, Ex H H1 → Ev tc σ H1 (.int (n : Int))) (hn : n ≤ r.length) (hz : n ≤ 400) :
    Ev (tCall (spFw K) [] E0 (tCons ta (tCons tb (tCons tc tNil)))) σ H (tx (fwL al r n)) := ev_call3L h hl h3 fun p H1 e h1 => sv_fw hA (sq_of h1) hn hz
/-! ### _law_word -/
structure WRow (r : List Int) : Prop where
  len : r.length = 49
  b0 : 0 ≤ at0 r 0 ∧ at0 r 0 < 12
  b1 : 0 ≤ at0 r 1 ∧ at0 r 1 < 46
  bs : ∀ i, 3 ≤ i → i < 49 → 0 ≤ at0 r i ∧ at0 r i < 6
def spWd (K : PySem.W.Frag) : Sp := fun vs H Q _ => ∃ (al : List Nat) (a : Addr) (r : List Int), vs = [tx al, .ref a, .int 45] ∧ Alf al ∧ SqL K H a (r.map V.int) ∧ WRow r ∧ ∀ v, Word al 45 v → RetV (tx v) H Q
theorem has_wd (F : At K mg "_law_word" s__law_word) (T : Top K mg C_Cut) (h1 : Has P w K mg base "_law_free_word" s__law_free_word ["signs", "row", "many"] 1 (spFw K)) (h2 : Has P w K mg base "_law_counting_word" s__law_counting_word ["signs", "many"] 1 spCw) :
    Has P w K mg base "_law_word" s__law_word ["signs", "row", "most"] 2 (spWd K) := by
  obtain ⟨f, fd, F, m⟩ := F.ex
  obtain ⟨f1, fd1, _, G__law_free_word, b__law_free_word, m__law_free_word, k__law_free_word⟩ := h1
  obtain ⟨f2, fd2, _, G__law_counting_word, b__law_counting_word, m__law_counting_word, k__law_counting_word⟩ := h2
  refine ⟨f, fd, F, F.ok S__law_word (fun vs H Q E h => ?_) (fun cdv A outer s H vs Q E hr h => ?_), F.binds fun _ _ _ _ _ _ us hl => match us, hl with | [_, _, _], _ => rfl, m, F.kp⟩
  · obtain ⟨al, a, r, rfl, _⟩ := h
    rfl
  obtain ⟨al, a, r, rfl, hA, hR, ⟨hl, b0, b1, bs⟩, q⟩ := h
  refine ⟨_, (pss_cons
    (ps_set (i := 3) S__law_word.nd rfl (Or.inl rfl) (pe_callB (call_min2 rfl) rfl T.z_min (by decide +kernel) (pa_cons (pv 2) (pa_cons (pe_ix (r := rIxL K) ix_list (pv 1) pe_int (fun _ _ => rfl)) pa_nil))))
    (pss_cons
    (ps_set (i := 4) S__law_word.nd rfl (Or.inr rfl) (pe_call G__law_free_word (hr.mono (by decide)) rfl m__law_free_word k__law_free_word b__law_free_word .nil pass0 (pa_cons (pv 0) (pa_cons (pe_slice sl_list (pv 1) (po_some pe_int) po_none) (pa_cons pe_int pa_nil)))))
    (pss_cons
    (ps_set (i := 5) S__law_word.nd rfl (Or.inl rfl) (pe_ix (r := rIxL K) ix_list (pv 1) pe_int (fun _ _ => rfl)))
    (pss_cons
    (ps_if (pt_cmpR op_lt (pv 5) pe_int (nomark _)) (pss_one
    (ps_ret (pe_slice sl_str (pv 4) po_none (po_some (pv 3))))) pss_nil)
    (pss_cons
    (ps_if (pt_cmpR op_lt (pv 5) pe_int (nomark _)) (pss_one
    (ps_ret (pe_slice sl_str (pe_op op_mulS (pe_slice sl_str (pv 4) po_none (po_some (pe_op op_add pe_int (pe_op op_mod (pe_callTy call_int1 rfl T.z_int (by decide +kernel) (pa_cons (pe_ix (r := rIxL K) ix_list (pv 1) pe_int (fun _ _ => rfl)) pa_nil)) pe_int)))) pe_int) po_none (po_some (pv 3))))) pss_nil)
    (pss_cons
    (ps_if (pt_cmpR op_eq (pv 5) pe_int (nomark _)) (pss_one
    (ps_ret (pe_slice sl_str (pe_join pe_str (pe_lc (own := [("k", 6)]) (g := gName 6) (tt := tYes) rfl S__law_word.nd (pi_range1 rfl T.z_range (pa_cons pe_int pa_nil)) (blkOk_by (N := N__law_word) (sc := defScope s__law_word) (by decide +kernel)) (fun _ _ _ _ _ => pg_name (i := 6) S__law_word.nd rfl (Or.inl rfl)) (fun _ _ _ _ _ => pts_nil) (fun _ _ _ _ _ => (pe_op op_mulS (pe_ix ix_str (pv 4) (pv 6) (fun _ _ => rfl)) (pe_op op_add pe_int (pe_callTy call_int1 rfl T.z_int (by decide +kernel) (pa_cons (pe_ix (r := rIxL K) ix_list (pv 1) (pe_op op_add pe_int (pv 6)) (fun _ _ => rfl)) pa_nil))))))) po_none (po_some (pv 3))))) pss_nil)
    (pss_cons
    (ps_if (pt_cmpR op_eq (pv 5) pe_int (nomark _)) (pss_one
    (ps_ret (pe_call G__law_counting_word (hr.mono (by decide)) rfl m__law_counting_word k__law_counting_word b__law_counting_word .nil pass0 (pa_cons (pv 0) (pa_cons (pv 3) pa_nil))))) pss_nil)
    (pss_cons
    (ps_if (pt_cmpR op_eq (pv 5) pe_int (nomark _)) (pss_cons
    (ps_set (i := 7) S__law_word.nd rfl (Or.inl rfl) (pe_slice sl_str (pv 4) po_none (po_some pe_int)))
    (pss_cons
    (ps_for PassesOwn.never rfl (pi_range1 rfl T.z_range (pa_cons pe_int pa_nil)) (pg_name (i := 6) S__law_word.nd rfl (Or.inl rfl)) (pss_one
    (ps_set (i := 7) S__law_word.nd rfl (Or.inl rfl) (pe_op op_add_str (pe_op op_add_str (pv 7) (pe_ix ix_str (pv 4) (pe_op op_add pe_int (pv 6)) (fun _ _ => rfl))) (pv 7)))))
    (pss_one
    (ps_ret (pe_slice sl_str (pv 7) po_none (po_some (pv 3))))))) pss_nil)
    (pss_cons
    (ps_if (pt_cmpR op_eq (pv 5) pe_int (nomark _)) (pss_one
    (ps_ret (pe_slice sl_str (pe_op op_add_str (pe_slice sl_str (pe_op op_mulS (pe_slice sl_str (pv 4) po_none (po_some pe_int)) pe_int) po_none (po_some (pe_op op_mod (pe_callTy call_int1 rfl T.z_int (by decide +kernel) (pa_cons (pe_ix (r := rIxL K) ix_list (pv 1) pe_int (fun _ _ => rfl)) pa_nil)) pe_int))) (pv 4)) po_none (po_some (pv 3))))) pss_nil)
    (pss_one
    (ps_ret (pe_slice sl_str (pe_op op_mulS (pe_ix ix_str (pv 4) pe_int (fun _ _ => rfl)) pe_int) po_none (po_some (pv 3)))))))))))))), ?_⟩
  obtain ⟨n, hn, en⟩ : ∃ n : Nat, n ≤ 45 ∧ min 45 (at0 r 1) = (n : Int) := ⟨(min 45 (at0 r 1)).toNat, by omega, by omega⟩
  refine q_asg (v := .int (n : Int)) (ev_is (ev_cb (ea_cons (ev_var rfl) (ea_cons (ev_atI hR (i := 1) (by omega) rfl (ev_var rfl) ev_c) ea_nil)) rc_min) (by rw [en])) fun H1 e1 => ?_
  have hR1 := ex_l e1 hR
  refine q_asg (ev_fw (r := r.drop 3) (n := 46) hA (ev_var rfl) (el_from (n := 3) rfl (ev_var rfl) hR1) (fun _ _ => ev_c) (by rw [List.length_drop]; omega) (by decide)) fun H2 e2 => ?_
  have fo := fwL_over hA (r := r.drop 3) (n := 46)
  have fl := fwL_len (al := al) (r := r.drop 3) (n := 46)
  generalize fwL al (r.drop 3) 46 = fr at fo fl ⊢
  have hR2 := ex_l e2 hR1
  refine q_asg (ev_atI hR2 (i := 0) (by omega) rfl (ev_var rfl) ev_c) fun H3 e3 => ?_
  have hR3 := ex_l e3 hR2
  have e13 := (e1.trans e2).trans e3
  -- each way gives a beginning of a text over al
  have out : ∀ {te : TE} {σ : L2.St} {H' : Hp} {v : List Nat}, Ex H H' → Ev te σ H' (tx v) → (∀ c ∈ v, c ∈ al) → v.length ≤ 100000 → σ[3]? = some (some (.int (n : Int))) → tRet (tSl rSlS te tNoPart (tPart (tVar 3))) { nx := fun x H' => Q V.non H', rt := Q } σ H' :=
    fun e h ho hz hs => s_ret (ev_slS hz h eo_none (eo_some (i := (n : Int)) (ev_var hs))) fun H5 e5 => q _ (Word.cut ho hn) H5 (e.trans e5)
  refine q_when (et_lt (ev_var rfl) ev_c) (fun hb H4 e4 => ?_) (fun hb H4 e4 => ?_)
  · exact out (e13.trans e4) (ev_var rfl) fo (by omega) rfl
  have e14 := e13.trans e4
  refine q_when (et_lt (ev_var rfl) ev_c) (fun hb H5 e5 => ?_) (fun hb H5 e5 => ?_)
  · obtain ⟨k, hk, ek⟩ := int_mod (x := at0 r 2) (n := 5) (by decide)
    have ek : at0 r 2 % 5 = (k : Int) := ek
    refine out (e14.trans e5) (ev_mulS (l := cutL fr none (some ((1 + k : Nat) : Int))) (n := 46) (by decide) ?_ (ev_slS (by omega) (ev_var rfl) eo_none (eo_some (ev_is (ev_add ev_c (ev_mod (by decide) (ev_int (ev_atI (ex_l (e4.trans e5) hR3) (i := 2) (by omega) rfl (ev_var rfl) ev_c)) ev_c)) ?_))) ev_c) (over_rep (over_cut fo)) ?_ rfl
    · have := cutL_len (l := fr) (lo := none) (hi := some ((1 + k : Nat) : Int))
      omega
    · rw [ek, Int.natCast_add]
      rfl
    · rw [rep_len]
      have := cutL_len (l := fr) (lo := none) (hi := some ((1 + k : Nat) : Int))
      omega
  have e15 := e14.trans e5
  have hR5 := ex_l (e4.trans e5) hR3
  refine q_when (et_eqI (ev_var rfl) ev_c) (fun hb H6 e6 => ?_) (fun hb H6 e6 => ?_)
  · let g : Nat → List Nat := fun k => (List.replicate (1 + (at0 r (15 + k)).toNat) [fr.getD k 0]).flatten
    have hg : ∀ k, k < 12 → (∀ c ∈ g k, c ∈ al) ∧ (g k).length ≤ 7 := fun k hk => by
      have := bs (15 + k) (by omega) (by omega)
      refine ⟨over_rep (over_at fo (get_ex (by omega))), ?_⟩
      show (List.replicate _ _).flatten.length ≤ 7
      rw [rep_len]
      show _ * 1 ≤ 7
      omega
    have hfl : ((List.range 12).map g).flatten.length ≤ 84 := by
      have k7 : ∀ n, n ≤ 12 → ((List.range n).map g).flatten.length ≤ 7 * n := by
        intro n
        induction n with
        | zero => intro _; exact Nat.le_refl 0
        | succ n ih =>
          intro h
          have := ih (by omega)
          have := (hg n (by omega)).2
          rw [List.range_succ, List.map_append, List.flatten_append, List.length_append]
          have e1 : ([n].map g).flatten.length = (g n).length := by simp
          rw [e1]
          omega
      exact k7 12 (Nat.le_refl _)
    refine out (e15.trans e6) (ev_joinL (ps := (List.range 12).map g) (ev_is ev_c (by rw [mt_is])) ?_ (by omega)) (flat_over fun s hs => ?_) (by omega) rfl
    · have gg := el_lcR1 (j := 6) (vs := [6]) (σ := [some (tx al), some (.ref a), some (.int 45), some (.int (n : Int)), some (tx fr), some (.int (at0 r 0)), none, none]) (H := H6) (ta := tCons (tC (.int 12)) tNil) (n := 12) (t := tYes) (fun _ => true) (fun i => tx (g i))
        (te := tOp rMulS (tOp rIxS (tVar 4) (tVar 6)) (tOp (rI0 fun i j => .int (i + j)) (tC (.int 1)) (tCB (fun xs H Q => (∃ i, xs = [V.int i] ∧ Q (V.int i) H) ∨ ∃ k, xs = [V.bl k] ∧ Q (V.int (if k = true then 1 else 0)) H) (tCons (tOp (rIxL K) (tVar 1) (tOp (rI0 fun i j => .int (i + j)) (tC (.int 15)) (tVar 6))) tNil))))
        (ea_cons ev_c ea_nil) (by decide) (fun x => rfl) (fun i H1 e1 hi => et_yes) (fun i H1 e1 hi _ => ?_)
      · rw [show (12 : Int).toNat = 12 from rfl, given_all] at gg
        rw [List.map_map]
        exact gg
      · have hi2 : i < 12 := by omega
        have := bs (15 + i) (by omega) (by omega)
        refine ev_mulS (l := [fr.getD i 0]) (n := 1 + (at0 r (15 + i)).toNat) (by omega) (by show 1 * _ ≤ 100000; omega) (ev_ixS (by omega) (get_ex (by omega)) (ev_var rfl) (ev_var rfl)) (ev_is (ev_add ev_c (ev_int (ev_atI (ex_l (e6.trans e1) hR5) (i := 15 + i) (by omega) (by omega) (ev_var rfl) (ev_add ev_c (ev_var rfl))))) ?_)
        congr 1
        omega
    · obtain ⟨k, hk, rfl⟩ := List.mem_map.mp hs
      exact (hg k (List.mem_range.mp hk)).1
  have e16 := e15.trans e6
  have hR6 := ex_l e6 hR5
  refine q_when (et_eqI (ev_var rfl) ev_c) (fun hb H7 e7 => ?_) (fun hb H7 e7 => ?_)
  · refine s_retCall (vs := [tx al, .int (n : Int)]) (ea_cons (ev_var rfl) (ea_cons (ev_var rfl) ea_nil)) fun H8 e8 => ⟨al, n, rfl, hA, by omega, fun v hv H9 e9 => q v ⟨hv.over, Nat.le_trans hv.len hn⟩ H9 (((e16.trans e7).trans e8).trans e9)⟩
  have e17 := e16.trans e7
  have hR7 := ex_l e7 hR6
  refine q_when (et_eqI (ev_var rfl) ev_c) (fun hb H8 e8 => ?_) (fun hb H8 e8 => ?_)
  · refine q_asg (ev_slS (by omega) (ev_var rfl) eo_none (eo_some (i := ((2 : Nat) : Int)) ev_c)) fun H9 e9 => ?_
    refine q_forR1 (ea_cons ev_c ea_nil) (by decide) (fun i σ' H' => ∃ (v : List Nat) (u6 : Option V), σ' = [some (tx al), some (.ref a), some (.int 45), some (.int (n : Int)), some (tx fr), some (.int (at0 r 0)), u6, some (tx v)] ∧ Ex H H' ∧ (∀ c ∈ v, c ∈ al) ∧ v.length + 1 ≤ 3 * 2 ^ i) ?_ ?_ ?_
    · intro H10 e10
      refine ⟨cutL fr none (some ((2 : Nat) : Int)), none, rfl, ((e17.trans e8).trans e9).trans e10, over_cut fo, ?_⟩
      rw [cutL_to, List.length_take]
      show min 2 _ + 1 ≤ 3 * 1
      omega
    · intro i σ' H' hi z
      obtain ⟨v, u6, rfl, e10, vo, vz⟩ := z
      have hi2 : i < 5 := by
        have : (i : Int) < 5 := hi
        omega
      have hp : 2 ^ i ≤ 2 ^ 5 := Nat.pow_le_pow_right (by decide) (by omega)
      have hp5 : (2 : Nat) ^ 5 = 32 := rfl
      have hge := get_ex (l := fr) (i := 2 + i) (by omega)
      refine s_asg (ev_catS (a := v ++ [fr.getD (2 + i) 0]) (by rw [List.length_append]; show _ + 1 + _ ≤ _; omega) (ev_catS (b := [fr.getD (2 + i) 0]) (by show _ + 1 ≤ _; omega) (ev_var rfl) (ev_ixS (i := 2 + i) (by omega) hge (ev_var rfl) (ev_is (ev_add ev_c (ev_var rfl)) (by rw [Int.natCast_add]; rfl)))) (ev_var rfl)) fun H11 e11 => ⟨_, _, rfl, e10.trans e11, over_app (over_app vo (over_at fo hge)) vo, ?_⟩
      rw [List.length_append, List.length_append, Nat.pow_succ]
      show v.length + 1 + v.length + 1 ≤ _
      omega
    · intro σ' H' z
      obtain ⟨v, u6, rfl, e10, vo, vz⟩ := z
      have hp5 : (2 : Nat) ^ (5 : Int).toNat = 32 := rfl
      exact out e10 (ev_var rfl) vo (by omega) rfl
  have e18 := e17.trans e8
  have hR8 := ex_l e8 hR7
  refine q_when (et_eqI (ev_var rfl) ev_c) (fun hb H9 e9 => ?_) (fun hb H9 e9 => ?_)
  · obtain ⟨k, hk, ek⟩ := int_mod (x := at0 r 2) (n := 20) (by decide)
    have ek : at0 r 2 % 20 = (k : Int) := ek
    have c3 := cutL_len (l := fr) (lo := none) (hi := some 3)
    have hrl : (List.replicate 10 (cutL fr none (some 3))).flatten.length ≤ 460 := by
      rw [rep_len]
      omega
    have hcl := cutL_len (l := (List.replicate 10 (cutL fr none (some 3))).flatten) (lo := none) (hi := some (k : Int))
    refine out (e18.trans e9) (ev_catS (b := fr) (by omega) (ev_slS (l := (List.replicate 10 (cutL fr none (some 3))).flatten) (by omega) (ev_mulS (n := 10) (by decide) (by omega) (ev_slS (by omega) (ev_var rfl) eo_none (eo_some ev_c)) ev_c) eo_none (eo_some (i := (k : Int)) (ev_is (ev_mod (by decide) (ev_int (ev_atI (ex_l e9 hR8) (i := 2) (by omega) rfl (ev_var rfl) ev_c)) ev_c) (by rw [ek])))) (ev_var rfl)) (over_app (over_cut (over_rep (over_cut fo))) fo) (by rw [List.length_append]; omega) rfl
  · have hge := get_ex (l := fr) (i := 0) (by omega)
    exact out (e18.trans e9) (ev_mulS (l := [fr.getD 0 0]) (n := 46) (by decide) (by show 1 * 46 ≤ 100000; decide) (ev_ixS (i := 0) (by omega) hge (ev_var rfl) ev_c) ev_c) (over_rep (over_at fo hge)) (by rw [rep_len]; show 46 * 1 ≤ 100000; decide) rfl
end
end Ver
namespace Ver
open PySem PySem.Spec PyProof.Rows L2 Evl
section
variable {P : Program} {w : World} {K : PySem.W.Frag} {mg : Str → Option Value} {base : Heap} {C_Cut : Addr}
/-- a list of new lists, made over range(n) -/
theorem run_lcRL {σ : L2.St} {H : Hp} {tp : TA} {te : TE} {j : Nat} {vs : List Nat} {n : Nat} {Q : VK} (f : Nat → List V) (h : EvA tp σ H [.int (n : Int)]) (hn : n ≤ 1000) (hw : ∀ x, wipe ((wipe σ vs).set j (some x)) vs = wipe σ vs)
    (he : ∀ (i : Nat) H1, Ex H H1 → i < n → EvL te ((wipe σ vs).set j (some (.int (i : Int)))) H1 (f i))
    (q : ∀ Dl H', H Dl = none → Ex H H' → (∃ rr : Nat → Addr, H' Dl = some (.lst ((List.range n).map fun i => .ref (rr i))) ∧ ∀ i, i < n → H' (rr i) = some (.lst (f i))) → Q (.ref Dl) H') :
    tLc (iRng1 tp) (gName j) tYes te vs σ H Q := h H (Ex.refl H) _ fun H1 e1 => ⟨(n : Int), rfl, by omega, by omega, fun Dl hD =>
  lc_range (lo := 0) (n := (n : Int).toNat) (fun i H' => H1 Dl = none ∧ Ex H1 H' ∧ ∃ rr : Nat → Addr, H' Dl = some (.lst ((List.range i).map fun i => .ref (rr i))) ∧ ∀ k, k < i → H' (rr k) = some (.lst (f k)) ∧ rr k ≠ Dl)
    ⟨hD, Ex.new hD, fun _ => 0, upd_same, fun k hk => absurd hk (Nat.not_lt_zero _)⟩ (fun i H' hi p => by
    obtain ⟨p1, p2, rr, p3, p4⟩ := p
    rw [Int.toNat_natCast] at hi
    have e0 : (0 : Int) + (i : Int) = (i : Int) := Int.zero_add _
    show wipe ((wipe σ vs).set j (some (.int ((0 : Int) + (i : Int))))) vs = wipe σ vs ∧ tYes ((wipe σ vs).set j (some (.int ((0 : Int) + (i : Int))))) H' fun b H3 => if b = true then te ((wipe σ vs).set j (some (.int ((0 : Int) + (i : Int))))) H3 _ else _
    rw [e0]
    refine ⟨hw _, ?_⟩
    refine (he i H' (e1.trans p2) hi) H' (Ex.refl H') _ fun r H3 hr e3 h3 => ?_
    have nr : r ≠ Dl := (ne_of_none p3 hr).symm
    refine ⟨_, e3 _ _ p3, sz_lt (by rw [List.length_map, List.length_range]; omega), p1, (p2.trans e3).mut p1, fun k => if k = i then r else rr k, ?_, fun k hk => ?_⟩
    · rw [upd_same, List.range_succ, List.map_append]
      congr 3
      · refine List.map_congr_left fun k hk => ?_
        have := List.mem_range.mp hk
        show V.ref (rr k) = V.ref (if k = i then r else rr k)
        rw [if_neg (by omega)]
      · show [V.ref r] = [V.ref (if i = i then r else rr i)]
        rw [if_pos rfl]
    · by_cases c : k = i
      · subst c
        show (L2.upd H3 Dl _) (if k = k then r else rr k) = _ ∧ (if k = k then r else rr k) ≠ Dl
        rw [if_pos rfl]
        exact ⟨by rw [upd_ne nr]; exact h3, nr⟩
      · show (L2.upd H3 Dl _) (if k = i then r else rr k) = _ ∧ (if k = i then r else rr k) ≠ Dl
        rw [if_neg c]
        obtain ⟨a, b⟩ := p4 k (by omega)
        exact ⟨by rw [upd_ne b]; exact e3 _ _ a, b⟩)
    (fun H' p => by
      obtain ⟨p1, p2, rr, p3, p4⟩ := p
      rw [Int.toNat_natCast] at p3 p4
      exact q Dl H' (fresh_back e1 p1) (e1.trans p2) ⟨rr, p3, fun i hi => (p4 i hi).1⟩)⟩
/-! ### _law_long_word -/
structure LRow (r : List Int) : Prop where
  len : r.length = 8
  b1 : 0 ≤ at0 r 1 ∧ at0 r 1 < 401
def spLong (K : PySem.W.Frag) : Sp := fun vs H Q _ => ∃ (s a : Addr) (al : List Nat) (ns r : List Int) (f : Nat), vs = [.ref s, .int (f : Int), tx al, .ref a] ∧ Alf al ∧ SqL K H s (ns.map V.int) ∧ ns.length ≤ 63 ∧ f ≤ 900 ∧ SqL K H a (r.map V.int) ∧ LRow r ∧ ∀ v, Word al 400 v → RetV (tx v) H Q
theorem at0_rep6 {i : Nat} (h : i < 60) : at0 (List.replicate 60 (6 : Int)) i = 6 := at0_rep h
theorem has_long (F : At K mg "_law_long_word" s__law_long_word) (T : Top K mg C_Cut) (h1 : Has P w K mg base "_law_free_word" s__law_free_word ["signs", "row", "many"] 1 (spFw K)) (h2 : Has P w K mg base "_law_counting_word" s__law_counting_word ["signs", "many"] 1 spCw)
    (h3 : Has P w K mg base "_law_digits" s__law_digits ["cell", "sizes"] 1 (spDigits K)) (h4 : Has P w K mg base "_law_cell" s__law_cell ["script", "k"] 1 (spCell K)) : Has P w K mg base "_law_long_word" s__law_long_word ["script", "first", "signs", "row"] 2 (spLong K) := by
  obtain ⟨f, fd, F, m⟩ := F.ex
  obtain ⟨f1, fd1, _, G__law_free_word, b__law_free_word, m__law_free_word, k__law_free_word⟩ := h1
  obtain ⟨f2, fd2, _, G__law_counting_word, b__law_counting_word, m__law_counting_word, k__law_counting_word⟩ := h2
  obtain ⟨f3, fd3, _, G__law_digits, b__law_digits, m__law_digits, k__law_digits⟩ := h3
  obtain ⟨f4, fd4, _, G__law_cell, b__law_cell, m__law_cell, k__law_cell⟩ := h4
  refine ⟨f, fd, F, F.ok S__law_long_word (fun vs H Q E h => ?_) (fun cdv A outer s H vs Q E hr h => ?_), F.binds fun _ _ _ _ _ _ us hl => match us, hl with | [_, _, _, _], _ => rfl, m, F.kp⟩
  · obtain ⟨s, a, al, ns, r, f, rfl, _⟩ := h
    rfl
  obtain ⟨s0, a, al, ns, r, f0, rfl, hA, hS, h63, hf0, hR, ⟨hl, b1⟩, q⟩ := h
  refine ⟨_, (pss_cons
    (ps_set (i := 4) S__law_long_word.nd rfl (Or.inl rfl) (pe_ix (r := rIxL K) ix_list (pv 3) pe_int (fun _ _ => rfl)))
    (pss_cons
    (ps_set (i := 5) S__law_long_word.nd rfl (Or.inl rfl) (pe_call G__law_free_word (hr.mono (by decide)) rfl m__law_free_word k__law_free_word b__law_free_word .nil pass0 (pa_cons (pv 2) (pa_cons (pe_slice sl_list (pv 3) (po_some pe_int) po_none) (pa_cons pe_int pa_nil)))))
    (pss_cons
    (ps_if (pt_cmpR op_eq (pe_ix (r := rIxL K) ix_list (pv 3) pe_int (fun _ _ => rfl)) pe_int (nomark _)) (pss_one
    (ps_ret (pe_slice sl_str (pe_op op_mulS (pe_ix ix_str (pv 5) pe_int (fun _ _ => rfl)) pe_int) po_none (po_some (pv 4))))) pss_nil)
    (pss_cons
    (ps_if (pt_cmpR op_eq (pe_ix (r := rIxL K) ix_list (pv 3) pe_int (fun _ _ => rfl)) pe_int (nomark _)) (pss_one
    (ps_ret (pe_slice sl_str (pe_op op_mulS (pv 5) pe_int) po_none (po_some (pv 4))))) pss_nil)
    (pss_cons
    (ps_if (pt_cmpR op_eq (pe_ix (r := rIxL K) ix_list (pv 3) pe_int (fun _ _ => rfl)) pe_int (nomark _)) (pss_one
    (ps_ret (pe_call G__law_counting_word (hr.mono (by decide)) rfl m__law_counting_word k__law_counting_word b__law_counting_word .nil pass0 (pa_cons (pv 2) (pa_cons (pv 4) pa_nil))))) pss_nil)
    (pss_cons
    (ps_set (i := 6) S__law_long_word.nd rfl (Or.inl rfl) (pe_slice sl_str (pv 5) po_none (po_some pe_int)))
    (pss_cons
    (ps_if (pt_cmpR op_eq (pe_ix (r := rIxL K) ix_list (pv 3) pe_int (fun _ _ => rfl)) pe_int (nomark _)) (pss_cons
    (ps_for PassesOwn.never rfl (pi_range1 rfl T.z_range (pa_cons pe_int pa_nil)) (pg_name (i := 7) S__law_long_word.nd rfl (Or.inl rfl)) (pss_one
    (ps_set (i := 6) S__law_long_word.nd rfl (Or.inl rfl) (pe_op op_add_str (pe_op op_add_str (pv 6) (pe_ix ix_str (pv 5) (pe_op op_add pe_int (pe_op op_mod (pv 7) pe_int)) (fun _ _ => rfl))) (pv 6)))))
    (pss_one
    (ps_ret (pe_slice sl_str (pv 6) po_none (po_some (pv 4)))))) pss_nil)
    (pss_cons
    (ps_if (pt_cmpR op_eq (pe_ix (r := rIxL K) ix_list (pv 3) pe_int (fun _ _ => rfl)) pe_int (nomark _)) (pss_cons
    (ps_set (i := 8) S__law_long_word.nd rfl (Or.inl rfl) (pe_op op_mod (pe_callTy call_int1 rfl T.z_int (by decide +kernel) (pa_cons (pe_ix (r := rIxL K) ix_list (pv 3) pe_int (fun _ _ => rfl)) pa_nil)) (pe_op op_add (pv 4) pe_int)))
    (pss_one
    (ps_ret (pe_slice sl_str (pe_op op_add_str (pe_op op_add_str (pe_slice sl_str (pe_op op_mulS (pv 6) pe_int) po_none (po_some (pv 8))) (pe_ix ix_str (pv 5) pe_int (fun _ _ => rfl))) (pe_op op_mulS (pv 6) pe_int)) po_none (po_some (pv 4)))))) pss_nil)
    (pss_cons
    (ps_setLc (i := 9) (own := [("k", 7)]) (g := gName 7) (tt := tYes) rfl S__law_long_word.nd rfl (rfl) (sw_true rfl rfl rfl (by decide +kernel)) (pi_range1 rfl T.z_range (pa_cons pe_int pa_nil)) (blkOk_by (N := N__law_long_word) (sc := defScope s__law_long_word) (by decide +kernel)) (fun _ _ _ _ _ => pg_name (i := 7) S__law_long_word.nd rfl (Or.inl rfl)) (fun _ _ _ _ _ => pts_nil) (fun _ _ _ _ _ => (pe_call G__law_digits (hr.mono (by decide)) rfl m__law_digits k__law_digits b__law_digits .nil pass0 (pa_cons (pe_call G__law_cell (hr.mono (by decide)) rfl m__law_cell k__law_cell b__law_cell .nil pass0 (pa_cons (pv 0) (pa_cons (pe_op op_add (pv 1) (pv 7)) pa_nil))) (pa_cons (pe_op op_rep (pe_lst (pa_cons pe_int pa_nil)) pe_int) pa_nil)))))
    (pss_one
    (ps_ret (pe_slice sl_str (pe_join pe_str (pe_lc (own := [("part", 10)]) (g := gName 10) (tt := tYes) rfl S__law_long_word.nd (pi_list (pv 9)) (blkOk_by (N := N__law_long_word) (sc := defScope s__law_long_word) (by decide +kernel)) (fun _ _ _ _ _ => pg_name (i := 10) S__law_long_word.nd rfl (Or.inl rfl)) (fun _ _ _ _ _ => pts_nil) (fun _ _ _ _ _ => (pe_call G__law_free_word (hr.mono (by decide)) rfl m__law_free_word k__law_free_word b__law_free_word .nil pass0 (pa_cons (pv 2) (pa_cons (pv 10) (pa_cons pe_int pa_nil))))))) po_none (po_some (pv 4)))))))))))))), ?_⟩
  obtain ⟨n, hn, en⟩ : ∃ n : Nat, n ≤ 400 ∧ at0 r 1 = (n : Int) := ⟨(at0 r 1).toNat, by omega, by omega⟩
  refine q_asg (v := .int (n : Int)) (ev_is (ev_atI hR (i := 1) (by omega) rfl (ev_var rfl) ev_c) (by rw [en])) fun H1 e1 => ?_
  have hR1 := ex_l e1 hR
  refine q_asg (ev_fw (r := r.drop 2) (n := 5) hA (ev_var rfl) (el_from (n := 2) rfl (ev_var rfl) hR1) (fun _ _ => ev_c) (by rw [List.length_drop]; omega) (by decide)) fun H2 e2 => ?_
  have fo := fwL_over hA (r := r.drop 2) (n := 5)
  have fl := fwL_len (al := al) (r := r.drop 2) (n := 5)
  generalize fwL al (r.drop 2) 5 = fr at fo fl ⊢
  have hR2 := ex_l e2 hR1
  have e12 := e1.trans e2
  have out : ∀ {te : TE} {σ : L2.St} {H' : Hp} {v : List Nat}, Ex H H' → Ev te σ H' (tx v) → (∀ c ∈ v, c ∈ al) → v.length ≤ 100000 → σ[4]? = some (some (.int (n : Int))) → tRet (tSl rSlS te tNoPart (tPart (tVar 4))) { nx := fun x H' => Q V.non H', rt := Q } σ H' :=
    fun e h ho hz hs => s_ret (ev_slS hz h eo_none (eo_some (i := (n : Int)) (ev_var hs))) fun H5 e5 => q _ (Word.cut ho hn) H5 (e.trans e5)
  have hge0 := get_ex (l := fr) (i := 0) (by omega)
  refine q_when (et_eqI (ev_atI hR2 (i := 0) (by omega) rfl (ev_var rfl) ev_c) ev_c) (fun hb H3 e3 => ?_) (fun hb H3 e3 => ?_)
  · exact out (e12.trans e3) (ev_mulS (l := [fr.getD 0 0]) (n := 400) (by decide) (by show 1 * 400 ≤ 100000; decide) (ev_ixS (i := 0) (by omega) hge0 (ev_var rfl) ev_c) ev_c) (over_rep (over_at fo hge0)) (by rw [rep_len]; show 400 * 1 ≤ 100000; decide) rfl
  have hR3 := ex_l e3 hR2
  refine q_when (et_eqI (ev_atI hR3 (i := 0) (by omega) rfl (ev_var rfl) ev_c) ev_c) (fun hb H4 e4 => ?_) (fun hb H4 e4 => ?_)
  · exact out ((e12.trans e3).trans e4) (ev_mulS (l := fr) (n := 80) (by decide) (by omega) (ev_var rfl) ev_c) (over_rep fo) (by rw [rep_len]; omega) rfl
  have hR4 := ex_l e4 hR3
  have e14 := (e12.trans e3).trans e4
  refine q_when (et_eqI (ev_atI hR4 (i := 0) (by omega) rfl (ev_var rfl) ev_c) ev_c) (fun hb H5 e5 => ?_) (fun hb H5 e5 => ?_)
  · refine s_retCall (vs := [tx al, .int (n : Int)]) (ea_cons (ev_var rfl) (ea_cons (ev_var rfl) ea_nil)) fun H8 e8 => ⟨al, n, rfl, hA, hn, fun v hv H9 e9 => q v ⟨hv.over, Nat.le_trans hv.len hn⟩ H9 (((e14.trans e5).trans e8).trans e9)⟩
  have hR5 := ex_l e5 hR4
  have e15 := e14.trans e5
  refine q_asg (ev_slS (by omega) (ev_var rfl) eo_none (eo_some (i := ((2 : Nat) : Int)) ev_c)) fun H6 e6 => ?_
  have hR6 := ex_l e6 hR5
  have e16 := e15.trans e6
  have wo : ∀ c ∈ cutL fr none (some ((2 : Nat) : Int)), c ∈ al := over_cut fo
  have wl : (cutL fr none (some ((2 : Nat) : Int))).length = 2 := by
    rw [cutL_to, List.length_take]
    omega
  generalize cutL fr none (some ((2 : Nat) : Int)) = wd at wo wl ⊢
  refine q_when (et_eqI (ev_atI hR6 (i := 0) (by omega) rfl (ev_var rfl) ev_c) ev_c) (fun hb H7 e7 => ?_) (fun hb H7 e7 => ?_)
  · refine q_forR1 (ea_cons ev_c ea_nil) (by decide) (fun i σ' H' => ∃ (v : List Nat) (u7 : Option V), σ' = [some (.ref s0), some (.int (f0 : Int)), some (tx al), some (.ref a), some (.int (n : Int)), some (tx fr), some (tx v), u7, none, none, none] ∧ Ex H H' ∧ (∀ c ∈ v, c ∈ al) ∧ v.length + 1 ≤ 3 * 2 ^ i) ?_ ?_ ?_
    · intro H10 e10
      refine ⟨wd, none, rfl, (e16.trans e7).trans e10, wo, ?_⟩
      rw [wl]
      decide
    · intro i σ' H' hi z
      obtain ⟨v, u6, rfl, e10, vo, vz⟩ := z
      have hi2 : i < 8 := by
        have : (i : Int) < 8 := hi
        omega
      have hp : 2 ^ i ≤ 2 ^ 8 := Nat.pow_le_pow_right (by decide) (by omega)
      have hp5 : (2 : Nat) ^ 8 = 256 := rfl
      have hge := get_ex (l := fr) (i := 2 + i % 3) (by omega)
      have e3' : (2 : Int) + (i : Int) % 3 = ((2 + i % 3 : Nat) : Int) := by omega
      refine s_asg (ev_catS (a := v ++ [fr.getD (2 + i % 3) 0]) (by rw [List.length_append]; show _ + 1 + _ ≤ _; omega) (ev_catS (b := [fr.getD (2 + i % 3) 0]) (by show _ + 1 ≤ _; omega) (ev_var rfl) (ev_ixS (i := 2 + i % 3) (by omega) hge (ev_var rfl) (ev_is (ev_add ev_c (ev_mod (j := 3) (by decide) (ev_var rfl) ev_c)) (by rw [e3'])))) (ev_var rfl)) fun H11 e11 => ⟨_, _, rfl, e10.trans e11, over_app (over_app vo (over_at fo hge)) vo, ?_⟩
      rw [List.length_append, List.length_append, Nat.pow_succ]
      show v.length + 1 + v.length + 1 ≤ _
      omega
    · intro σ' H' z
      obtain ⟨v, u6, rfl, e10, vo, vz⟩ := z
      have hp5 : (2 : Nat) ^ (8 : Int).toNat = 256 := rfl
      exact out e10 (ev_var rfl) vo (by omega) rfl
  have hR7 := ex_l e7 hR6
  have e17 := e16.trans e7
  refine q_when (et_eqI (ev_atI hR7 (i := 0) (by omega) rfl (ev_var rfl) ev_c) ev_c) (fun hb H8 e8 => ?_) (fun hb H8 e8 => ?_)
  · obtain ⟨k, hk, ek⟩ := int_mod (x := at0 r 7) (n := n + 1) (by omega)
    have ek2 : at0 r 7 % ((n : Int) + 1) = (k : Int) := by
      rw [← ek, Int.natCast_add]
      rfl
    refine q_asg (v := .int (k : Int)) (ev_is (ev_mod (j := (n : Int) + 1) (by omega) (ev_int (ev_atI (ex_l e8 hR7) (i := 7) (by omega) rfl (ev_var rfl) ev_c)) (ev_add (ev_var rfl) ev_c)) (by rw [ek2])) fun H9 e9 => ?_
    have hge2 := get_ex (l := fr) (i := 2) (by omega)
    have hrl : (List.replicate 200 wd).flatten.length = 400 := by
      rw [rep_len, wl]
    have hcl := cutL_len (l := (List.replicate 200 wd).flatten) (lo := none) (hi := some (k : Int))
    refine out ((e17.trans e8).trans e9) (ev_catS (a := cutL (List.replicate 200 wd).flatten none (some (k : Int)) ++ [fr.getD 2 0]) (b := (List.replicate 200 wd).flatten) (by rw [List.length_append]; show _ + 1 + _ ≤ _; omega) (ev_catS (b := [fr.getD 2 0]) (by show _ + 1 ≤ _; omega) (ev_slS (by omega) (ev_mulS (n := 200) (by decide) (by omega) (ev_var rfl) ev_c) eo_none (eo_some (i := (k : Int)) (ev_var rfl))) (ev_ixS (i := 2) (by omega) hge2 (ev_var rfl) ev_c)) (ev_mulS (n := 200) (by decide) (by omega) (ev_var rfl) ev_c))
      (over_app (over_app (over_cut (over_rep wo)) (over_at fo hge2)) (over_rep wo)) (by rw [List.length_append, List.length_append]; show _ + 1 + _ ≤ _; omega) rfl
  have e18 := e17.trans e8
  have hS8 := ex_l e18 hS
  -- parts: new lists of digits
  let dg : Nat → List Int := fun k => digits (cell ns ((f0 : Int) + (k : Int))) (List.replicate 60 6)
  have dl : ∀ k, (dg k).length = 60 := fun k => by
    show (digits _ _).length = 60
    rw [digits_len, List.length_replicate]
  refine q_asgX (run_lcRL (n := 7) (fun k => (dg k).map V.int) (ea_cons (ev_c (v := .int ((7 : Nat) : Int))) ea_nil) (by decide) (fun x => rfl) (fun i H9 e9 hi => ?_) (fun Dl H9 hD e9 hrr => ?_))
  · refine el_digs (ss := List.replicate 60 6) (ev_call (ea_cons (ev_var rfl) (ea_cons (ev_add (ev_var rfl) (ev_var rfl)) ea_nil)) (sv_cell (ex_l e9 hS8) h63 (by omega))) ?_ (by rw [List.length_replicate]; decide) (fun i hi => by rw [List.length_replicate] at hi; rw [at0_rep6 hi]; decide)
    rw [map_rep, ← flat_one]
    exact el_rep (n := 60) (el_lst (ea_cons ev_c ea_nil) (by show 1 ≤ 100000; decide)) (fun _ _ => ev_c) (by show 1 * 60 ≤ 100000; decide) (by decide)
  · obtain ⟨rr, hD9, hr9⟩ := hrr
    let pw : Nat → List Nat := fun i => fwL al (dg i) 60
    have hpf : ∀ s ∈ (List.range 7).map pw, s.length = 60 := fun s hs => by
      obtain ⟨k, _, rfl⟩ := List.mem_map.mp hs
      exact fwL_len
    have hflat : ((List.range 7).map pw).flatten.length = 420 := by
      rw [flat_len hpf, List.length_map, List.length_range]
    refine out (e18.trans e9) (ev_joinL (ps := (List.range 7).map pw) (ev_is ev_c (by rw [mt_is])) ?_ (by omega)) (flat_over fun s hs => ?_) (by omega) rfl
    · have gg := el_lcL (K := K) (σ := [some (.ref s0), some (.int (f0 : Int)), some (tx al), some (.ref a), some (.int (n : Int)), some (tx fr), some (tx wd), none, none, some (.ref Dl), none]) (H := H9) (tl := tVar 9) (j := 10) (vs := [10]) (t := tYes) (te := tCall (spFw K) [] E0 (tCons (tVar 2) (tCons (tVar 10) (tCons (tC (.int 60)) tNil)))) (a := Dl) (xs := (List.range 7).map fun i => V.ref (rr i))
        (fun _ => true) (fun i => tx (pw i)) (ev_var rfl) (sq_of hD9) (by rw [List.length_map, List.length_range]; decide) (fun x => rfl) (fun i x H1 e1 hx => et_yes) (fun i x H1 e1 hx _ => ?_)
      · rw [List.length_map, List.length_range, given_all] at gg
        rw [List.map_map]
        exact gg
      · have hi7 : i < 7 := by
          have := (List.getElem?_eq_some_iff.mp hx).1
          rw [List.length_map, List.length_range] at this
          exact this
        rw [List.getElem?_map, List.getElem?_range hi7] at hx
        cases hx
        exact ev_call (ea_cons (ev_var rfl) (ea_cons (ev_var rfl) (ea_cons (ev_c (v := .int ((60 : Nat) : Int))) ea_nil))) (sv_fw hA (sq_of (e1 _ _ (hr9 i hi7))) (by rw [dl]; exact Nat.le_refl _) (by decide))
    · obtain ⟨k, _, rfl⟩ := List.mem_map.mp hs
      exact fwL_over hA
end
end Ver
namespace Ver
open PySem PySem.Spec PyProof.Rows L2 Evl
/-! ### pairs as data -/
def pd (r : Nat × Nat) : PyData := .tuple [.int (r.1 : Int), .str (SX.S [r.2])]
theorem pd_shaped (r : Nat × Nat) (h : r.2 < 1114112) : SeqAt.shaped (pd r) = true := by
  show (PyData.canLay0 _ && decide (PyData.depth _ ≤ 64)) = true
  have hs : PyData.strOk (SX.S [r.2]) = true := by
    unfold PyData.strOk
    simpa using h
  simp [pd, PyData.canLay0, PyData.canLayAll0, PyData.depth, PyData.depthAll, hs]
theorem pd_eqv (a b : Nat × Nat) : PyData.eqv (pd a) (pd b) = decide (a = b) := by
  obtain ⟨a1, a2⟩ := a
  obtain ⟨b1, b2⟩ := b
  show ((((a1 : Int) == (b1 : Int)) && ((SX.S [a2] == SX.S [b2]) && true)) = _)
  rw [Bool.and_true, SX.S_beq_eq, Bool.eq_iff_iff, Bool.and_eq_true, beq_iff_eq, decide_eq_true_eq, decide_eq_true_eq]
  constructor
  · rintro ⟨h1, h2⟩
    have := (List.cons.inj h2).1
    exact Prod.ext (by show a1 = b1; omega) this
  · intro h
    cases h
    exact ⟨rfl, rfl⟩
theorem pd_alike (a b : Nat × Nat) : PySem.W.alike (pd a) (pd b) = true := by
  simp [pd, PySem.W.alike, PySem.W.alikeAll]
theorem pd_lt (a b : Nat × Nat) : PySem.W.dataLt (pd a) (pd b) = rltb a b := by
  obtain ⟨a1, a2⟩ := a
  obtain ⟨b1, b2⟩ := b
  show PyProof.Rows.lexLt itemOrd (PySem.W.keyToksAll [.int (a1 : Int), .str (SX.S [a2])]) (PySem.W.keyToksAll [.int (b1 : Int), .str (SX.S [b2])]) = _
  unfold rltb
  by_cases h : a1 = b1
  · subst h
    rw [PySem.W.dataLt_all_yes (by simp [PySem.W.alike]) (by simp [PyData.eqv])]
    by_cases g : a2 = b2
    · subst g
      rw [PySem.W.dataLt_all_yes (by simp [PySem.W.alike]) (by show (SX.S [a2] == SX.S [a2]) = true; simp)]
      simp [PySem.W.keyToksAll, PyProof.Rows.lexLt, itemLt]
    · rw [PySem.W.dataLt_all_no (by simp [PySem.W.alike]) (by show (SX.S [a2] == SX.S [b2]) = false; rw [SX.S_beq_eq]; exact decide_eq_false fun q => g (List.cons.inj q).1), PySem.W.dataLt_str]
      refine decide_eq_decide.mpr ?_
      show ([a2] : List Nat) < [b2] ↔ _
      constructor
      · intro h
        cases h with
        | rel h => exact .inr ⟨rfl, h⟩
        | cons h => cases h
      · rintro (h | h)
        · exact absurd h (Nat.lt_irrefl _)
        · exact List.Lex.rel h.2
  · rw [PySem.W.dataLt_all_no (by simp [PySem.W.alike]) (by show ((a1 : Int) == (b1 : Int)) = false; simp; omega), PySem.W.dataLt_int]
    refine decide_eq_decide.mpr ?_
    show (a1 : Int) < (b1 : Int) ↔ (a1 < b1 ∨ a1 = b1 ∧ a2 < b2)
    omega
end Ver
namespace Ver
open PySem PySem.Spec PyProof.Rows L2 Evl
/-! ### the law's own cut -/
structure DictS (kvs : List (Key × V)) (ps : List (List Nat)) : Prop where
  len : kvs.length = ps.length
  there : ∀ s ∈ ps, valV kvs (Sum.inr (SX.S s)) = some (.int (ps.idxOf s : Int))
  not : ∀ s, s ∉ ps → valV kvs (Sum.inr (SX.S s)) = none
theorem DictS.put {kvs : List (Key × V)} {ps : List (List Nat)} {s : List Nat} (h : DictS kvs ps) (hs : s ∉ ps) : DictS (putK kvs (Sum.inr (SX.S s)) (.int (ps.length : Int))) (ps ++ [s]) := by
  refine ⟨?_, fun q hq => ?_, fun q hq => ?_⟩
  · rw [putK_new _ (h.not s hs), List.length_append, List.length_append, h.len]
    rfl
  · rw [valV_put]
    by_cases c : q = s
    · rw [c, if_pos rfl, List.idxOf_append, if_neg hs]
      simp
    · rw [if_neg fun e => c (SX.S_inj (Sum.inr.inj e))]
      rcases List.mem_append.mp hq with hq | hq
      · rw [h.there q hq, List.idxOf_append, if_pos hq]
      · exact absurd (List.mem_singleton.mp hq) c
  · rw [valV_put, if_neg fun e => hq (by rw [SX.S_inj (Sum.inr.inj e)]; exact List.mem_append_right _ (List.mem_singleton.mpr rfl))]
    exact h.not q fun hm => hq (List.mem_append_left _ hm)
structure LCut (H : Hp) (p : Addr) (v : List Nat) : Prop where
  ex : ∃ (ra pa : Addr) (xs : List V), H p = some (.lst [.ref ra, .int ((cutW v).2 : Int), .ref pa]) ∧ H ra = some (.tup xs) ∧ RowsAt H xs (cutW v).1 ∧ H pa = some (.lst ((pcs (cutW v).1).map tx))
theorem LCut.mono {H H' : Hp} {p : Addr} {v : List Nat} (h : LCut H p v) (e : Ex H H') : LCut H' p v := by
  obtain ⟨ra, pa, xs, h1, h2, h3, h4⟩ := h.ex
  exact ⟨ra, pa, xs, e _ _ h1, e _ _ h2, h3.mono e, e _ _ h4⟩
section
variable {P : Program} {w : World} {K : PySem.W.Frag} {mg : Str → Option Value} {base : Heap} {C_Cut : Addr}
section
variable {σ : L2.St} {H : Hp} {D : Ends} {t1 t2 t3 : TE}
theorem s_retLst3 {xs : List V} {y z : V} (h1 : EvU t1 σ H xs) (h2 : ∀ H1, Ex H H1 → Ev t2 σ H1 y) (h3 : ∀ H1, Ex H H1 → Ev t3 σ H1 z) (k : ∀ r p H1, H p = none → Ex H H1 → H1 r = some (.tup xs) → H1 p = some (.lst [.ref r, y, z]) → D.rt (.ref p) H1) :
    tRet (tLst (tCons t1 (tCons t2 (tCons t3 tNil)))) D σ H := h1 H (Ex.refl H) _ fun r H1 hr e1 g1 => h2 H1 e1 H1 (Ex.refl H1) _ fun H2 e2 => h3 H2 (e1.trans e2) H2 (Ex.refl H2) _ fun H3 e3 =>
  ⟨by show 3 ≤ sizeLine; decide, fun p hp => k r p _ (fresh_back ((e1.trans e2).trans e3) hp) (((e1.trans e2).trans e3).trans (Ex.new hp)) (Ex.new hp _ _ (e3 _ _ (e2 _ _ g1))) upd_same⟩
end
def spLc : Sp := fun vs H Q _ => ∃ al v : List Nat, vs = [tx v] ∧ (∀ c ∈ v, c ∈ al) ∧ v.length ≤ 1000 ∧ ∀ p H2, H p = none → Ex H H2 → LCut H2 p v → Q (.ref p) H2
theorem has_lc (F : At K mg "_law_cut" s__law_cut) (T : Top K mg C_Cut) : Has P w K mg base "_law_cut" s__law_cut ["word"] 1 spLc := by
  obtain ⟨f, fd, F, m⟩ := F.ex
  refine ⟨f, fd, F, F.ok S__law_cut (fun vs H Q E h => ?_) (fun cdv A outer s H vs Q E hr h => ?_), F.binds fun _ _ _ _ _ _ us hl => match us, hl with | [_], _ => rfl, m, F.kp⟩
  · obtain ⟨al, v, rfl, _⟩ := h
    rfl
  obtain ⟨al, v, rfl, hv, hz, q⟩ := h
  refine ⟨_, (pss_cons
    (ps_set (i := 1) S__law_cut.nd rfl (Or.inl rfl) (pe_lst (pa_cons pe_str pa_nil)))
    (pss_cons
    (ps_set (i := 2) S__law_cut.nd rfl (Or.inl rfl) (pe_disp (pps_cons pe_str pe_int pps_nil) (by rfl) (by rfl) (fun z => by cases z) (by decide)))
    (pss_cons
    (ps_set (i := 3) S__law_cut.nd rfl (Or.inl rfl) (pe_lst pa_nil))
    (pss_cons
    (ps_set (i := 4) S__law_cut.nd rfl (Or.inl rfl) pe_str)
    (pss_cons
    (ps_for PassesOwn.never rfl (pi_str (pv 0)) (pg_name (i := 5) S__law_cut.nd rfl (Or.inl rfl)) (pss_one
    (ps_if (pt_cmp (pc_din (hu_of hr) (pe_op op_add_str (pv 4) (pv 5)) (pv 2))) (pss_one
    (ps_set (i := 4) S__law_cut.nd rfl (Or.inl rfl) (pe_op op_add_str (pv 4) (pv 5)))) (pss_cons
    (ps_expr (pe_bm PySem.F.plainAttrs_list PySem.F.slot_list_append PySem.F.type_list_append mt_append (pv 3) (pa_cons (pe_tup (pa_cons (pe_dget (hu_of hr) (pv 2) (pv 4) (fun _ _ => rfl)) (pa_cons (pv 5) pa_nil))) pa_nil)))
    (pss_cons
    (ps_dput (hu_of hr) (pv 2) (pe_op op_add_str (pv 4) (pv 5)) (pe_callB call_len_seq rfl T.z_len PySem.boot_len (pa_cons (pv 1) pa_nil)) rfl)
    (pss_cons
    (ps_expr (pe_bm PySem.F.plainAttrs_list PySem.F.slot_list_append PySem.F.type_list_append mt_append (pv 1) (pa_cons (pe_op op_add_str (pv 4) (pv 5)) pa_nil)))
    (pss_one
    (ps_set (i := 4) S__law_cut.nd rfl (Or.inl rfl) pe_str))))))))
    (pss_one
    (ps_ret (pe_lst (pa_cons (pe_callTy call_tuple_of rfl T.z_tuple (by decide +kernel) (pa_cons (pv 3) pa_nil)) (pa_cons (pe_dget (hu_of hr) (pv 2) (pv 4) (fun _ _ => rfl)) (pa_cons (pv 1) pa_nil))))))))))), ?_⟩
  refine q_asgL (xs := [[]].map tx) (el_lst (ea_cons (ev_is ev_c (by rw [mt_is])) ea_nil) (by show 1 ≤ 100000; decide)) fun l H1 hl e1 g1 => ?_
  refine q_asgX fun d hd => ?_
  have g0 : (L2.upd H1 d (.dK [])) d = some (.dK []) := upd_same
  refine ⟨g0, [(Sum.inr (SX.S []), V.int 0)], by rw [← mt_is]; rfl, by decide, ?_⟩
  have ed : Ex H1 (L2.upd (L2.upd H1 d (.dK [])) d (.dK (mergeK [] [(Sum.inr (SX.S []), V.int 0)]))) := (Ex.refl H1).mut hd |>.mut hd
  have gd : (L2.upd (L2.upd H1 d (.dK [])) d (.dK (mergeK [] [(Sum.inr (SX.S []), V.int 0)]))) d = some (.dK [(Sum.inr (SX.S []), V.int 0)]) := by
    rw [upd_same]
    rfl
  generalize L2.upd (L2.upd H1 d (.dK [])) d (.dK (mergeK [] [(Sum.inr (SX.S []), V.int 0)])) = H2 at ed gd ⊢
  refine q_asgL (xs := []) (el_lst ea_nil (by decide)) fun rl H3 hrl e3 g3 => ?_
  refine q_asg (v := tx []) (ev_is ev_c (by rw [mt_is])) fun H4 e4 => ?_
  have e02 := e1.trans ed
  have hl0 : H l = none := hl
  have hd0 : H d = none := fresh_back e1 hd
  have hr0 : H rl = none := fresh_back e02 hrl
  have e04 := (e02.trans e3).trans e4
  refine q_forS (z := SX.S v) (ev_var rfl) (fun i σ' H' => (∃ u5, σ' = [some (tx v), some (.ref l), some (.ref d), some (.ref rl), some (tx ((pcs (cutW (v.take i)).1).getD (cutW (v.take i)).2 [])), u5]) ∧ Ex H H' ∧
    H' l = some (.lst ((pcs (cutW (v.take i)).1).map tx)) ∧ (∃ kvs, H' d = some (.dK kvs) ∧ DictS kvs (pcs (cutW (v.take i)).1)) ∧ ∃ xs, H' rl = some (.lst xs) ∧ RowsAt H' xs (cutW (v.take i)).1) ?_ ?_ ?_
  · intro H5 e5
    refine ⟨⟨none, rfl⟩, e04.trans e5, e5 _ _ (e4 _ _ (e3 _ _ (ed _ _ g1))), ⟨_, e5 _ _ (e4 _ _ (e3 _ _ gd)), ⟨rfl, fun s hs => ?_, fun s hs => ?_⟩⟩, [], e5 _ _ (e4 _ _ g3), .nil⟩
    · rw [List.mem_singleton.mp hs]
      rfl
    · refine valV_neg fun e => hs ?_
      rw [← SX.S_inj (Sum.inr.inj e)]
      exact List.mem_singleton.mpr rfl
  · intro i c σ' H' hc p
    obtain ⟨⟨u5, rfl⟩, e6, h1, ⟨kvs, h2, dk⟩, xs, h3, hR⟩ := p
    have hc2 : v[i]? = some c := hc
    have hi := (List.getElem?_eq_some_iff.mp hc2).1
    have et : v.take (i + 1) = v.take i ++ [c] := by
      rw [List.take_add_one, hc2]
      rfl
    have ko := cut_ok (al := al) (v.take i) fun x hx => hv x (List.mem_of_mem_take hx)
    rw [et, cut_snoc]
    generalize cutW (v.take i) = st at *
    obtain ⟨rs, cur⟩ := st
    have few : rs.length ≤ (v.take i).length := ko.few
    rw [List.length_take] at few
    have low : cur ≤ rs.length := ko.low
    obtain ⟨nd, rows, ex⟩ := pcs_facts rs ko.ok
    have hpl := pcs_len rs
    have hpt := pcs_at rs cur
    have hxl : xs.length = rs.length := hR.len
    have hcat : ∀ {H1 : Hp} {σ' : L2.St}, σ'[4]? = some (some (tx ((pcs rs).getD cur []))) → σ'[5]? = some (some (tx [c])) → Ev (tOp (fun x y H Q => ∃ i j : Str, x = .str i ∧ y = .str j ∧ i.length + j.length ≤ sizeLine ∧ Q (.str (i ++ j)) H) (tVar 4) (tVar 5)) σ' H1 (tx ((pcs rs).getD cur [] ++ [c])) :=
      fun h4 h5 => ev_catS (b := [c]) (by show _ + 1 ≤ _; omega) (ev_var h4) (ev_var h5)
    have nld : l ≠ d := ne_of h1 h2 (by intro z; cases z)
    have nrd : rl ≠ d := ne_of h3 h2 (by intro z; cases z)
    have h1 : H' l = some (.lst ((pcs rs).map tx)) := h1
    refine s_if (et_din (o := valV kvs (Sum.inr (SX.S ((pcs rs).getD cur [] ++ [c])))) (hcat rfl rfl) (ev_var rfl) fun H8 e8 => DGet.k (k := Sum.inr (SX.S ((pcs rs).getD cur [] ++ [c]))) (e8 _ _ h2)) (fun hb H8 e8 => ?_) (fun hb H8 e8 => ?_)
    · have hin : (pcs rs).getD cur [] ++ [c] ∈ pcs rs := by
        refine Classical.byContradiction fun hn => ?_
        rw [dk.not _ hn] at hb
        cases hb
      have hm : (cur, c) ∈ rs := (ex cur c low).mp hin
      have es : cutStep (rs, cur) c = (rs, rs.idxOf (cur, c) + 1) := if_pos hm
      rw [es]
      refine s_asg (hcat rfl rfl) fun H9 e9 => ⟨⟨some (tx [c]), ?_⟩, (e6.trans e8).trans e9, e9 _ _ (e8 _ _ h1), ⟨kvs, e9 _ _ (e8 _ _ h2), dk⟩, xs, e9 _ _ (e8 _ _ h3), hR.mono (e8.trans e9)⟩
      · show _ = [some (tx v), some (V.ref l), some (V.ref d), some (V.ref rl), some (tx ((pcs rs).getD (rs.idxOf (cur, c) + 1) [])), some (tx [c])]
        rw [rows _ cur c (idx_row hm).2]
        rfl
    · have hout : (pcs rs).getD cur [] ++ [c] ∉ pcs rs := fun hn => by
        rw [dk.there _ hn] at hb
        cases hb
      have hm : (cur, c) ∉ rs := fun h => hout ((ex cur c low).mpr h)
      have es : cutStep (rs, cur) c = (rs ++ [(cur, c)], 0) := if_neg hm
      rw [es]
      have hcm : (pcs rs).getD cur [] ∈ pcs rs := getD_mem (by omega)
      have hval := dk.there _ hcm
      rw [idx_getD nd (by omega)] at hval
      have e68 := e6.trans e8
      refine q_appU (ys := [.int (cur : Int), tx [c]]) (e8 _ _ h3) (ev_var rfl) (eu_tup (ea_cons (ev_dget (ev_var rfl) (ev_var rfl) fun H9 e9 => ?_) (ea_cons (ev_var rfl) ea_nil)) (by show 2 ≤ 100000; decide)) (by omega) fun r H9 hr e9 g9 => ?_
      · have g := DGet.k (k := Sum.inr (SX.S ((pcs rs).getD cur []))) (e9 _ _ (e8 _ _ h2))
        rw [hval] at g
        exact g
      have e89 := e8.trans e9
      have nrr : r ≠ rl := ne_of g9 (e89 _ _ h3) (by intro z; cases z)
      have k1 : (L2.upd H9 rl (.lst (xs ++ [.ref r]))) l = some (.lst ((pcs rs).map tx)) ∨ True := .inr trivial
      by_cases nlr : l = rl
      · -- the list of rows is younger than that of the pieces
        exfalso
        rw [nlr] at h1
        rw [h1] at h3
        have e := Option.some.inj h3
        cases e
        have hlx := hxl
        rw [List.length_map, hpl] at hlx
        omega
      have k1 : (L2.upd H9 rl (.lst (xs ++ [.ref r]))) l = some (.lst ((pcs rs).map tx)) := by
        rw [upd_ne nlr]
        exact e89 _ _ h1
      have k2 : (L2.upd H9 rl (.lst (xs ++ [.ref r]))) d = some (.dK kvs) := by
        rw [upd_ne nrd.symm]
        exact e89 _ _ h2
      have k3 : (L2.upd H9 rl (.lst (xs ++ [.ref r]))) rl = some (.lst (xs ++ [.ref r])) := upd_same
      have kr' : (L2.upd H9 rl (.lst (xs ++ [.ref r]))) r = some (.tup [.int (cur : Int), tx [c]]) := by
        rw [upd_ne nrr]
        exact g9
      have kR : RowsAt (L2.upd H9 rl (.lst (xs ++ [.ref r]))) (xs ++ [.ref r]) (rs ++ [(cur, c)]) := ((hR.mono e89).upd (e89 _ _ h3) (fun ys => by intro z; cases z)).snoc kr'
      have ke : Ex H (L2.upd H9 rl (.lst (xs ++ [.ref r]))) := (e6.trans e89).mut hr0
      generalize L2.upd H9 rl (.lst (xs ++ [.ref r])) = G at k1 k2 k3 kR ke ⊢
      refine q_dput (v := .int ((pcs rs).length : Int)) (g := fun H10 => L2.upd H10 d (.dK (putK kvs (Sum.inr (SX.S ((pcs rs).getD cur [] ++ [c]))) (.int ((pcs rs).length : Int))))) (ev_is (ev_cb (ea_cons (ev_var rfl) ea_nil) (rc_lenL (sq_of k1))) (by rw [List.length_map])) (ev_var rfl) (hcat rfl rfl) (fun H10 e10 => DPut.k (k := Sum.inr (SX.S ((pcs rs).getD cur [] ++ [c]))) (e10 _ _ k2) (sz_lt (by rw [dk.len]; show (pcs rs).length < 100000; omega))) fun H10 e10 => ?_
      have m1 : (L2.upd H10 d (.dK (putK kvs (Sum.inr (SX.S ((pcs rs).getD cur [] ++ [c]))) (.int ((pcs rs).length : Int))))) l = some (.lst ((pcs rs).map tx)) := by
        rw [upd_ne nld]
        exact e10 _ _ k1
      have m2 : (L2.upd H10 d (.dK (putK kvs (Sum.inr (SX.S ((pcs rs).getD cur [] ++ [c]))) (.int ((pcs rs).length : Int))))) d = some (.dK (putK kvs (Sum.inr (SX.S ((pcs rs).getD cur [] ++ [c]))) (.int ((pcs rs).length : Int)))) := upd_same
      have m3 : (L2.upd H10 d (.dK (putK kvs (Sum.inr (SX.S ((pcs rs).getD cur [] ++ [c]))) (.int ((pcs rs).length : Int))))) rl = some (.lst (xs ++ [.ref r])) := by
        rw [upd_ne nrd]
        exact e10 _ _ k3
      have mR := (kR.mono e10).upd (o := .dK (putK kvs (Sum.inr (SX.S ((pcs rs).getD cur [] ++ [c]))) (.int ((pcs rs).length : Int)))) (e10 _ _ k2) (fun ys => by intro z; cases z)
      have me : Ex H (L2.upd H10 d (.dK (putK kvs (Sum.inr (SX.S ((pcs rs).getD cur [] ++ [c]))) (.int ((pcs rs).length : Int))))) := (ke.trans e10).mut hd0
      generalize L2.upd H10 d (.dK (putK kvs (Sum.inr (SX.S ((pcs rs).getD cur [] ++ [c]))) (.int ((pcs rs).length : Int)))) = G2 at m1 m2 m3 mR me ⊢
      refine q_app m1 (ev_var rfl) (hcat rfl rfl) (by show ((pcs rs).map tx).length < 100000; rw [List.length_map]; omega) fun H11 e11 => ?_
      have hnew : pcs (rs ++ [(cur, c)]) = pcs rs ++ [(pcs rs).getD cur [] ++ [c]] := pcs_snoc rs (cur, c)
      refine s_asg (v := tx []) (ev_is ev_c (by rw [mt_is])) fun H12 e12 => ⟨⟨some (tx [c]), ?_⟩, ((me.trans e11).mut hl0).trans e12, ?_, ⟨_, e12 _ _ (by rw [upd_ne nld.symm]; exact e11 _ _ m2), ?_⟩, xs ++ [.ref r], e12 _ _ (by rw [upd_ne (Ne.symm nlr)]; exact e11 _ _ m3), ((mR.mono e11).upd (e11 _ _ m1) (fun ys => by intro z; cases z)).mono e12⟩
      · show _ = [some (tx v), some (V.ref l), some (V.ref d), some (V.ref rl), some (tx ((pcs (rs ++ [(cur, c)])).getD 0 [])), some (tx [c])]
        rw [pcs_zero]
        rfl
      · refine e12 _ _ ?_
        show (L2.upd H11 l _) l = some (.lst ((pcs (rs ++ [(cur, c)])).map tx))
        rw [upd_same, hnew, List.map_append]
        rfl
      · show DictS _ (pcs (rs ++ [(cur, c)]))
        rw [hnew]
        exact dk.put hout
  · intro σ' H' p
    obtain ⟨⟨u5, rfl⟩, e6, h1, ⟨kvs, h2, dk⟩, xs, h3, hR⟩ := p
    have ef : v.take (SX.S v).cps.size = v := by
      show v.take v.toArray.size = v
      simp
    rw [ef] at h1 dk hR ⊢
    have ko := cut_ok (al := al) v hv
    obtain ⟨nd, rows, ex⟩ := pcs_facts _ ko.ok
    have hpl := pcs_len (cutW v).1
    have low := ko.low
    have hcm : (pcs (cutW v).1).getD (cutW v).2 [] ∈ pcs (cutW v).1 := getD_mem (by omega)
    have hval := dk.there _ hcm
    rw [idx_getD nd (by omega)] at hval
    refine s_retLst3 (eu_tupOf (ev_var rfl) (sq_of h3)) (fun H7 e7 => ev_dget (ev_var rfl) (ev_var rfl) fun H9 e9 => ?_) (fun H7 e7 => ev_var rfl) fun r p H7 hp e7 g7 k7 => q p H7 (fresh_back e6 hp) (e6.trans e7) ⟨r, l, xs, k7, g7, hR.mono e7, e7 _ _ h1⟩
    have g := DGet.k (k := Sum.inr (SX.S ((pcs (cutW v).1).getD (cutW v).2 []))) (e9 _ _ (e7 _ _ h2))
    rw [hval] at g
    exact g
end
end Ver
namespace Ver
/-! ### the most pieces that a text may have -/
def cap (s k : Nat) : Nat := min (10 ^ 9) (s ^ (k + 1))
def prts (s : Nat) : List Int := (List.range 30).map fun k => (cap s k : Int)
theorem prts_at {s i : Nat} (h : i < 30) : at0 (prts s) i = (cap s i : Int) := by
  unfold at0 prts
  rw [List.getD_eq_getElem?_getD, List.getElem?_map, List.getElem?_range h]
  rfl
theorem prts_nn {s : Nat} : ∀ x ∈ prts s, 0 ≤ x := fun x hx => by
  obtain ⟨k, _, rfl⟩ := List.mem_map.mp hx
  omega
theorem prts_len {s : Nat} : (prts s).length = 30 := by
  unfold prts
  rw [List.length_map, List.length_range]
/-- the words up to i letters, as the parts tell them: all, or more than enough -/
theorem cap_S {s : Nat} : ∀ i, i ≤ 30 → (S (at0 (prts s)) i = (sw s i : Int)) ∨ ((10 ^ 9 : Int) ≤ S (at0 (prts s)) i ∧ 10 ^ 9 ≤ sw s i)
  | 0, _ => .inl rfl
  | i + 1, h => by
    have ih := cap_S (s := s) i (by omega)
    have e : S (at0 (prts s)) (i + 1) = S (at0 (prts s)) i + (cap s i : Int) := by
      show _ + at0 (prts s) i = _
      rw [prts_at (by omega)]
    have e2 : sw s (i + 1) = sw s i + s ^ (i + 1) := rfl
    rw [e, e2]
    have hc : cap s i = min (10 ^ 9) (s ^ (i + 1)) := rfl
    rcases ih with ih | ⟨ih1, ih2⟩
    · by_cases c : s ^ (i + 1) ≤ 10 ^ 9
      · left
        rw [ih, hc, Nat.min_eq_right c, Int.natCast_add]
      · right
        rw [hc, Nat.min_eq_left (by omega)]
        omega
    · right
      omega
theorem cap_left {s m i : Nat} (hm : m ≤ 10 ^ 9) (h : i ≤ 30) : max 0 ((m : Int) - S (at0 (prts s)) i) = ((m - sw s i : Nat) : Int) := by
  rcases cap_S (s := s) i h with e | ⟨e1, e2⟩
  · rw [e]
    omega
  · omega
theorem wt_is {s m : Nat} (hm : m ≤ 10 ^ 9) : ∀ n, n ≤ 30 → wt (at0 (prts s)) (m : Int) n = (lw s m n : Int)
  | 0, _ => rfl
  | n + 1, h => by
    have ih := wt_is (s := s) hm n (by omega)
    have hp := at0_nonneg (prts_nn (s := s))
    have hw := wl_eq hp (m := (m : Int)) (by omega) n
    show wt (at0 (prts s)) (m : Int) n + min (wl (at0 (prts s)) (m : Int) n) (at0 (prts s) n) * ((n : Int) + 1) = ((lw s m n + min (m - sw s n) (s ^ (n + 1)) * (n + 1) : Nat) : Int)
    rw [ih, hw, cap_left hm (by omega), prts_at (by omega)]
    have hc : cap s n = min (10 ^ 9) (s ^ (n + 1)) := rfl
    have e : min ((m - sw s n : Nat) : Int) (cap s n : Int) = ((min (m - sw s n) (s ^ (n + 1)) : Nat) : Int) := by
      rw [hc]
      omega
    rw [e, Int.natCast_add, Int.natCast_mul, Int.natCast_add]
    rfl
theorem C_above {al : List Nat} {xs : List (List Nat)} (nd : xs.Nodup) (h : ∀ x ∈ xs, 1 ≤ x.length ∧ ∀ c ∈ x, c ∈ al) (hm : xs.length ≤ 10 ^ 9) : ∀ n, n ≤ 30 → C (at0 (prts al.length)) (xs.length : Int) n ≤ (sumA xs n : Int)
  | 0, _ => Int.le_refl 0
  | n + 1, hn => by
    have ih := C_above nd h hm n (by omega)
    have ha := above_ge nd h n
    have hc := cap_left (s := al.length) hm (show n ≤ 30 by omega)
    show C (at0 (prts al.length)) (xs.length : Int) n + max 0 ((xs.length : Int) - S (at0 (prts al.length)) n) ≤ ((sumA xs n + above xs n : Nat) : Int)
    rw [hc]
    omega
theorem C_first {p : Nat → Int} {m : Int} (h0 : 0 ≤ m) : ∀ n, 1 ≤ n → m ≤ C p m n
  | 0, h => absurd h (by decide)
  | 1, _ => by
    show m ≤ 0 + max 0 (m - 0)
    omega
  | n + 2, _ => by
    have ih := C_first (p := p) h0 (n + 1) (by omega)
    show m ≤ C p m (n + 1) + max 0 (m - S p (n + 1))
    omega
theorem one_C : (400 : Int) < C (at0 (prts 1)) 30 30 := by decide +kernel
theorem one_S : S (at0 (prts 1)) 30 = 30 := by decide +kernel
theorem two_S {s : Nat} (h : 2 ≤ s) : (10 ^ 9 : Int) ≤ S (at0 (prts s)) 30 := by
  rcases cap_S (s := s) 30 (Nat.le_refl _) with e | e
  · rw [e]
    have h2 : sw s 30 = sw s 29 + s ^ 30 := rfl
    have h3 : 2 ^ 30 ≤ s ^ 30 := Nat.pow_le_pow_left h 30
    have h4 : (2 : Nat) ^ 30 = 1073741824 := by decide
    omega
  · exact e.1
/-- the most -/
theorem most_ex {s : Nat} (h1 : 1 ≤ s) {n : Nat} (hn : n ≤ 400) : ∃ M : Nat, fillF (n : Int) (prts s) = (M : Int) ∧ M ≤ n ∧ lw s M 30 ≤ n ∧ n < lw s (M + 1) 30 ∧ (M : Int) < S (at0 (prts s)) 30 := by
  have hp := at0_nonneg (prts_nn (s := s))
  obtain ⟨f0, f1, f2, f3⟩ := fill_right (prts_nn (s := s)) (s := (n : Int)) (by omega)
  have hS : S (at0 (prts s)) 30 = (prts s).sum := by
    have := S_all (prts s)
    rw [prts_len] at this
    exact this
  generalize hM : fillF (n : Int) (prts s) = F at *
  obtain ⟨M, rfl⟩ := Int.eq_ofNat_of_zero_le f0
  have hwt : weight (prts s) (M : Int) = C (at0 (prts s)) (M : Int) 30 := by
    unfold weight
    rw [prts_len]
    exact wt_le hp (by omega) (by rw [hS]; exact f1)
  have hMn : M ≤ n := by
    have := C_first (p := at0 (prts s)) (m := (M : Int)) (by omega) 30 (by decide)
    omega
  have hlt : (M : Int) < S (at0 (prts s)) 30 := by
    by_cases c : s = 1
    · subst c
      rw [one_S]
      refine Classical.byContradiction fun hn2 => ?_
      have hM30 : (M : Int) = 30 := by
        rw [← hS, one_S] at f1
        omega
      have := one_C
      rw [hwt, hM30] at f2
      omega
    · have := two_S (s := s) (by omega)
      omega
  refine ⟨M, rfl, hMn, ?_, ?_, hlt⟩
  · have e := wt_is (s := s) (m := M) (by omega) 30 (Nat.le_refl _)
    unfold weight at f2
    rw [prts_len, e] at f2
    omega
  · have e := wt_is (s := s) (m := M + 1) (by omega) 30 (Nat.le_refl _)
    rcases f3 with f3 | f3
    · omega
    · unfold weight at f3
      rw [prts_len, show (M : Int) + 1 = ((M + 1 : Nat) : Int) by omega, e] at f3
      omega
/-- no text of n letters has more pieces -/
theorem most_pieces {al : List Nat} (h1 : 1 ≤ al.length) {xs : List (List Nat)} (nd : xs.Nodup) (h : ∀ x ∈ xs, 1 ≤ x.length ∧ ∀ c ∈ x, c ∈ al) {n M : Nat} (hn : n ≤ 400) (hx : xs.flatten.length ≤ n) (hM : fillF (n : Int) (prts al.length) = (M : Int)) : xs.length ≤ M := by
  have hp := at0_nonneg (prts_nn (s := al.length))
  have hxl : xs.length ≤ xs.flatten.length := by
    have : ∀ l : List (List Nat), (∀ x ∈ l, 1 ≤ x.length) → l.length ≤ l.flatten.length := by
      intro l
      induction l with
      | nil => intro _; exact Nat.le_refl 0
      | cons a r ih =>
        intro hh
        have h1 := hh a (List.mem_cons_self ..)
        have h2 := ih fun x hx => hh x (List.mem_cons_of_mem _ hx)
        rw [List.flatten_cons, List.length_append, List.length_cons]
        omega
    exact this xs fun x hx => (h x hx).1
  have hC := C_above nd h (by omega) 30 (Nat.le_refl _)
  have hs := sumA_le xs 30
  have hle : (xs.length : Int) ≤ S (at0 (prts al.length)) 30 := by
    by_cases c : al.length = 1
    · rw [c] at hC hp ⊢
      rw [one_S]
      refine Classical.byContradiction fun hn2 => ?_
      have := C_mono (p := at0 (prts 1)) hp (show (30 : Int) ≤ (xs.length : Int) by omega) 30
      have := one_C
      omega
    · have := two_S (s := al.length) (by omega)
      omega
  have := ft_most hp (s := (n : Int)) (by omega) hle (by omega)
  have e : fillF (n : Int) (prts al.length) = ft (at0 (prts al.length)) (n : Int) 30 := by
    unfold fillF
    rw [prts_len]
  rw [← e, hM] at this
  omega
end Ver
namespace Ver
theorem word_pieces {al : List Nat} (h1 : 1 ≤ al.length) {v : List Nat} (hv : ∀ c ∈ v, c ∈ al) (hn : v.length ≤ 400) {M : Nat} (hM : fillF (v.length : Int) (prts al.length) = (M : Int)) : (cutW v).1.length ≤ M := by
  have ko := cut_ok v hv
  obtain ⟨nd, rows, ex⟩ := pcs_facts _ ko.ok
  have hl := pcs_len (cutW v).1
  have h0 := pcs_zero (cutW v).1
  have word := ko.word
  generalize (cutW v).1 = rs at *
  cases hp : pcs rs with
  | nil =>
    rw [hp] at hl
    cases hl
  | cons a xs =>
    rw [hp] at nd hl h0 word
    have ha : a = [] := h0
    subst ha
    have hxl : xs.length = rs.length := by
      rw [List.length_cons] at hl
      omega
    rw [← hxl]
    have nd2 := List.nodup_cons.mp nd
    have hfl : ([] :: xs).flatten = xs.flatten := by simp
    rw [hfl] at word
    refine most_pieces h1 nd2.2 (fun x hx => ⟨List.length_pos_iff.mpr fun e => nd2.1 (e ▸ hx), fun c hc => hv c ?_⟩) hn ?_ hM
    · rw [word]
      exact List.mem_append_left _ (List.mem_flatten.mpr ⟨x, hx, hc⟩)
    · have := congrArg List.length word
      rw [List.length_append] at this
      omega
theorem wo_pre {al : List Nat} : ∀ {i j : Nat}, i ≤ j → wo al i <+: wo al j := by
  intro i j h
  induction h with
  | refl => exact List.prefix_refl _
  | @step k _ ih => exact ih.trans (List.prefix_append _ _)
theorem flat_pre {a b : List (List Nat)} (h : a <+: b) : a.flatten <+: b.flatten := by
  obtain ⟨t, rfl⟩ := h
  rw [List.flatten_append]
  exact List.prefix_append _ _
theorem take_pre {a b : List Nat} (h : a <+: b) {n : Nat} (hn : n ≤ a.length) : a.take n = b.take n := by
  obtain ⟨t, rfl⟩ := h
  rw [List.take_append_of_le_length hn]
/-- the words in order have as many pieces as any text may have -/
theorem order_pieces {al : List Nat} (A : Alf al) {n T M : Nat} (hn : n ≤ 400) (hT : n ≤ (wo al T).flatten.length) (hM : fillF (n : Int) (prts al.length) = (M : Int)) : (cutW ((wo al T).flatten.take n)).1.length = M := by
  obtain ⟨M', e, _, a1, a2, _⟩ := most_ex A.pos hn
  have em : M' = M := by
    rw [hM] at e
    omega
  subst em
  have l1 := wo_letters (al := al) M' 30
  have l2 := wo_letters (al := al) (M' + 1) 30
  have hlen : M' < (wo al 30).length := by
    refine Classical.byContradiction fun hn2 => ?_
    rw [List.take_of_length_le (by omega)] at l1 l2
    omega
  have h30 : n ≤ (wo al 30).flatten.length := by
    have h := flat_pre (List.take_prefix (M' + 1) (wo al 30))
    have := h.length_le
    omega
  have et : (wo al T).flatten.take n = (wo al 30).flatten.take n := by
    by_cases c : T ≤ 30
    · exact take_pre (flat_pre (wo_pre c)) hT
    · exact (take_pre (flat_pre (wo_pre (by omega))) h30).symm
  rw [et]
  exact cut_begin (al := al) (wo_closed A.nd 30) (fun x hx => (wo_word 30 x hx).2.2) hlen (by omega) (by omega)
/-! ### letters exchanged -/
def ren (f : Nat → Nat) (r : Nat × Nat) : Nat × Nat := (r.1, f r.2)
theorem idx_ren {f : Nat → Nat} {cur c : Nat} : ∀ rs : Rw, (∀ r ∈ rs, ren f r = (cur, f c) → r = (cur, c)) → (cur, c) ∈ rs → (rs.map (ren f)).idxOf (cur, f c) = rs.idxOf (cur, c)
  | [], _, hm => nomatch hm
  | a :: r, inj, hm => by
    by_cases ca : a = (cur, c)
    · subst ca
      rw [List.map_cons]
      simp [ren, List.idxOf_cons]
    · have hne : ren f a ≠ (cur, f c) := fun e => ca (inj a (List.mem_cons_self ..) e)
      have hmr : (cur, c) ∈ r := (List.mem_cons.mp hm).resolve_left fun e => ca e.symm
      rw [List.map_cons, List.idxOf_cons, List.idxOf_cons, idx_ren r (fun x hx => inj x (List.mem_cons_of_mem _ hx)) hmr]
      have b1 : (ren f a == (cur, f c)) = false := by simpa using hne
      have b2 : (a == (cur, c)) = false := by simpa using ca
      rw [b1, b2]
theorem cut_ren {al : List Nat} {f : Nat → Nat} (hf : ∀ a ∈ al, ∀ b ∈ al, f a = f b → a = b) (v : List Nat) (hv : ∀ c ∈ v, c ∈ al) : cutW (v.map f) = ((cutW v).1.map (ren f), (cutW v).2) := by
  induction v using snoc_ind with
  | h0 => rfl
  | hs v c ih =>
    have ih := ih fun d hd => hv d (List.mem_append_left _ hd)
    have hc := hv c (List.mem_append_right _ (List.mem_singleton.mpr rfl))
    have ko := cut_ok (al := al) v fun d hd => hv d (List.mem_append_left _ hd)
    rw [List.map_append]
    show cutW (v.map f ++ [f c]) = _
    rw [cut_snoc, cut_snoc, ih]
    generalize cutW v = st at *
    obtain ⟨rs, cur⟩ := st
    have hr : ∀ r ∈ rs, r.2 ∈ al := fun r hr => (mem_row ko.ok hr).2
    have inj : ∀ r ∈ rs, ren f r = (cur, f c) → r = (cur, c) := fun r hrm e => by
      have e1 := congrArg Prod.fst e
      have e2 := hf _ (hr r hrm) _ hc (congrArg Prod.snd e)
      exact Prod.ext e1 e2
    show cutStep (rs.map (ren f), cur) (f c) = ((cutStep (rs, cur) c).1.map (ren f), (cutStep (rs, cur) c).2)
    by_cases hm : (cur, c) ∈ rs
    · have e1 : cutStep (rs, cur) c = (rs, rs.idxOf (cur, c) + 1) := if_pos hm
      have hm2 : (cur, f c) ∈ rs.map (ren f) := List.mem_map.mpr ⟨_, hm, rfl⟩
      have e2 : cutStep (rs.map (ren f), cur) (f c) = (rs.map (ren f), (rs.map (ren f)).idxOf (cur, f c) + 1) := if_pos hm2
      rw [e1, e2]
      have ei : (rs.map (ren f)).idxOf (cur, f c) = rs.idxOf (cur, c) := idx_ren rs inj hm
      rw [ei]
    · have e1 : cutStep (rs, cur) c = (rs ++ [(cur, c)], 0) := if_neg hm
      have hm2 : (cur, f c) ∉ rs.map (ren f) := fun h => by
        obtain ⟨r, hrm, e⟩ := List.mem_map.mp h
        exact hm (inj r hrm e ▸ hrm)
      have e2 : cutStep (rs.map (ren f), cur) (f c) = (rs.map (ren f) ++ [(cur, f c)], 0) := if_neg hm2
      rw [e1, e2, List.map_append]
      rfl
/-- the letters from the other end -/
def flip (al : List Nat) (c : Nat) : Nat := al.getD (al.length - 1 - al.idxOf c) 0
theorem flip_mem {al : List Nat} {c : Nat} (hc : c ∈ al) : flip al c ∈ al ∧ al[al.length - 1 - al.idxOf c]? = some (flip al c) := by
  have h := List.idxOf_lt_length_of_mem hc
  have e : al[al.length - 1 - al.idxOf c]? = some (flip al c) := by
    unfold flip
    rw [List.getD_eq_getElem?_getD, List.getElem?_eq_getElem (by omega)]
    rfl
  exact ⟨List.mem_of_getElem? e, e⟩
theorem flip_inj {al : List Nat} (nd : al.Nodup) : ∀ a ∈ al, ∀ b ∈ al, flip al a = flip al b → a = b := fun a ha b hb e => by
  have h1 := List.idxOf_lt_length_of_mem ha
  have h2 := List.idxOf_lt_length_of_mem hb
  have e1 := (flip_mem ha).2
  have e2 := (flip_mem hb).2
  rw [e] at e1
  obtain ⟨i1, j1⟩ := List.getElem?_eq_some_iff.mp e1
  obtain ⟨i2, j2⟩ := List.getElem?_eq_some_iff.mp e2
  have := (List.getElem_inj nd).mp (j1.trans j2.symm)
  have e3 : al.idxOf a = al.idxOf b := by omega
  rw [← List.getElem_idxOf h1, ← List.getElem_idxOf h2]
  simp only [e3]
theorem flip_pieces {al : List Nat} (nd : al.Nodup) {v : List Nat} (hv : ∀ c ∈ v, c ∈ al) : (cutW (v.map (flip al))).1.length = (cutW v).1.length := by
  rw [cut_ren (flip_inj nd) v hv, List.length_map]
/-! ### the length grows with the pieces -/
theorem plen_mono {s : Nat} (h : 1 ≤ s) {m k : Nat} (hmk : m ≤ k) : plen s m ≤ plen s k := by
  have hl : (List.replicate s 0).length = s := List.length_replicate
  have e := fun j => bln_is (List.replicate s 0) j
  rw [hl] at e
  rw [← e m, ← e k]
  by_cases c : m = k
  · rw [c]
    exact Nat.le_refl _
  · exact Nat.le_of_lt (bln_lt (by rw [hl]; exact h) (by omega))
end Ver
namespace Ver
open PySem PySem.Spec PyProof.Rows L2 Evl
def stk (s i : Nat) : Nat := min (10 ^ 9) (s ^ i)
theorem stk_next {s : Nat} (h : 1 ≤ s) (i : Nat) : min (10 ^ 9) (stk s i * s) = stk s (i + 1) := by
  show min (10 ^ 9) (min (10 ^ 9) (s ^ i) * s) = min (10 ^ 9) (s ^ i * s)
  generalize s ^ i = x
  generalize 10 ^ 9 = B
  by_cases c : x ≤ B
  · rw [Nat.min_eq_right c]
  · have h1 : B ≤ x := by omega
    rw [Nat.min_eq_left h1]
    have h2 : B * 1 ≤ B * s := Nat.mul_le_mul_left _ h
    have h3 : x * 1 ≤ x * s := Nat.mul_le_mul_left _ h
    rw [Nat.min_eq_left (by omega), Nat.min_eq_left (by omega)]
theorem rcs_le {s : Nat} (h6 : s ≤ 6) : ∀ k, k ≤ 402 → rcs s k ≤ 12 * k
  | 0, _ => Nat.le_refl _
  | k + 1, h => by
    have ih := rcs_le h6 k (by omega)
    have ho : opts s k ≤ 4096 := by
      unfold opts
      have : (k + 1) * s ≤ 402 * 6 := Nat.mul_le_mul (by omega) h6
      omega
    have h1 : 1 ≤ opts s k := by
      unfold opts
      omega
    have hw : wid (opts s k) ≤ 12 := Nat.not_lt.mp fun c => by
      have := (wid_gt h1).mp c
      omega
    show rcs s k + wid (opts s k) ≤ 12 * (k + 1)
    omega
theorem plen_le {s m : Nat} (h6 : s ≤ 6) (h : m ≤ 400) : plen s m ≤ 100000 := by
  have := rcs_le h6 (m + 1) (by omega)
  have hw : wid (m + 1) ≤ 12 := Nat.not_lt.mp fun c => by
    have := (wid_gt (show 1 ≤ m + 1 by omega)).mp c
    omega
  unfold plen
  omega
section
variable {P : Program} {w : World} {K : PySem.W.Frag} {mg : Str → Option Value} {base : Heap} {C_Cut : Addr}
theorem ev_cutLen {σ : L2.St} {H : Hp} {ta : TE} {E : XK} {al v : List Nat} (hv : ∀ c ∈ v, c ∈ al) (hz : v.length ≤ 1000) (h : Ev ta σ H (tx v)) :
    Ev (tCB (fun xs H Q => ∃ x n, xs = [x] ∧ LenV K x H n ∧ Q (V.int n) H) (tCons (tOp (rIxL K) (tCall spLc [] E (tCons ta tNil)) (tC (.int 0))) tNil)) σ H (.int ((cutW v).1.length : Int)) := fun H1 e Q q =>
  h H1 e _ fun H2 e2 => ⟨al, v, rfl, hv, hz, fun p H3 hp e3 hL => by
    obtain ⟨ra, pa, xs, g1, g2, g3, g4⟩ := hL.ex
    refine ⟨p, [.ref ra, .int ((cutW v).2 : Int), .ref pa], 0, .ref ra, rfl, rfl, sq_of g1, rfl, .ref ra, xs.length, rfl, .inr ⟨xs, st_of g2, rfl⟩, ?_⟩
    rw [g3.len]
    exact q H3 (e2.trans e3)⟩
/-! ### _law_longest -/
def spLst : Sp := fun vs H Q _ => ∃ al v : List Nat, vs = [tx al, tx v, .int (plen al.length (cutW v).1.length : Int)] ∧ Alf al ∧ Word al 400 v ∧ RetV (.bl true) H Q
theorem has_longest (F : At K mg "_law_longest" s__law_longest) (T : Top K mg C_Cut) (h1 : Has P w K mg base "fill" s_fill ["length", "counts"] 1 (spFill K)) (h2 : Has P w K mg base "_law_whole" s__law_whole ["value"] 1 spWhole) (h3 : Has P w K mg base "_law_counting_word" s__law_counting_word ["signs", "many"] 1 spCwX)
    (h4 : Has P w K mg base "press" s_press ["alphabet", "text"] 8 spPress) (h5 : Has P w K mg base "pressed_length" s_pressed_length ["size", "count"] 2 spPlen) (h6 : Has P w K mg base "_law_cut" s__law_cut ["word"] 1 spLc) : Has P w K mg base "_law_longest" s__law_longest ["signs", "word", "told"] 9 spLst := by
  obtain ⟨f, fd, F, m⟩ := F.ex
  obtain ⟨f1, fd1, _, G_fill, b_fill, m_fill, k_fill⟩ := h1
  obtain ⟨f2, fd2, _, G__law_whole, b__law_whole, m__law_whole, k__law_whole⟩ := h2
  obtain ⟨f3, fd3, _, G__law_counting_word, b__law_counting_word, m__law_counting_word, k__law_counting_word⟩ := h3
  obtain ⟨f4, fd4, _, G_press, b_press, m_press, k_press⟩ := h4
  obtain ⟨f5, fd5, _, G_pressed_length, b_pressed_length, m_pressed_length, k_pressed_length⟩ := h5
  obtain ⟨f6, fd6, _, G__law_cut, b__law_cut, m__law_cut, k__law_cut⟩ := h6
  refine ⟨f, fd, F, F.ok S__law_longest (fun vs H Q E h => ?_) (fun cdv A outer s H vs Q E hr h => ?_), F.binds fun _ _ _ _ _ _ us hl => match us, hl with | [_, _, _], _ => rfl, m, F.kp⟩
  · obtain ⟨al, v, rfl, _⟩ := h
    rfl
  obtain ⟨al, v, rfl, hA, hW, q⟩ := h
  have hv := hW.over
  have hz := hW.len
  have hs1 := hA.pos
  have hs6 := hA.six
  refine ⟨_, (pss_cons
    (ps_set (i := 3) S__law_longest.nd rfl (Or.inl rfl) (pe_lst pa_nil))
    (pss_cons
    (ps_set (i := 4) S__law_longest.nd rfl (Or.inl rfl) pe_int)
    (pss_cons
    (ps_for PassesOwn.never rfl (pi_range1 rfl T.z_range (pa_cons pe_int pa_nil)) (pg_name (i := 5) S__law_longest.nd rfl (Or.inl rfl)) (pss_cons
    (ps_set (i := 4) S__law_longest.nd rfl (Or.inl rfl) (pe_callB (call_min2 rfl) rfl T.z_min (by decide +kernel) (pa_cons (pe_op op_pow pe_int pe_int) (pa_cons (pe_op op_mul (pv 4) (pe_callB call_len_str rfl T.z_len PySem.boot_len (pa_cons (pv 0) pa_nil))) pa_nil))))
    (pss_one
    (ps_expr (pe_bm PySem.F.plainAttrs_list PySem.F.slot_list_append PySem.F.type_list_append mt_append (pv 3) (pa_cons (pv 4) pa_nil))))))
    (pss_cons
    (ps_set (i := 6) S__law_longest.nd rfl (Or.inl rfl) pe_int)
    (pss_cons
    (ps_set (i := 7) S__law_longest.nd rfl (Or.inl rfl) (pe_callB call_len_str rfl T.z_len PySem.boot_len (pa_cons (pv 1) pa_nil)))
    (pss_cons
    (ps_for PassesOwn.never rfl (pi_range1 rfl T.z_range (pa_cons pe_int pa_nil)) (pg_name (i := 5) S__law_longest.nd rfl (Or.inl rfl)) (pss_cons
    (ps_set (i := 8) S__law_longest.nd rfl (Or.inl rfl) (pe_callB (call_min2 rfl) rfl T.z_min (by decide +kernel) (pa_cons (pe_ix (r := rIxL K) ix_list (pv 3) (pv 5) (fun _ _ => rfl)) (pa_cons (pe_op op_fdivW (pv 7) (pe_op op_add (pv 5) pe_int)) pa_nil))))
    (pss_cons
    (ps_set (i := 6) S__law_longest.nd rfl (Or.inl rfl) (pe_op op_add (pv 6) (pv 8)))
    (pss_one
    (ps_set (i := 7) S__law_longest.nd rfl (Or.inl rfl) (pe_op op_sub (pv 7) (pe_op op_mul (pv 8) (pe_op op_add (pv 5) pe_int))))))))
    (pss_cons
    (ps_set (i := 9) S__law_longest.nd rfl (Or.inl rfl) (pe_callTy call_list_of rfl T.z_list (by decide +kernel) (pa_cons (pv 3) pa_nil)))
    (pss_cons
    (ps_set (i := 10) S__law_longest.nd rfl (Or.inl rfl) (pe_call G_fill (hr.mono (by decide)) rfl m_fill k_fill b_fill .nil pass0 (pa_cons (pe_callB call_len_str rfl T.z_len PySem.boot_len (pa_cons (pv 1) pa_nil)) (pa_cons (pv 9) pa_nil))))
    (pss_cons
    (ps_if (PW.pt (pw_or (pt_not (pt_val (pe_call G__law_whole (hr.mono (by decide)) rfl m__law_whole k__law_whole b__law_whole .nil pass0 (pa_cons (pv 10) pa_nil)))) (pw_or (pt_cmpR op_ne (pv 10) (pv 6) (nomark _)) (pw_or1 (pt_cmpR (op_neD hr.units) (pv 9) (pv 3) (nomark _)))))) (pss_one
    (ps_ret pe_bl)) pss_nil)
    (pss_cons
    (ps_set (i := 11) S__law_longest.nd rfl (Or.inl rfl) (pe_call G_press (hr.mono (by decide)) rfl m_press k_press b_press .nil pass0 (pa_cons (pv 0) (pa_cons (pe_call G__law_counting_word (hr.mono (by decide)) rfl m__law_counting_word k__law_counting_word b__law_counting_word .nil pass0 (pa_cons (pv 0) (pa_cons (pe_callB call_len_str rfl T.z_len PySem.boot_len (pa_cons (pv 1) pa_nil)) pa_nil))) pa_nil))))
    (pss_cons
    (ps_if (PW.pt (pw_or (pt_not (pt_val (pe_callB call_isi rfl T.z_isinstance (by decide +kernel) (pa_cons (pv 11) (pa_cons (pe_bltn (v := .ty "str") rfl T.z_str (by decide +kernel) rfl) pa_nil))))) (pw_or1 (pt_cmpR op_ne (pe_callB call_len_str rfl T.z_len PySem.boot_len (pa_cons (pv 11) pa_nil)) (pe_call G_pressed_length (hr.mono (by decide)) rfl m_pressed_length k_pressed_length b_pressed_length .nil pass0 (pa_cons (pe_callB call_len_str rfl T.z_len PySem.boot_len (pa_cons (pv 0) pa_nil)) (pa_cons (pv 6) pa_nil))) (nomark _))))) (pss_one
    (ps_ret pe_bl)) pss_nil)
    (pss_one
    (ps_ret (pe_and (pe_cmpR op_le (pv 2) (pe_callB call_len_str rfl T.z_len PySem.boot_len (pa_cons (pv 11) pa_nil)) (nomark _)) (pe_one (pe_cmpR op_le (pe_callB call_len rfl T.z_len PySem.boot_len (pa_cons (pe_ix (r := rIxL K) ix_list (pe_call G__law_cut (hr.mono (by decide)) rfl m__law_cut k__law_cut b__law_cut .nil pass0 (pa_cons (pv 1) pa_nil)) pe_int (fun _ _ => rfl)) pa_nil)) (pv 10) (nomark _))))))))))))))))), ?_⟩
  have hP : CPow 10 9 := ⟨by decide, by decide, by decide⟩
  have e9 : (10 : Int) ^ (9 : Int).toNat = ((10 ^ 9 : Nat) : Int) := rfl
  obtain ⟨M, hM, hMn, _⟩ := most_ex (s := al.length) hs1 (n := v.length) hz
  have wp := word_pieces hs1 hv hz hM
  refine q_asgL (xs := []) (el_lst ea_nil (by decide)) fun p H1 hp e1 g1 => ?_
  refine q_asg (v := .int (stk al.length 0 : Int)) (ev_is ev_c (by show _ = V.int ((min (10 ^ 9) 1 : Nat) : Int); rfl)) fun H2 e2 => ?_
  refine q_forR1 (n := 30) (ea_cons ev_c ea_nil) (by decide) (fun i σ' H' => (∃ u, σ' = [some (tx al), some (tx v), some (.int (plen al.length (cutW v).1.length : Int)), some (.ref p), some (.int (stk al.length i : Int)), u, none, none, none, none, none, none]) ∧ Ex H H' ∧ H' p = some (.lst (((List.range i).map fun k => (cap al.length k : Int)).map V.int))) ?_ ?_ ?_
  · intro H3 e3
    exact ⟨⟨none, rfl⟩, (e1.trans e2).trans e3, e3 _ _ (e2 _ _ g1)⟩
  · intro i σ' H' hi z
    obtain ⟨⟨u, rfl⟩, e3, h3⟩ := z
    have hi : i < 30 := by omega
    refine q_asg (v := .int (stk al.length (i + 1) : Int)) (ev_is (ev_cb (ea_cons (ev_op ev_c ev_c (rv_I hP)) (ea_cons (ev_mulR (j := (al.length : Int)) (by omega) (by omega) (ev_var rfl) (ev_lenS (by omega) (ev_var rfl))) ea_nil)) rc_min) ?_) fun H4 e4 => ?_
    · rw [e9, ← Int.natCast_mul, ← stk_next hs1 i]
      congr 1
      omega
    refine s_app (e4 _ _ h3) (ev_var rfl) (ev_var rfl) (by rw [List.length_map, List.length_map, List.length_range]; omega) fun H5 e5 => ⟨⟨_, rfl⟩, (e3.trans e4).trans e5 |>.mut hp, ?_⟩
    rw [map_range_succ]
    exact upd_same
  intro σ' H3 z
  obtain ⟨⟨u, rfl⟩, e3, h3⟩ := z
  have h3 : H3 p = some (.lst ((prts al.length).map V.int)) := h3
  refine q_asg ev_c fun H4 e4 => ?_
  refine q_asg (ev_lenS (by omega) (ev_var rfl)) fun H5 e5 => ?_
  have e34 := e4.trans e5
  refine q_forR1 (n := 30) (ea_cons ev_c ea_nil) (by decide) (fun i σ' H' => (∃ u8 u5, σ' = [some (tx al), some (tx v), some (.int (plen al.length (cutW v).1.length : Int)), some (.ref p), some (.int (stk al.length 30 : Int)), u5, some (.int (ft (at0 (prts al.length)) (v.length : Int) i)), some (.int (fl (at0 (prts al.length)) (v.length : Int) i)), u8, none, none, none]) ∧ Ex H3 H') ?_ ?_ ?_
  · intro H6 e6
    exact ⟨⟨none, u, rfl⟩, e34.trans e6⟩
  · intro i σ' H' hi z
    obtain ⟨⟨u8, u5, rfl⟩, e6⟩ := z
    have hi : i < 30 := by omega
    refine q_asg (v := .int (min (at0 (prts al.length) i) (fl (at0 (prts al.length)) (v.length : Int) i / ((i : Int) + 1)))) (ev_cb (ea_cons (ev_at (sq_of (e6 _ _ h3)) (by rw [prts_len]; exact hi) (ev_var rfl) (ev_var rfl)) (ea_cons (ev_div (j := (i : Int) + 1) (by omega) (by omega) (ev_var rfl) (ev_add (ev_var rfl) ev_c)) ea_nil)) rc_min) fun H7 e7 => ?_
    refine q_asg (ev_add (ev_var rfl) (ev_var rfl)) fun H8 e8 => ?_
    exact s_asg (ev_sub (ev_var rfl) (ev_mulR (j := (i : Int) + 1) (by omega) (by omega) (ev_var rfl) (ev_add (ev_var rfl) ev_c))) fun H9 e9 => ⟨⟨_, _, rfl⟩, ((e6.trans e7).trans e8).trans e9⟩
  intro σ' H6 z
  obtain ⟨⟨u8, u5, rfl⟩, e6⟩ := z
  have hft : ft (at0 (prts al.length)) (v.length : Int) (30 : Int).toNat = (M : Int) := by
    rw [← hM]
    unfold fillF
    rw [prts_len]
    rfl
  rw [hft]
  refine q_asgL (el_cb (ea_cons (ev_var rfl) ea_nil) (rcl_list (sq_of (e6 _ _ h3)))) fun g H7 hg e7 g7 => ?_
  refine q_asg (ev_is (ev_call (ea_cons (ev_lenS (by omega) (ev_var rfl)) (ea_cons (ev_var rfl) ea_nil)) (sv_fill (.inl (sq_of g7)) (by rw [prts_len]; decide))) (by rw [hM])) fun H8 e8 => ?_
  have e38 := (e6.trans e7).trans e8
  refine q_skip (et_is (et_or (et_not (et_B (ev_call (ea_cons (ev_var rfl) ea_nil) sv_whole))) (fun _ => et_or (et_neI (ev_var rfl) (ev_var rfl)) (fun _ => et_test (ev_op (ev_var rfl) (ev_var rfl) (rv_neInts (sq_of (e8 _ _ g7)) (sq_of (e38 _ _ h3))))))) (by simp)) fun H9 e9 => ?_
  have hT := wo_long hs1 400
  have hT2 : v.length ≤ (wo al 400).flatten.length := by omega
  have hop := order_pieces hA hz hT2 hM
  have hov : ∀ c ∈ (wo al 400).flatten.take v.length, c ∈ al := fun c hc => flat_over (fun x hx => (wo_word 400 x hx).2.2) c (List.mem_of_mem_take hc)
  have hbl := blk_cut_len hA hov
  rw [hop, bln_is] at hbl
  have hbz : plen al.length M ≤ 100000 := plen_le hs6 (by omega)
  refine q_asg (ev_call (ea_cons (ev_var rfl) (ea_cons (ev_call (z := tx ((wo al 400).flatten.take v.length)) (ea_cons (ev_var rfl) (ea_cons (ev_lenS (by omega) (ev_var rfl)) ea_nil)) fun H2 _ Q' q' _ => ⟨al, v.length, rfl, hA, hz, fun T hTT => by
    have e : (wo al T).flatten.take v.length = (wo al 400).flatten.take v.length := by
      rcases Nat.le_total T 400 with c | c
      · exact take_pre (flat_pre (wo_pre c)) hTT
      · exact (take_pre (flat_pre (wo_pre c)) hT2).symm
    rw [e]
    exact q'⟩) ea_nil)) (sv_press hA hov (by rw [List.length_take]; omega))) fun H10 e10 => ?_
  refine q_skip (et_is (et_or (et_not (et_B (ev_cb (ea_cons (ev_var rfl) (ea_cons ev_c ea_nil)) (rc_isiS (b := true) (by decide +kernel))))) (fun _ => et_neI (ev_lenS (by omega) (ev_var rfl)) (ev_call (ea_cons (ev_lenS (by omega) (ev_var rfl)) (ea_cons (ev_var rfl) ea_nil)) (sv_plen hs1 hs6 (by have := ml_is; omega))))) (by rw [hbl]; simp)) fun H11 e11 => ?_
  refine s_ret (ev_is (ev_andV (a := true) (ev_is (ev_op (ev_var rfl) (ev_lenS (by omega) (ev_var rfl)) rv_I0) ?_) (fun _ => ev_op (ev_cutLen hv (by omega) (ev_var rfl)) (ev_var rfl) rv_I0)) ?_) fun H12 e12 => q H12 ((((e3.trans e38).trans e9).trans (e10.trans e11)).trans e12)
  · rw [hbl, decide_eq_true (Int.ofNat_le.mpr (plen_mono hs1 wp))]
  · rw [decide_eq_true (Int.ofNat_le.mpr wp)]
    rfl
end
end Ver
namespace Ver
open PySem PySem.Spec PyProof.Rows L2 Evl
theorem cutV_sub {xs : List V} {lo hi : Option Int} : ∀ x ∈ cutV xs lo hi, x ∈ xs := fun x h => List.mem_of_mem_drop (List.mem_of_mem_take h)
section
variable {P : Program} {w : World} {K : PySem.W.Frag} {mg : Str → Option Value} {base : Heap} {C_Cut : Addr}
theorem sv_pow {n : Nat} {H : Hp} (h : n ≤ 1000) : SpV spPow ([V.int (n : Int)] ++ []) H (.int ((2 ^ n : Nat) : Int)) := fun _ _ _ q _ => ⟨n, rfl, h, q⟩
/-! ### _law_pieces -/
structure PRow (ns ds : List Int) : Prop where
  len : ns.length = 6
  dlen : ds.length = 10
  nn : ∀ i, i < 6 → 0 ≤ at0 ns i ∧ at0 ns i ≤ 1000001
  b3 : at0 ns 3 ≤ 1000
  dd : ∀ x ∈ ds, 0 ≤ x ∧ x < 1000
def spDrawn (K : PySem.W.Frag) : Sp := fun vs H Q _ => ∃ (a b : Addr) (ns ds : List Int), vs = [.ref a, .ref b] ∧ SqL K H a (ns.map V.int) ∧ SqL K H b (ds.map V.int) ∧ PRow ns ds ∧ ∀ xs : List Int, xs.length ≤ 5 → (∀ x ∈ xs, 0 ≤ x) → RetL (xs.map V.int) H Q
theorem has_drawn (F : At K mg "_law_pieces" s__law_pieces) (T : Top K mg C_Cut) (h1 : Has P w K mg base "_law_power" s__law_power ["often"] 1 spPow) : Has P w K mg base "_law_pieces" s__law_pieces ["row", "digits"] 2 (spDrawn K) := by
  obtain ⟨f, fd, F, m⟩ := F.ex
  obtain ⟨f1, fd1, _, G__law_power, b__law_power, m__law_power, k__law_power⟩ := h1
  refine ⟨f, fd, F, F.ok S__law_pieces (fun vs H Q E h => ?_) (fun cdv A outer s H vs Q E hr h => ?_), F.binds fun _ _ _ _ _ _ us hl => match us, hl with | [_, _], _ => rfl, m, F.kp⟩
  · obtain ⟨a, b, ns, ds, rfl, _⟩ := h
    rfl
  obtain ⟨a, b, ns, ds, rfl, hS, hB, hr2, q⟩ := h
  obtain ⟨hlen, hdl, hnn, hb3, hdd⟩ := hr2
  refine ⟨_, (pss_cons
    (ps_if (pt_cmpR op_lt (pe_ix (r := rIxL K) ix_list (pv 0) pe_int (fun _ _ => rfl)) pe_int (nomark _)) (pss_one
    (ps_ret (pe_lst (pa_cons (pe_ix (r := rIxL K) ix_list (pv 0) pe_int (fun _ _ => rfl)) (pa_cons (pe_op op_add (pe_ix (r := rIxL K) ix_list (pv 0) pe_int (fun _ _ => rfl)) pe_int) pa_nil))))) pss_nil)
    (pss_cons
    (ps_if (pt_cmpR op_eq (pe_ix (r := rIxL K) ix_list (pv 0) pe_int (fun _ _ => rfl)) pe_int (nomark _)) (pss_one
    (ps_ret (pe_lst (pa_cons (pe_ix (r := rIxL K) ix_list (pv 0) pe_int (fun _ _ => rfl)) (pa_cons (pe_op op_add (pe_ix (r := rIxL K) ix_list (pv 0) pe_int (fun _ _ => rfl)) pe_int) pa_nil))))) pss_nil)
    (pss_cons
    (ps_if (pt_cmpR op_eq (pe_ix (r := rIxL K) ix_list (pv 0) pe_int (fun _ _ => rfl)) pe_int (nomark _)) (pss_one
    (ps_ret (pe_lst (pa_cons (pe_op op_sub (pe_op op_pow pe_int pe_int) (pe_ix (r := rIxL K) ix_list (pv 1) pe_int (fun _ _ => rfl))) (pa_cons (pe_op op_pow pe_int pe_int) pa_nil))))) pss_nil)
    (pss_cons
    (ps_if (pt_cmpR op_eq (pe_ix (r := rIxL K) ix_list (pv 0) pe_int (fun _ _ => rfl)) pe_int (nomark _)) (pss_cons
    (ps_set (i := 2) S__law_pieces.nd rfl (Or.inl rfl) (pe_op op_fdivW (pe_op op_add (pe_call G__law_power (hr.mono (by decide)) rfl m__law_power k__law_power b__law_power .nil pass0 (pa_cons (pe_ix (r := rIxL K) ix_list (pv 0) pe_int (fun _ _ => rfl)) pa_nil)) pe_int) (pe_callB (call_max2 rfl) rfl T.z_max (by decide +kernel) (pa_cons pe_int (pa_cons (pe_ix (r := rIxL K) ix_list (pv 0) pe_int (fun _ _ => rfl)) pa_nil)))))
    (pss_one
    (ps_ret (pe_lst (pa_cons (pe_callB (call_max2 rfl) rfl T.z_max (by decide +kernel) (pa_cons pe_int (pa_cons (pe_op op_sub (pv 2) pe_int) pa_nil))) (pa_cons (pe_callB (call_max2 rfl) rfl T.z_max (by decide +kernel) (pa_cons pe_int (pa_cons (pe_op op_sub (pv 2) pe_int) pa_nil))) (pa_cons (pe_callB (call_max2 rfl) rfl T.z_max (by decide +kernel) (pa_cons pe_int (pa_cons (pe_op op_sub (pv 2) pe_int) pa_nil))) (pa_cons (pv 2) (pa_cons (pe_op op_add (pv 2) pe_int) pa_nil))))))))) pss_nil)
    (pss_cons
    (ps_set (i := 3) S__law_pieces.nd rfl (Or.inl rfl) pe_int)
    (pss_cons
    (ps_for PassesOwn.never rfl (pi_list (pe_slice sl_list (pv 1) po_none (po_some (pe_op op_add (pe_op op_add pe_int (pe_op op_mul (pe_ix (r := rIxL K) ix_list (pv 0) pe_int (fun _ _ => rfl)) pe_int)) pe_int)))) (pg_name (i := 4) S__law_pieces.nd rfl (Or.inl rfl)) (pss_one
    (ps_set (i := 3) S__law_pieces.nd rfl (Or.inl rfl) (pe_op op_add (pe_op op_mul (pv 3) pe_int) (pv 4)))))
    (pss_one
    (ps_ret (pe_lst (pa_cons (pv 3) (pa_cons (pe_op op_add (pv 3) pe_int) pa_nil))))))))))), ?_⟩
  have out : ∀ {D : Ends} {ta : TA} {σ : L2.St} {H' : Hp} (xs : List Int), D.rt = Q → Ex H H' → EvA ta σ H' (xs.map V.int) → xs.length ≤ 5 → (∀ x ∈ xs, 0 ≤ x) → tRet (tLst ta) D σ H' := by
    intro D ta σ H' xs hD e h hl hn
    refine s_retL (el_lst h (by rw [List.length_map]; omega)) fun p H2 hp e2 h2 => ?_
    rw [hD]
    exact q xs hl hn p H2 (fresh_back e hp) (e.trans e2) h2
  have n0 := hnn 0 (by omega)
  have n1 := hnn 1 (by omega)
  have n2 := hnn 2 (by omega)
  have n3 := hnn 3 (by omega)
  have n4 := hnn 4 (by omega)
  have n5 := hnn 5 (by omega)
  have at_ : ∀ {σ : L2.St} {H' : Hp} (i : Nat), Ex H H' → i < 6 → ∀ z : Int, z = (i : Int) → σ[0]? = some (some (.ref a)) → Ev (tOp (rIxL K) (tVar 0) (tC (.int z))) σ H' (.int (at0 ns i)) := by
    intro σ H' i e hi z hz hs
    exact ev_atI (ex_l e hS) (by omega) hz (ev_var hs) ev_c
  have hP : CPow 10 30 := ⟨by decide, by decide, by decide⟩
  have e30 : (10 : Int) ^ (30 : Int).toNat = 1000000000000000000000000000000 := rfl
  refine q_when (et_is (et_lt (at_ 0 (Ex.refl H) (by omega) 0 rfl rfl) ev_c) rfl) (fun hb H1 e1 => ?_) (fun hb H1 e1 => ?_)
  · refine out [at0 ns 1, at0 ns 1 + 1] rfl e1 (ea_cons (at_ 1 e1 (by omega) 1 rfl rfl) (ea_cons (ev_add (at_ 1 e1 (by omega) 1 rfl rfl) ev_c) ea_nil)) (by show 2 ≤ 5; decide) ?_
    intro x hx
    simp only [List.mem_cons, List.not_mem_nil, or_false] at hx
    omega
  refine q_when (et_is (et_eqI (at_ 0 e1 (by omega) 0 rfl rfl) ev_c) rfl) (fun hb H2 e2 => ?_) (fun hb H2 e2 => ?_)
  · have e12 := e1.trans e2
    refine out [at0 ns 2, at0 ns 2 + 1] rfl e12 (ea_cons (at_ 2 e12 (by omega) 2 rfl rfl) (ea_cons (ev_add (at_ 2 e12 (by omega) 2 rfl rfl) ev_c) ea_nil)) (by show 2 ≤ 5; decide) ?_
    intro x hx
    simp only [List.mem_cons, List.not_mem_nil, or_false] at hx
    omega
  have e12 := e1.trans e2
  refine q_when (et_is (et_eqI (at_ 0 e12 (by omega) 0 rfl rfl) ev_c) rfl) (fun hb H3 e3 => ?_) (fun hb H3 e3 => ?_)
  · have e13 := e12.trans e3
    have d0 : 0 ≤ at0 ds 0 ∧ at0 ds 0 < 1000 := by
      refine hdd _ ?_
      unfold at0
      rw [List.getD_eq_getElem?_getD, List.getElem?_eq_getElem (by omega)]
      exact List.getElem_mem _
    refine out [10 ^ (30 : Int).toNat - at0 ds 0, 10 ^ (30 : Int).toNat] rfl e13 (ea_cons (ev_sub (ev_op ev_c ev_c (rv_I hP)) (ev_atI (i := 0) (ex_l e13 hB) (by omega) rfl (ev_var rfl) ev_c)) (ea_cons (ev_op ev_c ev_c (rv_I hP)) ea_nil)) (by show 2 ≤ 5; decide) ?_
    intro x hx
    rw [e30] at hx
    simp only [List.mem_cons, List.not_mem_nil, or_false] at hx
    omega
  have e13 := e12.trans e3
  refine q_when (et_is (et_eqI (at_ 0 e13 (by omega) 0 rfl rfl) ev_c) rfl) (fun hb H4 e4 => ?_) (fun hb H4 e4 => ?_)
  · have e14 := e13.trans e4
    obtain ⟨n, hn⟩ : ∃ n : Nat, at0 ns 3 = (n : Int) := ⟨(at0 ns 3).toNat, by omega⟩
    have hpos : 0 < (2 : Nat) ^ n := Nat.two_pow_pos n
    have hmax : 1 ≤ max 1 (at0 ns 5) ∧ max 1 (at0 ns 5) ≤ 1000001 := by omega
    generalize hX : (((2 ^ n : Nat) : Int) + 1) / max 1 (at0 ns 5) = edge
    have hedge : 0 ≤ edge := by
      rw [← hX]
      exact Int.ediv_nonneg (by omega) (by omega)
    refine q_asg (v := .int edge) (ev_is (ev_div (i := ((2 ^ n : Nat) : Int) + 1) (j := max 1 (at0 ns 5)) (by omega) (by omega) (ev_add (ev_call (ea_cons (ev_is (at_ 3 e14 (by omega) 3 rfl rfl) (by rw [hn])) ea_nil) (sv_pow (n := n) (by omega))) ev_c) (ev_cb (ea_cons ev_c (ea_cons (at_ 5 e14 (by omega) 5 rfl rfl) ea_nil)) rc_max)) (by rw [hX])) fun H5 e5 => ?_
    refine out [max 0 (edge - 3), max 0 (edge - 2), max 0 (edge - 1), edge, edge + 1] rfl (e14.trans e5) (ea_cons (ev_cb (ea_cons ev_c (ea_cons (ev_sub (ev_var rfl) ev_c) ea_nil)) rc_max) (ea_cons (ev_cb (ea_cons ev_c (ea_cons (ev_sub (ev_var rfl) ev_c) ea_nil)) rc_max) (ea_cons (ev_cb (ea_cons ev_c (ea_cons (ev_sub (ev_var rfl) ev_c) ea_nil)) rc_max) (ea_cons (ev_var rfl) (ea_cons (ev_add (ev_var rfl) ev_c) ea_nil))))) (by show 5 ≤ 5; decide) ?_
    intro x hx
    simp only [List.mem_cons, List.not_mem_nil, or_false] at hx
    omega
  have e14 := e13.trans e4
  refine q_asg ev_c fun H5 e5 => ?_
  have e15 := e14.trans e5
  refine q_forNLn (xs := cutV (ds.map V.int) none (some (1 + at0 ns 4 * 4 + 1))) (el_sl (ev_var rfl) eo_none (eo_some (ev_add (ev_add ev_c (ev_mulR (by decide) (by decide) (at_ 4 e15 (by omega) 4 rfl rfl) ev_c)) ev_c)) (ex_l e15 hB))
    (fun p i σ' H' => (∃ u, ∃ v : Int, 0 ≤ v ∧ σ' = [some (.ref a), some (.ref b), none, some (.int v), u]) ∧ Ex H H' ∧ H' p = some (.lst (cutV (ds.map V.int) none (some (1 + at0 ns 4 * 4 + 1))))) ?_ ?_ ?_ ?_
  · intro p H6 hp e6 h6
    exact ⟨⟨none, 0, by omega, rfl⟩, e15.trans e6, h6⟩
  · intro p i σ' H' _ z
    exact sq_of z.2.2
  · intro p i x σ' H' hx z
    obtain ⟨⟨u, v, hv, rfl⟩, e6, h6⟩ := z
    obtain ⟨y, hy, rfl⟩ := List.mem_map.mp (cutV_sub x (List.mem_of_getElem? hx))
    have hy2 := hdd y hy
    exact s_asg (v := .int (v * 1000 + y)) (ev_add (ev_mulR (by decide) (by decide) (ev_var rfl) ev_c) (ev_var rfl)) fun H7 e7 => ⟨⟨_, _, by omega, rfl⟩, e6.trans e7, e7 _ _ h6⟩
  · intro p σ' H' z
    obtain ⟨⟨u, v, hv, rfl⟩, e6, h6⟩ := z
    refine out [v, v + 1] rfl e6 (ea_cons (ev_var rfl) (ea_cons (ev_add (ev_var rfl) ev_c) ea_nil)) (by show 2 ≤ 5; decide) ?_
    intro x hx
    simp only [List.mem_cons, List.not_mem_nil, or_false] at hx
    omega
end
end Ver
namespace Ver
open PySem PySem.Spec PyProof.Rows L2 Evl
def SZ : List Int := [12, 46, 46] ++ List.replicate 46 6
theorem sz_len : SZ.length = 49 := by decide +kernel
theorem sz_pos : ∀ i, i < 49 → 0 < at0 SZ i ∧ at0 SZ i < 100 := by decide +kernel
theorem sz_6 : ∀ i, i < 49 → 3 ≤ i → at0 SZ i = 6 := by decide +kernel
theorem w_row (c : Int) : WRow (digits c SZ) := by
  have h := fun i (hi : i < 49) => digits_at (c := c) (ss := SZ) (i := i) (by rw [sz_len]; exact hi) (sz_pos i hi).1
  refine ⟨by rw [digits_len, sz_len], ?_, ?_, fun i h3 h4 => ?_⟩
  · have := h 0 (by decide)
    have e : at0 SZ 0 = 12 := by decide +kernel
    omega
  · have := h 1 (by decide)
    have e : at0 SZ 1 = 46 := by decide +kernel
    omega
  · have := h i h4
    have e := sz_6 i h4 h3
    omega
theorem p_row (c d : Int) : PRow (digits c [8, 201, 1000001, 100, 3, 6]) (digits d (List.replicate 10 1000)) := by
  have hp : ∀ i, i < 6 → 0 < at0 [8, 201, 1000001, 100, 3, 6] i ∧ at0 [8, 201, 1000001, 100, 3, 6] i ≤ 1000001 := by decide +kernel
  have hq : ∀ i, i < 10 → at0 (List.replicate 10 1000) i = 1000 := by decide +kernel
  have h := fun i (hi : i < 6) => digits_at (c := c) (ss := [8, 201, 1000001, 100, 3, 6]) (i := i) hi (hp i hi).1
  refine ⟨digits_len _ _, by rw [digits_len]; rfl, fun i hi => ?_, ?_, fun x hx => ?_⟩
  · have := h i hi
    have := hp i hi
    omega
  · have := h 3 (by decide)
    have e : at0 [8, 201, 1000001, 100, 3, 6] 3 = 100 := by decide +kernel
    omega
  · obtain ⟨i, hi, rfl⟩ := List.mem_iff_getElem.mp hx
    rw [digits_len] at hi
    have hi : i < 10 := hi
    have g := digits_at (c := d) (ss := List.replicate 10 1000) (i := i) (by rw [List.length_replicate]; exact hi) (by rw [hq i hi]; decide)
    rw [hq i hi] at g
    unfold at0 at g
    rw [List.getD_eq_getElem?_getD, List.getElem?_eq_getElem (by rw [digits_len]; exact hi)] at g
    exact g
theorem flat_eachs (f : Nat → Nat) : ∀ v : List Nat, (v.map fun c => [f c]).flatten = v.map f
  | [] => rfl
  | c :: r => by
    show f c :: (r.map fun c => [f c]).flatten = f c :: r.map f
    rw [flat_eachs f r]
section
variable {P : Program} {w : World} {K : PySem.W.Frag} {mg : Str → Option Value} {base : Heap} {C_Cut : Addr}
section
variable {σ : L2.St} {H : Hp} {te tl ta tb t1 t2 t3 t4 : TE} {tu tz : TS} {D : Ends} {sp : Sp} {dvs xs : List V} {E : XK} {x1 x2 x3 : V} {Q : VK} {g : TG}
theorem el_is {ys : List V} (h : EvL te σ H xs) (e : xs = ys) : EvL te σ H ys := by
  rw [← e]
  exact h
theorem run_call1L (hl : EvL tl σ H xs) (k : ∀ p H1, Ex H H1 → H1 p = some (.lst xs) → sp ([.ref p] ++ dvs) H1 Q E) : tCall sp dvs E (tCons tl tNil) σ H Q := hl H (Ex.refl H) _ fun p H1 _ e h1 => k p H1 e h1
theorem run_call2E (h1 : Ev t1 σ H x1) (hl : EvL tl σ H xs) (k : ∀ p H1, Ex H H1 → H1 p = some (.lst xs) → sp ([x1, .ref p] ++ dvs) H1 Q E) : tCall sp dvs E (tCons t1 (tCons tl tNil)) σ H Q :=
  h1 H (Ex.refl H) _ fun H1 e1 => hl H1 e1 _ fun p H2 _ e2 g2 => k p H2 (e1.trans e2) g2
theorem run_call3M (h1 : Ev t1 σ H x1) (hl : EvL tl σ H xs) (h3 : ∀ H1, Ex H H1 → Ev t3 σ H1 x3) (k : ∀ p H1, Ex H H1 → H1 p = some (.lst xs) → sp ([x1, .ref p, x3] ++ dvs) H1 Q E) : tCall sp dvs E (tCons t1 (tCons tl (tCons t3 tNil))) σ H Q :=
  h1 H (Ex.refl H) _ fun H1 e1 => hl H1 e1 _ fun p H2 _ e2 g2 => h3 H2 (e1.trans e2) H2 (Ex.refl H2) _ fun H3 e3 => k p H3 ((e1.trans e2).trans e3) (e3 _ _ g2)
theorem run_call4E (h1 : Ev t1 σ H x1) (h2 : Ev t2 σ H x2) (h3 : Ev t3 σ H x3) (hl : EvL tl σ H xs) (k : ∀ p H1, Ex H H1 → H1 p = some (.lst xs) → sp ([x1, x2, x3, .ref p] ++ dvs) H1 Q E) : tCall sp dvs E (tCons t1 (tCons t2 (tCons t3 (tCons tl tNil)))) σ H Q :=
  h1 H (Ex.refl H) _ fun H1 e1 => h2 H1 e1 _ fun H2 e2 => h3 H2 (e1.trans e2) _ fun H3 e3 => hl H3 ((e1.trans e2).trans e3) _ fun p H4 _ e4 g4 => k p H4 (((e1.trans e2).trans e3).trans e4) g4
theorem s_asgX {i : Nat} (h : te σ H fun x H1 => D.nx (σ.set i (some x)) H1) : tAsg te (gName i) D σ H := h
/-- for over a list of which the promise tells something -/
theorem q_forTl {PP : VK} (h : ∀ Q : VK, (∀ x H1, PP x H1 → Q x H1) → tl σ H Q) (k : ∀ x H1, PP x H1 → ∃ a, x = .ref a ∧ ∃ xs : List V, SqL K H1 a xs ∧ ∃ Pv : Nat → L2.St → Hp → Prop, Pv 0 σ H1 ∧
    (∀ i σ' H', i ≤ xs.length → Pv i σ' H' → SqL K H' a xs) ∧
    (∀ i x σ' H', xs[i]? = some x → Pv i σ' H' → g x σ' H' fun σ2 H2 => tu { D with nx := Pv (i + 1), ct := Pv (i + 1), bk := tz D } σ2 H2) ∧ (∀ σ' H', Pv xs.length σ' H' → tz D σ' H')) : tSeq (tFor (iList K tl) g tu) tz D σ H :=
  h _ fun x H1 hp => by
    obtain ⟨a, rfl, xs, hq, Pv, h0, hl, hs, hd⟩ := k x H1 hp
    exact ⟨a, rfl, ⟨xs, hq⟩, for_list (D := { D with nx := tz D }) Pv h0 hl hs hd⟩
end
def spLaw (K : PySem.W.Frag) : Sp := fun vs H Q _ => ∃ (a : Addr) (ns : List Int), vs = [.ref a] ∧ SqL K H a (ns.map V.int) ∧ ns.length ≤ 63 ∧ ∀ H', Q (.bl true) H'
theorem ok_law {f : Addr} {fd : FuncData} (F : Fun K "law" "law" s_law f fd) (T : Top K mg C_Cut) (h1 : Has P w K mg base "_law_signs" s__law_signs ["row"] 1 (spSigns K)) (h2 : Has P w K mg base "_law_digits" s__law_digits ["cell", "sizes"] 1 (spDigits K)) (h3 : Has P w K mg base "_law_cell" s__law_cell ["script", "k"] 1 (spCell K))
    (h4 : Has P w K mg base "_law_word" s__law_word ["signs", "row", "most"] 2 (spWd K)) (h5 : Has P w K mg base "_law_long_word" s__law_long_word ["script", "first", "signs", "row"] 2 (spLong K)) (h6 : Has P w K mg base "_law_pieces" s__law_pieces ["row", "digits"] 2 (spDrawn K))
    (h7 : Has P w K mg base "_law_cut" s__law_cut ["word"] 1 spLc) (h8 : Has P w K mg base "press" s_press ["alphabet", "text"] 8 spPress) (h9 : Has P w K mg base "_law_told_right" s__law_told_right ["radix", "pieces"] 3 spTold) (h10 : Has P w K mg base "pressed_length" s_pressed_length ["size", "count"] 2 spPlen)
    (h11 : Has P w K mg base "_law_longest" s__law_longest ["signs", "word", "told"] 9 spLst) :
    FnOk P w K mg base CX0 10 f fd ["script"] (spLaw K) := by
  obtain ⟨f1, fd1, _, G__law_signs, b__law_signs, m__law_signs, k__law_signs⟩ := h1
  obtain ⟨f2, fd2, _, G__law_digits, b__law_digits, m__law_digits, k__law_digits⟩ := h2
  obtain ⟨f3, fd3, _, G__law_cell, b__law_cell, m__law_cell, k__law_cell⟩ := h3
  obtain ⟨f4, fd4, _, G__law_word, b__law_word, m__law_word, k__law_word⟩ := h4
  obtain ⟨f5, fd5, _, G__law_long_word, b__law_long_word, m__law_long_word, k__law_long_word⟩ := h5
  obtain ⟨f6, fd6, _, G__law_pieces, b__law_pieces, m__law_pieces, k__law_pieces⟩ := h6
  obtain ⟨f7, fd7, _, G__law_cut, b__law_cut, m__law_cut, k__law_cut⟩ := h7
  obtain ⟨f8, fd8, _, G_press, b_press, m_press, k_press⟩ := h8
  obtain ⟨f9, fd9, _, G__law_told_right, b__law_told_right, m__law_told_right, k__law_told_right⟩ := h9
  obtain ⟨f10, fd10, _, G_pressed_length, b_pressed_length, m_pressed_length, k_pressed_length⟩ := h10
  obtain ⟨f11, fd11, _, G__law_longest, b__law_longest, m__law_longest, k__law_longest⟩ := h11
  refine F.ok S_law (fun vs H Q E h => ?_) (fun cdv A outer s H vs Q E hr h => ?_)
  · obtain ⟨a, ns, rfl, _⟩ := h
    rfl
  obtain ⟨a, ns, rfl, hS, h63, q⟩ := h
  refine ⟨_, (pss_cons
    (ps_set (i := 1) S_law.nd rfl (Or.inl rfl) (pe_call G__law_digits (hr.mono (by decide)) rfl m__law_digits k__law_digits b__law_digits .nil pass0 (pa_cons (pe_call G__law_cell (hr.mono (by decide)) rfl m__law_cell k__law_cell b__law_cell .nil pass0 (pa_cons (pv 0) (pa_cons pe_int pa_nil))) (pa_cons (pe_lst (pa_cons pe_int (pa_cons pe_int (pa_cons pe_int (pa_cons pe_int (pa_cons pe_int (pa_cons pe_int pa_nil))))))) pa_nil))))
    (pss_cons
    (ps_for PassesOwn.never rfl (pi_list (pe_call G__law_pieces (hr.mono (by decide)) rfl m__law_pieces k__law_pieces b__law_pieces .nil pass0 (pa_cons (pv 1) (pa_cons (pe_call G__law_digits (hr.mono (by decide)) rfl m__law_digits k__law_digits b__law_digits .nil pass0 (pa_cons (pe_call G__law_cell (hr.mono (by decide)) rfl m__law_cell k__law_cell b__law_cell .nil pass0 (pa_cons (pv 0) (pa_cons pe_int pa_nil))) (pa_cons (pe_op op_rep (pe_lst (pa_cons pe_int pa_nil)) pe_int) pa_nil))) pa_nil)))) (pg_name (i := 2) S_law.nd rfl (Or.inl rfl)) (pss_one
    (ps_for PassesOwn.never rfl (pi_range2 rfl T.z_range (pa_cons pe_int (pa_cons pe_int pa_nil))) (pg_name (i := 3) S_law.nd rfl (Or.inl rfl)) (pss_one
    (ps_if (pt_not (pt_val (pe_call G__law_told_right (hr.mono (by decide)) rfl m__law_told_right k__law_told_right b__law_told_right .nil pass0 (pa_cons (pv 3) (pa_cons (pe_callB (call_min2 rfl) rfl T.z_min (by decide +kernel) (pa_cons (pv 2) (pa_cons (pe_op op_pow pe_int pe_int) pa_nil))) pa_nil))))) (pss_one
    (ps_ret pe_bl)) pss_nil)))))
    (pss_cons
    (ps_set (i := 4) S_law.nd rfl (Or.inr rfl) (pe_call G__law_signs (hr.mono (by decide)) rfl m__law_signs k__law_signs b__law_signs .nil pass0 (pa_cons (pe_call G__law_digits (hr.mono (by decide)) rfl m__law_digits k__law_digits b__law_digits .nil pass0 (pa_cons (pe_call G__law_cell (hr.mono (by decide)) rfl m__law_cell k__law_cell b__law_cell .nil pass0 (pa_cons (pv 0) (pa_cons pe_int pa_nil))) (pa_cons (pe_op op_cat (pe_lst (pa_cons pe_int pa_nil)) (pe_op op_rep (pe_lst (pa_cons pe_int pa_nil)) pe_int)) pa_nil))) pa_nil)))
    (pss_cons
    (ps_set (i := 5) S_law.nd rfl (Or.inl rfl) (pe_call G__law_word (hr.mono (by decide)) rfl m__law_word k__law_word b__law_word .nil pass0 (pa_cons (pv 4) (pa_cons (pe_call G__law_digits (hr.mono (by decide)) rfl m__law_digits k__law_digits b__law_digits .nil pass0 (pa_cons (pe_call G__law_cell (hr.mono (by decide)) rfl m__law_cell k__law_cell b__law_cell .nil pass0 (pa_cons (pv 0) (pa_cons pe_int pa_nil))) (pa_cons (pe_op op_cat (pe_lst (pa_cons pe_int (pa_cons pe_int (pa_cons pe_int pa_nil)))) (pe_op op_rep (pe_lst (pa_cons pe_int pa_nil)) pe_int)) pa_nil))) (pa_cons pe_int pa_nil)))))
    (pss_cons
    (ps_set (i := 1) S_law.nd rfl (Or.inl rfl) (pe_call G__law_digits (hr.mono (by decide)) rfl m__law_digits k__law_digits b__law_digits .nil pass0 (pa_cons (pe_call G__law_cell (hr.mono (by decide)) rfl m__law_cell k__law_cell b__law_cell .nil pass0 (pa_cons (pv 0) (pa_cons pe_int pa_nil))) (pa_cons (pe_lst (pa_cons pe_int (pa_cons pe_int (pa_cons pe_int (pa_cons pe_int (pa_cons pe_int (pa_cons pe_int (pa_cons pe_int (pa_cons pe_int (pa_cons pe_int pa_nil)))))))))) pa_nil))))
    (pss_cut
    (ps_if (pt_cmpR op_eq (pe_ix (r := rIxL K) ix_list (pv 1) pe_int (fun _ _ => rfl)) pe_int (nomark _)) (pss_one
    (ps_set (i := 5) S_law.nd rfl (Or.inl rfl) (pe_call G__law_long_word (hr.mono (by decide)) rfl m__law_long_word k__law_long_word b__law_long_word .nil pass0 (pa_cons (pv 0) (pa_cons pe_int (pa_cons (pv 4) (pa_cons (pe_slice sl_list (pv 1) (po_some pe_int) po_none) pa_nil))))))) pss_nil)
    (pss_cons
    (ps_set (i := 6) S_law.nd rfl (Or.inl rfl) (pe_join pe_str (pe_lc (own := [("letter", 11)]) (g := gName 11) (tt := tYes) rfl S_law.nd (pi_str (pv 5)) (blkOk_by (N := N_law) (sc := defScope s_law) (by decide +kernel)) (fun _ _ _ _ _ => pg_name (i := 11) S_law.nd rfl (Or.inl rfl)) (fun _ _ _ _ _ => pts_nil) (fun _ _ _ _ _ => (pe_ix ix_str (pv 4) (pe_op op_sub (pe_op op_sub (pe_callB call_len_str rfl T.z_len PySem.boot_len (pa_cons (pv 4) pa_nil)) pe_int) (show PE _ _ (tBM K "str" _ (tVar 4) (tCons (tVar 11) tNil)) from pe_bm PySem.F.plainAttrs_str PySem.F.slot_str_index PySem.F.type_str_index mt_sindex (pv 4) (pa_cons (pv 11) pa_nil))) (fun _ _ => rfl))))))
    (pss_cons
    (ps_set (i := 7) S_law.nd rfl (Or.inl rfl) (pe_callB call_len rfl T.z_len PySem.boot_len (pa_cons (pe_ix (r := rIxL K) ix_list (pe_call G__law_cut (hr.mono (by decide)) rfl m__law_cut k__law_cut b__law_cut .nil pass0 (pa_cons (pv 5) pa_nil)) pe_int (fun _ _ => rfl)) pa_nil)))
    (pss_cons
    (ps_set (i := 8) S_law.nd rfl (Or.inl rfl) (pe_call G_pressed_length (hr.mono (by decide)) rfl m_pressed_length k_pressed_length b_pressed_length .nil pass0 (pa_cons (pe_callB call_len_str rfl T.z_len PySem.boot_len (pa_cons (pv 4) pa_nil)) (pa_cons (pv 7) pa_nil))))
    (pss_cons
    (ps_for PassesOwn.never rfl (pi_list (pe_lst (pa_cons (pv 5) (pa_cons (pv 6) pa_nil)))) (pg_name (i := 9) S_law.nd rfl (Or.inl rfl)) (pss_cons
    (ps_set (i := 10) S_law.nd rfl (Or.inl rfl) (pe_call G_press (hr.mono (by decide)) rfl m_press k_press b_press .nil pass0 (pa_cons (pv 4) (pa_cons (pv 9) pa_nil))))
    (pss_one
    (ps_if (PW.pt (pw_or (pt_not (pt_val (pe_callB call_isi rfl T.z_isinstance (by decide +kernel) (pa_cons (pv 10) (pa_cons (pe_bltn (v := .ty "str") rfl T.z_str (by decide +kernel) rfl) pa_nil))))) (pw_or1 (pt_cmpR op_ne (pe_callB call_len_str rfl T.z_len PySem.boot_len (pa_cons (pv 10) pa_nil)) (pv 8) (nomark _))))) (pss_one
    (ps_ret pe_bl)) pss_nil))))
    (pss_one
    (ps_ret (pe_and (pe_call G__law_longest (hr.mono (by decide)) rfl m__law_longest k__law_longest b__law_longest .nil pass0 (pa_cons (pv 4) (pa_cons (pv 5) (pa_cons (pv 8) pa_nil)))) (pe_and (pe_call G__law_told_right (hr.mono (by decide)) rfl m__law_told_right k__law_told_right b__law_told_right .nil pass0 (pa_cons (pe_callB call_len_str rfl T.z_len PySem.boot_len (pa_cons (pv 4) pa_nil)) (pa_cons (pv 7) pa_nil))) (pe_one (pe_call G__law_longest (hr.mono (by decide)) rfl m__law_longest k__law_longest b__law_longest .nil pass0 (pa_cons (pv 4) (pa_cons (pv 6) (pa_cons (pv 8) pa_nil))))))))))))))))))), ?_⟩
  have h30 : (10 : Int) ^ (30 : Int).toNat = ((10 ^ 30 : Nat) : Int) := by rfl
  have hP : CPow 10 30 := ⟨by decide, by decide, by decide⟩
  have hml := ml_is
  -- the drawn row
  refine q_asgL (el_digs (ss := [8, 201, 1000001, 100, 3, 6]) (ev_call (ea_cons (ev_var rfl) (ea_cons ev_c ea_nil)) (sv_cell hS h63 (by decide))) (el_lst (ea_cons ev_c (ea_cons ev_c (ea_cons ev_c (ea_cons ev_c (ea_cons ev_c (ea_cons ev_c ea_nil)))))) (by show 6 ≤ 100000; decide)) (by decide) (fun i hi => ?_)) fun rp H1 hrp e1 g1 => ?_
  · have k : ∀ i, i < 6 → 0 < at0 [8, 201, 1000001, 100, 3, 6] i ∧ at0 [8, 201, 1000001, 100, 3, 6] i < 18446744073709551616 := by decide +kernel
    exact k i hi
  refine q_forTl (PP := fun x H2 => ∃ (p : Addr) (xs : List Int), x = .ref p ∧ Ex H H2 ∧ H2 p = some (.lst (xs.map V.int)) ∧ ∀ x ∈ xs, 0 ≤ x) (fun Q2 q2 => run_call2E (ev_var rfl) (el_digs (ss := List.replicate 10 1000) (ev_call (ea_cons (ev_var rfl) (ea_cons ev_c ea_nil)) (sv_cell (ex_l e1 hS) h63 (by decide))) (el_is (el_rep (n := 10) (el_lst (ea_cons ev_c ea_nil) (by show 1 ≤ 100000; decide)) (fun _ _ => ev_c) (by show 1 * 10 ≤ 100000; decide) (by decide)) rfl) (by decide) (fun i hi => ?_)) fun p H2 e2 g2 => ⟨rp, p, _, _, rfl, sq_of (e2 _ _ g1), sq_of g2, p_row _ _, fun xs hxl hxn p2 H3 hp2 e3 g3 => q2 _ _ ⟨p2, xs, rfl, (e1.trans e2).trans e3, g3, hxn⟩⟩) ?_
  · have k : ∀ i, i < 10 → 0 < at0 (List.replicate 10 1000) i ∧ at0 (List.replicate 10 1000) i < 18446744073709551616 := by decide +kernel
    exact k i hi
  rintro x H2 ⟨p, xs, rfl, e2, g2, hxn⟩
  refine ⟨p, rfl, xs.map V.int, sq_of g2, fun i σ' H' => (∃ u2 u3, σ' = [some (.ref a), some (.ref rp), u2, u3, none, none, none, none, none, none, none, none]) ∧ Ex H2 H', ⟨⟨none, none, rfl⟩, Ex.refl H2⟩, fun i σ' H' _ z => sq_of (z.2 _ _ g2), fun i x σ' H' hx z => ?_, fun σ' H' z => ?_⟩
  · obtain ⟨⟨u2, u3, rfl⟩, e3⟩ := z
    obtain ⟨y, hy, rfl⟩ := List.mem_map.mp (List.mem_of_getElem? hx)
    have hy0 := hxn y hy
    obtain ⟨n, rfl⟩ : ∃ n : Nat, y = (n : Int) := ⟨y.toNat, by omega⟩
    show tFor _ _ _ _ _ _
    refine s_forR2 (lo := 1) (n := 7) (ea_cons ev_c (ea_cons ev_c ea_nil)) (by decide) (fun i σ' H' => (∃ u3, σ' = [some (.ref a), some (.ref rp), some (.int (n : Int)), u3, none, none, none, none, none, none, none, none]) ∧ Ex H2 H') ?_ ?_ ?_
    · intro H4 e4
      exact ⟨⟨u3, rfl⟩, e3.trans e4⟩
    · intro j σ' H' hj z
      obtain ⟨⟨u3, rfl⟩, e4⟩ := z
      refine s_skip (et_is (et_not (et_B (ev_call (ea_cons (ev_var rfl) (ea_cons (ev_cb (ea_cons (ev_var rfl) (ea_cons (ev_op ev_c ev_c (rv_I hP)) ea_nil)) rc_min) ea_nil)) (fun H5 e5 Q5 q5 E5 => ⟨1 + j, min n (10 ^ 30), ?_, by omega, by omega, by rw [ml_is]; omega, q5⟩)))) rfl) fun H5 e5 => ⟨⟨_, rfl⟩, e4.trans e5⟩
      show [V.int (1 + (j : Int)), V.int (min (n : Int) ((10 : Int) ^ (30 : Int).toNat))] = _
      have e9 : min (n : Int) ((10 : Int) ^ (30 : Int).toNat) = ((min n (10 ^ 30) : Nat) : Int) := by
        rw [h30]
        omega
      rw [e9]
      rfl
    · intro σ' H' z
      obtain ⟨⟨u3, rfl⟩, e4⟩ := z
      exact ⟨⟨_, _, rfl⟩, e4⟩
  obtain ⟨⟨u2, u3, rfl⟩, e3⟩ := z
  have e03 := e2.trans e3
  -- signs
  refine q_asgX (run_call1L (el_digs (ss := [12] ++ List.replicate 6 36) (ev_call (ea_cons (ev_var rfl) (ea_cons ev_c ea_nil)) (sv_cell (ex_l e03 hS) h63 (by decide))) (el_is (el_catL (el_lst (ea_cons ev_c ea_nil) (by show 1 ≤ 100000; decide)) (el_rep (n := 6) (el_lst (ea_cons ev_c ea_nil) (by show 1 ≤ 100000; decide)) (fun _ _ => ev_c) (by show 1 * 6 ≤ 100000; decide) (by decide)) (by decide)) rfl) (by decide) (fun i hi => ?_)) fun p H1 e1 g1 => ⟨p, _, rfl, sq_of g1, by rw [digits_len]; rfl, digits_at (i := 0) (by decide) (by decide), fun al hA H2 e2 => ?_⟩)
  · have k : ∀ i, i < 7 → 0 < at0 ([12] ++ List.replicate 6 36) i ∧ at0 ([12] ++ List.replicate 6 36) i < 18446744073709551616 := by decide +kernel
    exact k i hi
  have e12 := (e03.trans e1).trans e2
  clear e1 e2 e3 g1 g2 e03
  -- word
  refine q_asgX (run_call3M (ev_var rfl) (el_digs (ss := SZ) (ev_call (ea_cons (ev_var rfl) (ea_cons ev_c ea_nil)) (sv_cell (ex_l e12 hS) h63 (by decide))) (el_is (el_catL (el_lst (ea_cons ev_c (ea_cons ev_c (ea_cons ev_c ea_nil))) (by show 3 ≤ 100000; decide)) (el_rep (n := 46) (el_lst (ea_cons ev_c ea_nil) (by show 1 ≤ 100000; decide)) (fun _ _ => ev_c) (by show 1 * 46 ≤ 100000; decide) (by decide)) (by decide)) rfl) (by rw [sz_len]; decide) (fun i hi => by rw [sz_len] at hi; have := sz_pos i hi; omega)) (fun _ _ => ev_c) fun p H4 e4 g4 => ⟨al, p, _, rfl, hA, sq_of g4, w_row _, fun v0 hv0 H5 e5 => ?_⟩)
  have e15 := (e12.trans e4).trans e5
  -- row, another word
  refine q_asgL (el_digs (ss := [8, 8, 401, 6, 6, 6, 6, 6, 401]) (ev_call (ea_cons (ev_var rfl) (ea_cons ev_c ea_nil)) (sv_cell (ex_l e15 hS) h63 (by decide))) (el_lst (ea_cons ev_c (ea_cons ev_c (ea_cons ev_c (ea_cons ev_c (ea_cons ev_c (ea_cons ev_c (ea_cons ev_c (ea_cons ev_c (ea_cons ev_c ea_nil))))))))) (by show 9 ≤ 100000; decide)) (by decide) (fun i hi => ?_)) fun rp2 H6 hrp e6 g6 => ?_
  · have k : ∀ i, i < 9 → 0 < at0 [8, 8, 401, 6, 6, 6, 6, 6, 401] i ∧ at0 [8, 8, 401, 6, 6, 6, 6, 6, 401] i < 18446744073709551616 := by decide +kernel
    exact k i hi
  have e16 := e15.trans e6
  have dlen : (digits (cell ns 4) [8, 8, 401, 6, 6, 6, 6, 6, 401]).length = 9 := digits_len _ _
  have d2 := digits_at (c := cell ns 4) (ss := [8, 8, 401, 6, 6, 6, 6, 6, 401]) (i := 2) (by decide) (by decide)
  generalize digits (cell ns 4) [8, 8, 401, 6, 6, 6, 6, 6, 401] = rw' at *
  refine q_cut (M := fun σ' H' => ∃ v, σ' = [some (.ref a), some (.ref rp2), u2, u3, some (tx al), some (tx v), none, none, none, none, none, none] ∧ Ex H6 H' ∧ Word al 400 v) ?_ ?_
  · refine s_when (D := { nx := _, rt := _, bk := _, ct := _ }) (et_eqI (ev_atI (sq_of g6) (i := 0) (by omega) rfl (ev_var rfl) ev_c) ev_c) (fun hb H7 e7 => ?_) (fun hb H7 e7 => ?_)
    · refine s_asgX (run_call4E (ev_var rfl) (ev_c (v := .int ((5 : Nat) : Int))) (ev_var rfl) (el_from (n := 1) rfl (ev_var rfl) (sq_of (e7 _ _ g6))) fun p H8 e8 g8 => ⟨a, p, al, ns, _, 5, rfl, hA, ex_l ((e16.trans e7).trans e8) hS, h63, by decide, sq_of g8, ⟨by rw [List.length_drop, dlen], by rw [at0_drop]; exact d2⟩, fun v hv H9 e9 => ⟨v, rfl, (e7.trans e8).trans e9, hv⟩⟩)
    · exact ⟨v0, rfl, e7, hv0.over, by have := hv0.len; omega⟩
  · rintro σ' H7 ⟨v, rfl, e7, hv⟩
    have hvo := hv.over
    have hvl := hv.len
    have hal6 := hA.six
    have hal1 := hA.pos
    have nd : al.Nodup := hA.nd
    have hW2 : Word al 400 (v.map (flip al)) := ⟨fun c hc => by
      obtain ⟨d, hd, rfl⟩ := List.mem_map.mp hc
      exact (flip_mem (hvo d hd)).1, by rw [List.length_map]; exact hvl⟩
    have hpc := flip_pieces nd hvo
    -- turned
    refine q_asg (v := tx (v.map (flip al))) (ev_is (ev_joinL (ps := v.map fun c => [flip al c]) (ev_is ev_c (by rw [nil_is])) (el_is (el_lcS (x := v) (fun c => tx [flip al c]) (ev_var rfl) (by omega) (fun _ => rfl) (fun i c H8 e8 hc => ?_)) (by rw [List.map_map]; rfl)) (by rw [flat_eachs, List.length_map]; omega)) (by rw [flat_eachs])) fun H8 e8 => ?_
    · have hcm := hvo c (List.mem_of_getElem? hc)
      have hix := List.idxOf_lt_length_of_mem hcm
      refine ev_ixS (i := al.length - 1 - al.idxOf c) (by omega) (flip_mem hcm).2 (ev_var rfl) (ev_is (ev_sub (ev_sub (ev_lenS (by omega) (ev_var rfl)) ev_c) (ev_sidx (i := al.idxOf c) nd (by rw [List.getElem?_eq_getElem hix, List.getElem_idxOf hix]) (ev_var rfl) (ev_var rfl))) ?_)
      congr 1
      omega
    refine q_asg (ev_cutLen hvo (by omega) (ev_var rfl)) fun H9 e9 => ?_
    have hlen : (cutW v).1.length < ML := by
      have := (cut_ok v hvo).few
      rw [ml_is]
      omega
    refine q_asg (ev_call (ea_cons (ev_lenS (by omega) (ev_var rfl)) (ea_cons (ev_var rfl) ea_nil)) (sv_plen hal1 hal6 hlen)) fun H10 e10 => ?_
    have hblk : ∀ x : List Nat, (∀ c ∈ x, c ∈ al) → (blk al (cutW x)).length = plen al.length (cutW x).1.length := fun x hx => by
      rw [blk_cut_len hA hx, bln_is]
    refine q_forNLn (xs := [tx v, tx (v.map (flip al))]) (el_lst (ea_cons (ev_var rfl) (ea_cons (ev_var rfl) ea_nil)) (by show 2 ≤ 100000; decide))
      (fun p i σ' H' => (∃ u9 u10, σ' = [some (.ref a), some (.ref rp2), u2, u3, some (tx al), some (tx v), some (tx (v.map (flip al))), some (.int ((cutW v).1.length : Int)), some (.int (plen al.length (cutW v).1.length : Int)), u9, u10, none]) ∧ H' p = some (.lst [tx v, tx (v.map (flip al))])) ?_ ?_ ?_ ?_
    · intro p H11 hp e11 g11
      exact ⟨⟨none, none, rfl⟩, g11⟩
    · intro p i σ' H' _ z
      exact sq_of z.2
    · intro p i x σ' H' hx z
      obtain ⟨⟨u9, u10, rfl⟩, g11⟩ := z
      have hx2 : ∃ y : List Nat, x = tx y ∧ Word al 400 y ∧ (cutW y).1.length = (cutW v).1.length := by
        match i, hx with
        | 0, hx => exact ⟨v, (Option.some.inj hx).symm, hv, rfl⟩
        | 1, hx => exact ⟨_, (Option.some.inj hx).symm, hW2, hpc⟩
      obtain ⟨y, rfl, hy, hyc⟩ := hx2
      have hyl := hy.len
      have hb := hblk y hy.over
      have hbz : plen al.length (cutW v).1.length ≤ 100000 := plen_le hal6 (by have := (cut_ok v hvo).few; omega)
      refine q_asg (ev_call (ea_cons (ev_var rfl) (ea_cons (ev_var rfl) ea_nil)) (sv_press hA hy.over (by omega))) fun H12 e12 => ?_
      refine s_skip (et_is (et_or (et_not (et_B (ev_cb (ea_cons (ev_var rfl) (ea_cons ev_c ea_nil)) (rc_isiS (b := true) (by decide +kernel))))) (fun _ => et_neI (ev_lenS (by rw [hb, hyc]; omega) (ev_var rfl)) (ev_var rfl))) (by rw [hb, hyc]; simp)) fun H13 e13 => ⟨⟨_, _, rfl⟩, e13 _ _ (e12 _ _ g11)⟩
    · intro p σ' H' z
      obtain ⟨⟨u9, u10, rfl⟩, g11⟩ := z
      have s1 : ∀ {H1 : Hp} (y : List Nat), Word al 400 y → (cutW y).1.length = (cutW v).1.length → SpV spLst ([tx al, tx y, .int (plen al.length (cutW v).1.length : Int)] ++ []) H1 (.bl true) := fun y hy e H2 _ Q' q' _ => ⟨al, y, by rw [e]; rfl, hA, hy, q'⟩
      refine s_ret (ev_is (ev_andV (a := true) (ev_call (ea_cons (ev_var rfl) (ea_cons (ev_var rfl) (ea_cons (ev_var rfl) ea_nil))) (s1 v hv rfl)) (fun _ => ev_andV (a := true) (b := true) (ev_call (ea_cons (ev_lenS (by omega) (ev_var rfl)) (ea_cons (ev_var rfl) ea_nil)) (fun H2 _ Q' q' _ => ⟨al.length, (cutW v).1.length, rfl, hal1, hal6, hlen, q'⟩)) (fun _ => ev_call (ea_cons (ev_var rfl) (ea_cons (ev_var rfl) (ea_cons (ev_var rfl) ea_nil))) (s1 _ hW2 hpc)))) rfl) fun H20 e22 => q H20
end
end Ver
namespace Ver
open PySem PySem.Spec PyProof.Rows L2 Evl
theorem at_mk {K : PySem.W.Frag} {h : Heap} {mg : Str → Option Value} {x : Str} {st : Stmt} {f : Addr} {oc : Value} {od an : Option Addr} {osl : Array (Option Value)} {kV doc pm cdv ct : Value} (X : K.In h) (G : h.Ns mainGlobals mg)
    (a : PySem.W.nsIn K mainGlobals x = some (some (.ref f))) (l : K.lookup f = some ⟨oc, od, .func (PySem.W.fnOf x x (defArgs st) (defBody st) (defScope st) .none kV doc pm an cdv ct), osl⟩) (c : PySem.W.codeIn K cdv x = true) (k : PySem.W.keepIn K (.ref f) = true) : At K mg x st :=
  ⟨⟨f, _, fun_mk l c k, PySem.W.mg_of X G a⟩⟩
theorem all_mk {l : PySem.W.OpenLaw} {w : World} {K : PySem.W.Frag} {h : Heap} {mg : Str → Option Value} {fa : Addr} (X : K.In h) (G : h.Ns mainGlobals mg) (hfa : mg "law" = some (.ref fa))
    {f0 : Addr} {od0 an0 : Option Addr} {sl0 : Array (Option Value)} {oc0 kV0 dc0 pm0 cd0 ct0 : Value}
    {f1 : Addr} {od1 an1 : Option Addr} {sl1 : Array (Option Value)} {oc1 kV1 dc1 pm1 cd1 ct1 : Value}
    {f2 : Addr} {od2 an2 : Option Addr} {sl2 : Array (Option Value)} {oc2 kV2 dc2 pm2 cd2 ct2 : Value}
    {f3 : Addr} {od3 an3 : Option Addr} {sl3 : Array (Option Value)} {oc3 kV3 dc3 pm3 cd3 ct3 : Value}
    {f4 : Addr} {od4 an4 : Option Addr} {sl4 : Array (Option Value)} {oc4 kV4 dc4 pm4 cd4 ct4 : Value}
    {f5 : Addr} {od5 an5 : Option Addr} {sl5 : Array (Option Value)} {oc5 kV5 dc5 pm5 cd5 ct5 : Value}
    {f6 : Addr} {od6 an6 : Option Addr} {sl6 : Array (Option Value)} {oc6 kV6 dc6 pm6 cd6 ct6 : Value}
    {f7 : Addr} {od7 an7 : Option Addr} {sl7 : Array (Option Value)} {oc7 kV7 dc7 pm7 cd7 ct7 : Value}
    {f8 : Addr} {od8 an8 : Option Addr} {sl8 : Array (Option Value)} {oc8 kV8 dc8 pm8 cd8 ct8 : Value}
    {f9 : Addr} {od9 an9 : Option Addr} {sl9 : Array (Option Value)} {oc9 kV9 dc9 pm9 cd9 ct9 : Value}
    {f10 : Addr} {od10 an10 : Option Addr} {sl10 : Array (Option Value)} {oc10 kV10 dc10 pm10 cd10 ct10 : Value}
    {f11 : Addr} {od11 an11 : Option Addr} {sl11 : Array (Option Value)} {oc11 kV11 dc11 pm11 cd11 ct11 : Value}
    {f12 : Addr} {od12 an12 : Option Addr} {sl12 : Array (Option Value)} {oc12 kV12 dc12 pm12 cd12 ct12 : Value}
    {f13 : Addr} {od13 an13 : Option Addr} {sl13 : Array (Option Value)} {oc13 kV13 dc13 pm13 cd13 ct13 : Value}
    {f14 : Addr} {od14 an14 : Option Addr} {sl14 : Array (Option Value)} {oc14 kV14 dc14 pm14 cd14 ct14 : Value}
    {f15 : Addr} {od15 an15 : Option Addr} {sl15 : Array (Option Value)} {oc15 kV15 dc15 pm15 cd15 ct15 : Value}
    {f16 : Addr} {od16 an16 : Option Addr} {sl16 : Array (Option Value)} {oc16 kV16 dc16 pm16 cd16 ct16 : Value}
    {f17 : Addr} {od17 an17 : Option Addr} {sl17 : Array (Option Value)} {oc17 kV17 dc17 pm17 cd17 ct17 : Value}
    {f18 : Addr} {od18 an18 : Option Addr} {sl18 : Array (Option Value)} {oc18 kV18 dc18 pm18 cd18 ct18 : Value}
    {f19 : Addr} {od19 an19 : Option Addr} {sl19 : Array (Option Value)} {oc19 kV19 dc19 pm19 cd19 ct19 : Value}
    {f20 : Addr} {od20 an20 : Option Addr} {sl20 : Array (Option Value)} {oc20 kV20 dc20 pm20 cd20 ct20 : Value}
    {f21 : Addr} {od21 an21 : Option Addr} {sl21 : Array (Option Value)} {oc21 kV21 dc21 pm21 cd21 ct21 : Value}
    {f22 : Addr} {od22 an22 : Option Addr} {sl22 : Array (Option Value)} {oc22 kV22 dc22 pm22 cd22 ct22 : Value}
    {f23 : Addr} {od23 an23 : Option Addr} {sl23 : Array (Option Value)} {oc23 kV23 dc23 pm23 cd23 ct23 : Value}
    {f24 : Addr} {od24 an24 : Option Addr} {sl24 : Array (Option Value)} {oc24 kV24 dc24 pm24 cd24 ct24 : Value}
    {f25 : Addr} {od25 an25 : Option Addr} {sl25 : Array (Option Value)} {oc25 kV25 dc25 pm25 cd25 ct25 : Value}
    {f26 : Addr} {od26 an26 : Option Addr} {sl26 : Array (Option Value)} {oc26 kV26 dc26 pm26 cd26 ct26 : Value}
    {f27 : Addr} {od27 an27 : Option Addr} {sl27 : Array (Option Value)} {oc27 kV27 dc27 pm27 cd27 ct27 : Value}
    {f28 : Addr} {od28 an28 : Option Addr} {sl28 : Array (Option Value)} {oc28 kV28 dc28 pm28 cd28 ct28 : Value}
    {f29 : Addr} {od29 an29 : Option Addr} {sl29 : Array (Option Value)} {oc29 kV29 dc29 pm29 cd29 ct29 : Value}
    {f30 : Addr} {od30 an30 : Option Addr} {sl30 : Array (Option Value)} {oc30 kV30 dc30 pm30 cd30 ct30 : Value}
    {f31 : Addr} {od31 an31 : Option Addr} {sl31 : Array (Option Value)} {oc31 kV31 dc31 pm31 cd31 ct31 : Value}
    {f32 : Addr} {od32 an32 : Option Addr} {sl32 : Array (Option Value)} {oc32 kV32 dc32 pm32 cd32 ct32 : Value}
    {f33 : Addr} {od33 an33 : Option Addr} {sl33 : Array (Option Value)} {oc33 kV33 dc33 pm33 cd33 ct33 : Value}
    {f34 : Addr} {od34 an34 : Option Addr} {sl34 : Array (Option Value)} {oc34 kV34 dc34 pm34 cd34 ct34 : Value}
    {f35 : Addr} {od35 an35 : Option Addr} {sl35 : Array (Option Value)} {oc35 kV35 dc35 pm35 cd35 ct35 : Value}
    {f36 : Addr} {od36 an36 : Option Addr} {sl36 : Array (Option Value)} {oc36 kV36 dc36 pm36 cd36 ct36 : Value}
    {f37 : Addr} {od37 an37 : Option Addr} {sl37 : Array (Option Value)} {oc37 kV37 dc37 pm37 cd37 ct37 : Value}
    {f38 : Addr} {od38 an38 : Option Addr} {sl38 : Array (Option Value)} {oc38 kV38 dc38 pm38 cd38 ct38 : Value}
    {f39 : Addr} {od39 an39 : Option Addr} {sl39 : Array (Option Value)} {oc39 kV39 dc39 pm39 cd39 ct39 : Value}
    {C_Cut : Addr}
    {t_LETTERS : Tok}
    {t_MOST_LETTERS : Tok}
    (a0 : PySem.W.nsIn K mainGlobals "is_alphabet" = some (some (.ref f0)))
    (l0 : K.lookup f0 = some ⟨oc0, od0, .func (PySem.W.fnOf "is_alphabet" "is_alphabet" (defArgs s_is_alphabet) (defBody s_is_alphabet) (defScope s_is_alphabet) .none kV0 dc0 pm0 an0 cd0 ct0), sl0⟩)
    (c0 : PySem.W.codeIn K cd0 "is_alphabet" = true) (k0 : PySem.W.keepIn K (.ref f0) = true)
    (a1 : PySem.W.nsIn K mainGlobals "is_letter" = some (some (.ref f1)))
    (l1 : K.lookup f1 = some ⟨oc1, od1, .func (PySem.W.fnOf "is_letter" "is_letter" (defArgs s_is_letter) (defBody s_is_letter) (defScope s_is_letter) .none kV1 dc1 pm1 an1 cd1 ct1), sl1⟩)
    (c1 : PySem.W.codeIn K cd1 "is_letter" = true) (k1 : PySem.W.keepIn K (.ref f1) = true)
    (a2 : PySem.W.nsIn K mainGlobals "check_alphabet" = some (some (.ref f2)))
    (l2 : K.lookup f2 = some ⟨oc2, od2, .func (PySem.W.fnOf "check_alphabet" "check_alphabet" (defArgs s_check_alphabet) (defBody s_check_alphabet) (defScope s_check_alphabet) .none kV2 dc2 pm2 an2 cd2 ct2), sl2⟩)
    (c2 : PySem.W.codeIn K cd2 "check_alphabet" = true) (k2 : PySem.W.keepIn K (.ref f2) = true)
    (a3 : PySem.W.nsIn K mainGlobals "check_text" = some (some (.ref f3)))
    (l3 : K.lookup f3 = some ⟨oc3, od3, .func (PySem.W.fnOf "check_text" "check_text" (defArgs s_check_text) (defBody s_check_text) (defScope s_check_text) .none kV3 dc3 pm3 an3 cd3 ct3), sl3⟩)
    (c3 : PySem.W.codeIn K cd3 "check_text" = true) (k3 : PySem.W.keepIn K (.ref f3) = true)
    (a4 : PySem.W.nsIn K mainGlobals "is_whole" = some (some (.ref f4)))
    (l4 : K.lookup f4 = some ⟨oc4, od4, .func (PySem.W.fnOf "is_whole" "is_whole" (defArgs s_is_whole) (defBody s_is_whole) (defScope s_is_whole) .none kV4 dc4 pm4 an4 cd4 ct4), sl4⟩)
    (c4 : PySem.W.codeIn K cd4 "is_whole" = true) (k4 : PySem.W.keepIn K (.ref f4) = true)
    (a5 : PySem.W.nsIn K mainGlobals "is_number_below" = some (some (.ref f5)))
    (l5 : K.lookup f5 = some ⟨oc5, od5, .func (PySem.W.fnOf "is_number_below" "is_number_below" (defArgs s_is_number_below) (defBody s_is_number_below) (defScope s_is_number_below) .none kV5 dc5 pm5 an5 cd5 ct5), sl5⟩)
    (c5 : PySem.W.codeIn K cd5 "is_number_below" = true) (k5 : PySem.W.keepIn K (.ref f5) = true)
    (a6 : PySem.W.nsIn K mainGlobals "as_tuples" = some (some (.ref f6)))
    (l6 : K.lookup f6 = some ⟨oc6, od6, .func (PySem.W.fnOf "as_tuples" "as_tuples" (defArgs s_as_tuples) (defBody s_as_tuples) (defScope s_as_tuples) .none kV6 dc6 pm6 an6 cd6 ct6), sl6⟩)
    (c6 : PySem.W.codeIn K cd6 "as_tuples" = true) (k6 : PySem.W.keepIn K (.ref f6) = true)
    (a7 : PySem.W.nsIn K mainGlobals "check_rows" = some (some (.ref f7)))
    (l7 : K.lookup f7 = some ⟨oc7, od7, .func (PySem.W.fnOf "check_rows" "check_rows" (defArgs s_check_rows) (defBody s_check_rows) (defScope s_check_rows) .none kV7 dc7 pm7 an7 cd7 ct7), sl7⟩)
    (c7 : PySem.W.codeIn K cd7 "check_rows" = true) (k7 : PySem.W.keepIn K (.ref f7) = true)
    (a8 : PySem.W.nsIn K mainGlobals "pieces_of" = some (some (.ref f8)))
    (l8 : K.lookup f8 = some ⟨oc8, od8, .func (PySem.W.fnOf "pieces_of" "pieces_of" (defArgs s_pieces_of) (defBody s_pieces_of) (defScope s_pieces_of) .none kV8 dc8 pm8 an8 cd8 ct8), sl8⟩)
    (c8 : PySem.W.codeIn K cd8 "pieces_of" = true) (k8 : PySem.W.keepIn K (.ref f8) = true)
    (a9 : PySem.W.nsIn K mainGlobals "starts_of" = some (some (.ref f9)))
    (l9 : K.lookup f9 = some ⟨oc9, od9, .func (PySem.W.fnOf "starts_of" "starts_of" (defArgs s_starts_of) (defBody s_starts_of) (defScope s_starts_of) .none kV9 dc9 pm9 an9 cd9 ct9), sl9⟩)
    (c9 : PySem.W.codeIn K cd9 "starts_of" = true) (k9 : PySem.W.keepIn K (.ref f9) = true)
    (a10 : PySem.W.nsIn K mainGlobals "cut_of" = some (some (.ref f10)))
    (l10 : K.lookup f10 = some ⟨oc10, od10, .func (PySem.W.fnOf "cut_of" "cut_of" (defArgs s_cut_of) (defBody s_cut_of) (defScope s_cut_of) .none kV10 dc10 pm10 an10 cd10 ct10), sl10⟩)
    (c10 : PySem.W.codeIn K cd10 "cut_of" = true) (k10 : PySem.W.keepIn K (.ref f10) = true)
    (a11 : PySem.W.nsIn K mainGlobals "width" = some (some (.ref f11)))
    (l11 : K.lookup f11 = some ⟨oc11, od11, .func (PySem.W.fnOf "width" "width" (defArgs s_width) (defBody s_width) (defScope s_width) .none kV11 dc11 pm11 an11 cd11 ct11), sl11⟩)
    (c11 : PySem.W.codeIn K cd11 "width" = true) (k11 : PySem.W.keepIn K (.ref f11) = true)
    (a12 : PySem.W.nsIn K mainGlobals "number_bits" = some (some (.ref f12)))
    (l12 : K.lookup f12 = some ⟨oc12, od12, .func (PySem.W.fnOf "number_bits" "number_bits" (defArgs s_number_bits) (defBody s_number_bits) (defScope s_number_bits) .none kV12 dc12 pm12 an12 cd12 ct12), sl12⟩)
    (c12 : PySem.W.codeIn K cd12 "number_bits" = true) (k12 : PySem.W.keepIn K (.ref f12) = true)
    (a13 : PySem.W.nsIn K mainGlobals "free_places" = some (some (.ref f13)))
    (l13 : K.lookup f13 = some ⟨oc13, od13, .func (PySem.W.fnOf "free_places" "free_places" (defArgs s_free_places) (defBody s_free_places) (defScope s_free_places) .none kV13 dc13 pm13 an13 cd13 ct13), sl13⟩)
    (c13 : PySem.W.codeIn K cd13 "free_places" = true) (k13 : PySem.W.keepIn K (.ref f13) = true)
    (a14 : PySem.W.nsIn K mainGlobals "count_below" = some (some (.ref f14)))
    (l14 : K.lookup f14 = some ⟨oc14, od14, .func (PySem.W.fnOf "count_below" "count_below" (defArgs s_count_below) (defBody s_count_below) (defScope s_count_below) .none kV14 dc14 pm14 an14 cd14 ct14), sl14⟩)
    (c14 : PySem.W.codeIn K cd14 "count_below" = true) (k14 : PySem.W.keepIn K (.ref f14) = true)
    (a15 : PySem.W.nsIn K mainGlobals "place_numbers" = some (some (.ref f15)))
    (l15 : K.lookup f15 = some ⟨oc15, od15, .func (PySem.W.fnOf "place_numbers" "place_numbers" (defArgs s_place_numbers) (defBody s_place_numbers) (defScope s_place_numbers) .none kV15 dc15 pm15 an15 cd15 ct15), sl15⟩)
    (c15 : PySem.W.codeIn K cd15 "place_numbers" = true) (k15 : PySem.W.keepIn K (.ref f15) = true)
    (a16 : PySem.W.nsIn K mainGlobals "press" = some (some (.ref f16)))
    (l16 : K.lookup f16 = some ⟨oc16, od16, .func (PySem.W.fnOf "press" "press" (defArgs s_press) (defBody s_press) (defScope s_press) .none kV16 dc16 pm16 an16 cd16 ct16), sl16⟩)
    (c16 : PySem.W.codeIn K cd16 "press" = true) (k16 : PySem.W.keepIn K (.ref f16) = true)
    (a17 : PySem.W.nsIn K mainGlobals "width_total" = some (some (.ref f17)))
    (l17 : K.lookup f17 = some ⟨oc17, od17, .func (PySem.W.fnOf "width_total" "width_total" (defArgs s_width_total) (defBody s_width_total) (defScope s_width_total) .none kV17 dc17 pm17 an17 cd17 ct17), sl17⟩)
    (c17 : PySem.W.codeIn K cd17 "width_total" = true) (k17 : PySem.W.keepIn K (.ref f17) = true)
    (a18 : PySem.W.nsIn K mainGlobals "pressed_length" = some (some (.ref f18)))
    (l18 : K.lookup f18 = some ⟨oc18, od18, .func (PySem.W.fnOf "pressed_length" "pressed_length" (defArgs s_pressed_length) (defBody s_pressed_length) (defScope s_pressed_length) .none kV18 dc18 pm18 an18 cd18 ct18), sl18⟩)
    (c18 : PySem.W.codeIn K cd18 "pressed_length" = true) (k18 : PySem.W.keepIn K (.ref f18) = true)
    (a19 : PySem.W.nsIn K mainGlobals "fill" = some (some (.ref f19)))
    (l19 : K.lookup f19 = some ⟨oc19, od19, .func (PySem.W.fnOf "fill" "fill" (defArgs s_fill) (defBody s_fill) (defScope s_fill) .none kV19 dc19 pm19 an19 cd19 ct19), sl19⟩)
    (c19 : PySem.W.codeIn K cd19 "fill" = true) (k19 : PySem.W.keepIn K (.ref f19) = true)
    (a20 : PySem.W.nsIn K mainGlobals "_law_whole" = some (some (.ref f20)))
    (l20 : K.lookup f20 = some ⟨oc20, od20, .func (PySem.W.fnOf "_law_whole" "_law_whole" (defArgs s__law_whole) (defBody s__law_whole) (defScope s__law_whole) .none kV20 dc20 pm20 an20 cd20 ct20), sl20⟩)
    (c20 : PySem.W.codeIn K cd20 "_law_whole" = true) (k20 : PySem.W.keepIn K (.ref f20) = true)
    (a21 : PySem.W.nsIn K mainGlobals "_law_cell" = some (some (.ref f21)))
    (l21 : K.lookup f21 = some ⟨oc21, od21, .func (PySem.W.fnOf "_law_cell" "_law_cell" (defArgs s__law_cell) (defBody s__law_cell) (defScope s__law_cell) .none kV21 dc21 pm21 an21 cd21 ct21), sl21⟩)
    (c21 : PySem.W.codeIn K cd21 "_law_cell" = true) (k21 : PySem.W.keepIn K (.ref f21) = true)
    (a22 : PySem.W.nsIn K mainGlobals "_law_digits" = some (some (.ref f22)))
    (l22 : K.lookup f22 = some ⟨oc22, od22, .func (PySem.W.fnOf "_law_digits" "_law_digits" (defArgs s__law_digits) (defBody s__law_digits) (defScope s__law_digits) .none kV22 dc22 pm22 an22 cd22 ct22), sl22⟩)
    (c22 : PySem.W.codeIn K cd22 "_law_digits" = true) (k22 : PySem.W.keepIn K (.ref f22) = true)
    (a23 : PySem.W.nsIn K mainGlobals "_law_signs" = some (some (.ref f23)))
    (l23 : K.lookup f23 = some ⟨oc23, od23, .func (PySem.W.fnOf "_law_signs" "_law_signs" (defArgs s__law_signs) (defBody s__law_signs) (defScope s__law_signs) .none kV23 dc23 pm23 an23 cd23 ct23), sl23⟩)
    (c23 : PySem.W.codeIn K cd23 "_law_signs" = true) (k23 : PySem.W.keepIn K (.ref f23) = true)
    (a24 : PySem.W.nsIn K mainGlobals "_law_free_word" = some (some (.ref f24)))
    (l24 : K.lookup f24 = some ⟨oc24, od24, .func (PySem.W.fnOf "_law_free_word" "_law_free_word" (defArgs s__law_free_word) (defBody s__law_free_word) (defScope s__law_free_word) .none kV24 dc24 pm24 an24 cd24 ct24), sl24⟩)
    (c24 : PySem.W.codeIn K cd24 "_law_free_word" = true) (k24 : PySem.W.keepIn K (.ref f24) = true)
    (a25 : PySem.W.nsIn K mainGlobals "_law_counting_word" = some (some (.ref f25)))
    (l25 : K.lookup f25 = some ⟨oc25, od25, .func (PySem.W.fnOf "_law_counting_word" "_law_counting_word" (defArgs s__law_counting_word) (defBody s__law_counting_word) (defScope s__law_counting_word) .none kV25 dc25 pm25 an25 cd25 ct25), sl25⟩)
    (c25 : PySem.W.codeIn K cd25 "_law_counting_word" = true) (k25 : PySem.W.keepIn K (.ref f25) = true)
    (a26 : PySem.W.nsIn K mainGlobals "_law_word" = some (some (.ref f26)))
    (l26 : K.lookup f26 = some ⟨oc26, od26, .func (PySem.W.fnOf "_law_word" "_law_word" (defArgs s__law_word) (defBody s__law_word) (defScope s__law_word) .none kV26 dc26 pm26 an26 cd26 ct26), sl26⟩)
    (c26 : PySem.W.codeIn K cd26 "_law_word" = true) (k26 : PySem.W.keepIn K (.ref f26) = true)
    (a27 : PySem.W.nsIn K mainGlobals "_law_long_word" = some (some (.ref f27)))
    (l27 : K.lookup f27 = some ⟨oc27, od27, .func (PySem.W.fnOf "_law_long_word" "_law_long_word" (defArgs s__law_long_word) (defBody s__law_long_word) (defScope s__law_long_word) .none kV27 dc27 pm27 an27 cd27 ct27), sl27⟩)
    (c27 : PySem.W.codeIn K cd27 "_law_long_word" = true) (k27 : PySem.W.keepIn K (.ref f27) = true)
    (a28 : PySem.W.nsIn K mainGlobals "_law_cut" = some (some (.ref f28)))
    (l28 : K.lookup f28 = some ⟨oc28, od28, .func (PySem.W.fnOf "_law_cut" "_law_cut" (defArgs s__law_cut) (defBody s__law_cut) (defScope s__law_cut) .none kV28 dc28 pm28 an28 cd28 ct28), sl28⟩)
    (c28 : PySem.W.codeIn K cd28 "_law_cut" = true) (k28 : PySem.W.keepIn K (.ref f28) = true)
    (a29 : PySem.W.nsIn K mainGlobals "_law_width" = some (some (.ref f29)))
    (l29 : K.lookup f29 = some ⟨oc29, od29, .func (PySem.W.fnOf "_law_width" "_law_width" (defArgs s__law_width) (defBody s__law_width) (defScope s__law_width) .none kV29 dc29 pm29 an29 cd29 ct29), sl29⟩)
    (c29 : PySem.W.codeIn K cd29 "_law_width" = true) (k29 : PySem.W.keepIn K (.ref f29) = true)
    (a30 : PySem.W.nsIn K mainGlobals "_law_power" = some (some (.ref f30)))
    (l30 : K.lookup f30 = some ⟨oc30, od30, .func (PySem.W.fnOf "_law_power" "_law_power" (defArgs s__law_power) (defBody s__law_power) (defScope s__law_power) .none kV30 dc30 pm30 an30 cd30 ct30), sl30⟩)
    (c30 : PySem.W.codeIn K cd30 "_law_power" = true) (k30 : PySem.W.keepIn K (.ref f30) = true)
    (a31 : PySem.W.nsIn K mainGlobals "_law_pieces" = some (some (.ref f31)))
    (l31 : K.lookup f31 = some ⟨oc31, od31, .func (PySem.W.fnOf "_law_pieces" "_law_pieces" (defArgs s__law_pieces) (defBody s__law_pieces) (defScope s__law_pieces) .none kV31 dc31 pm31 an31 cd31 ct31), sl31⟩)
    (c31 : PySem.W.codeIn K cd31 "_law_pieces" = true) (k31 : PySem.W.keepIn K (.ref f31) = true)
    (a32 : PySem.W.nsIn K mainGlobals "_law_summed" = some (some (.ref f32)))
    (l32 : K.lookup f32 = some ⟨oc32, od32, .func (PySem.W.fnOf "_law_summed" "_law_summed" (defArgs s__law_summed) (defBody s__law_summed) (defScope s__law_summed) .none kV32 dc32 pm32 an32 cd32 ct32), sl32⟩)
    (c32 : PySem.W.codeIn K cd32 "_law_summed" = true) (k32 : PySem.W.keepIn K (.ref f32) = true)
    (a33 : PySem.W.nsIn K mainGlobals "_law_grouped" = some (some (.ref f33)))
    (l33 : K.lookup f33 = some ⟨oc33, od33, .func (PySem.W.fnOf "_law_grouped" "_law_grouped" (defArgs s__law_grouped) (defBody s__law_grouped) (defScope s__law_grouped) .none kV33 dc33 pm33 an33 cd33 ct33), sl33⟩)
    (c33 : PySem.W.codeIn K cd33 "_law_grouped" = true) (k33 : PySem.W.keepIn K (.ref f33) = true)
    (a34 : PySem.W.nsIn K mainGlobals "_law_near_least" = some (some (.ref f34)))
    (l34 : K.lookup f34 = some ⟨oc34, od34, .func (PySem.W.fnOf "_law_near_least" "_law_near_least" (defArgs s__law_near_least) (defBody s__law_near_least) (defScope s__law_near_least) .none kV34 dc34 pm34 an34 cd34 ct34), sl34⟩)
    (c34 : PySem.W.codeIn K cd34 "_law_near_least" = true) (k34 : PySem.W.keepIn K (.ref f34) = true)
    (a35 : PySem.W.nsIn K mainGlobals "_law_told_right" = some (some (.ref f35)))
    (l35 : K.lookup f35 = some ⟨oc35, od35, .func (PySem.W.fnOf "_law_told_right" "_law_told_right" (defArgs s__law_told_right) (defBody s__law_told_right) (defScope s__law_told_right) .none kV35 dc35 pm35 an35 cd35 ct35), sl35⟩)
    (c35 : PySem.W.codeIn K cd35 "_law_told_right" = true) (k35 : PySem.W.keepIn K (.ref f35) = true)
    (a36 : PySem.W.nsIn K mainGlobals "_law_longest" = some (some (.ref f36)))
    (l36 : K.lookup f36 = some ⟨oc36, od36, .func (PySem.W.fnOf "_law_longest" "_law_longest" (defArgs s__law_longest) (defBody s__law_longest) (defScope s__law_longest) .none kV36 dc36 pm36 an36 cd36 ct36), sl36⟩)
    (c36 : PySem.W.codeIn K cd36 "_law_longest" = true) (k36 : PySem.W.keepIn K (.ref f36) = true)
    (a37 : PySem.W.nsIn K mainGlobals "law" = some (some (.ref f37)))
    (l37 : K.lookup f37 = some ⟨oc37, od37, .func (PySem.W.fnOf "law" "law" (defArgs s_law) (defBody s_law) (defScope s_law) .none kV37 dc37 pm37 an37 cd37 ct37), sl37⟩)
    (c37 : PySem.W.codeIn K cd37 "law" = true) (k37 : PySem.W.keepIn K (.ref f37) = true)
    (aC_Cut : PySem.W.nsIn K mainGlobals "Cut" = some (some (.ref C_Cut)))
    (pg_Cut : PySem.W.plainGet K C_Cut Str.empty = true) (hd_Cut : PySem.W.hasDictIn K C_Cut = true) (po_Cut : PySem.W.plainOver K C_Cut = true) (sa_Cut : PySem.W.findIn K (.ref C_Cut) "__setattr__" = some (some (.builtin "object.__setattr__"))) (mk_Cut : PySem.W.makesIn K C_Cut = true) (kc_Cut : PySem.W.keepIn K (.ref C_Cut) = true)
    (n_Cut_alphabet : PySem.W.findIn K (.ref C_Cut) "alphabet" = some none)
    (n_Cut_rows : PySem.W.findIn K (.ref C_Cut) "rows" = some none)
    (n_Cut_tail : PySem.W.findIn K (.ref C_Cut) "tail" = some none)
    (n_Cut_pieces : PySem.W.findIn K (.ref C_Cut) "pieces" = some none)
    (n_Cut_many : PySem.W.findIn K (.ref C_Cut) "many" = some none)
    (n_Cut_text : PySem.W.findIn K (.ref C_Cut) "text" = some none)
    (n_Cut_starts : PySem.W.findIn K (.ref C_Cut) "starts" = some none)
    (a38 : PySem.W.findIn K (.ref C_Cut) "__init__" = some (some (.ref f38))) (i38 : PySem.W.isFn K (.ref f38) = true)
    (l38 : K.lookup f38 = some ⟨oc38, od38, .func (PySem.W.fnOf "__init__" "Cut.__init__" (defArgs s_Cut___init__) (defBody s_Cut___init__) (defScope s_Cut___init__) .none kV38 dc38 pm38 an38 cd38 ct38), sl38⟩)
    (c38 : PySem.W.codeIn K cd38 "Cut.__init__" = true) (k38 : PySem.W.keepIn K (.ref f38) = true)
    (a39 : PySem.W.findIn K (.ref C_Cut) "__eq__" = some (some (.ref f39))) (i39 : PySem.W.isFn K (.ref f39) = true)
    (l39 : K.lookup f39 = some ⟨oc39, od39, .func (PySem.W.fnOf "__eq__" "Cut.__eq__" (defArgs s_Cut___eq__) (defBody s_Cut___eq__) (defScope s_Cut___eq__) .none kV39 dc39 pm39 an39 cd39 ct39), sl39⟩)
    (c39 : PySem.W.codeIn K cd39 "Cut.__eq__" = true) (k39 : PySem.W.keepIn K (.ref f39) = true)
    (z_all : PySem.W.nsIn K mainGlobals "all" = some none)
    (z_bool : PySem.W.nsIn K mainGlobals "bool" = some none)
    (z_enumerate : PySem.W.nsIn K mainGlobals "enumerate" = some none)
    (z_int : PySem.W.nsIn K mainGlobals "int" = some none)
    (z_isinstance : PySem.W.nsIn K mainGlobals "isinstance" = some none)
    (z_len : PySem.W.nsIn K mainGlobals "len" = some none)
    (z_list : PySem.W.nsIn K mainGlobals "list" = some none)
    (z_max : PySem.W.nsIn K mainGlobals "max" = some none)
    (z_min : PySem.W.nsIn K mainGlobals "min" = some none)
    (z_range : PySem.W.nsIn K mainGlobals "range" = some none)
    (z_sorted : PySem.W.nsIn K mainGlobals "sorted" = some none)
    (z_str : PySem.W.nsIn K mainGlobals "str" = some none)
    (z_tuple : PySem.W.nsIn K mainGlobals "tuple" = some none)
    (z_zip : PySem.W.nsIn K mainGlobals "zip" = some none)
    (g_LETTERS : PySem.W.nsIn K mainGlobals "LETTERS" = some (some (.str (Str.ofString "0123456789abcdefghijklmnopqrstuvwxyz") t_LETTERS)))
    (g_MOST_LETTERS : PySem.W.nsIn K mainGlobals "MOST_LETTERS" = some (some (.int 6 t_MOST_LETTERS)))
    : ∃ fd : FuncData, (∀ (s : Shared) (v : Value), BindsTo s fd ⟨[v], []⟩ [("script", v)]) ∧ ∀ base : Heap, K.In base → base.Ns mainGlobals mg → FnOk l.prog w K mg base CX0 10 fa fd ["script"] (spLaw K) := by
  have e := hfa.symm.trans (PySem.W.mg_of X G a37)
  cases e
  have T : Top K mg C_Cut := { z_all := PySem.W.mg_none_of X G z_all, z_bool := PySem.W.mg_none_of X G z_bool, z_enumerate := PySem.W.mg_none_of X G z_enumerate, z_int := PySem.W.mg_none_of X G z_int, z_isinstance := PySem.W.mg_none_of X G z_isinstance, z_len := PySem.W.mg_none_of X G z_len, z_list := PySem.W.mg_none_of X G z_list, z_max := PySem.W.mg_none_of X G z_max, z_min := PySem.W.mg_none_of X G z_min, z_range := PySem.W.mg_none_of X G z_range, z_sorted := PySem.W.mg_none_of X G z_sorted, z_str := PySem.W.mg_none_of X G z_str, z_tuple := PySem.W.mg_none_of X G z_tuple, z_zip := PySem.W.mg_none_of X G z_zip, c_Cut := PySem.W.mg_of X G aC_Cut, cl_Cut := ⟨pg_Cut, hd_Cut, po_Cut, sa_Cut⟩, n_Cut_alphabet := n_Cut_alphabet, n_Cut_rows := n_Cut_rows, n_Cut_tail := n_Cut_tail, n_Cut_pieces := n_Cut_pieces, n_Cut_many := n_Cut_many, n_Cut_text := n_Cut_text, n_Cut_starts := n_Cut_starts, g_LETTERS := ⟨t_LETTERS, PySem.W.mg_of X G g_LETTERS⟩, g_MOST_LETTERS := ⟨t_MOST_LETTERS, PySem.W.mg_of X G g_MOST_LETTERS⟩ }
  have A_is_alphabet := at_mk (st := s_is_alphabet) X G a0 l0 c0 k0
  have A_is_letter := at_mk (st := s_is_letter) X G a1 l1 c1 k1
  have A_check_alphabet := at_mk (st := s_check_alphabet) X G a2 l2 c2 k2
  have A_check_text := at_mk (st := s_check_text) X G a3 l3 c3 k3
  have A_is_whole := at_mk (st := s_is_whole) X G a4 l4 c4 k4
  have A_is_number_below := at_mk (st := s_is_number_below) X G a5 l5 c5 k5
  have A_as_tuples := at_mk (st := s_as_tuples) X G a6 l6 c6 k6
  have A_check_rows := at_mk (st := s_check_rows) X G a7 l7 c7 k7
  have A_pieces_of := at_mk (st := s_pieces_of) X G a8 l8 c8 k8
  have A_starts_of := at_mk (st := s_starts_of) X G a9 l9 c9 k9
  have A_cut_of := at_mk (st := s_cut_of) X G a10 l10 c10 k10
  have A_width := at_mk (st := s_width) X G a11 l11 c11 k11
  have A_number_bits := at_mk (st := s_number_bits) X G a12 l12 c12 k12
  have A_free_places := at_mk (st := s_free_places) X G a13 l13 c13 k13
  have A_count_below := at_mk (st := s_count_below) X G a14 l14 c14 k14
  have A_place_numbers := at_mk (st := s_place_numbers) X G a15 l15 c15 k15
  have A_press := at_mk (st := s_press) X G a16 l16 c16 k16
  have A_width_total := at_mk (st := s_width_total) X G a17 l17 c17 k17
  have A_pressed_length := at_mk (st := s_pressed_length) X G a18 l18 c18 k18
  have A_fill := at_mk (st := s_fill) X G a19 l19 c19 k19
  have A__law_whole := at_mk (st := s__law_whole) X G a20 l20 c20 k20
  have A__law_cell := at_mk (st := s__law_cell) X G a21 l21 c21 k21
  have A__law_digits := at_mk (st := s__law_digits) X G a22 l22 c22 k22
  have A__law_signs := at_mk (st := s__law_signs) X G a23 l23 c23 k23
  have A__law_free_word := at_mk (st := s__law_free_word) X G a24 l24 c24 k24
  have A__law_counting_word := at_mk (st := s__law_counting_word) X G a25 l25 c25 k25
  have A__law_word := at_mk (st := s__law_word) X G a26 l26 c26 k26
  have A__law_long_word := at_mk (st := s__law_long_word) X G a27 l27 c27 k27
  have A__law_cut := at_mk (st := s__law_cut) X G a28 l28 c28 k28
  have A__law_width := at_mk (st := s__law_width) X G a29 l29 c29 k29
  have A__law_power := at_mk (st := s__law_power) X G a30 l30 c30 k30
  have A__law_pieces := at_mk (st := s__law_pieces) X G a31 l31 c31 k31
  have A__law_summed := at_mk (st := s__law_summed) X G a32 l32 c32 k32
  have A__law_grouped := at_mk (st := s__law_grouped) X G a33 l33 c33 k33
  have A__law_near_least := at_mk (st := s__law_near_least) X G a34 l34 c34 k34
  have A__law_told_right := at_mk (st := s__law_told_right) X G a35 l35 c35 k35
  have A__law_longest := at_mk (st := s__law_longest) X G a36 l36 c36 k36
  have A_Cut___init__ : AtI K C_Cut "Cut.__init__" s_Cut___init__ := ⟨⟨f38, _, fun_mk l38 c38 k38, ⟨mk_Cut, a38, i38, kc_Cut⟩⟩⟩
  have A_Cut___eq__ : AtM K C_Cut "__eq__" "Cut.__eq__" s_Cut___eq__ := ⟨⟨f39, _, fun_mk l39 c39 k39, ⟨a39, i39, k39⟩⟩⟩
  refine ⟨PySem.W.fnOf "law" "law" (defArgs s_law) (defBody s_law) (defScope s_law) .none kV37 dc37 pm37 an37 cd37 ct37, fun s v => .of_eq rfl, fun base _ _ => ?_⟩
  have h_isal := has_isal (P := l.prog) (w := w) (base := base) A_is_alphabet T
  have h_let := has_let (P := l.prog) (w := w) (base := base) A_is_letter T
  have h_whole := has_whole (P := l.prog) (w := w) (base := base) A_is_whole T
  have h_below := has_below A_is_number_below T h_whole
  have h_ckal := has_ckal A_check_alphabet T h_isal
  have h_cktx := has_cktx (P := l.prog) (w := w) (base := base) A_check_text T
  have h_as := has_as (P := l.prog) (w := w) (base := base) A_as_tuples T
  have h_ckr := has_ckr A_check_rows T h_let h_below
  have h_pcs := has_pcs (P := l.prog) (w := w) (base := base) A_pieces_of T
  have h_sts := has_sts (P := l.prog) (w := w) (base := base) A_starts_of T
  have h_init := has_init A_Cut___init__ T h_ckal h_as h_ckr h_below h_pcs h_sts
  have h_cut := has_cut A_cut_of T h_ckal h_cktx h_init
  have h_width := has_width (P := l.prog) (w := w) (base := base) A_width
  have h_nb := has_nb A_number_bits T h_width
  have h_free := has_free (P := l.prog) (w := w) (base := base) A_free_places
  have h_bel := has_bel (P := l.prog) (w := w) (base := base) A_count_below T
  have h_pl := has_pl A_place_numbers T h_bel
  have h_press := has_press A_press T h_cut h_pl h_nb h_free
  have h_lwhole := has_lwhole (P := l.prog) (w := w) (base := base) A__law_whole T
  have h_cell := has_cell (P := l.prog) (w := w) (base := base) A__law_cell T
  have h_digits := has_digits (P := l.prog) (w := w) (base := base) A__law_digits T
  have h_signs := has_signs (P := l.prog) (w := w) (base := base) A__law_signs T
  have h_fw := has_fw (P := l.prog) (w := w) (base := base) A__law_free_word T
  have h_cw := has_cw (P := l.prog) (w := w) (base := base) A__law_counting_word T
  have h_cwX := has_cwX (P := l.prog) (w := w) (base := base) A__law_counting_word T
  have h_wd := has_wd A__law_word T h_fw h_cw
  have h_long := has_long A__law_long_word T h_fw h_cw h_digits h_cell
  have h_lc := has_lc (P := l.prog) (w := w) (base := base) A__law_cut T
  have h_lw := has_lw (P := l.prog) (w := w) (base := base) A__law_width T
  have h_wt := has_wt (P := l.prog) (w := w) (base := base) A_width_total T
  have h_plen := has_plen A_pressed_length T h_wt h_width
  have h_sum := has_sum A__law_summed T h_lw
  have h_grp := has_grp A__law_grouped T h_lw
  have h_nl := has_nl A__law_near_least T h_lw
  have h_told := has_told A__law_told_right T h_plen h_lwhole h_grp h_sum h_nl
  have h_pow := has_pow (P := l.prog) (w := w) (base := base) A__law_power T
  have h_fill := has_fill (P := l.prog) (w := w) (base := base) A_fill T
  have h_drawn := has_drawn A__law_pieces T h_pow
  have h_longest := has_longest A__law_longest T h_fill h_lwhole h_cwX h_press h_plen h_lc
  exact ok_law (fun_mk (st := s_law) l37 c37 k37) T h_signs h_digits h_cell h_wd h_long h_drawn h_lc h_press h_told h_plen h_longest
theorem walk {l : PySem.W.OpenLaw} {q : Program} {loose : List Str} {XP : (Str → Option Value) → Heap → Prop} {YP : World → Heap → Prop} {d : DefRec} {K : Params → PySem.W.Frag} (hn : l.most = some 63) (hdf : d.params.defaults = [])
    (hY : ∀ (w : World) (h : Heap), YP w h → (K w.params).In h)
    (F : ∀ (w : World) (mg : Str → Option Value) (fa : Addr) (h : Heap), (K w.params).In h → h.Ns mainGlobals mg → mg d.name = some (.ref fa) →
      ∃ fd : FuncData, (∀ (s : Shared) (u : Value), BindsTo s fd ⟨[u], []⟩ [("script", u)]) ∧ ∀ base : Heap, (K w.params).In base → base.Ns mainGlobals mg → FnOk l.prog w (K w.params) mg base CX0 10 fa fd ["script"] (spLaw (K w.params))) :
    PySem.W.WalkO q loose XP YP l.row.toRowW d [] (fun f vs => PySem.call f vs) :=
  L2.walk_of (n := 63) (k := 10) (x := "script") (CX := fun _ => CX0) (sp := fun w => spLaw (K w.params)) hn (by decide) hdf ⟨rfl, by decide, by decide⟩ hY F (fun _ _ a ns hl _ hS => ⟨a, ns, rfl, hS, hl, fun _ => rfl⟩) fun _ _ _ _ _ z => z
end Ver
open PySem PySem.W PyProof.Rows
set_option maxRecDepth 100000 in
set_option maxHeartbeats 0 in
theorem PySem.Challenge.cw_outpressed_k05_length_by_count_alone_holds : PySem.Challenge.rw_outpressed_k05_length_by_count_alone.Holds := by
  w_on; o_law; k_head; (case hw => w_witness2)
  k_fill
  refine Ver.walk (l := PySem.Challenge.rw_outpressed_k05_length_by_count_alone) rfl rfl (fun w h Y => PySem.W.kIn_of Y) ?F
  case F =>
    intro w mg fa h KX G hmg
    refine' Ver.all_mk KX G hmg ?a0 ?l0 ?c0 ?k0 ?a1 ?l1 ?c1 ?k1 ?a2 ?l2 ?c2 ?k2 ?a3 ?l3 ?c3 ?k3 ?a4 ?l4 ?c4 ?k4 ?a5 ?l5 ?c5 ?k5 ?a6 ?l6 ?c6 ?k6 ?a7 ?l7 ?c7 ?k7 ?a8 ?l8 ?c8 ?k8 ?a9 ?l9 ?c9 ?k9 ?a10 ?l10 ?c10 ?k10 ?a11 ?l11 ?c11 ?k11 ?a12 ?l12 ?c12 ?k12 ?a13 ?l13 ?c13 ?k13 ?a14 ?l14 ?c14 ?k14 ?a15 ?l15 ?c15 ?k15 ?a16 ?l16 ?c16 ?k16 ?a17 ?l17 ?c17 ?k17 ?a18 ?l18 ?c18 ?k18 ?a19 ?l19 ?c19 ?k19 ?a20 ?l20 ?c20 ?k20 ?a21 ?l21 ?c21 ?k21 ?a22 ?l22 ?c22 ?k22 ?a23 ?l23 ?c23 ?k23 ?a24 ?l24 ?c24 ?k24 ?a25 ?l25 ?c25 ?k25 ?a26 ?l26 ?c26 ?k26 ?a27 ?l27 ?c27 ?k27 ?a28 ?l28 ?c28 ?k28 ?a29 ?l29 ?c29 ?k29 ?a30 ?l30 ?c30 ?k30 ?a31 ?l31 ?c31 ?k31 ?a32 ?l32 ?c32 ?k32 ?a33 ?l33 ?c33 ?k33 ?a34 ?l34 ?c34 ?k34 ?a35 ?l35 ?c35 ?k35 ?a36 ?l36 ?c36 ?k36 ?a37 ?l37 ?c37 ?k37 ?aC_Cut ?pg_Cut ?hd_Cut ?po_Cut ?sa_Cut ?mk_Cut ?kc_Cut ?n_Cut_alphabet ?n_Cut_rows ?n_Cut_tail ?n_Cut_pieces ?n_Cut_many ?n_Cut_text ?n_Cut_starts ?a38 ?i38 ?l38 ?c38 ?k38 ?a39 ?i39 ?l39 ?c39 ?k39 ?z_all ?z_bool ?z_enumerate ?z_int ?z_isinstance ?z_len ?z_list ?z_max ?z_min ?z_range ?z_sorted ?z_str ?z_tuple ?z_zip ?g_LETTERS ?g_MOST_LETTERS
    (case a0 => k_is)
    (case l0 => k_is)
    (case c0 => k_is)
    (case k0 => k_is)
    (case a1 => k_is)
    (case l1 => k_is)
    (case c1 => k_is)
    (case k1 => k_is)
    (case a2 => k_is)
    (case l2 => k_is)
    (case c2 => k_is)
    (case k2 => k_is)
    (case a3 => k_is)
    (case l3 => k_is)
    (case c3 => k_is)
    (case k3 => k_is)
    (case a4 => k_is)
    (case l4 => k_is)
    (case c4 => k_is)
    (case k4 => k_is)
    (case a5 => k_is)
    (case l5 => k_is)
    (case c5 => k_is)
    (case k5 => k_is)
    (case a6 => k_is)
    (case l6 => k_is)
    (case c6 => k_is)
    (case k6 => k_is)
    (case a7 => k_is)
    (case l7 => k_is)
    (case c7 => k_is)
    (case k7 => k_is)
    (case a8 => k_is)
    (case l8 => k_is)
    (case c8 => k_is)
    (case k8 => k_is)
    (case a9 => k_is)
    (case l9 => k_is)
    (case c9 => k_is)
    (case k9 => k_is)
    (case a10 => k_is)
    (case l10 => k_is)
    (case c10 => k_is)
    (case k10 => k_is)
    (case a11 => k_is)
    (case l11 => k_is)
    (case c11 => k_is)
    (case k11 => k_is)
    (case a12 => k_is)
    (case l12 => k_is)
    (case c12 => k_is)
    (case k12 => k_is)
    (case a13 => k_is)
    (case l13 => k_is)
    (case c13 => k_is)
    (case k13 => k_is)
    (case a14 => k_is)
    (case l14 => k_is)
    (case c14 => k_is)
    (case k14 => k_is)
    (case a15 => k_is)
    (case l15 => k_is)
    (case c15 => k_is)
    (case k15 => k_is)
    (case a16 => k_is)
    (case l16 => k_is)
    (case c16 => k_is)
    (case k16 => k_is)
    (case a17 => k_is)
    (case l17 => k_is)
    (case c17 => k_is)
    (case k17 => k_is)
    (case a18 => k_is)
    (case l18 => k_is)
    (case c18 => k_is)
    (case k18 => k_is)
    (case a19 => k_is)
    (case l19 => k_is)
    (case c19 => k_is)
    (case k19 => k_is)
    (case a20 => k_is)
    (case l20 => k_is)
    (case c20 => k_is)
    (case k20 => k_is)
    (case a21 => k_is)
    (case l21 => k_is)
    (case c21 => k_is)
    (case k21 => k_is)
    (case a22 => k_is)
    (case l22 => k_is)
    (case c22 => k_is)
    (case k22 => k_is)
    (case a23 => k_is)
    (case l23 => k_is)
    (case c23 => k_is)
    (case k23 => k_is)
    (case a24 => k_is)
    (case l24 => k_is)
    (case c24 => k_is)
    (case k24 => k_is)
    (case a25 => k_is)
    (case l25 => k_is)
    (case c25 => k_is)
    (case k25 => k_is)
    (case a26 => k_is)
    (case l26 => k_is)
    (case c26 => k_is)
    (case k26 => k_is)
    (case a27 => k_is)
    (case l27 => k_is)
    (case c27 => k_is)
    (case k27 => k_is)
    (case a28 => k_is)
    (case l28 => k_is)
    (case c28 => k_is)
    (case k28 => k_is)
    (case a29 => k_is)
    (case l29 => k_is)
    (case c29 => k_is)
    (case k29 => k_is)
    (case a30 => k_is)
    (case l30 => k_is)
    (case c30 => k_is)
    (case k30 => k_is)
    (case a31 => k_is)
    (case l31 => k_is)
    (case c31 => k_is)
    (case k31 => k_is)
    (case a32 => k_is)
    (case l32 => k_is)
    (case c32 => k_is)
    (case k32 => k_is)
    (case a33 => k_is)
    (case l33 => k_is)
    (case c33 => k_is)
    (case k33 => k_is)
    (case a34 => k_is)
    (case l34 => k_is)
    (case c34 => k_is)
    (case k34 => k_is)
    (case a35 => k_is)
    (case l35 => k_is)
    (case c35 => k_is)
    (case k35 => k_is)
    (case a36 => k_is)
    (case l36 => k_is)
    (case c36 => k_is)
    (case k36 => k_is)
    (case a37 => k_is)
    (case l37 => k_is)
    (case c37 => k_is)
    (case k37 => k_is)
    (case aC_Cut => k_is)
    (case pg_Cut => k_is)
    (case hd_Cut => k_is)
    (case po_Cut => k_is)
    (case sa_Cut => k_is)
    (case mk_Cut => k_is)
    (case kc_Cut => k_is)
    (case n_Cut_alphabet => k_is)
    (case n_Cut_rows => k_is)
    (case n_Cut_tail => k_is)
    (case n_Cut_pieces => k_is)
    (case n_Cut_many => k_is)
    (case n_Cut_text => k_is)
    (case n_Cut_starts => k_is)
    (case a38 => k_is)
    (case i38 => k_is)
    (case l38 => k_is)
    (case c38 => k_is)
    (case k38 => k_is)
    (case a39 => k_is)
    (case i39 => k_is)
    (case l39 => k_is)
    (case c39 => k_is)
    (case k39 => k_is)
    (case z_all => k_is)
    (case z_bool => k_is)
    (case z_enumerate => k_is)
    (case z_int => k_is)
    (case z_isinstance => k_is)
    (case z_len => k_is)
    (case z_list => k_is)
    (case z_max => k_is)
    (case z_min => k_is)
    (case z_range => k_is)
    (case z_sorted => k_is)
    (case z_str => k_is)
    (case z_tuple => k_is)
    (case z_zip => k_is)
    (case g_LETTERS => k_is)
    (case g_MOST_LETTERS => k_is)
